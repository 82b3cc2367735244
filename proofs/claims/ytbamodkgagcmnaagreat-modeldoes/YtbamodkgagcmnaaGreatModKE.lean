/-
  The document's Read (package gangplankref17), given what its callees tell.
-/
import Derived.Test.YtbamodkgagcmnaaGreatBFnvE
import Derived.Deep.RegionHeld3
import Derived.Test.YtbamodkgagcmnaaGreatTxtE
import Derived.BigRegion
set_option maxRecDepth 100000
namespace Go.Proofs.YtbamodkgagcmnaaGreat.Mod
open Go.RowKit Go.Shelf Go.WideShapes RowG Trn
attribute [local go_sem] Oper.semAt_some
abbrev flowC (k:ByteArray) (i:Int) (c:Bool) (e:Int):Array Value:=#[.string k,.int .i64 i,.bool c,.int .i64 e]
abbrev flowV (k:ByteArray) (i:Int) (c:Bool) (e:Int):Value:=.agg (flowC k i c e)
abbrev pktC' (V:Int) (x y:ByteArray) (F T p f:Int):Array Value:=#[.int .i64 V,.string x,.string y,.int .i64 F,.int .i64 T,.int .i64 p,.int .i64 f]
abbrev pktV' (V:Int) (x y:ByteArray) (F T p f:Int):Value:=.agg (pktC' V x y F T p f)
abbrev keyV' (V:Int) (x y:ByteArray) (F T p:Int):Value:=.agg #[.int .i64 V,.string x,.string y,.int .i64 F,.int .i64 T,.int .i64 p]
def FlowBox (W:World) (g:Nat) (k:ByteArray) (i:Int) (c:Bool) (e:Int):Prop:=W.heap[g]? =some (.cells (flowC k i c e) 104 (0,0))
theorem FlowBox.cells {W:World} {g:Nat} {k:ByteArray} {i:Int} {c:Bool} {e:Int} (h:FlowBox W g k i c e):(W.cell? ⟨g,0,none⟩=some (.string k)∧W.cell? ⟨g,1,none⟩=some (.int .i64 i)∧W.cell? ⟨g,2,none⟩=some (.bool c)∧W.cell? ⟨g,3,none⟩=some (.int .i64 e))∧(∀ o,W.frozen? ⟨g,o,none⟩=false):=by
 unfold FlowBox at h
 refine⟨⟨?_,?_,?_,?_⟩,fun o=>?_⟩ <;> simp[World.cell?,World.frozen?,h]
theorem FlowBox.kept {W W':World} {g:Nat} {k:ByteArray} {i:Int} {c:Bool} {e:Int} (h:FlowBox W g k i c e) (hb:Below W.heap.size W W'):FlowBox W' g k i c e:=(hb.block g (heap_lt h)).trans h
def putFlow (W:World) (g:Nat) (k:ByteArray) (i:Int) (c:Bool) (e:Int):World:=(((W.setCell ⟨g,0,none⟩ (.string k)).setCell ⟨g,1,none⟩ (.int .i64 i)).setCell ⟨g,2,none⟩ (.bool c)).setCell ⟨g,3,none⟩ (.int .i64 e)
theorem FlowBox.put {W:World} {g:Nat} {k:ByteArray} {i:Int} {c:Bool} {e:Int} (h:FlowBox W g k i c e) (k':ByteArray) (i':Int) (c':Bool) (e':Int):FlowBox (putFlow W g k' i' c' e') g k' i' c' e':=by
 have h1:=heap_setCell_same _ g 0 _ _ (.string k') h
 have h2:=heap_setCell_same _ g 1 _ _ (.int .i64 i') h1
 have h3:=heap_setCell_same _ g 2 _ _ (.bool c') h2
 have h4:=heap_setCell_same _ g 3 _ _ (.int .i64 e') h3
 exact h4
theorem putFlow_below {w W:World} (hb:Below w.heap.size w W) {g:Nat} (hg:w.heap.size≤g) (k:ByteArray) (i:Int) (c:Bool) (e:Int):Below w.heap.size w (putFlow W g k i c e):=
 (((hb.setCell (p:=⟨g,0,none⟩) hg _).setCell (p:=⟨g,1,none⟩) hg _).setCell (p:=⟨g,2,none⟩) hg _).setCell (p:=⟨g,3,none⟩) hg _
theorem new_flow (w:World):FlowBox (w.alloc (.cells #[.string ⟨#[]⟩,.int .i64 0,.bool false,.int .i64 0] 104)) w.heap.size ⟨#[]⟩ 0 false 0∧Below w.heap.size w (w.alloc (.cells #[.string ⟨#[]⟩,.int .i64 0,.bool false,.int .i64 0] 104)):=
 ⟨World.alloc_heap_new w _,(Below.refl _ w).alloc (Nat.le_refl _) _⟩
theorem new_pkt (w:World) (V:Int) (x y:ByteArray) (F T p f:Int):(w.alloc (.cells (pktC' V x y F T p f) 81)).heap[w.heap.size]? =some (.cells (pktC' V x y F T p f) 81 (0,0))∧Below w.heap.size w (w.alloc (.cells (pktC' V x y F T p f) 81)):=
 ⟨World.alloc_heap_new w _,(Below.refl _ w).alloc (Nat.le_refl _) _⟩
theorem pkt_cells {W:World} {g:Nat} {V:Int} {x y:ByteArray} {F T p f:Int} (h:W.heap[g]? =some (.cells (pktC' V x y F T p f) 81 (0,0))):W.cell? ⟨g,0,none⟩=some (.int .i64 V)∧W.cell? ⟨g,1,none⟩=some (.string x)∧W.cell? ⟨g,2,none⟩=some (.string y)∧W.cell? ⟨g,3,none⟩=some (.int .i64 F)∧W.cell? ⟨g,4,none⟩=some (.int .i64 T)∧W.cell? ⟨g,5,none⟩=some (.int .i64 p)∧W.cell? ⟨g,6,none⟩=some (.int .i64 f):=by
 refine⟨?_,?_,?_,?_,?_,?_,?_⟩ <;> simp[World.cell?,h]
set_option maxHeartbeats 1000000 in
theorem refRead_bad (t:ByteArray) (n:Int) (w:World) (V:Int) (x y:ByteArray) (F T p f e:Int) (he:e≠0)
 (hP:∀ W,Calls Tryz.prog 87 #[.string t] W fun r W'=>r=.returned (.tuple #[pktV' V x y F T p f,.int .i64 e])∧Below W.heap.size W W'):
 Calls Tryz.prog 47 #[.string t,.int .i64 n] w fun r W'=>r=.returned (flowV ⟨#[]⟩ 0 false 9)∧Below w.heap.size w W':=by
 obtain⟨fl,b0⟩:=new_flow w
 have CP:=Lib.hid hP
 have FL:=Lib.hid fl
 have B0:=Lib.hid b0
 have e1:(e != 0)=true:=bne_iff_ne.2 he
 have e2:(e == 0)=false:=beq_false_of_ne he
 clear fl b0 hP he
 go_enter Tryz.func47,Tryz.ntmps47
 go_wp2_with fail
 refine (CP.out _).mono ?_
 rintro r w1 ⟨rfl,hb⟩
 obtain⟨-,b2⟩:=new_pkt w1 V x y F T p f
 have F2:=Lib.hid ((FL.out.kept hb).kept b2)
 have B2:=Lib.hid (below2 (below2 B0.out hb) b2)
 clear CP FL B0 hb b2
 obtain⟨⟨x0,x1,x2,x3⟩,fr⟩:=F2.out.cells
 have f0:=fr 0
 have f1:=fr 1
 have f2:=fr 2
 have f3:=fr 3
 clear fr
 go_wp2_with fail
 obtain⟨⟨z0,z1,z2,z3⟩,-⟩:=(F2.out.put ⟨#[]⟩ 0 false 9).cells
 unfold putFlow at z0 z1 z2 z3
 clear x0 x1 x2 x3 f0 f1 f2 f3
 refine bodyPost_ret (v:=flowV ⟨#[]⟩ 0 false 9) ?q1 rfl ?q2
 case q1=>
  simp only[results,Tryz.results47]
  simp[go_sem,z0,z1,z2,z3]
 case q2=>exact⟨rfl,putFlow_below B2.out (Nat.le_refl _) _ _ _ _⟩
def AFlow (W:World) (g:Nat):Prop:=∃ k i c e,FlowBox W g k i c e
def Named (u:World→Nat→Value) (g:Nat):Prop:=∀ W o,u W o=(W.cell? ⟨g,o,none⟩).getD undef
theorem Named.at {u:World→Nat→Value} {g:Nat} (h:Named u g) {W:World} {o:Nat} {v:Value} (hc:W.cell? ⟨g,o,none⟩=some v):W.cell? ⟨g,o,none⟩=some (u W o):=by rw[h,hc]; rfl
theorem read_S {w W:World} {h g:Nat} {V:Int} {x y:ByteArray} {F T p f:Int} {u:World→Nat→Value} (hu:Named u g) (b:Below w.heap.size w W) (q:W.heap[h]? =some (.cells (pktC' V x y F T p f) 81 (0,0))) (r:AFlow W g):
 Below w.heap.size w W∧W.heap[h]? =some (.cells (pktC' V x y F T p f) 81 (0,0))∧AFlow W g∧W.cell? ⟨h,0,none⟩=some (.int .i64 V)∧W.cell? ⟨h,1,none⟩=some (.string x)∧W.cell? ⟨h,2,none⟩=some (.string y)∧W.cell? ⟨h,3,none⟩=some (.int .i64 F)∧W.cell? ⟨h,4,none⟩=some (.int .i64 T)∧W.cell? ⟨h,5,none⟩=some (.int .i64 p)∧W.cell? ⟨h,6,none⟩=some (.int .i64 f)∧W.cell? ⟨g,0,none⟩=some (u W 0)∧W.cell? ⟨g,1,none⟩=some (u W 1)∧W.cell? ⟨g,2,none⟩=some (u W 2)∧W.cell? ⟨g,3,none⟩=some (u W 3)∧W.frozen? ⟨g,0,none⟩=false∧W.frozen? ⟨g,1,none⟩=false∧W.frozen? ⟨g,2,none⟩=false∧W.frozen? ⟨g,3,none⟩=false:=by
 obtain⟨k0,k1,k2,k3,k4,k5,k6⟩:=pkt_cells q
 obtain⟨k,i,c,e,r'⟩:=r
 obtain⟨⟨x0,x1,x2,x3⟩,fr⟩:=r'.cells
 exact⟨b,q,⟨k,i,c,e,r'⟩,k0,k1,k2,k3,k4,k5,k6,hu.at x0,hu.at x1,hu.at x2,hu.at x3,fr 0,fr 1,fr 2,fr 3⟩
theorem read_keep {w W W':World} {h g:Nat} {V:Int} {x y:ByteArray} {F T p f:Int} {u:World→Nat→Value} (hu:Named u g) (s:Below w.heap.size w W∧W.heap[h]? =some (.cells (pktC' V x y F T p f) 81 (0,0))∧AFlow W g∧W.cell? ⟨h,0,none⟩=some (.int .i64 V)∧W.cell? ⟨h,1,none⟩=some (.string x)∧W.cell? ⟨h,2,none⟩=some (.string y)∧W.cell? ⟨h,3,none⟩=some (.int .i64 F)∧W.cell? ⟨h,4,none⟩=some (.int .i64 T)∧W.cell? ⟨h,5,none⟩=some (.int .i64 p)∧W.cell? ⟨h,6,none⟩=some (.int .i64 f)∧W.cell? ⟨g,0,none⟩=some (u W 0)∧W.cell? ⟨g,1,none⟩=some (u W 1)∧W.cell? ⟨g,2,none⟩=some (u W 2)∧W.cell? ⟨g,3,none⟩=some (u W 3)∧W.frozen? ⟨g,0,none⟩=false∧W.frozen? ⟨g,1,none⟩=false∧W.frozen? ⟨g,2,none⟩=false∧W.frozen? ⟨g,3,none⟩=false) (hb:Below W.heap.size W W'):
 Below w.heap.size w W'∧W'.heap[h]? =some (.cells (pktC' V x y F T p f) 81 (0,0))∧AFlow W' g∧W'.cell? ⟨h,0,none⟩=some (.int .i64 V)∧W'.cell? ⟨h,1,none⟩=some (.string x)∧W'.cell? ⟨h,2,none⟩=some (.string y)∧W'.cell? ⟨h,3,none⟩=some (.int .i64 F)∧W'.cell? ⟨h,4,none⟩=some (.int .i64 T)∧W'.cell? ⟨h,5,none⟩=some (.int .i64 p)∧W'.cell? ⟨h,6,none⟩=some (.int .i64 f)∧W'.cell? ⟨g,0,none⟩=some (u W' 0)∧W'.cell? ⟨g,1,none⟩=some (u W' 1)∧W'.cell? ⟨g,2,none⟩=some (u W' 2)∧W'.cell? ⟨g,3,none⟩=some (u W' 3)∧W'.frozen? ⟨g,0,none⟩=false∧W'.frozen? ⟨g,1,none⟩=false∧W'.frozen? ⟨g,2,none⟩=false∧W'.frozen? ⟨g,3,none⟩=false:=
 read_S hu (below2 s.1 hb) ((hb.block _ (heap_lt s.2.1)).trans s.2.1) (by
  obtain⟨k,i,c,e,r⟩:=s.2.2.1
  exact⟨k,i,c,e,r.kept hb⟩)
theorem read_put {w W:World} {h g:Nat} {V:Int} {x y:ByteArray} {F T p f:Int} {u:World→Nat→Value} (hu:Named u g) (hg:w.heap.size≤g) (hn:g<h) (s:Below w.heap.size w W∧W.heap[h]? =some (.cells (pktC' V x y F T p f) 81 (0,0))∧AFlow W g∧W.cell? ⟨h,0,none⟩=some (.int .i64 V)∧W.cell? ⟨h,1,none⟩=some (.string x)∧W.cell? ⟨h,2,none⟩=some (.string y)∧W.cell? ⟨h,3,none⟩=some (.int .i64 F)∧W.cell? ⟨h,4,none⟩=some (.int .i64 T)∧W.cell? ⟨h,5,none⟩=some (.int .i64 p)∧W.cell? ⟨h,6,none⟩=some (.int .i64 f)∧W.cell? ⟨g,0,none⟩=some (u W 0)∧W.cell? ⟨g,1,none⟩=some (u W 1)∧W.cell? ⟨g,2,none⟩=some (u W 2)∧W.cell? ⟨g,3,none⟩=some (u W 3)∧W.frozen? ⟨g,0,none⟩=false∧W.frozen? ⟨g,1,none⟩=false∧W.frozen? ⟨g,2,none⟩=false∧W.frozen? ⟨g,3,none⟩=false) (k':ByteArray) (i':Int) (c':Bool) (e':Int):
 Below w.heap.size w (putFlow W g k' i' c' e')∧(putFlow W g k' i' c' e').heap[h]? =some (.cells (pktC' V x y F T p f) 81 (0,0))∧AFlow (putFlow W g k' i' c' e') g∧(putFlow W g k' i' c' e').cell? ⟨h,0,none⟩=some (.int .i64 V)∧(putFlow W g k' i' c' e').cell? ⟨h,1,none⟩=some (.string x)∧(putFlow W g k' i' c' e').cell? ⟨h,2,none⟩=some (.string y)∧(putFlow W g k' i' c' e').cell? ⟨h,3,none⟩=some (.int .i64 F)∧(putFlow W g k' i' c' e').cell? ⟨h,4,none⟩=some (.int .i64 T)∧(putFlow W g k' i' c' e').cell? ⟨h,5,none⟩=some (.int .i64 p)∧(putFlow W g k' i' c' e').cell? ⟨h,6,none⟩=some (.int .i64 f)∧(putFlow W g k' i' c' e').cell? ⟨g,0,none⟩=some (u (putFlow W g k' i' c' e') 0)∧(putFlow W g k' i' c' e').cell? ⟨g,1,none⟩=some (u (putFlow W g k' i' c' e') 1)∧(putFlow W g k' i' c' e').cell? ⟨g,2,none⟩=some (u (putFlow W g k' i' c' e') 2)∧(putFlow W g k' i' c' e').cell? ⟨g,3,none⟩=some (u (putFlow W g k' i' c' e') 3)∧(putFlow W g k' i' c' e').frozen? ⟨g,0,none⟩=false∧(putFlow W g k' i' c' e').frozen? ⟨g,1,none⟩=false∧(putFlow W g k' i' c' e').frozen? ⟨g,2,none⟩=false∧(putFlow W g k' i' c' e').frozen? ⟨g,3,none⟩=false:=by
 refine read_S hu (putFlow_below s.1 hg k' i' c' e') ?_ ?_
 ·have ht:Turned (fun k=>k=g) W (putFlow W g k' i' c' e'):=((((Turned.refl (fun k=>k=g) W).setCell (a:=⟨g,0,none⟩) rfl _).setCell (a:=⟨g,1,none⟩) rfl _).setCell (a:=⟨g,2,none⟩) rfl _).setCell (a:=⟨g,3,none⟩) rfl _
  exact (ht.rest h (heap_lt s.2.1) (by omega)).trans s.2.1
 ·obtain⟨k,i,c,e,r⟩:=s.2.2.1
  exact⟨_,_,_,_,r.put k' i' c' e'⟩
set_option maxHeartbeats 2000000 in
theorem refRead_good (t:ByteArray) (n:Int) (w:World) (V:Int) (x y:ByteArray) (F T p f:Int) (k:ByteArray) (b c:Bool) (i:Int)
 (hP:∀ W,Calls Tryz.prog 87 #[.string t] W fun r W'=>r=.returned (.tuple #[pktV' V x y F T p f,.int .i64 0])∧Below W.heap.size W W')
 (hK:∀ W,Calls Tryz.prog 88 #[keyV' V x y F T p] W fun r W'=>r=.returned (.tuple #[.string k,.bool b])∧Below W.heap.size W W')
 (hC:∀ W,Calls Tryz.prog 89 #[pktV' V x y F T p f] W fun r W'=>r=.returned (.bool c)∧Below W.heap.size W W')
 (hS:∀ W,Calls Tryz.prog 27 #[.string k,.int .i64 n] W fun r W'=>r=.returned (.int .i64 i)∧W'=W):
 Calls Tryz.prog 47 #[.string t,.int .i64 n] w fun r W'=>r=.returned (flowV k i c 0)∧Below w.heap.size w W':=by
 obtain⟨u,hu'⟩:∃ u:World→Nat→Value,Named u w.heap.size:=⟨_,fun _ _=>rfl⟩
 have hu:=Lib.hid hu'
 clear hu'
 obtain⟨u,hu'⟩:∃ u:World→Nat→Value,Named u w.heap.size:=⟨_,fun _ _=>rfl⟩
 have hu:=Lib.hid hu'
 clear hu'
 obtain⟨u,hu'⟩:∃ u:World→Nat→Value,Named u w.heap.size:=⟨_,fun _ _=>rfl⟩
 have hu:=Lib.hid hu'
 clear hu'
 obtain⟨fl,b0⟩:=new_flow w
 have CP:=Lib.hid hP
 have FL:=Lib.hid fl
 have B0:=Lib.hid b0
 have HK:=Lib.hid hK
 have HC:=Lib.hid hC
 have HS:=Lib.hid hS
 clear fl b0 hP hK hC hS
 go_enter Tryz.func47,Tryz.ntmps47
 go_wp2_with fail
 refine (CP.out _).mono ?_
 rintro r w1 ⟨rfl,hb⟩
 obtain⟨pk,b2⟩:=new_pkt w1 V x y F T p f
 have F2:=Lib.hid ((FL.out.kept hb).kept b2)
 have B2:=Lib.hid (below2 (below2 B0.out hb) b2)
 have hlt:=Lib.hid (show w.heap.size<w1.heap.size from Nat.lt_of_lt_of_le (by have:=heap_lt FL.out; exact this) hb.size)
 have P2:=Lib.hid pk
 have CK:=Lib.hid HK.out
 clear CP FL B0 hb b2 pk HK
 obtain⟨k0,k1,k2,k3,k4,k5,k6⟩:=pkt_cells P2.out
 go_wp2_with fail
 refine (CK.out _).mono ?_
 rintro r w3 ⟨rfl,hb⟩
 have F3:=Lib.hid (F2.out.kept hb)
 have B3:=Lib.hid (below2 B2.out hb)
 have P3:=Lib.hid ((hb.block _ (heap_lt P2.out)).trans P2.out)
 clear CK F2 B2 hb P2 k0 k1 k2 k3 k4 k5 k6
 have SH:=read_S (W:=w3.drew) hu.out B3.out.drew P3.out ⟨_,_,_,_,F3.out⟩
 have hlt2:=hlt.out
 go_wp2_with fail
 go_region_held3 (fun W=>Below w.heap.size w W∧W.heap[w1.heap.size]? =some (.cells (pktC' V x y F T p f) 81 (0,0))∧AFlow W w.heap.size∧W.cell? ⟨w1.heap.size,0,none⟩=some (.int .i64 V)∧W.cell? ⟨w1.heap.size,1,none⟩=some (.string x)∧W.cell? ⟨w1.heap.size,2,none⟩=some (.string y)∧W.cell? ⟨w1.heap.size,3,none⟩=some (.int .i64 F)∧W.cell? ⟨w1.heap.size,4,none⟩=some (.int .i64 T)∧W.cell? ⟨w1.heap.size,5,none⟩=some (.int .i64 p)∧W.cell? ⟨w1.heap.size,6,none⟩=some (.int .i64 f)∧W.cell? ⟨w.heap.size,0,none⟩=some (u W 0)∧W.cell? ⟨w.heap.size,1,none⟩=some (u W 1)∧W.cell? ⟨w.heap.size,2,none⟩=some (u W 2)∧W.cell? ⟨w.heap.size,3,none⟩=some (u W 3)∧W.frozen? ⟨w.heap.size,0,none⟩=false∧W.frozen? ⟨w.heap.size,1,none⟩=false∧W.frozen? ⟨w.heap.size,2,none⟩=false∧W.frozen? ⟨w.heap.size,3,none⟩=false) (first | exact SH | exact read_keep hu.out (by assumption) hb | exact read_keep hu.out (by assumption) (Below.refl _ _) | exact read_put hu.out (Nat.le_refl _) (by assumption) (by assumption) k i c 0)
  (first | (go_at_call 27; (with_reducible refine (HS.out _).mono ?_); rintro r w5 ⟨rfl,rfl⟩) | (go_at_call 89; (with_reducible refine (HC.out _).mono ?_); rintro r w5 ⟨rfl,hb⟩))
 rename_i hHeld
 have F5:=Lib.hid (FlowBox.kept (show FlowBox w3.drew w.heap.size ⟨#[]⟩ 0 false 0 from F3.out) hb)
 have B5:=Lib.hid (below2 B3.out.drew hb)
 clear hHeld SH hb F3 B3 P3 hlt hlt2
 go_wp2_with fail
 obtain⟨⟨z0,z1,z2,z3⟩,-⟩:=(F5.out.put k i c 0).cells
 unfold putFlow at z0 z1 z2 z3
 refine bodyPost_ret (v:=flowV k i c 0) ?q1 rfl ?q2
 case q1=>
  simp only[results,Tryz.results47]
  simp[go_sem,z0,z1,z2,z3]
 case q2=>exact⟨rfl,putFlow_below B5.out (Nat.le_refl _) _ _ _ _⟩
end Go.Proofs.YtbamodkgagcmnaaGreat.Mod
set_option maxRecDepth 100000
namespace Go.Proofs.YtbamodkgagcmnaaGreat.Mod
open Go.RowKit Go.Shelf Go.WideShapes RowG Trn
attribute [local go_sem] Oper.semAt_some
section
variable {B:Nat→Prop} (c:Cfg) (m:Mo) (pa:Option Addr) (pc:Nat) (ta:Option Addr) (tc:Nat) (ts:List TabM) (la:Option Addr) (lc:Nat) (w:World)
set_option maxRecDepth 100000 in
set_option maxHeartbeats 2000000 in
theorem do_malformed (h:ModIs B w c m pa pc ta tc ts la lc) (pkt:ByteArray) (oa:Option Addr) (on oc:Nat) (shard now:Int) (hR:∀ W,Calls Tryz.prog 47 #[.string pkt,.int .i64 c.S] W fun e W'=>e=.returned (flowV ⟨#[]⟩ 0 false 9)∧Below W.heap.size W W'):
 Calls Tryz.prog 18 #[moV c m pa pc ta tc ts la lc,opV 0 pkt oa on oc shard,.int .i64 now] w (Done B c (m,⟨9,0,false,0⟩) w):=by
 have HM:=Lib.hid h
 have hbx:=new_boxes w c (sl pa m.pool.length pc) (rowV ta tc ts) (sl la m.places.length lc) 0 pkt oa on oc shard rfl
 have CR:=Lib.hid hR
 clear h hR
 go_enter Tryz.func18,Tryz.ntmps18
 go_wp2_with fail
 refine (CR.out _).mono ?_
 rintro e w1 ⟨rfl,hb⟩
 have HX1:=hbx.kept hb
 have al:=(Below.refl w1.heap.size w1).alloc (Nat.le_refl _) (.cells (flowC ⟨#[]⟩ 0 false 9) 104)
 have HX:=Lib.hid (HX1.kept al)
 have HF:=Lib.hid (show FlowBox (w1.alloc (.cells (flowC ⟨#[]⟩ 0 false 9) 104)) w1.heap.size ⟨#[]⟩ 0 false 9 from World.alloc_heap_new w1 _)
 have hgt:=HX1.size
 clear CR hb hbx HX1 al
 obtain⟨⟨x0,x1,x2,x3,x4,x5,x6,x7⟩,fr⟩:=HX.out.mod.cells
 obtain⟨o0,o1,o2,o3⟩:=HX.out.op.cells
 obtain⟨⟨y0,y1,y2,y3,y4,y5,y6,y7⟩,fs⟩:=HX.out.res.cells
 obtain⟨⟨z0,z1,z2,z3⟩,ft⟩:=HX.out.ans.cells
 have f5:=fr 5
 have g0:=fs 0
 have g1:=fs 1
 have g2:=fs 2
 have g3:=fs 3
 have g4:=fs 4
 have g5:=fs 5
 have g6:=fs 6
 have g7:=fs 7
 have k0:=ft 0
 have k1:=ft 1
 have k2:=ft 2
 have k3:=ft 3
 clear fr fs ft
 obtain⟨⟨v0,v1,v2,v3⟩,-⟩:=HF.out.cells
 go_wp2_with fail
 generalize hW2:w1.alloc (.cells (flowC ⟨#[]⟩ 0 false 9) 104)=W2 at *
 clear hW2
 go_region
 go_wp2
 obtain⟨e1,e2,e3⟩:=told_both (c:=c) (pv:=sl pa m.pool.length pc) (tv:=rowV ta tc ts) (lv:=sl la m.places.length lc) HX.out.res HX.out.ans HX.out.below (Nat.le_of_eq HX.out.at'.symm) ⟨9,0,false,0⟩
 obtain⟨⟨r0,r1,r2,r3,r4,r5,r6,r7⟩,-⟩:=e1.cells
 obtain⟨⟨s0,s1,s2,s3⟩,-⟩:=e2.cells
 unfold putBoth putMod putAns at r0 r1 r2 r3 r4 r5 r6 r7 s0 s1 s2 s3
 clear x0 x1 x2 x3 x4 x5 x6 x7 o0 o1 o2 o3 y0 y1 y2 y3 y4 y5 y6 y7 z0 z1 z2 z3 f5 g0 g1 g2 g3 g4 g5 g6 g7 k0 k1 k2 k3
 refine bodyPost_ret (v:=.tuple #[moV c m pa pc ta tc ts la lc,ansV ⟨9,0,false,0⟩]) ?q1 rfl ?q2
 case q1=>
  simp only[results,Tryz.results18]
  simp[go_sem,r0,r1,r2,r3,r4,r5,r6,r7,s0,s1,s2,s3]
 case q2=>exact⟨_,rfl,⟨_,_,_,_,_,_,_,rfl,HM.out.kept e3.drew⟩,e3.drew⟩
end
end Go.Proofs.YtbamodkgagcmnaaGreat.Mod
