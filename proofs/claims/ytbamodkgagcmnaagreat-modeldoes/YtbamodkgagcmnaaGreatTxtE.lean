/-
  The document's Do (package gangplankref17), given what its callees tell: its boxes; a packet that is malformed, a pool, what is counted, what there is not.
-/
import Derived.Test.YtbamodkgagcmnaaGreatCelRE
import Derived.Test.YtbamodkgagcmnaaGreatTrnE
import Derived.Test.YtbamodkgagcmnaaGreatBOctGE
set_option maxRecDepth 100000
namespace Go.Proofs.YtbamodkgagcmnaaGreat.Mod
open Go.RowKit Go.Shelf Go.WideShapes RowG Trn
attribute [local go_sem] Oper.semAt_some
def bkM:Kind (Int × Int):=⟨2,fun x=>[.int .i64 x.1,.int .i64 x.2],by decide,fun _=>rfl,fun x u hu=>by
 simp at hu; rcases hu with rfl | rfl <;> rfl⟩
def From (B:Nat→Prop) (a:Option Addr):Prop:=∀ q,a=some q→B q.block
structure ModIs (B:Nat→Prop) (W:World) (c:Cfg) (m:Mo) (pa:Option Addr) (pc:Nat) (ta:Option Addr) (tc:Nat) (ts:List TabM) (la:Option Addr) (lc:Nat):Prop where
 pool:Lies bkM W pa pc m.pool
 row:Lies tabK W ta tc ts
 tabs:ts.map TabM.T=m.tables
 each:∀ x ∈ ts,Lies entK W x.p x.c x.T
 places:Lies numK W la lc (m.places.map fun (n:Nat)=>(n:Int))
 fromT:From B ta
 fromL:From B la
 fromP:m.pool≠[]→From B pa
theorem ModIs.kept {B:Nat→Prop} {W W':World} {c:Cfg} {m:Mo} {pa:Option Addr} {pc:Nat} {ta:Option Addr} {tc:Nat} {ts:List TabM} {la:Option Addr} {lc:Nat} (h:ModIs B W c m pa pc ta tc ts la lc) (hb:Below W.heap.size W W'):ModIs B W' c m pa pc ta tc ts la lc:=
 ⟨h.pool.kept hb,h.row.kept hb,h.tabs,fun x hx=>(h.each x hx).kept hb,h.places.kept hb,h.fromT,h.fromL,h.fromP⟩
abbrev moV (c:Cfg) (m:Mo) (pa:Option Addr) (pc:Nat) (ta:Option Addr) (tc:Nat) (ts:List TabM) (la:Option Addr) (lc:Nat):Value:=modV c (sl pa m.pool.length pc) (rowV ta tc ts) (sl la m.places.length lc)
def MoIs (B:Nat→Prop) (W:World) (v:Value) (c:Cfg) (m:Mo):Prop:=∃ pa pc ta tc ts la lc,v=moV c m pa pc ta tc ts la lc∧ModIs B W c m pa pc ta tc ts la lc
def Done (B:Nat→Prop) (c:Cfg) (r:Mo × Ans) (w:World) (e:Ending) (W':World):Prop:=∃ v,e=.returned (.tuple #[v,ansV r.2])∧MoIs B W' v c r.1∧Below w.heap.size w W'
abbrev opC (kind:Int) (pkt:ByteArray) (oa:Option Addr) (on oc:Nat) (shard:Int):Array Value:=#[.int .i64 kind,.string pkt,sl oa on oc,.int .i64 shard]
abbrev opV (kind:Int) (pkt:ByteArray) (oa:Option Addr) (on oc:Nat) (shard:Int):Value:=.agg (opC kind pkt oa on oc shard)
def OpBox (W:World) (g:Nat) (kind:Int) (pkt:ByteArray) (oa:Option Addr) (on oc:Nat) (shard:Int):Prop:=W.heap[g]? =some (.cells (opC kind pkt oa on oc shard) 42 (0,0))
theorem OpBox.cells {W:World} {g:Nat} {kind:Int} {pkt:ByteArray} {oa:Option Addr} {on oc:Nat} {shard:Int} (h:OpBox W g kind pkt oa on oc shard):W.cell? ⟨g,0,none⟩=some (.int .i64 kind)∧W.cell? ⟨g,1,none⟩=some (.string pkt)∧W.cell? ⟨g,2,none⟩=some (sl oa on oc)∧W.cell? ⟨g,3,none⟩=some (.int .i64 shard):=by
 unfold OpBox at h
 refine⟨?_,?_,?_,?_⟩ <;> simp[World.cell?,h]
structure Boxes (w W:World) (g:Nat) (c:Cfg) (pv tv lv:Value) (kind:Int) (pkt:ByteArray) (oa:Option Addr) (on oc:Nat) (shard:Int):Prop where
 mod:ModBox W g c pv tv lv
 op:OpBox W (g+1) kind pkt oa on oc shard
 res:ModBox W (g+2) ⟨0,0,0,0,0⟩ (sl none 0 0) (sl none 0 0) (sl none 0 0)
 ans:AnsBox W (g+3) ⟨0,0,false,0⟩
 below:Below w.heap.size w W
 size:g+4≤W.heap.size
 at':g=w.heap.size
theorem Boxes.kept {w W W':World} {g:Nat} {c:Cfg} {pv tv lv:Value} {kind:Int} {pkt:ByteArray} {oa:Option Addr} {on oc:Nat} {shard:Int} (h:Boxes w W g c pv tv lv kind pkt oa on oc shard) (hb:Below W.heap.size W W'):Boxes w W' g c pv tv lv kind pkt oa on oc shard:=
 ⟨h.mod.kept hb (heap_lt h.mod),(hb.block _ (heap_lt h.op)).trans h.op,h.res.kept hb (heap_lt h.res),h.ans.kept hb,below2 h.below hb,Nat.le_trans h.size hb.size,h.at'⟩
theorem new_boxes (w:World) (c:Cfg) (pv tv lv:Value) (kind:Int) (pkt:ByteArray) (oa:Option Addr) (on oc:Nat) (shard:Int) {W:World}
 (hW:(((w.alloc (.cells (modC c pv tv lv) 36)).alloc (.cells (opC kind pkt oa on oc shard) 42)).alloc (.cells (modC ⟨0,0,0,0,0⟩ (sl none 0 0) (sl none 0 0) (sl none 0 0)) 36)).alloc (.cells (ansC ⟨0,0,false,0⟩) 39)=W):
 Boxes w W w.heap.size c pv tv lv kind pkt oa on oc shard:=by
 have h1:=World.alloc_heap_new w (.cells (modC c pv tv lv) 36)
 have s1:=World.size_alloc w (.cells (modC c pv tv lv) 36)
 have b1:Below w.heap.size w (w.alloc (.cells (modC c pv tv lv) 36)):=(Below.refl _ w).alloc (Nat.le_refl _) _
 generalize w.alloc (.cells (modC c pv tv lv) 36)=W1 at *
 have h2:=World.alloc_heap_new W1 (.cells (opC kind pkt oa on oc shard) 42)
 have s2:=World.size_alloc W1 (.cells (opC kind pkt oa on oc shard) 42)
 have b2:Below W1.heap.size W1 (W1.alloc (.cells (opC kind pkt oa on oc shard) 42)):=(Below.refl _ W1).alloc (Nat.le_refl _) _
 generalize W1.alloc (.cells (opC kind pkt oa on oc shard) 42)=W2 at *
 have h3:=World.alloc_heap_new W2 (.cells (modC ⟨0,0,0,0,0⟩ (sl none 0 0) (sl none 0 0) (sl none 0 0)) 36)
 have s3:=World.size_alloc W2 (.cells (modC ⟨0,0,0,0,0⟩ (sl none 0 0) (sl none 0 0) (sl none 0 0)) 36)
 have b3:Below W2.heap.size W2 (W2.alloc (.cells (modC ⟨0,0,0,0,0⟩ (sl none 0 0) (sl none 0 0) (sl none 0 0)) 36)):=(Below.refl _ W2).alloc (Nat.le_refl _) _
 generalize W2.alloc (.cells (modC ⟨0,0,0,0,0⟩ (sl none 0 0) (sl none 0 0) (sl none 0 0)) 36)=W3 at *
 have h4:=World.alloc_heap_new W3 (.cells (ansC ⟨0,0,false,0⟩) 39)
 have s4:=World.size_alloc W3 (.cells (ansC ⟨0,0,false,0⟩) 39)
 have b4:Below W3.heap.size W3 (W3.alloc (.cells (ansC ⟨0,0,false,0⟩) 39)):=(Below.refl _ W3).alloc (Nat.le_refl _) _
 generalize W3.alloc (.cells (ansC ⟨0,0,false,0⟩) 39)=W4 at *
 subst hW
 have e2:W1.heap.size=w.heap.size+1:=s1
 have e3:W2.heap.size=w.heap.size+2:=by omega
 have e4:W3.heap.size=w.heap.size+3:=by omega
 rw[e2] at h2
 rw[e3] at h3
 rw[e4] at h4
 refine⟨?_,?_,?_,h4,below2 (below2 (below2 b1 b2) b3) b4,by omega,rfl⟩
 ·exact (b4.block _ (by omega)).trans ((b3.block _ (by omega)).trans ((b2.block _ (by omega)).trans h1))
 ·exact (b4.block _ (by omega)).trans ((b3.block _ (by omega)).trans h2)
 ·exact (b4.block _ (by omega)).trans h3
abbrev putBoth (W:World) (g:Nat) (c:Cfg) (pv tv lv:Value) (y:Ans):World:=putAns (putMod W (g+2) c pv tv lv) (g+3) y
theorem told_both {w W:World} {g:Nat} {c c':Cfg} {pv tv lv pv' tv' lv':Value} {x:Ans} (hr:ModBox W (g+2) c' pv' tv' lv') (ha:AnsBox W (g+3) x) (hb:Below w.heap.size w W) (hg:w.heap.size≤g) (y:Ans):
 ModBox (putBoth W g c pv tv lv y) (g+2) c pv tv lv∧AnsBox (putBoth W g c pv tv lv y) (g+3) y∧Below w.heap.size w (putBoth W g c pv tv lv y):=by
 have h1:=hr.put (c:=c) (pv:=pv) (tv:=tv) (lv:=lv)
 have h2:AnsBox (putMod W (g+2) c pv tv lv) (g+3) x:=(mod_rest W (g+2) c pv tv lv (g+3) (by omega)).trans ha
 have h3:=putMod_below hb (show w.heap.size≤g+2 by omega) c pv tv lv
 refine⟨?_,h2.put y,(putAns_turned _ (g+3) y).below h3 h3.size fun k hk=>by omega⟩
 exact ((putAns_turned (putMod W (g+2) c pv tv lv) (g+3) y).rest (g+2) (heap_lt h1) (by omega)).trans h1
theorem al4 (w:World) (a b c d:Obj):Below w.heap.size w ((((w.alloc a).alloc b).alloc c).alloc d):=
 ((((Below.refl _ w).alloc (Nat.le_refl _) a).alloc (by simp) b).alloc (by simp; omega) c).alloc (by simp; omega) d
section
variable {B:Nat→Prop} (c:Cfg) (m:Mo) (pa:Option Addr) (pc:Nat) (ta:Option Addr) (tc:Nat) (ts:List TabM) (la:Option Addr) (lc:Nat) (w:World)
set_option maxRecDepth 100000 in
set_option maxHeartbeats 2000000 in
theorem do_other (h:ModIs B w c m pa pc ta tc ts la lc) (pkt:ByteArray) (oa:Option Addr) (on oc:Nat) (shard now:Int) (kind:Int) (n0:kind≠0) (n1:kind≠1) (n2:kind≠2) (n3:kind≠3):
 Calls Tryz.prog 18 #[moV c m pa pc ta tc ts la lc,opV kind pkt oa on oc shard,.int .i64 now] w (Done B c (m,⟨1,0,false,0⟩) w):=by
 have HM:=Lib.hid h
 clear h
 have d0:(kind == 0)=false:=beq_false_of_ne n0
 have d1:(kind == 1)=false:=beq_false_of_ne n1
 have d2:(kind == 2)=false:=beq_false_of_ne n2
 have d3:(kind == 3)=false:=beq_false_of_ne n3
 clear n0 n1 n2 n3
 go_enter Tryz.func18,Tryz.ntmps18
 go_wp2
 refine bodyPost_ret (v:=.tuple #[moV c m pa pc ta tc ts la lc,ansV ⟨1,0,false,0⟩]) ?q1 rfl ?q2
 case q1=>
  simp only[results,Tryz.results18]
  simp[go_sem]
 case q2=>exact⟨_,rfl,⟨_,_,_,_,_,_,_,rfl,HM.out.kept (al4 ..)⟩,al4 ..⟩
set_option maxRecDepth 100000 in
set_option maxHeartbeats 2000000 in
theorem do_expire_low (h:ModIs B w c m pa pc ta tc ts la lc) (pkt:ByteArray) (oa:Option Addr) (on oc:Nat) (shard now:Int) (h0:shard<0):
 Calls Tryz.prog 18 #[moV c m pa pc ta tc ts la lc,opV 2 pkt oa on oc shard,.int .i64 now] w (Done B c (m,⟨1,0,false,0⟩) w):=by
 have HM:=Lib.hid h
 clear h
 have d0:decide (shard<0)=true:=decide_eq_true h0
 clear h0
 go_enter Tryz.func18,Tryz.ntmps18
 go_wp2
 refine bodyPost_ret (v:=.tuple #[moV c m pa pc ta tc ts la lc,ansV ⟨1,0,false,0⟩]) ?q1 rfl ?q2
 case q1=>
  simp only[results,Tryz.results18]
  simp[go_sem]
 case q2=>exact⟨_,rfl,⟨_,_,_,_,_,_,_,rfl,HM.out.kept (al4 ..)⟩,al4 ..⟩
set_option maxRecDepth 100000 in
set_option maxHeartbeats 2000000 in
theorem do_expire_high (h:ModIs B w c m pa pc ta tc ts la lc) (pkt:ByteArray) (oa:Option Addr) (on oc:Nat) (shard now:Int) (h0:¬ shard<0) (h1:c.S≤shard):
 Calls Tryz.prog 18 #[moV c m pa pc ta tc ts la lc,opV 2 pkt oa on oc shard,.int .i64 now] w (Done B c (m,⟨1,0,false,0⟩) w):=by
 have HM:=Lib.hid h
 clear h
 have d0:decide (shard<0)=false:=decide_eq_false h0
 have d1:decide (c.S≤shard)=true:=decide_eq_true h1
 clear h0 h1
 go_enter Tryz.func18,Tryz.ntmps18
 go_wp2
 refine bodyPost_ret (v:=.tuple #[moV c m pa pc ta tc ts la lc,ansV ⟨1,0,false,0⟩]) ?q1 rfl ?q2
 case q1=>
  simp only[results,Tryz.results18]
  simp[go_sem]
 case q2=>exact⟨_,rfl,⟨_,_,_,_,_,_,_,rfl,HM.out.kept (al4 ..)⟩,al4 ..⟩
set_option maxRecDepth 100000 in
set_option maxHeartbeats 2000000 in
theorem do_update_bad (h:ModIs B w c m pa pc ta tc ts la lc) (pkt:ByteArray) (oa:Option Addr) (oc:Nat) (shard now:Int) (P:List (Int × Int)) (hP:Lies bkM w oa oc P) (hCk:∀ W,Below w.heap.size w W→Calls Tryz.prog 49 #[sl oa P.length oc] W fun e W'=>e=.returned (.int .i64 10)∧Below W.heap.size W W'):
 Calls Tryz.prog 18 #[moV c m pa pc ta tc ts la lc,opV 1 pkt oa P.length oc shard,.int .i64 now] w (Done B c (m,⟨10,0,false,0⟩) w):=by
 have HM:=Lib.hid h
 have HP:=Lib.hid hP
 have hbx:=new_boxes w c (sl pa m.pool.length pc) (rowV ta tc ts) (sl la m.places.length lc) 1 pkt oa P.length oc shard rfl
 have CK:=Lib.hid (hCk _ hbx.below)
 clear h hP hCk
 go_enter Tryz.func18,Tryz.ntmps18
 go_wp2_with fail
 refine CK.out.mono ?_
 rintro e w1 ⟨rfl,hb⟩
 have HX:=Lib.hid (hbx.kept hb)
 clear CK hb hbx
 obtain⟨⟨x0,x1,x2,x3,x4,x5,x6,x7⟩,fr⟩:=HX.out.mod.cells
 obtain⟨o0,o1,o2,o3⟩:=HX.out.op.cells
 obtain⟨⟨y0,y1,y2,y3,y4,y5,y6,y7⟩,fs⟩:=HX.out.res.cells
 obtain⟨⟨z0,z1,z2,z3⟩,ft⟩:=HX.out.ans.cells
 have f5:=fr 5
 have g0:=fs 0
 have g1:=fs 1
 have g2:=fs 2
 have g3:=fs 3
 have g4:=fs 4
 have g5:=fs 5
 have g6:=fs 6
 have g7:=fs 7
 have k0:=ft 0
 have k1:=ft 1
 have k2:=ft 2
 have k3:=ft 3
 clear fr fs ft
 go_wp2
 obtain⟨e1,e2,e3⟩:=told_both (c:=c) (pv:=sl pa m.pool.length pc) (tv:=rowV ta tc ts) (lv:=sl la m.places.length lc) HX.out.res HX.out.ans HX.out.below (Nat.le_of_eq HX.out.at'.symm) ⟨10,0,false,0⟩
 obtain⟨⟨r0,r1,r2,r3,r4,r5,r6,r7⟩,-⟩:=e1.cells
 obtain⟨⟨s0,s1,s2,s3⟩,-⟩:=e2.cells
 unfold putBoth putMod putAns at r0 r1 r2 r3 r4 r5 r6 r7 s0 s1 s2 s3
 clear x0 x1 x2 x3 x4 x5 x6 x7 o0 o1 o2 o3 y0 y1 y2 y3 y4 y5 y6 y7 z0 z1 z2 z3 f5 g0 g1 g2 g3 g4 g5 g6 g7 k0 k1 k2 k3
 refine bodyPost_ret (v:=.tuple #[moV c m pa pc ta tc ts la lc,ansV ⟨10,0,false,0⟩]) ?q1 rfl ?q2
 case q1=>
  simp only[results,Tryz.results18]
  simp[go_sem,r0,r1,r2,r3,r4,r5,r6,r7,s0,s1,s2,s3]
 case q2=>exact⟨_,rfl,⟨_,_,_,_,_,_,_,rfl,HM.out.kept e3⟩,e3⟩
set_option maxRecDepth 100000 in
set_option maxHeartbeats 2000000 in
theorem do_update_good (h:ModIs B w c m pa pc ta tc ts la lc) (pkt:ByteArray) (oa:Option Addr) (oc:Nat) (shard now:Int) (P:List (Int × Int)) (hP:Lies bkM w oa oc P) (hO:P≠[]→From B oa) (hCk:∀ W,Below w.heap.size w W→Calls Tryz.prog 49 #[sl oa P.length oc] W fun e W'=>e=.returned (.int .i64 0)∧Below W.heap.size W W'):
 Calls Tryz.prog 18 #[moV c m pa pc ta tc ts la lc,opV 1 pkt oa P.length oc shard,.int .i64 now] w (Done B c (⟨P,m.tables,m.places⟩,⟨0,0,false,0⟩) w):=by
 have HM:=Lib.hid h
 have HP:=Lib.hid hP
 have HO:=Lib.hid hO
 have hbx:=new_boxes w c (sl pa m.pool.length pc) (rowV ta tc ts) (sl la m.places.length lc) 1 pkt oa P.length oc shard rfl
 have CK:=Lib.hid (hCk _ hbx.below)
 clear h hP hCk hO
 go_enter Tryz.func18,Tryz.ntmps18
 go_wp2_with fail
 refine CK.out.mono ?_
 rintro e w1 ⟨rfl,hb⟩
 have HX:=Lib.hid (hbx.kept hb)
 clear CK hb hbx
 obtain⟨⟨x0,x1,x2,x3,x4,x5,x6,x7⟩,fr⟩:=HX.out.mod.cells
 obtain⟨o0,o1,o2,o3⟩:=HX.out.op.cells
 obtain⟨⟨y0,y1,y2,y3,y4,y5,y6,y7⟩,fs⟩:=HX.out.res.cells
 obtain⟨⟨z0,z1,z2,z3⟩,ft⟩:=HX.out.ans.cells
 have f5:=fr 5
 have g0:=fs 0
 have g1:=fs 1
 have g2:=fs 2
 have g3:=fs 3
 have g4:=fs 4
 have g5:=fs 5
 have g6:=fs 6
 have g7:=fs 7
 have k0:=ft 0
 have k1:=ft 1
 have k2:=ft 2
 have k3:=ft 3
 clear fr fs ft
 go_wp2
 have e5:ModBox (w1.setCell ⟨w.heap.size,5,none⟩ (sl oa P.length oc)) (w.heap.size+2) _ _ _ _:=HX.out.res.beside (by omega) _
 have e6:AnsBox (w1.setCell ⟨w.heap.size,5,none⟩ (sl oa P.length oc)) (w.heap.size+3) _:=(Below.heap_setCell _ _ _ _ (by show w.heap.size+3≠w.heap.size; omega)).trans HX.out.ans
 obtain⟨e1,e2,e3⟩:=told_both (c:=c) (pv:=sl oa P.length oc) (tv:=rowV ta tc ts) (lv:=sl la m.places.length lc) e5 e6 (HX.out.below.setCell (p:=⟨w.heap.size,5,none⟩) (Nat.le_refl _) (sl oa P.length oc)) (Nat.le_refl _) ⟨0,0,false,0⟩
 obtain⟨⟨r0,r1,r2,r3,r4,r5,r6,r7⟩,-⟩:=e1.cells
 obtain⟨⟨s0,s1,s2,s3⟩,-⟩:=e2.cells
 unfold putBoth putMod putAns at r0 r1 r2 r3 r4 r5 r6 r7 s0 s1 s2 s3
 clear x0 x1 x2 x3 x4 x5 x6 x7 o0 o1 o2 o3 y0 y1 y2 y3 y4 y5 y6 y7 z0 z1 z2 z3 f5 g0 g1 g2 g3 g4 g5 g6 g7 k0 k1 k2 k3
 refine bodyPost_ret (v:=.tuple #[moV c ⟨P,m.tables,m.places⟩ oa oc ta tc ts la lc,ansV ⟨0,0,false,0⟩]) ?q1 rfl ?q2
 case q1=>
  simp only[results,Tryz.results18]
  simp[go_sem,r0,r1,r2,r3,r4,r5,r6,r7,s0,s1,s2,s3]
 case q2=>
  exact⟨_,rfl,⟨_,_,_,_,_,_,_,rfl,⟨HP.out.kept e3,HM.out.row.kept e3,HM.out.tabs,fun x hx=>(HM.out.each x hx).kept e3,HM.out.places.kept e3,HM.out.fromT,HM.out.fromL,HO.out⟩⟩,e3⟩
set_option maxRecDepth 100000 in
set_option maxHeartbeats 2000000 in
theorem do_stats (h:ModIs B w c m pa pc ta tc ts la lc) (pkt:ByteArray) (oa:Option Addr) (on oc:Nat) (shard now:Int) (hs:∀ k,total ((ts.take k).map TabM.T)≤4611686018427387904) (hC:∀ x ∈ ts,∀ W,Lies entK W x.p x.c x.T→Calls Tryz.prog 51 #[tabV x,.int .i64 1] W fun e W'=>e=.returned (.int .i64 (Tab.count 1 x.T:Nat))∧W'=W):
 Calls Tryz.prog 18 #[moV c m pa pc ta tc ts la lc,opV 3 pkt oa on oc shard,.int .i64 now] w (Done B c (m,⟨0,0,false,(total m.tables:Nat)⟩) w):=by
 have HM:=Lib.hid h
 have HC:=Lib.hid hC
 have hbx:=new_boxes w c (sl pa m.pool.length pc) (rowV ta tc ts) (sl la m.places.length lc) 3 pkt oa on oc shard rfl
 have hmx:=h.row.max
 have hln:=h.row.len
 unfold maxLen at hmx
 have HS:=Lib.hid hs
 have HK:=Lib.hid (h.kept hbx.below)
 have HX:=Lib.hid hbx
 clear h hC hs hbx
 go_enter Tryz.func18,Tryz.ntmps18
 go_wp2
 generalize hW0:(((w.alloc (.cells (modC c (sl pa m.pool.length pc) (rowV ta tc ts) (sl la m.places.length lc)) 36)).alloc (.cells (opC 3 pkt oa on oc shard) 42)).alloc (.cells (modC ⟨0,0,0,0,0⟩ (sl none 0 0) (sl none 0 0) (sl none 0 0)) 36)).alloc (.cells (ansC ⟨0,0,false,0⟩) 39)=W0 at *
 clear hW0
 obtain⟨⟨x0,x1,x2,x3,x4,x5,x6,x7⟩,fr⟩:=HX.out.mod.cells
 obtain⟨o0,o1,o2,o3⟩:=HX.out.op.cells
 obtain⟨⟨y0,y1,y2,y3,y4,y5,y6,y7⟩,fs⟩:=HX.out.res.cells
 obtain⟨⟨z0,z1,z2,z3⟩,ft⟩:=HX.out.ans.cells
 have f5:=fr 5
 have g0:=fs 0
 have g1:=fs 1
 have g2:=fs 2
 have g3:=fs 3
 have g4:=fs 4
 have g5:=fs 5
 have g6:=fs 6
 have g7:=fs 7
 have k0:=ft 0
 have k1:=ft 1
 have k2:=ft 2
 have k3:=ft 3
 clear fr fs ft
 go_loopw [15,16] (fun q j W=>∃ k:Nat,k≤ts.length∧j=.int .i64 k∧q=.int .i64 ((total ((ts.take k).map TabM.T):Nat):Int)∧W=W0) (fun _ j _=>ts.length - (intOf j).toNat)
 case atStart=>exact⟨0,Nat.zero_le _,rfl,rfl,rfl⟩
 case round=>
  obtain⟨k,hk,rfl,rfl,rfl⟩:=hrel
  by_cases hlt:k<ts.length
  ·obtain⟨b,off,rfl,q0⟩:=tab_cell HK.out.row hlt
   have CC:=Lib.hid (HC.out ts[k] (List.getElem_mem hlt) wr ((HK.out.each _ (List.getElem_mem hlt))))
   have HN:=Lib.hid (show total ((ts.take (k+1)).map TabM.T)=total ((ts.take k).map TabM.T)+Tab.count 1 ts[k].T by
    unfold total
    rw[take_more (List.getElem?_eq_getElem hlt),List.map_append,List.map_append,List.sum_append]; simp)
   have hle:total ((ts.take (k+1)).map TabM.T)≤4611686018427387904:=HS.out (k+1)
   rw[HN.out] at hle
   generalize ts[k]=x at *
   generalize total ((ts.take k).map TabM.T)=tt at *
   generalize Tab.count 1 x.T=cn at *
   have hw:IntKind.i64.wrap ((tt:Int)+(cn:Int))=((tt+cn:Nat):Int):=by rw[IntKind.wrap_i64]; omega
   go_wp2_with fail
   refine CC.out.mono ?_
   rintro e w5 ⟨rfl,rfl⟩
   go_wp2_with fail
   refine⟨⟨k+1,hlt,by go_num,by rw[HN.out]; first | rfl | go_num | (simp only[hw]),trivial⟩,by simp[intOf]; omega⟩
  ·obtain rfl:k=ts.length:=by omega
   have HN:=Lib.hid (show total ((ts.take ts.length).map TabM.T)=total m.tables by rw[List.take_length,HM.out.tabs])
   rw[HN.out]
   generalize total m.tables=tt at *
   go_wp2
   obtain⟨e1,e2,e3⟩:=told_both (c:=c) (pv:=sl pa m.pool.length pc) (tv:=rowV ta tc ts) (lv:=sl la m.places.length lc) HX.out.res HX.out.ans HX.out.below (Nat.le_of_eq HX.out.at'.symm) ⟨0,0,false,(tt:Nat)⟩
   obtain⟨⟨r0,r1,r2,r3,r4,r5,r6,r7⟩,-⟩:=e1.cells
   obtain⟨⟨s0,s1,s2,s3⟩,-⟩:=e2.cells
   unfold putBoth putMod putAns at r0 r1 r2 r3 r4 r5 r6 r7 s0 s1 s2 s3
   clear x0 x1 x2 x3 x4 x5 x6 x7 o0 o1 o2 o3 y0 y1 y2 y3 y4 y5 y6 y7 z0 z1 z2 z3 f5 g0 g1 g2 g3 g4 g5 g6 g7 k0 k1 k2 k3
   refine bodyPost_ret (v:=.tuple #[moV c m pa pc ta tc ts la lc,ansV ⟨0,0,false,(tt:Nat)⟩]) ?q1 rfl ?q2
   case q1=>
    simp only[results,Tryz.results18]
    simp[go_sem,r0,r1,r2,r3,r4,r5,r6,r7,s0,s1,s2,s3]
   case q2=>exact⟨_,rfl,⟨_,_,_,_,_,_,_,rfl,HM.out.kept e3⟩,e3⟩
end
end Go.Proofs.YtbamodkgagcmnaaGreat.Mod
set_option maxRecDepth 100000
namespace Go.Proofs.YtbamodkgagcmnaaGreat.Txt
open Go.RowKit Go.Shelf
theorem ba_ext {a b:ByteArray} (h:a.data.toList=b.data.toList):a=b:=by
 cases a; cases b; congr; exact Array.toList_inj.1 h
theorem len_list (a:ByteArray):a.data.toList.length=a.size:=by rw[Array.length_toList]; rfl
theorem ext_list (s:ByteArray) (a b:Nat):(s.extract a b).data.toList=(s.data.toList.drop a).take (b - a):=by
 rw[ByteArray.data_extract,Array.toList_extract,List.extract_eq_take_drop]
theorem ext_size (s:ByteArray) (a b:Nat) (h:b≤s.size):(s.extract a b).size=b - a:=by
 rw[← len_list,ext_list,List.length_take,List.length_drop,len_list]; omega
theorem app_list (a b:ByteArray):(a ++ b).data.toList=a.data.toList ++ b.data.toList:=by simp only[ByteArray.data_append,Array.toList_append]
theorem app_nil (S:ByteArray):S ++ (⟨#[]⟩:ByteArray)=S:=ba_ext (by rw[app_list]; exact List.append_nil _)
theorem take_app (l m:List UInt8) (a n:Nat) (h:a+n≤l.length):((l ++ m).drop a).take n=(l.drop a).take n:=by
 rw[List.drop_append_of_le_length (by omega),List.take_append_of_le_length (by rw[List.length_drop]; omega)]
theorem ext_app (s b:ByteArray) (a c:Nat) (h:c≤s.size):(s ++ b).extract a c=s.extract a c:=by
 apply ba_ext
 rw[ext_list,ext_list,app_list]
 by_cases hac:a≤c
 ·exact take_app _ _ _ _ (by rw[len_list]; omega)
 ·rw[show c - a=0 by omega]; rfl
theorem ext_ext (s:ByteArray) (a b c d:Nat) (h:a+d≤b):(s.extract a b).extract c d=s.extract (a+c) (a+d):=by
 apply ba_ext
 rw[ext_list,ext_list,ext_list,List.drop_take,List.take_take,List.drop_drop,show a+d - (a+c)=d - c by omega,show min (d - c) (b - a - c)=d - c by omega]
theorem str_size (l:List UInt8):(Oct.str l).size=l.length:=by simp[ByteArray.size]
def gv (s:ByteArray) (a n:Nat):Nat:=Oct.num ((s.data.toList.drop a).take n)
theorem gv_ext (s:ByteArray) (a b:Nat):Oct.num (s.extract a b).data.toList=gv s a (b - a):=by rw[ext_list]; rfl
theorem gv_lt (s:ByteArray) (a n:Nat) (h:a+n≤s.size):gv s a n<256 ^ n:=by
 have:=Oct.num_lt ((s.data.toList.drop a).take n)
 rwa [List.length_take,List.length_drop,len_list,Nat.min_eq_left (by omega)] at this
theorem gv_app (s b:ByteArray) (a n:Nat) (h:a+n≤s.size):gv (s ++ b) a n=gv s a n:=by
 unfold gv
 rw[app_list,take_app _ _ _ _ (by rw[len_list]; exact h)]
theorem below2 {w0 w1 w2:World} (h1:Below w0.heap.size w0 w1) (h2:Below w1.heap.size w1 w2):Below w0.heap.size w0 w2:=h1.trans (h2.mono h1.size)
theorem below_alloc (W:World) (o:Obj):Below W.heap.size W (W.alloc o):=(Below.refl _ W).alloc (Nat.le_refl _) o
end Go.Proofs.YtbamodkgagcmnaaGreat.Txt
