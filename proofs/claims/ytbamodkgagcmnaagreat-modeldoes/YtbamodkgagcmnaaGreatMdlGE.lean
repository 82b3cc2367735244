/-
  Package model: a packet that is one (dispatch).
-/
import Derived.Test.YtbamodkgagcmnaaGreatMdlEE
import Derived.Test.YtbamodkgagcmnaaGreatRgnNE
set_option maxRecDepth 100000
namespace Go.Proofs.YtbamodkgagcmnaaGreat.Mdl
open Go.RowKit Go.Shelf RowG Trn Rgn
open Pol (polV)
open Pkt (Tells outV noP pktV pktC keyV)
open Prb (home)
open Go.Proofs.YtbamodkgagcmnaaGreat.Mod (Bk Mo Ans ansV ansC AnsBox putAns TabIs Deals deals del known opV opC shardZ)
attribute [local go_sem] Oper.semAt_some
theorem deals_small {T:List Tab.Ent} (hl:T.length≤64) (hs:Flo.Short 60 T) {k:ByteArray} (hk:k.size≤60) (P:List Bk) (c:Bool) (now dl:Int):(deals home pickK T P k c now dl).1.length≤64∧Flo.Short 60 (deals home pickK T P k c now dl).1:=by
 by_cases hn:known home T P k now=none∧P=[]
 ·rw[Mod.deals_none hn.1 hn.2]; exact⟨hl,hs⟩
 ·cases c with
  | true=>
    rw[Mod.deals_closes hn,← del_is hl k]
    refine⟨?_,Flo.short_del hs⟩
    show (Flo.delT T k).length≤64
    unfold Flo.delT
    split
    ·unfold Flo.settleC
     split
     ·rw[Flo.tidyC_length]; omega
     ·show (T.set _ Tab.tomb).length≤64
      rw[List.length_set]; exact hl
    ·exact hl
  | false=>
    rcases put_is T k ((known home T P k now).getD (pickK P k)) dl with⟨U,h1,h2,_⟩ | ⟨h1,_,_⟩
    ·rw[Mod.deals_put hn h1]
     exact⟨by rw[Tab.put_length h1]; exact hl,by show Flo.Short 60 U; rw[← h2]; exact Flo.short_put hs hk⟩
    ·rw[Mod.deals_full hn h1]; exact⟨hl,hs⟩
def disV (f:Foot) (idle:Int) (pa:Option Addr) (pc:Nat) (P:List Bk) (hs:Nat) (x:ShM) (V:Int) (sx sy:ByteArray) (F T p fl:Int) (k:ByteArray) (cl:Bool) (now:Int) (U:List Tab.Ent) (y:Ans):Nat→World→Value→Prop
 | 0,_,v=>v=.pointer (some ⟨hs,0,none⟩)
 | 1,_,v=>v=rowV x.p x.c x.T
 | 2,_,v=>v=.pointer (some ⟨f.p,0,none⟩)
 | 3,_,v=>v=.pointer (some ⟨f.p,0,none⟩)
 | 4,_,v=>v=.pointer (some ⟨f.p,1,none⟩)
 | 5,_,v=>v=polV pa pc P
 | 6,_,v=>v=.string k
 | 7,_,v=>v=.agg #[.int .i64 V,.string sx,.string sy,.int .i64 F,.int .i64 T,.int .i64 p,.int .i64 fl]
 | 8,_,v=>v=.bool cl
 | 9,_,v=>v=.int .i64 now
 | 10,_,v=>v=.pointer (some ⟨f.p,0,none⟩)
 | 11,_,v=>v=.pointer (some ⟨f.p,0,none⟩)
 | 12,_,v=>v=.pointer (some ⟨f.p,0,none⟩)
 | 13,_,v=>v=.int .i64 idle
 | 14,w,v=>∃ u,v=.tuple #[u,ansV y]∧TabIs w u U
 | 15,w,v=>∃ u,v=.tuple #[u,ansV y]∧TabIs w u U
 | 16,w,v=>TabIs w v U
 | 17,_,v=>v=ansV y
 | 19,w,v=>TabIs w v U
 | _,_,_=>True
theorem disV_kept (f:Foot) (idle:Int) (pa:Option Addr) (pc:Nat) (P:List Bk) (hs:Nat) (x:ShM) (V:Int) (sx sy:ByteArray) (F T p fl:Int) (k:ByteArray) (cl:Bool) (now:Int) (U:List Tab.Ent) (y:Ans):∀ i w w' v,(disV f idle pa pc P hs x V sx sy F T p fl k cl now U y) i w v→Below w.heap.size w w'→(disV f idle pa pc P hs x V sx sy F T p fl k cl now U y) i w' v:=by
 intro i w w' v h hb
 match i with
 | 0=>exact h
 | 1=>exact h
 | 2=>exact h
 | 3=>exact h
 | 4=>exact h
 | 5=>exact h
 | 6=>exact h
 | 7=>exact h
 | 8=>exact h
 | 9=>exact h
 | 10=>exact h
 | 11=>exact h
 | 12=>exact h
 | 13=>exact h
 | 14=>
   obtain⟨u,e,h⟩:=h
   exact⟨u,e,h.kept hb⟩
 | 15=>
   obtain⟨u,e,h⟩:=h
   exact⟨u,e,h.kept hb⟩
 | 16=>
   exact TabIs.kept h hb
 | 17=>exact h
 | 19=>
   exact TabIs.kept h hb
 | 18=>trivial
 | i+20=>trivial
theorem disV_turn (f:Foot) (idle:Int) (pa:Option Addr) (pc:Nat) (P:List Bk) (hs:Nat) (x:ShM) (V:Int) (sx sy:ByteArray) (F T p fl:Int) (k:ByteArray) (cl:Bool) (now:Int) (U:List Tab.Ent) (y:Ans):∀ i w w' b v,(disV f idle pa pc P hs x V sx sy F T p fl k cl now U y) i w v→w.heap[b]? =some (.cells (ansC ⟨0,0,false,0⟩) 39 (0,0))→Turned (· =b) w w'→(disV f idle pa pc P hs x V sx sy F T p fl k cl now U y) i w' v:=by
 intro i w w' b v h hc ht
 match i with
 | 0=>exact h
 | 1=>exact h
 | 2=>exact h
 | 3=>exact h
 | 4=>exact h
 | 5=>exact h
 | 6=>exact h
 | 7=>exact h
 | 8=>exact h
 | 9=>exact h
 | 10=>exact h
 | 11=>exact h
 | 12=>exact h
 | 13=>exact h
 | 14=>
   obtain⟨u,e,av,cv,e2,hl⟩:=h
   exact⟨u,e,av,cv,e2,ht.lies hl fun hn b off e=>Mod.tab_apart (x:=⟨0,0,false,0⟩) hc hl hn b off e⟩
 | 15=>
   obtain⟨u,e,av,cv,e2,hl⟩:=h
   exact⟨u,e,av,cv,e2,ht.lies hl fun hn b off e=>Mod.tab_apart (x:=⟨0,0,false,0⟩) hc hl hn b off e⟩
 | 16=>
   obtain⟨av,cv,e2,hl⟩:=h
   exact⟨av,cv,e2,ht.lies hl fun hn b off e=>Mod.tab_apart (x:=⟨0,0,false,0⟩) hc hl hn b off e⟩
 | 17=>exact h
 | 19=>
   obtain⟨av,cv,e2,hl⟩:=h
   exact⟨av,cv,e2,ht.lies hl fun hn b off e=>Mod.tab_apart (x:=⟨0,0,false,0⟩) hc hl hn b off e⟩
 | 18=>trivial
 | i+20=>trivial
def ditV (g1 hs ii:Nat) (y:Ans) (x:ShM) (av:Option Addr) (cv:Nat) (U:List Tab.Ent):Nat→World→Value→Prop
 | 0,_,v=>v=ansV y
 | 1,_,v=>v=.int .i64 (ii:Nat)
 | 2,_,v=>v=rowV av cv U
 | 3,_,v=>v=.pointer (some ⟨hs,1,none⟩)
 | 4,_,v=>v=.int .i64 (x.n:Nat)
 | 5,_,v=>v=shV ⟨av,cv,U,x.n⟩
 | 6,w,v=>∃ b,v=putsV b∧Handed w b (ii:Nat) ⟨av,cv,U,x.n⟩∧g1<b
 | 8,w,v=>∃ b,v=putsV b∧Handed w b (ii:Nat) ⟨av,cv,U,x.n⟩∧g1<b
 | _,_,_=>True
theorem ditV_turn (g1 hs ii:Nat) (y:Ans) (x:ShM) (av:Option Addr) (cv:Nat) (U:List Tab.Ent):∀ i w w' v,(ditV g1 hs ii y x av cv U) i w v→Turned (· =g1) w w'→(ditV g1 hs ii y x av cv U) i w' v:=by
 intro i w w' v h ht
 match i with
 | 0=>exact h
 | 1=>exact h
 | 2=>exact h
 | 3=>exact h
 | 4=>exact h
 | 5=>exact h
 | 6=>
   obtain⟨b,e,h1,h2⟩:=h
   exact⟨b,e,h1.turned ht (by omega) (by omega),h2⟩
 | 8=>
   obtain⟨b,e,h1,h2⟩:=h
   exact⟨b,e,h1.turned ht (by omega) (by omega),h2⟩
 | 7=>trivial
 | i+9=>trivial
def shardN (k:ByteArray) (n:Nat):Nat:=hashN k / 4294967296 % n
theorem shard_n (k:ByteArray) {n:Nat} (hn:0<n):shardZ (hashN k) (n:Int)=(shardN k n:Nat):=by
 unfold shardZ shardN
 rw[if_neg (by omega),Int.toNat_natCast]
theorem shardN_lt (k:ByteArray) {n:Nat} (hn:0<n):shardN k n<n:=Nat.mod_lt _ hn
theorem wf_small (n:Nat) (h:n≤64):(Lit.int .i64 (n:Int)).wf=true:=by
 have a:IntKind.i64.min= -9223372036854775808:=by decide
 have b:IntKind.i64.max=9223372036854775807:=by decide
 simp only[Lit.wf,a,b,Bool.and_eq_true,decide_eq_true_eq]; omega
theorem pkt_cells {W:World} {g:Nat} {V:Int} {x y:ByteArray} {F T p f:Int} (h:W.heap[g]? =some (.cells (pktC V x y F T p f) 81 (0,0))):W.cell? ⟨g,0,none⟩=some (.int .i64 V)∧W.cell? ⟨g,1,none⟩=some (.string x)∧W.cell? ⟨g,2,none⟩=some (.string y)∧W.cell? ⟨g,3,none⟩=some (.int .i64 F)∧W.cell? ⟨g,4,none⟩=some (.int .i64 T)∧W.cell? ⟨g,5,none⟩=some (.int .i64 p)∧W.cell? ⟨g,6,none⟩=some (.int .i64 f):=by
 refine⟨?_,?_,?_,?_,?_,?_,?_⟩ <;> simp[World.cell?,h]
section
variable {f:Foot} {idle:Int} {pa:Option Addr} {pc:Nat} {P:List Bk} {sc:Nat} {m:List ShM}
set_option maxHeartbeats 4000000 in
theorem dispatch_good (w:World) (h:Lay w f idle pa pc P sc m) (kd:Int) (pkt:ByteArray) (oa:Option Addr) (on oc:Nat) (sh now:Int) (k:ByteArray) (cl:Bool) (hF:FlowIs pkt (some (k,cl))) {ii:Nat} (hii:ii<m.length) (hsd:shardN k m.length=ii) {r:List Tab.Ent × Ans} (hr:r=deals home pickK m[ii].T P k cl now (IntKind.i64.wrap (now+idle))):
 Calls Tryz.prog 83 #[f.v,opV kd pkt oa on oc sh,.int .i64 now] w (Told r.2 (PutsIs ii r.1 m[ii].n) w):=by
 obtain⟨hk38,V,sx,sy,F,T,p,fl,hP,hK,hC⟩:=hF
 have hk60:k.size≤60:=by omega
 have hkn:k.size≤4611686018427387904:=by omega
 obtain⟨⟨-,c1,-,-⟩,a0,b0,s0⟩:=op_boxes w kd pkt oa on oc sh
 have CP:=Lib.hid (hP ((w.alloc (.cells (opC kd pkt oa on oc sh) 42)).alloc (.cells (ansC ⟨0,0,false,0⟩) 39)))
 have HK:=Lib.hid hK
 have HC:=Lib.hid hC
 have HL:=Lib.hid h
 have A0:=Lib.hid a0
 have B0:=Lib.hid b0
 have hmany:=h.many
 have hfew:=h.few
 have HZ:=Lib.hid (shard_n k (n:=m.length) (by omega))
 rw[hsd] at HZ
 have G:=h.good _ (List.getElem_mem hii)
 obtain⟨hUl,hUs⟩:=deals_small G.len G.keys hk60 P cl now (IntKind.i64.wrap (now+idle))
 rw[← hr] at hUl hUs
 have HAT:=Lib.hid (atM_in hii)
 have HD:=Lib.hid (fun W (hb:Below w.heap.size w W)=>Decide_told m[ii].p m[ii].c m[ii].T pa pc P k W cl now idle (G.lies.kept hb) (h.pool.kept hb) hkn (fun y hy=>by have:=G.keys y hy; omega) G.len (by omega))
 rw[← hr] at HD
 have hxn:=G.small
 clear hr
 obtain⟨U,y⟩:=r
 have GL:=Lib.hid G.lies
 generalize m[ii]=x at *
 clear G hP hK hC h a0 b0
 go_enter Tryz.func83,Tryz.ntmps83
 go_wp2_with fail
 refine CP.out.mono ?_
 rintro e w1 ⟨rfl,hb⟩
 have al:=(Below.refl w1.heap.size w1).alloc (Nat.le_refl _) (.cells (pktC V sx sy F T p fl) 81)
 have A1:=Lib.hid ((A0.out.kept hb).kept al)
 have B1:=Lib.hid (below2 (below2 B0.out hb) al)
 have PB:=Lib.hid (World.alloc_heap_new w1 (.cells (pktC V sx sy F T p fl) 81))
 obtain⟨p0,p1,p2,p3,p4,p5,p6⟩:=pkt_cells PB.out
 have CK:=Lib.hid (HK.out (w1.alloc (.cells (pktC V sx sy F T p fl) 81)))
 have hlt1:w.heap.size+1<w1.heap.size:=Nat.lt_of_lt_of_le (by omega) hb.size
 clear hb al CP A0 B0 c1 s0
 go_wp2_with fail
 refine CK.out.mono ?_
 rintro e w2 ⟨rfl,hb⟩
 have A2:=Lib.hid (A1.out.kept hb)
 have B2:=Lib.hid (below2 B1.out hb)
 have PB2:=Lib.hid ((hb.block w1.heap.size (heap_lt PB.out)).trans PB.out)
 obtain⟨⟨-,-,c2⟩,-⟩:=(HL.out.kept B2.out).cells
 have CS:=Lib.hid (Shard_told k (m.length:Nat) (wf_small _ (by omega)) w2 hkn)
 rw[HZ.out] at CS
 clear hb CK A1 B1 PB p0 p1 p2 p3 p4 p5 p6
 go_wp2_with fail
 refine CS.out.mono ?_
 rintro e w3 ⟨rfl,hb⟩
 have A3:=Lib.hid (A2.out.kept hb)
 have B3:=Lib.hid (below2 B2.out hb)
 have PB3:=Lib.hid ((hb.block w1.heap.size (heap_lt PB2.out)).trans PB2.out)
 have CA:=Lib.hid (at_told (ii:Nat) w3 (HL.out.kept B3.out))
 rw[HAT.out] at CA
 clear hb CS A2 B2 PB2 c2
 go_wp2_with fail
 refine CA.out.mono ?_
 rintro e w4 ⟨rfl,hb⟩
 obtain⟨bs,s1',s2'⟩:=shard_box w4 x
 have A5:=Lib.hid ((A3.out.kept hb).kept bs)
 have B5:=Lib.hid (below2 (below2 B3.out hb) bs)
 have PB5:=Lib.hid (((below2 hb bs).block w1.heap.size (heap_lt PB3.out)).trans PB3.out)
 have s1:=s1'
 have s2:=s2'
 have nS:w4.heap.size≠w.heap.size+1:=by have:=Nat.lt_of_lt_of_le (heap_lt A3.out) hb.size; omega
 clear hb bs CA A3 B3 PB3 s1' s2'
 obtain⟨⟨c0,c1,-⟩,-⟩:=(HL.out.kept B5.out).cells
 obtain⟨p0,p1,p2,p3,p4,p5,p6⟩:=pkt_cells PB5.out
 go_wp2_with fail
 generalize hW5:w4.alloc (.cells #[rowV x.p x.c x.T,.int .i64 (x.n:Nat)] 92)=W5 at *
 generalize hhs:w4.heap.size=hs at *
 generalize hhp:w1.heap.size=hp at *
 clear hW5 hhs hhp
 have HD5:=Lib.hid (fun W (hb:Below W5.heap.size W5 W)=>HD.out W (below2 B5.out hb))
 clear HD
 have HD:=HD5
 clear HD5
 refine wp_region_new (disV f idle pa pc P hs x V sx sy F T p fl k cl now U y) 20 18 15 39 (ansC ⟨0,0,false,0⟩) 60 (disV_kept f idle pa pc P hs x V sx sy F T p fl k cl now U y) (disV_turn f idle pa pc P hs x V sx sy F T p fl k cl now U y) (by kernel_rfl) (by kernel_rfl) (by kernel_rfl) rfl rfl (by kernel_rfl) (by kernel_rfl) ?make ?step ?store ?done (by decide)
 case make=>
  refine⟨_,rfl,rfl,fun a' w' K' hK=>?_⟩
  refine op_run (.pointer (some ⟨w'.heap.size,0,none⟩)) (w'.alloc (.cells (ansC ⟨0,0,false,0⟩) 39)) ?_ hK
  clear hK
  simp only[List.getElem_toArray,List.getElem_cons_zero,List.getElem_cons_succ,execOp]
  go_simp
 case step=>
  intro d a W i hlt hne hnb hall hI
  replace hlt:i<21:=hlt
  have b0:=hI.below
  obtain rfl | rfl | rfl | rfl | rfl | rfl | rfl | rfl | rfl | rfl | rfl | rfl | rfl | rfl | rfl | rfl | rfl | rfl | rfl:i=0∨i=1∨i=2∨i=3∨i=4∨i=5∨i=6∨i=7∨i=8∨i=9∨i=10∨i=11∨i=12∨i=13∨i=14∨i=15∨i=16∨i=17∨i=19:=by omega
  ·have e13:a.tmps[13]?.getD undef=.pointer (some ⟨hs,0,none⟩):=hI.old 13 (unwritten_of (by kernel_rfl) d)
   refine StepN.done rfl (wanted_free rfl) fun K hK=>?_
   refine op_run (.pointer (some ⟨hs,0,none⟩)) W ?_ (hK _ _ (Below.refl _ _) rfl)
   clear hall hI hK
   simp only[List.getElem_toArray,List.getElem_cons_zero,execOp,Act.eval]
   go_simp
  ·have e44:a.tmps[44]?.getD undef=.pointer (some ⟨hs,0,none⟩):=hI.val 0 44 rfl (hall 0 (by kernel_rfl)) (by decide)
   have k_s1:=(b0.cell (p:=⟨hs,0,none⟩) (World.block_lt_of_cell? _ _ s1)).trans s1
   refine StepN.done rfl (wanted_free rfl) fun K hK=>?_
   refine op_run (rowV x.p x.c x.T) W ?_ (hK _ _ (Below.refl _ _) rfl)
   clear hall hI hK
   simp only[List.getElem_toArray,List.getElem_cons_zero,List.getElem_cons_succ,execOp,Act.eval]
   go_simp
  ·have e0:a.tmps[0]?.getD undef=.pointer (some ⟨f.p,0,none⟩):=hI.old 0 (unwritten_of (by kernel_rfl) d)
   refine StepN.done rfl (wanted_free rfl) fun K hK=>?_
   exact op_move rfl (hK _ _ (Below.refl _ _) e0)
  ·have e46:a.tmps[46]?.getD undef=.pointer (some ⟨f.p,0,none⟩):=hI.val 2 46 rfl (hall 2 (by kernel_rfl)) (by decide)
   refine StepN.done rfl (wanted_free rfl) fun K hK=>?_
   refine op_run (.pointer (some ⟨f.p,0,none⟩)) W ?_ (hK _ _ (Below.refl _ _) rfl)
   clear hall hI hK
   simp only[List.getElem_toArray,List.getElem_cons_zero,List.getElem_cons_succ,execOp,Act.eval]
   go_simp
  ·have e47:a.tmps[47]?.getD undef=.pointer (some ⟨f.p,0,none⟩):=hI.val 3 47 rfl (hall 3 (by kernel_rfl)) (by decide)
   refine StepN.done rfl (wanted_free rfl) fun K hK=>?_
   refine op_run (.pointer (some ⟨f.p,1,none⟩)) W ?_ (hK _ _ (Below.refl _ _) rfl)
   clear hall hI hK
   simp only[List.getElem_toArray,List.getElem_cons_zero,List.getElem_cons_succ,execOp,Act.eval]
   go_simp
  ·have e48:a.tmps[48]?.getD undef=.pointer (some ⟨f.p,1,none⟩):=hI.val 4 48 rfl (hall 4 (by kernel_rfl)) (by decide)
   have k_c1:=(b0.cell (p:=⟨f.p,1,none⟩) (World.block_lt_of_cell? _ _ c1)).trans c1
   refine StepN.done rfl (wanted_free rfl) fun K hK=>?_
   refine op_run (polV pa pc P) W ?_ (hK _ _ (Below.refl _ _) rfl)
   clear hall hI hK
   simp only[List.getElem_toArray,List.getElem_cons_zero,List.getElem_cons_succ,execOp,Act.eval]
   go_simp
  ·have e10:a.tmps[10]?.getD undef=.string k:=hI.old 10 (unwritten_of (by kernel_rfl) d)
   refine StepN.done rfl (wanted_free rfl) fun K hK=>?_
   exact op_move rfl (hK _ _ (Below.refl _ _) e10)
  ·have e8:a.tmps[8]?.getD undef=.pointer (some ⟨hp,0,none⟩):=hI.old 8 (unwritten_of (by kernel_rfl) d)
   have k_p0:=(b0.cell (p:=⟨hp,0,none⟩) (World.block_lt_of_cell? _ _ p0)).trans p0
   have k_p1:=(b0.cell (p:=⟨hp,1,none⟩) (World.block_lt_of_cell? _ _ p1)).trans p1
   have k_p2:=(b0.cell (p:=⟨hp,2,none⟩) (World.block_lt_of_cell? _ _ p2)).trans p2
   have k_p3:=(b0.cell (p:=⟨hp,3,none⟩) (World.block_lt_of_cell? _ _ p3)).trans p3
   have k_p4:=(b0.cell (p:=⟨hp,4,none⟩) (World.block_lt_of_cell? _ _ p4)).trans p4
   have k_p5:=(b0.cell (p:=⟨hp,5,none⟩) (World.block_lt_of_cell? _ _ p5)).trans p5
   have k_p6:=(b0.cell (p:=⟨hp,6,none⟩) (World.block_lt_of_cell? _ _ p6)).trans p6
   refine StepN.done rfl (wanted_free rfl) fun K hK=>?_
   refine op_run (.agg #[.int .i64 V,.string sx,.string sy,.int .i64 F,.int .i64 T,.int .i64 p,.int .i64 fl]) W ?_ (hK _ _ (Below.refl _ _) rfl)
   clear hall hI hK
   simp only[List.getElem_toArray,List.getElem_cons_zero,List.getElem_cons_succ,execOp,Act.eval]
   go_simp
  ·have e51:a.tmps[51]?.getD undef=.agg #[.int .i64 V,.string sx,.string sy,.int .i64 F,.int .i64 T,.int .i64 p,.int .i64 fl]:=hI.val 7 51 rfl (hall 7 (by kernel_rfl)) (by decide)
   refine StepN.done rfl (wanted_free rfl) fun K hK=>?_
   refine op_call 131 #[Pkt.pktV V sx sy F T p fl] (fun v W2=>v=.bool cl∧Below W.heap.size W W2) ?_ ((HC.out W).mono fun e W2 ⟨he,hb⟩=>⟨_,he,rfl,hb⟩) (fun v W2 ⟨h1,h2⟩=>hK v W2 h2 h1)
   clear hall hI hK
   simp only[List.getElem_toArray,List.getElem_cons_zero,List.getElem_cons_succ,execOp]
   go_simp
  ·have e2:a.tmps[2]?.getD undef=.int .i64 now:=hI.old 2 (unwritten_of (by kernel_rfl) d)
   refine StepN.done rfl (wanted_free rfl) fun K hK=>?_
   exact op_move rfl (hK _ _ (Below.refl _ _) e2)
  ·have e0:a.tmps[0]?.getD undef=.pointer (some ⟨f.p,0,none⟩):=hI.old 0 (unwritten_of (by kernel_rfl) d)
   refine StepN.done rfl (wanted_free rfl) fun K hK=>?_
   exact op_move rfl (hK _ _ (Below.refl _ _) e0)
  ·have e54:a.tmps[54]?.getD undef=.pointer (some ⟨f.p,0,none⟩):=hI.val 10 54 rfl (hall 10 (by kernel_rfl)) (by decide)
   refine StepN.done rfl (wanted_free rfl) fun K hK=>?_
   refine op_run (.pointer (some ⟨f.p,0,none⟩)) W ?_ (hK _ _ (Below.refl _ _) rfl)
   clear hall hI hK
   simp only[List.getElem_toArray,List.getElem_cons_zero,List.getElem_cons_succ,execOp,Act.eval]
   go_simp
  ·have e55:a.tmps[55]?.getD undef=.pointer (some ⟨f.p,0,none⟩):=hI.val 11 55 rfl (hall 11 (by kernel_rfl)) (by decide)
   refine StepN.done rfl (wanted_free rfl) fun K hK=>?_
   refine op_run (.pointer (some ⟨f.p,0,none⟩)) W ?_ (hK _ _ (Below.refl _ _) rfl)
   clear hall hI hK
   simp only[List.getElem_toArray,List.getElem_cons_zero,List.getElem_cons_succ,execOp,Act.eval]
   go_simp
  ·have e56:a.tmps[56]?.getD undef=.pointer (some ⟨f.p,0,none⟩):=hI.val 12 56 rfl (hall 12 (by kernel_rfl)) (by decide)
   have k_c0:=(b0.cell (p:=⟨f.p,0,none⟩) (World.block_lt_of_cell? _ _ c0)).trans c0
   refine StepN.done rfl (wanted_free rfl) fun K hK=>?_
   refine op_run (.int .i64 idle) W ?_ (hK _ _ (Below.refl _ _) rfl)
   clear hall hI hK
   simp only[List.getElem_toArray,List.getElem_cons_zero,List.getElem_cons_succ,execOp,Act.eval]
   go_simp
  ·have e45:a.tmps[45]?.getD undef=rowV x.p x.c x.T:=hI.val 1 45 rfl (hall 1 (by kernel_rfl)) (by decide)
   have e49:a.tmps[49]?.getD undef=polV pa pc P:=hI.val 5 49 rfl (hall 5 (by kernel_rfl)) (by decide)
   have e50:a.tmps[50]?.getD undef=.string k:=hI.val 6 50 rfl (hall 6 (by kernel_rfl)) (by decide)
   have e52:a.tmps[52]?.getD undef=.bool cl:=hI.val 8 52 rfl (hall 8 (by kernel_rfl)) (by decide)
   have e53:a.tmps[53]?.getD undef=.int .i64 now:=hI.val 9 53 rfl (hall 9 (by kernel_rfl)) (by decide)
   have e57:a.tmps[57]?.getD undef=.int .i64 idle:=hI.val 13 57 rfl (hall 13 (by kernel_rfl)) (by decide)
   have CD:=HD.out W b0
   refine StepN.done rfl (wanted_free rfl) fun K hK=>?_
   refine op_call 24 #[rowV x.p x.c x.T,polV pa pc P,.string k,.bool cl,.int .i64 now,.int .i64 idle] (fun v W2=>(∃ u,v=.tuple #[u,ansV y]∧TabIs W2 u U)∧Below W.heap.size W W2) ?_ (CD.mono fun e W2 ⟨u,he,hu,hb⟩=>⟨_,he,⟨u,rfl,hu⟩,hb⟩) (fun v W2 ⟨h1,h2⟩=>hK v W2 h2 h1)
   clear hall hI hK CD
   simp only[List.getElem_toArray,List.getElem_cons_zero,List.getElem_cons_succ,execOp]
   go_simp
  ·have f58:=hI.val 14 58 rfl (hall 14 (by kernel_rfl)) (by decide)
   refine StepN.done rfl (wanted_free rfl) fun K hK=>?_
   exact op_move rfl (hK _ _ (Below.refl _ _) f58)
  ·have f43:=hI.val 15 43 rfl (hall 15 (by kernel_rfl)) (by decide)
   obtain⟨u,e43,h1⟩:∃ u,a.tmps[43]?.getD undef=.tuple #[u,ansV y]∧TabIs W u U:=f43
   refine StepN.done rfl (wanted_free rfl) fun K hK=>?_
   refine op_run (u) W ?_ (hK _ _ (Below.refl _ _) h1)
   clear hall hI hK h1
   simp only[List.getElem_toArray,List.getElem_cons_zero,List.getElem_cons_succ,execOp,Act.eval]
   go_simp
  ·have f43:=hI.val 15 43 rfl (hall 15 (by kernel_rfl)) (by decide)
   obtain⟨u,e43,h1⟩:∃ u,a.tmps[43]?.getD undef=.tuple #[u,ansV y]∧TabIs W u U:=f43
   refine StepN.done rfl (wanted_free rfl) fun K hK=>?_
   refine op_run (ansV y) W ?_ (hK _ _ (Below.refl _ _) rfl)
   clear hall hI hK h1
   simp only[List.getElem_toArray,List.getElem_cons_zero,List.getElem_cons_succ,execOp,Act.eval]
   go_simp
  ·have f59:=hI.val 16 59 rfl (hall 16 (by kernel_rfl)) (by decide)
   refine StepN.done rfl (wanted_free rfl) fun K hK=>?_
   exact op_assign rfl (hK _ _ (Below.refl _ _) f59)
 case store=>
  intro d a W b hall e15 hb0 hI
  have e60:a.tmps[60]?.getD undef=ansV y:=hI.val 17 60 rfl (hall 17 (by kernel_rfl)) (by decide)
  clear hI
  obtain⟨⟨z0,z1,z2,z3⟩,fr⟩:=(show AnsBox W b ⟨0,0,false,0⟩ from hb0).cells
  have f0:=fr 0
  have f1:=fr 1
  have f2:=fr 2
  have f3:=fr 3
  clear fr
  refine⟨_,rfl,wanted_free rfl,fun K hK=>?_⟩
  have hs:=hK _ (show Stored b 39 (a.tmps[60]?.getD undef).cells W _ from by rw[e60]; exact stored4 hb0 (.int .i64 y.err) (.int .i64 y.backend) (.bool y.made) (.int .i64 y.count))
  clear hK
  unfold Oper.wp
  simp only[List.getElem_toArray,List.getElem_cons_zero,List.getElem_cons_succ,execOp]
  go_simp
  exact hs
 case done=>
  intro a w7 hI
  have e60:a.tmps[60]?.getD undef=ansV y:=hI.val 17 60 rfl rfl (by decide)
  obtain⟨bA,e15,hbA,d15⟩:=hI.box rfl
  rw[if_pos rfl,e60] at d15
  obtain⟨av,cv,e14,hU⟩:TabIs w7 (a.tmps[14]?.getD undef) U:=hI.val 19 14 rfl rfl (by decide)
  have b7:=hI.below
  have D7:=Lib.hid (show AnsBox w7 bA y from d15)
  have A7:=Lib.hid (A5.out.kept b7)
  have B7:=Lib.hid (below2 B5.out b7)
  have U7:=Lib.hid hU
  have nA:bA≠w.heap.size+1:=by have:=heap_lt A5.out; omega
  have s2w:=(b7.cell (p:=⟨hs,1,none⟩) (World.block_lt_of_cell? _ _ s2)).trans s2
  obtain⟨t,df⟩:=a
  obtain rfl:df=[]:=hI.defs
  have hz:t.size=68:=hI.size
  obtain⟨e0,e1,e2,e3,e4,e5,e6,e7,e8,e9,e10,e11,e12,e13,e16,e17,e18,e19,e20,e21,e22,e23,e24,e25,e26,e27,e28,e29,e30,e31,e32,e33,e34,e35,e36,e37,e38,e39,e40,e41,e42,e61,e62,e63,e64,e65,e66,e67,-⟩:=olds hI.old [0,1,2,3,4,5,6,7,8,9,10,11,12,13,16,17,18,19,20,21,22,23,24,25,26,27,28,29,30,31,32,33,34,35,36,37,38,39,40,41,42,61,62,63,64,65,66,67] (by kernel_rfl)
  clear hI hU d15 hbA e60 b7 s1 s2 c0 c1 p0 p1 p2 p3 p4 p5 p6
  simp only[List.getElem?_toArray,List.getElem?_cons_succ,List.getElem?_cons_zero,Option.getD_some] at e0 e1 e2 e3 e4 e5 e6 e7 e8 e9 e10 e11 e12 e13 e16 e17 e18 e19 e20 e21 e22 e23 e24 e25 e26 e27 e28 e29 e30 e31 e32 e33 e34 e35 e36 e37 e38 e39 e40 e41 e42 e61 e62 e63 e64 e65 e66 e67
  obtain⟨ys,hy,ht⟩:=arr_slots t 68 hz
  have hl2:(slotsFrom ys 0 68).toArray=#[ys 0,ys 1,ys 2,ys 3,ys 4,ys 5,ys 6,ys 7,ys 8,ys 9,ys 10,ys 11,ys 12,ys 13,ys 14,ys 15,ys 16,ys 17,ys 18,ys 19,ys 20,ys 21,ys 22,ys 23,ys 24,ys 25,ys 26,ys 27,ys 28,ys 29,ys 30,ys 31,ys 32,ys 33,ys 34,ys 35,ys 36,ys 37,ys 38,ys 39,ys 40,ys 41,ys 42,ys 43,ys 44,ys 45,ys 46,ys 47,ys 48,ys 49,ys 50,ys 51,ys 52,ys 53,ys 54,ys 55,ys 56,ys 57,ys 58,ys 59,ys 60,ys 61,ys 62,ys 63,ys 64,ys 65,ys 66,ys 67]:=rfl
  rw[hy] at e0 e1 e2 e3 e4 e5 e6 e7 e8 e9 e10 e11 e12 e13 e16 e17 e18 e19 e20 e21 e22 e23 e24 e25 e26 e27 e28 e29 e30 e31 e32 e33 e34 e35 e36 e37 e38 e39 e40 e41 e42 e61 e62 e63 e64 e65 e66 e67 e14 e15
  rw[ht,hl2,e0,e1,e2,e3,e4,e5,e6,e7,e8,e9,e10,e11,e12,e13,e16,e17,e18,e19,e20,e21,e22,e23,e24,e25,e26,e27,e28,e29,e30,e31,e32,e33,e34,e35,e36,e37,e38,e39,e40,e41,e42,e61,e62,e63,e64,e65,e66,e67,e14,e15]
  clear ht hl2 hz hy e0 e1 e2 e3 e4 e5 e6 e7 e8 e9 e10 e11 e12 e13 e16 e17 e18 e19 e20 e21 e22 e23 e24 e25 e26 e27 e28 e29 e30 e31 e32 e33 e34 e35 e36 e37 e38 e39 e40 e41 e42 e61 e62 e63 e64 e65 e66 e67 e14 e15
  have s2:=s2w
  clear s2w
  obtain⟨⟨a0,a1,a2,a3⟩,-⟩:=D7.out.cells
  obtain⟨g1,hg1⟩:∃ g1,w.heap.size+1=g1:=⟨_,rfl⟩
  rw[hg1] at A7 nA nS ⊢
  go_wp2_with fail
  refine wp_region_old (ditV g1 hs ii y x av cv U) 7 g1 39 (ansC ⟨0,0,false,0⟩) 61 (ditV_turn g1 hs ii y x av cv U) (by kernel_rfl) (by kernel_rfl) (by kernel_rfl) rfl (by kernel_rfl) A7.out ?step ?store ?done (by decide)
  case step=>
   intro d a W i hlt hne hall hI
   replace hlt:i<9:=hlt
   have b0:=hI.turned
   obtain rfl | rfl | rfl | rfl | rfl | rfl | rfl | rfl:i=0∨i=1∨i=2∨i=3∨i=4∨i=5∨i=6∨i=8:=by omega
   ·have e15:a.tmps[15]?.getD undef=.pointer (some ⟨bA,0,none⟩):=hI.old 15 (unwritten_of (by kernel_rfl) d)
    have k_a0:=b0.cell (a:=⟨bA,0,none⟩) a0 (nA)
    have k_a1:=b0.cell (a:=⟨bA,1,none⟩) a1 (nA)
    have k_a2:=b0.cell (a:=⟨bA,2,none⟩) a2 (nA)
    have k_a3:=b0.cell (a:=⟨bA,3,none⟩) a3 (nA)
    refine StepZ.done rfl (wanted_free rfl) fun K hK=>?_
    refine op_run (ansV y) W ?_ (hK _ _ (Below.refl _ _) rfl)
    clear hall hI hK
    simp only[List.getElem_toArray,List.getElem_cons_zero,execOp,Act.eval]
    go_simp
   ·have e12:a.tmps[12]?.getD undef=.int .i64 (ii:Nat):=hI.old 12 (unwritten_of (by kernel_rfl) d)
    refine StepZ.done rfl (wanted_free rfl) fun K hK=>?_
    exact op_move rfl (hK _ _ (Below.refl _ _) e12)
   ·have e14:a.tmps[14]?.getD undef=rowV av cv U:=hI.old 14 (unwritten_of (by kernel_rfl) d)
    refine StepZ.done rfl (wanted_free rfl) fun K hK=>?_
    exact op_move rfl (hK _ _ (Below.refl _ _) e14)
   ·have e13:a.tmps[13]?.getD undef=.pointer (some ⟨hs,0,none⟩):=hI.old 13 (unwritten_of (by kernel_rfl) d)
    refine StepZ.done rfl (wanted_free rfl) fun K hK=>?_
    refine op_run (.pointer (some ⟨hs,1,none⟩)) W ?_ (hK _ _ (Below.refl _ _) rfl)
    clear hall hI hK
    simp only[List.getElem_toArray,List.getElem_cons_zero,List.getElem_cons_succ,execOp,Act.eval]
    go_simp
   ·have e64:a.tmps[64]?.getD undef=.pointer (some ⟨hs,1,none⟩):=hI.val 3 64 rfl (hall 3 (by kernel_rfl))
    have k_s2:=b0.cell (a:=⟨hs,1,none⟩) s2 (nS)
    refine StepZ.done rfl (wanted_free rfl) fun K hK=>?_
    refine op_run (.int .i64 (x.n:Nat)) W ?_ (hK _ _ (Below.refl _ _) rfl)
    clear hall hI hK
    simp only[List.getElem_toArray,List.getElem_cons_zero,List.getElem_cons_succ,execOp,Act.eval]
    go_simp
   ·have e63:a.tmps[63]?.getD undef=rowV av cv U:=hI.val 2 63 rfl (hall 2 (by kernel_rfl))
    have e65:a.tmps[65]?.getD undef=.int .i64 (x.n:Nat):=hI.val 4 65 rfl (hall 4 (by kernel_rfl))
    refine StepZ.done rfl (wanted_free rfl) fun K hK=>?_
    refine op_run (shV ⟨av,cv,U,x.n⟩) W ?_ (hK _ _ (Below.refl _ _) rfl)
    clear hall hI hK
    simp only[List.getElem_toArray,List.getElem_cons_zero,List.getElem_cons_succ,execOp,Act.eval]
    go_simp
   ·have e62:a.tmps[62]?.getD undef=.int .i64 (ii:Nat):=hI.val 1 62 rfl (hall 1 (by kernel_rfl))
    have e66:a.tmps[66]?.getD undef=shV ⟨av,cv,U,x.n⟩:=hI.val 5 66 rfl (hall 5 (by kernel_rfl))
    refine StepZ.done rfl (wanted_free rfl) fun K hK=>?_
    have hle:=heap_lt hI.box
    have CU:=puts_told (ii:Nat) ⟨av,cv,U,x.n⟩ W
    refine op_call 132 #[.int .i64 (ii:Nat),shV ⟨av,cv,U,x.n⟩] (fun v W2=>(∃ b,v=putsV b∧Handed W2 b (ii:Nat) ⟨av,cv,U,x.n⟩∧g1<b)∧Below W.heap.size W W2) ?_ (CU.mono fun e W2 ⟨he,hh,hb⟩=>⟨_,he,⟨W.heap.size,rfl,hh,by omega⟩,hb⟩) (fun v W2 ⟨h1,h2⟩=>hK v W2 h2 h1)
    clear hall hI hK CU
    simp only[List.getElem_toArray,List.getElem_cons_zero,List.getElem_cons_succ,execOp]
    go_simp
   ·have f67:=hI.val 6 67 rfl (hall 6 (by kernel_rfl))
    refine StepZ.done rfl (wanted_free rfl) fun K hK=>?_
    exact op_assign rfl (hK _ _ (Below.refl _ _) f67)
  case store=>
   intro d a W hd hall hI
   have e61:a.tmps[61]?.getD undef=ansV y:=hI.val 0 61 rfl (hall 0 (by kernel_rfl))
   have hbx:=hI.box
   rw[hd] at hbx
   have e6:a.tmps[6]?.getD undef=.pointer (some ⟨g1,0,none⟩):=hI.old 6 (unwritten_of (by kernel_rfl) d)
   clear hI
   obtain⟨⟨z0,z1,z2,z3⟩,fr⟩:=(show AnsBox W g1 ⟨0,0,false,0⟩ from hbx).cells
   have f0:=fr 0
   have f1:=fr 1
   have f2:=fr 2
   have f3:=fr 3
   clear fr
   refine⟨_,rfl,wanted_free rfl,fun K hK=>?_⟩
   have hs:=hK _ (show Stored g1 39 (a.tmps[61]?.getD undef).cells W _ from by rw[e61]; exact stored4 hbx (.int .i64 y.err) (.int .i64 y.backend) (.bool y.made) (.int .i64 y.count))
   clear hK
   unfold Oper.wp
   simp only[List.getElem_toArray,List.getElem_cons_zero,List.getElem_cons_succ,execOp]
   go_simp
   exact hs
  case done=>
   intro a w8 hI
   have e61:a.tmps[61]?.getD undef=ansV y:=hI.val 0 61 rfl rfl
   obtain⟨b,e7,hH,hgb⟩:∃ b,a.tmps[7]?.getD undef=putsV b∧Handed w8 b (ii:Nat) ⟨av,cv,U,x.n⟩∧g1<b:=hI.val 8 7 rfl rfl
   have hbx:=hI.box
   rw[if_pos rfl,e61] at hbx
   have ht:=hI.turned
   have B8:=Lib.hid (ht.below B7.out B7.out.size fun k hk=>by rw[show k=g1 from hk]; omega)
   have L8:=Lib.hid (ht.lies U7.out fun hn b off e=>Mod.tab_apart A7.out U7.out hn b off e)
   have A8:=Lib.hid (show AnsBox w8 g1 y from hbx)
   have H8:=Lib.hid hH
   obtain⟨t,df⟩:=a
   obtain rfl:df=[]:=hI.defs
   have hz:t.size=68:=hI.size
   obtain⟨e0,e1,e2,e3,e4,e5,e6,e8,e9,e10,e11,e12,e13,e14,e15,e16,e17,e18,e19,e20,e21,e22,e23,e24,e25,e26,e27,e28,e29,e30,e31,e32,e33,e34,e35,e36,e37,e38,e39,e40,e41,e42,e43,e44,e45,e46,e47,e48,e49,e50,e51,e52,e53,e54,e55,e56,e57,e58,e59,e60,-⟩:=olds hI.old [0,1,2,3,4,5,6,8,9,10,11,12,13,14,15,16,17,18,19,20,21,22,23,24,25,26,27,28,29,30,31,32,33,34,35,36,37,38,39,40,41,42,43,44,45,46,47,48,49,50,51,52,53,54,55,56,57,58,59,60] (by kernel_rfl)
   clear hI hH hbx ht e61 a0 a1 a2 a3 s2
   simp only[List.getElem?_toArray,List.getElem?_cons_succ,List.getElem?_cons_zero,Option.getD_some] at e0 e1 e2 e3 e4 e5 e6 e8 e9 e10 e11 e12 e13 e14 e15 e16 e17 e18 e19 e20 e21 e22 e23 e24 e25 e26 e27 e28 e29 e30 e31 e32 e33 e34 e35 e36 e37 e38 e39 e40 e41 e42 e43 e44 e45 e46 e47 e48 e49 e50 e51 e52 e53 e54 e55 e56 e57 e58 e59 e60
   obtain⟨ys,hy,ht⟩:=arr_slots t 68 hz
   have hl2:(slotsFrom ys 0 68).toArray=#[ys 0,ys 1,ys 2,ys 3,ys 4,ys 5,ys 6,ys 7,ys 8,ys 9,ys 10,ys 11,ys 12,ys 13,ys 14,ys 15,ys 16,ys 17,ys 18,ys 19,ys 20,ys 21,ys 22,ys 23,ys 24,ys 25,ys 26,ys 27,ys 28,ys 29,ys 30,ys 31,ys 32,ys 33,ys 34,ys 35,ys 36,ys 37,ys 38,ys 39,ys 40,ys 41,ys 42,ys 43,ys 44,ys 45,ys 46,ys 47,ys 48,ys 49,ys 50,ys 51,ys 52,ys 53,ys 54,ys 55,ys 56,ys 57,ys 58,ys 59,ys 60,ys 61,ys 62,ys 63,ys 64,ys 65,ys 66,ys 67]:=rfl
   rw[hy] at e0 e1 e2 e3 e4 e5 e6 e8 e9 e10 e11 e12 e13 e14 e15 e16 e17 e18 e19 e20 e21 e22 e23 e24 e25 e26 e27 e28 e29 e30 e31 e32 e33 e34 e35 e36 e37 e38 e39 e40 e41 e42 e43 e44 e45 e46 e47 e48 e49 e50 e51 e52 e53 e54 e55 e56 e57 e58 e59 e60 e7
   rw[ht,hl2,e0,e1,e2,e3,e4,e5,e6,e8,e9,e10,e11,e12,e13,e14,e15,e16,e17,e18,e19,e20,e21,e22,e23,e24,e25,e26,e27,e28,e29,e30,e31,e32,e33,e34,e35,e36,e37,e38,e39,e40,e41,e42,e43,e44,e45,e46,e47,e48,e49,e50,e51,e52,e53,e54,e55,e56,e57,e58,e59,e60,e7]
   clear ht hl2 hz hy e0 e1 e2 e3 e4 e5 e6 e8 e9 e10 e11 e12 e13 e14 e15 e16 e17 e18 e19 e20 e21 e22 e23 e24 e25 e26 e27 e28 e29 e30 e31 e32 e33 e34 e35 e36 e37 e38 e39 e40 e41 e42 e43 e44 e45 e46 e47 e48 e49 e50 e51 e52 e53 e54 e55 e56 e57 e58 e59 e60 e7
   obtain⟨⟨z0,z1,z2,z3⟩,-⟩:=A8.out.cells
   go_wp2_with fail
   refine bodyPost_ret (v:=.tuple #[ansV y,putsV b]) ?q1 rfl ?q2
   case q1=>
    simp only[results,Tryz.results83]
    simp[go_sem,z0,z1,z2,z3]
   case q2=>exact⟨_,rfl,⟨b,⟨av,cv,U,x.n⟩,rfl,H8.out,⟨L8.out,hUl,hUs,hxn⟩,rfl,rfl⟩,B8.out⟩
end
end Go.Proofs.YtbamodkgagcmnaaGreat.Mdl
