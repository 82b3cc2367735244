/-
  Package model: Do, kind by kind, given what each kind tells.
-/
import Derived.Test.YtbamodkgagcmnaaGreatMdlGE
set_option maxRecDepth 100000
namespace Go.Proofs.YtbamodkgagcmnaaGreat.Mdl
open Go.RowKit Go.Shelf RowG Trn Rgn
open Pol (polV)
open Prb (home)
open Go.Proofs.YtbamodkgagcmnaaGreat.Mod (Bk Mo Ans ansV ansC AnsBox putAns TabIs opV opC)
attribute [local go_sem] Oper.semAt_some
theorem PutsIs.kept {i:Nat} {T:List Tab.Ent} {n:Nat} {W W':World} {v:Value} (h:PutsIs i T n W v) (hb:Below W.heap.size W W'):PutsIs i T n W' v:=by
 obtain⟨b,x,e,h1,h2,h3,h4⟩:=h
 exact⟨b,x,e,h1.kept hb,h2.kept hb,h3,h4⟩
theorem good_turned {W W':World} {g:Nat} {y:Ans} {x:ShM} (h:x.Good W) (hA:AnsBox W g y) (ht:Turned (· =g) W W'):x.Good W':=
 ⟨ht.lies h.lies fun hn b off e=>Mod.tab_apart hA h.lies hn b off e,h.len,h.keys,h.small⟩
theorem PutsIs.turned {i:Nat} {T:List Tab.Ent} {n g:Nat} {y:Ans} {W W':World} {v:Value} (h:PutsIs i T n W v) (hA:AnsBox W g y) (ht:Turned (· =g) W W'):PutsIs i T n W' v:=by
 obtain⟨b,x,e,h1,h2,h3,h4⟩:=h
 obtain⟨n0,n1⟩:=h1.apart hA
 exact⟨b,x,e,h1.turned ht n0 n1,good_turned h2 hA ht,h3,h4⟩
theorem UpdIs.kept {B:Nat} {z:List Bk} {W W':World} {v:Value} (h:UpdIs B z W v) (hb:Below W.heap.size W W'):UpdIs B z W' v:=by
 obtain⟨b,u,e,h1,h2⟩:=h
 exact⟨b,u,e,(hb.block b (heap_lt h1)).trans h1,h2.kept hb⟩
theorem UpdIs.turned {B g:Nat} {y:Ans} {z:List Bk} {W W':World} {v:Value} (h:UpdIs B z W v) (hA:AnsBox W g y) (ht:Turned (· =g) W W'):UpdIs B z W' v:=by
 obtain⟨b,u,e,h1,h2⟩:=h
 have hn:b≠g:=fun e'=>by
  subst e'
  unfold AnsBox at hA
  rw[hA] at h1; cases h1
 exact⟨b,u,e,(ht.rest b (heap_lt h1) hn).trans h1,own_turned h2 hA ht⟩
section
variable {f:Foot} {idle:Int} {pa:Option Addr} {pc:Nat} {P:List Bk} {sc:Nat} {m:List ShM}
theorem Lay.beyond {W W':World} {g:Nat} {y:Ans} (h:Lay W f idle pa pc P sc m) (hA:AnsBox W g y) (ht:Turned (· =g) W W') (h1:f.p≠g) (h2:f.g≠g) (hp:P≠[]→∀ b off,pa=some ⟨b,off,none⟩→b≠g):Lay W' f idle pa pc P sc m:=by
 have e:W'.heap[f.g]? =W.heap[f.g]? :=ht.rest f.g h.row.lt h2
 have cell:∀ k,W'.cell? ⟨f.g,k,none⟩=W.cell? ⟨f.g,k,none⟩:=fun k=>World.cell?_of_block (w:=W) e
 exact⟨(ht.rest f.p (heap_lt h.box) h1).trans h.box,row_turned h.row e,fun k v hv=>h.even k v (by rwa [cell] at hv),fun k v hv=>h.odd k v (by rwa [cell] at hv),pol_turned ht h.pool hp,h.few,fun x hx=>good_turned (h.good x hx) hA ht,h.many,h.ne⟩
theorem turned_end {S:Nat→Prop} {w W7 W8 W9:World} {g:Nat} (hb:Below w.heap.size w W7) (ht:Turned S W7 W8) (h9:Turned (· =g) W8 W9) (hg:w.heap.size≤g):Turned S w W9:=
 ⟨h9.os.trans (ht.os.trans hb.os),h9.tape.trans (ht.tape.trans hb.tape),h9.output.trans (ht.output.trans hb.output),Nat.le_trans hb.size (Nat.le_trans ht.size h9.size),fun k hk hn=>by
   have hk7:=Nat.lt_of_lt_of_le hk hb.size
   rw[h9.rest k (Nat.lt_of_lt_of_le hk7 ht.size) (by omega),ht.rest k hk7 hn,hb.block k hk]⟩
theorem pool_lt {W:World} {a:Option Addr} {cap:Nat} {z:List Bk} (hl:Pol.Lies W a cap z) (hn:z≠[]) {b off:Nat} (e:a=some ⟨b,off,none⟩):b<W.heap.size:=by
 obtain⟨b',off',e',hc⟩:=hl.cell hn
 rw[e] at e'; cases e'
 cases z with
 | nil=>exact absurd rfl hn
 | cons x z=>exact World.block_lt_of_cell? W _ (hc 0 x rfl).1
theorem own_ne {B g:Nat} {W:World} {a:Option Addr} {cap:Nat} {z:List Bk} {cs:Array Value} (h:Pol.Own B W (polV a cap z) z) (hg:W.heap[g]? =some (.cells cs 39 (0,0))) (b off:Nat) (e:a=some ⟨b,off,none⟩):b≠g:=by
 rcases h.2 with⟨h0,_⟩ | ⟨g',cap',cur,hv,hb,hg',r⟩
 ·simp only[Value.slice.injEq] at h0
  rw[h0.1] at e; cases e
 ·simp only[Value.slice.injEq] at hv
  rw[hv.1] at e; cases e
  intro e'
  rw[e',hg] at hg'
  cases hg'
set_option maxHeartbeats 1000000 in
theorem do_other (w:World) (kd:Int) (pkt:ByteArray) (oa:Option Addr) (on oc:Nat) (sh now:Int) (hk:kd<0∨4≤kd):
 Calls Tryz.prog 17 #[f.v,opV kd pkt oa on oc sh,.int .i64 now] w fun e W'=>e=.returned (ansV ⟨1,0,false,0⟩)∧Below w.heap.size w W':=by
 obtain⟨⟨c0,-,-,-⟩,a0,b0,s0⟩:=op_boxes w kd pkt oa on oc sh
 have CP:=Lib.hid (deeds_told ((w.alloc (.cells (opC kd pkt oa on oc sh) 42)).alloc (.cells (ansC ⟨0,0,false,0⟩) 39)))
 have A0:=Lib.hid a0
 have B0:=Lib.hid b0
 clear a0 b0
 rcases hk with hk | hk
 ·have d0:decide (kd<0)=true:=decide_eq_true hk
  go_enter Tryz.func17,Tryz.ntmps17
  go_wp2_with fail
  refine CP.out.mono ?_
  rintro r w1 ⟨rfl,hb⟩
  have al:=(Below.refl w1.heap.size w1).alloc (Nat.le_refl _) (.cells deedsC 98)
  have A1:=Lib.hid ((A0.out.kept hb).kept al)
  have A1b:=Lib.hid (A0.out.kept hb)
  have B1b:=Lib.hid (below2 B0.out hb)
  have hlt1:w.heap.size+1<w1.heap.size:=Nat.lt_of_lt_of_le (by omega) hb.size
  have o0:=((below2 hb al).cell (World.block_lt_of_cell? _ _ c0)).trans c0
  have k0:=(hb.cell (World.block_lt_of_cell? _ _ c0)).trans c0
  have hsz:(putAns w1 (w.heap.size+1) ⟨1,0,false,0⟩).heap.size=w1.heap.size:=by simp[putAns,World.setCell]
  have al2:=(Below.refl (putAns w1 (w.heap.size+1) ⟨1,0,false,0⟩).heap.size (putAns w1 (w.heap.size+1) ⟨1,0,false,0⟩)).alloc (Nat.le_refl _) (.cells deedsC 98)
  have A4:=Lib.hid ((A1b.out.put ⟨1,0,false,0⟩).kept al2)
  have B4:=Lib.hid (below2 (ans_below w1 B1b.out (show w.heap.size≤w.heap.size+1 by omega) ⟨1,0,false,0⟩) al2)
  obtain⟨⟨y0,y1,y2,y3⟩,fr⟩:=A1b.out.cells
  have f0:=fr 0
  have f1:=fr 1
  have f2:=fr 2
  have f3:=fr 3
  clear fr hb al al2 CP A0 B0 hsz c0
  go_wp2_with fail
  obtain⟨⟨z0,z1,z2,z3⟩,-⟩:=A4.out.cells
  unfold putAns at z0 z1 z2 z3
  clear y0 y1 y2 y3 f0 f1 f2 f3
  refine bodyPost_ret (v:=ansV ⟨1,0,false,0⟩) ?q1 rfl ?q2
  case q1=>
   simp only[results,Tryz.results17]
   simp[go_sem,z0,z1,z2,z3]
  case q2=>exact⟨rfl,B4.out⟩
 ·have d0:decide (kd<0)=false:=decide_eq_false (by omega)
  have d1:decide (4≤kd)=true:=decide_eq_true hk
  go_enter Tryz.func17,Tryz.ntmps17
  go_wp2_with fail
  refine CP.out.mono ?_
  rintro r w1 ⟨rfl,hb⟩
  have al:=(Below.refl w1.heap.size w1).alloc (Nat.le_refl _) (.cells deedsC 98)
  have A1:=Lib.hid ((A0.out.kept hb).kept al)
  have A1b:=Lib.hid (A0.out.kept hb)
  have B1b:=Lib.hid (below2 B0.out hb)
  have hlt1:w.heap.size+1<w1.heap.size:=Nat.lt_of_lt_of_le (by omega) hb.size
  have o0:=((below2 hb al).cell (World.block_lt_of_cell? _ _ c0)).trans c0
  have k0:=(hb.cell (World.block_lt_of_cell? _ _ c0)).trans c0
  have hsz:(putAns w1 (w.heap.size+1) ⟨1,0,false,0⟩).heap.size=w1.heap.size:=by simp[putAns,World.setCell]
  have al2:=(Below.refl (putAns w1 (w.heap.size+1) ⟨1,0,false,0⟩).heap.size (putAns w1 (w.heap.size+1) ⟨1,0,false,0⟩)).alloc (Nat.le_refl _) (.cells deedsC 98)
  have A4:=Lib.hid ((A1b.out.put ⟨1,0,false,0⟩).kept al2)
  have B4:=Lib.hid (below2 (ans_below w1 B1b.out (show w.heap.size≤w.heap.size+1 by omega) ⟨1,0,false,0⟩) al2)
  obtain⟨⟨y0,y1,y2,y3⟩,fr⟩:=A1b.out.cells
  have f0:=fr 0
  have f1:=fr 1
  have f2:=fr 2
  have f3:=fr 3
  clear fr hb al al2 CP A0 B0 hsz c0
  go_wp2_with fail
  obtain⟨⟨z0,z1,z2,z3⟩,-⟩:=A4.out.cells
  unfold putAns at z0 z1 z2 z3
  clear y0 y1 y2 y3 f0 f1 f2 f3
  refine bodyPost_ret (v:=ansV ⟨1,0,false,0⟩) ?r1 rfl ?r2
  case r1=>
   simp only[results,Tryz.results17]
   simp[go_sem,z0,z1,z2,z3]
  case r2=>exact⟨rfl,B4.out⟩
inductive Deed
  | non
  | puts (ii:Nat) (T:List Tab.Ent) (n:Nat)
  | updt (B:Nat) (z:List Bk)
  | stats
def Deed.U:Deed→World→Value→Prop
 | .non=>fun _ _=>True
 | .puts ii T n=>PutsIs ii T n
 | .updt B z=>UpdIs B z
 | .stats=>fun _ v=>v=fnV 135
theorem Deed.kept (D:Deed) {w w':World} {v:Value} (h:D.U w v) (hb:Below w.heap.size w w'):D.U w' v:=by
 cases D with
 | non=>trivial
 | puts ii T n=>exact PutsIs.kept h hb
 | updt B z=>exact UpdIs.kept h hb
 | stats=>exact h
theorem Deed.turned (D:Deed) {w w':World} {b:Nat} {y:Ans} {v:Value} (h:D.U w v) (hc:AnsBox w b y) (ht:Turned (· =b) w w'):D.U w' v:=by
 cases D with
 | non=>trivial
 | puts ii T n=>exact PutsIs.turned h hc ht
 | updt B z=>exact UpdIs.turned h hc ht
 | stats=>exact h
def Deed.Fits (m:List ShM) (y:Ans):Deed→Prop
 | .non=>y.err≠0
 | .puts ii _ _=>y.err=0∧ii<m.length
 | .updt _ z=>y.err=0∧z.length≤32
 | .stats=>y.err=0
def Deed.End (f:Foot) (idle:Int) (pa:Option Addr) (pc:Nat) (P:List Bk) (sc:Nat) (m:List ShM) (w W':World):Deed→Prop
 | .non=>Below w.heap.size w W'
 | .puts ii T n=>(∃ x:ShM,x.T=T∧x.n=n∧Lay W' f idle pa pc P sc (m.set ii x))∧Turned f.has w W'
 | .updt _ z=>(∃ pa' pc',Lay W' f idle pa' pc' z sc m)∧Turned f.has w W'
 | .stats=>Below w.heap.size w W'
def armV (f:Foot) (bo bd:Nat) (pkt:ByteArray) (oa:Option Addr) (on oc:Nat) (sh now:Int) (y:Ans) (kd:Int) (kn G:Nat) (D:Deed):Nat→World→Value→Prop
 | 0,_,v=>v=.pointer (some ⟨bo,0,none⟩)
 | 1,_,v=>v=.int .i64 kd
 | 2,_,v=>v=.pointer (some ⟨bd,kn,none⟩)
 | 3,_,v=>v=fnV G
 | 4,_,v=>v=.pointer (some ⟨f.p,0,none⟩)
 | 5,_,v=>v=.agg #[.int .i64 kd,.string pkt,.slice oa on oc,.int .i64 sh]
 | 6,_,v=>v=.int .i64 now
 | 7,w,v=>∃ u,v=.tuple #[ansV y,u]∧D.U w u
 | 8,w,v=>∃ u,v=.tuple #[ansV y,u]∧D.U w u
 | 9,_,v=>v=ansV y
 | 10,w,v=>D.U w v
 | 13,w,v=>D.U w v
 | _,_,_=>True
theorem armV_kept (f:Foot) (bo bd:Nat) (pkt:ByteArray) (oa:Option Addr) (on oc:Nat) (sh now:Int) (y:Ans) (kd:Int) (kn G:Nat) (D:Deed):∀ i w w' v,(armV f bo bd pkt oa on oc sh now y kd kn G D) i w v→Below w.heap.size w w'→(armV f bo bd pkt oa on oc sh now y kd kn G D) i w' v:=by
 intro i w w' v h hb
 match i with
 | 0=>exact h
 | 1=>exact h
 | 2=>exact h
 | 3=>exact h
 | 4=>exact h
 | 5=>exact h
 | 6=>exact h
 | 7=>
   obtain⟨u,e,h⟩:=h
   exact⟨u,e,D.kept h hb⟩
 | 8=>
   obtain⟨u,e,h⟩:=h
   exact⟨u,e,D.kept h hb⟩
 | 9=>exact h
 | 10=>
   exact D.kept h hb
 | 13=>
   exact D.kept h hb
 | 11=>trivial
 | 12=>trivial
 | i+14=>trivial
theorem armV_turn (f:Foot) (bo bd:Nat) (pkt:ByteArray) (oa:Option Addr) (on oc:Nat) (sh now:Int) (y:Ans) (kd:Int) (kn G:Nat) (D:Deed):∀ i w w' b v,(armV f bo bd pkt oa on oc sh now y kd kn G D) i w v→w.heap[b]? =some (.cells (ansC ⟨0,0,false,0⟩) 39 (0,0))→Turned (· =b) w w'→(armV f bo bd pkt oa on oc sh now y kd kn G D) i w' v:=by
 intro i w w' b v h hc ht
 match i with
 | 0=>exact h
 | 1=>exact h
 | 2=>exact h
 | 3=>exact h
 | 4=>exact h
 | 5=>exact h
 | 6=>exact h
 | 7=>
   obtain⟨u,e,h⟩:=h
   exact⟨u,e,D.turned h hc ht⟩
 | 8=>
   obtain⟨u,e,h⟩:=h
   exact⟨u,e,D.turned h hc ht⟩
 | 9=>exact h
 | 10=>
   exact D.turned h hc ht
 | 13=>
   exact D.turned h hc ht
 | 11=>trivial
 | 12=>trivial
 | i+14=>trivial
set_option maxHeartbeats 4000000 in
theorem do_arm (w:World) (h:Lay w f idle pa pc P sc m) (kd:Int) {kn G:Nat} (hk:(kd=0∧kn=0∧G=83)∨(kd=1∧kn=1∧G=84)∨(kd=2∧kn=2∧G=85)∨(kd=3∧kn=3∧G=86)) (pkt:ByteArray) (oa:Option Addr) (on oc:Nat) (sh now:Int) {y:Ans} (D:Deed) (hD:D.Fits m y)
 (hC:∀ W,Below w.heap.size w W→Calls Tryz.prog G #[f.v,opV kd pkt oa on oc sh,.int .i64 now] W (Told y D.U W)):
 Calls Tryz.prog 17 #[f.v,opV kd pkt oa on oc sh,.int .i64 now] w fun e W'=>e=.returned (ansV y)∧D.End f idle pa pc P sc m w W':=by
 obtain⟨⟨c0,c1,c2,c3⟩,a0,b0,s0⟩:=op_boxes w kd pkt oa on oc sh
 have CP:=Lib.hid (deeds_told ((w.alloc (.cells (opC kd pkt oa on oc sh) 42)).alloc (.cells (ansC ⟨0,0,false,0⟩) 39)))
 have HL:=Lib.hid h
 have HCw:=Lib.hid hC
 have A0:=Lib.hid a0
 have B0:=Lib.hid b0
 have lp:=heap_lt h.box
 have lg:=h.row.lt
 have HD:=Lib.hid hD
 have HKK:=Lib.hid hk
 have d0:decide (kd<0)=false:=decide_eq_false (by omega)
 have d1:decide (4≤kd)=false:=decide_eq_false (by omega)
 clear hD hk
 clear h hC a0 b0
 go_enter Tryz.func17,Tryz.ntmps17
 go_wp2_with fail
 refine CP.out.mono ?_
 rintro e w1 ⟨rfl,hb⟩
 have al:=(Below.refl w1.heap.size w1).alloc (Nat.le_refl _) (.cells deedsC 98)
 have A5:=Lib.hid ((A0.out.kept hb).kept al)
 have B5:=Lib.hid (below2 (below2 B0.out hb) al)
 have q0:(w1.alloc (.cells deedsC 98)).cell? ⟨w1.heap.size,kn,none⟩=some (fnV G):=by
  have:=World.alloc_heap_new w1 (.cells deedsC 98)
  unfold World.cell?
  rw[this]
  rcases HKK.out with⟨rfl,rfl,rfl⟩ | ⟨rfl,rfl,rfl⟩ | ⟨rfl,rfl,rfl⟩ | ⟨rfl,rfl,rfl⟩ <;> rfl
 have o0:=((below2 hb al).cell (World.block_lt_of_cell? _ _ c0)).trans c0
 have o1:=((below2 hb al).cell (World.block_lt_of_cell? _ _ c1)).trans c1
 have o2:=((below2 hb al).cell (World.block_lt_of_cell? _ _ c2)).trans c2
 have o3:=((below2 hb al).cell (World.block_lt_of_cell? _ _ c3)).trans c3
 clear hb al CP A0 B0 c0 c1 c2 c3
 go_wp2_with fail
 generalize hW5:w1.alloc (.cells deedsC 98)=W5 at *
 generalize hbd:w1.heap.size=bd at *
 clear hW5 hbd
 have HC:=Lib.hid (fun W (hb:Below W5.heap.size W5 W)=>HCw.out W (below2 B5.out hb))
 clear HCw
 refine wp_region_new (armV f w.heap.size bd pkt oa on oc sh now y kd kn G D) 12 11 8 39 (ansC ⟨0,0,false,0⟩) 29 (armV_kept f w.heap.size bd pkt oa on oc sh now y kd kn G D) (armV_turn f w.heap.size bd pkt oa on oc sh now y kd kn G D) (by kernel_rfl) (by kernel_rfl) (by kernel_rfl) rfl rfl (by kernel_rfl) (by kernel_rfl) ?make ?step ?store ?done (by decide)
 case make=>
  refine⟨_,rfl,rfl,fun a' w' K' hK=>?_⟩
  refine op_run (.pointer (some ⟨w'.heap.size,0,none⟩)) (w'.alloc (.cells (ansC ⟨0,0,false,0⟩) 39)) ?_ hK
  clear hK
  simp only[List.getElem_toArray,List.getElem_cons_zero,List.getElem_cons_succ,execOp]
  go_simp
 case step=>
  intro d a W i hlt hne hnb hall hI
  replace hlt:i<14:=hlt
  have b0:=hI.below
  obtain rfl | rfl | rfl | rfl | rfl | rfl | rfl | rfl | rfl | rfl | rfl | rfl:i=0∨i=1∨i=2∨i=3∨i=4∨i=5∨i=6∨i=7∨i=8∨i=9∨i=10∨i=13:=by omega
  ·have e4:a.tmps[4]?.getD undef=.pointer (some ⟨w.heap.size,0,none⟩):=hI.old 4 (unwritten_of (by kernel_rfl) d)
   refine StepN.done rfl (wanted_free rfl) fun K hK=>?_
   refine op_run (.pointer (some ⟨w.heap.size,0,none⟩)) W ?_ (hK _ _ (Below.refl _ _) rfl)
   clear hall hI hK
   simp only[List.getElem_toArray,List.getElem_cons_zero,execOp,Act.eval]
   go_simp
  ·have e21:a.tmps[21]?.getD undef=.pointer (some ⟨w.heap.size,0,none⟩):=hI.val 0 21 rfl (hall 0 (by kernel_rfl)) (by decide)
   have k_o0:=(b0.cell (p:=⟨w.heap.size,0,none⟩) (World.block_lt_of_cell? _ _ o0)).trans o0
   refine StepN.done rfl (wanted_free rfl) fun K hK=>?_
   refine op_run (.int .i64 kd) W ?_ (hK _ _ (Below.refl _ _) rfl)
   clear hall hI hK
   simp only[List.getElem_toArray,List.getElem_cons_zero,List.getElem_cons_succ,execOp,Act.eval]
   go_simp
  ·have e7:a.tmps[7]?.getD undef=.pointer (some ⟨bd,0,none⟩):=hI.old 7 (unwritten_of (by kernel_rfl) d)
   have e22:a.tmps[22]?.getD undef=.int .i64 kd:=hI.val 1 22 rfl (hall 1 (by kernel_rfl)) (by decide)
   refine StepN.done rfl (wanted_free rfl) fun K hK=>?_
   refine op_run (.pointer (some ⟨bd,kn,none⟩)) W ?_ (hK _ _ (Below.refl _ _) rfl)
   clear hall hI hK
   rcases HKK.out with⟨rfl,rfl,rfl⟩ | ⟨rfl,rfl,rfl⟩ | ⟨rfl,rfl,rfl⟩ | ⟨rfl,rfl,rfl⟩
   all_goals
    simp only[List.getElem_toArray,List.getElem_cons_zero,List.getElem_cons_succ,execOp,Act.eval]
    go_simp
  ·have e23:a.tmps[23]?.getD undef=.pointer (some ⟨bd,kn,none⟩):=hI.val 2 23 rfl (hall 2 (by kernel_rfl)) (by decide)
   have k_q0:=(b0.cell (p:=⟨bd,kn,none⟩) (World.block_lt_of_cell? _ _ q0)).trans q0
   refine StepN.done rfl (wanted_free rfl) fun K hK=>?_
   refine op_run (fnV G) W ?_ (hK _ _ (Below.refl _ _) rfl)
   clear hall hI hK
   simp only[List.getElem_toArray,List.getElem_cons_zero,List.getElem_cons_succ,execOp,Act.eval]
   go_simp
  ·have e0:a.tmps[0]?.getD undef=.pointer (some ⟨f.p,0,none⟩):=hI.old 0 (unwritten_of (by kernel_rfl) d)
   refine StepN.done rfl (wanted_free rfl) fun K hK=>?_
   exact op_move rfl (hK _ _ (Below.refl _ _) e0)
  ·have e4:a.tmps[4]?.getD undef=.pointer (some ⟨w.heap.size,0,none⟩):=hI.old 4 (unwritten_of (by kernel_rfl) d)
   have k_o0:=(b0.cell (p:=⟨w.heap.size,0,none⟩) (World.block_lt_of_cell? _ _ o0)).trans o0
   have k_o1:=(b0.cell (p:=⟨w.heap.size,1,none⟩) (World.block_lt_of_cell? _ _ o1)).trans o1
   have k_o2:=(b0.cell (p:=⟨w.heap.size,2,none⟩) (World.block_lt_of_cell? _ _ o2)).trans o2
   have k_o3:=(b0.cell (p:=⟨w.heap.size,3,none⟩) (World.block_lt_of_cell? _ _ o3)).trans o3
   refine StepN.done rfl (wanted_free rfl) fun K hK=>?_
   refine op_run (.agg #[.int .i64 kd,.string pkt,.slice oa on oc,.int .i64 sh]) W ?_ (hK _ _ (Below.refl _ _) rfl)
   clear hall hI hK
   simp only[List.getElem_toArray,List.getElem_cons_zero,List.getElem_cons_succ,execOp,Act.eval]
   go_simp
  ·have e2:a.tmps[2]?.getD undef=.int .i64 now:=hI.old 2 (unwritten_of (by kernel_rfl) d)
   refine StepN.done rfl (wanted_free rfl) fun K hK=>?_
   exact op_move rfl (hK _ _ (Below.refl _ _) e2)
  ·have e24:a.tmps[24]?.getD undef=fnV G:=hI.val 3 24 rfl (hall 3 (by kernel_rfl)) (by decide)
   have e25:a.tmps[25]?.getD undef=.pointer (some ⟨f.p,0,none⟩):=hI.val 4 25 rfl (hall 4 (by kernel_rfl)) (by decide)
   have e26:a.tmps[26]?.getD undef=.agg #[.int .i64 kd,.string pkt,.slice oa on oc,.int .i64 sh]:=hI.val 5 26 rfl (hall 5 (by kernel_rfl)) (by decide)
   have e27:a.tmps[27]?.getD undef=.int .i64 now:=hI.val 6 27 rfl (hall 6 (by kernel_rfl)) (by decide)
   have CD:=HC.out W b0
   refine StepN.done rfl (wanted_free rfl) fun K hK=>?_
   refine op_call G #[.pointer (some ⟨f.p,0,none⟩),opV kd pkt oa on oc sh,.int .i64 now] (fun v W2=>(∃ u,v=.tuple #[ansV y,u]∧D.U W2 u)∧Below W.heap.size W W2) ?_ (CD.mono fun e W2 ⟨u,he,hu,hb⟩=>⟨_,he,⟨u,rfl,hu⟩,hb⟩) (fun v W2 ⟨h1,h2⟩=>hK v W2 h2 h1)
   clear hall hI hK CD
   rcases HKK.out with⟨rfl,rfl,rfl⟩ | ⟨rfl,rfl,rfl⟩ | ⟨rfl,rfl,rfl⟩ | ⟨rfl,rfl,rfl⟩
   all_goals
    simp only[List.getElem_toArray,List.getElem_cons_zero,List.getElem_cons_succ,execOp]
    go_simp
  ·have f28:=hI.val 7 28 rfl (hall 7 (by kernel_rfl)) (by decide)
   refine StepN.done rfl (wanted_free rfl) fun K hK=>?_
   exact op_move rfl (hK _ _ (Below.refl _ _) f28)
  ·have f20:=hI.val 8 20 rfl (hall 8 (by kernel_rfl)) (by decide)
   obtain⟨u,e20,h1⟩:∃ u,a.tmps[20]?.getD undef=.tuple #[ansV y,u]∧D.U W u:=f20
   refine StepN.done rfl (wanted_free rfl) fun K hK=>?_
   refine op_run (ansV y) W ?_ (hK _ _ (Below.refl _ _) rfl)
   clear hall hI hK h1
   simp only[List.getElem_toArray,List.getElem_cons_zero,List.getElem_cons_succ,execOp,Act.eval]
   go_simp
  ·have f20:=hI.val 8 20 rfl (hall 8 (by kernel_rfl)) (by decide)
   obtain⟨u,e20,h1⟩:∃ u,a.tmps[20]?.getD undef=.tuple #[ansV y,u]∧D.U W u:=f20
   refine StepN.done rfl (wanted_free rfl) fun K hK=>?_
   refine op_run (u) W ?_ (hK _ _ (Below.refl _ _) h1)
   clear hall hI hK h1
   simp only[List.getElem_toArray,List.getElem_cons_zero,List.getElem_cons_succ,execOp,Act.eval]
   go_simp
  ·have f30:=hI.val 10 30 rfl (hall 10 (by kernel_rfl)) (by decide)
   refine StepN.done rfl (wanted_free rfl) fun K hK=>?_
   exact op_assign rfl (hK _ _ (Below.refl _ _) f30)
 case store=>
  intro d a W b hall eB hb0 hI
  have eV:a.tmps[29]?.getD undef=ansV y:=hI.val 9 29 rfl (hall 9 (by kernel_rfl)) (by decide)
  clear hI
  obtain⟨⟨z0,z1,z2,z3⟩,fr⟩:=(show AnsBox W b ⟨0,0,false,0⟩ from hb0).cells
  have f0:=fr 0
  have f1:=fr 1
  have f2:=fr 2
  have f3:=fr 3
  clear fr
  refine⟨_,rfl,wanted_free rfl,fun K hK=>?_⟩
  have hs:=hK _ (show Stored b 39 (a.tmps[29]?.getD undef).cells W _ from by rw[eV]; exact stored4 hb0 (.int .i64 y.err) (.int .i64 y.backend) (.bool y.made) (.int .i64 y.count))
  clear hK
  unfold Oper.wp
  simp only[List.getElem_toArray,List.getElem_cons_zero,List.getElem_cons_succ,execOp]
  go_simp
  exact hs
 case done=>
  intro a w7 hI
  have eV:a.tmps[29]?.getD undef=ansV y:=hI.val 9 29 rfl rfl (by decide)
  obtain⟨bA,e8,hbA,d15⟩:=hI.box rfl
  rw[if_pos rfl,eV] at d15
  have hH:=hI.val 13 9 rfl rfl (by decide)
  obtain⟨u9,e9⟩:∃ u,a.tmps[9]?.getD undef=u:=⟨_,rfl⟩
  rw[e9] at hH
  have HU:=Lib.hid (show D.U w7 u9 from hH)
  clear hH
  have b7:=hI.below
  have D7:=Lib.hid (show AnsBox w7 bA y from d15)
  have A7:=Lib.hid (A5.out.kept b7)
  have B7:=Lib.hid (below2 B5.out b7)
  have nA:bA≠w.heap.size+1:=by have:=heap_lt A5.out; omega
  have hA2:w.heap.size+1<bA:=by have:=heap_lt A5.out; omega
  obtain⟨t,df⟩:=a
  obtain rfl:df=[]:=hI.defs
  have hz:t.size=38:=hI.size
  obtain⟨e0,e1,e2,e3,e4,e5,e6,e7,e10,e11,e12,e13,e14,e15,e16,e17,e18,e19,e31,e32,e33,e34,e35,e36,e37,-⟩:=olds hI.old [0,1,2,3,4,5,6,7,10,11,12,13,14,15,16,17,18,19,31,32,33,34,35,36,37] (by kernel_rfl)
  clear hI d15 hbA eV b7 o0 o1 o2 o3 q0
  simp only[List.getElem?_toArray,List.getElem?_cons_succ,List.getElem?_cons_zero,Option.getD_some] at e0 e1 e2 e3 e4 e5 e6 e7 e10 e11 e12 e13 e14 e15 e16 e17 e18 e19 e31 e32 e33 e34 e35 e36 e37
  obtain⟨ys,hy,ht⟩:=arr_slots t 38 hz
  have hl2:(slotsFrom ys 0 38).toArray=#[ys 0,ys 1,ys 2,ys 3,ys 4,ys 5,ys 6,ys 7,ys 8,ys 9,ys 10,ys 11,ys 12,ys 13,ys 14,ys 15,ys 16,ys 17,ys 18,ys 19,ys 20,ys 21,ys 22,ys 23,ys 24,ys 25,ys 26,ys 27,ys 28,ys 29,ys 30,ys 31,ys 32,ys 33,ys 34,ys 35,ys 36,ys 37]:=rfl
  rw[hy] at e0 e1 e2 e3 e4 e5 e6 e7 e10 e11 e12 e13 e14 e15 e16 e17 e18 e19 e31 e32 e33 e34 e35 e36 e37 e8 e9
  rw[ht,hl2,e0,e1,e2,e3,e4,e5,e6,e7,e10,e11,e12,e13,e14,e15,e16,e17,e18,e19,e31,e32,e33,e34,e35,e36,e37,e8,e9]
  clear ht hl2 hz hy e0 e1 e2 e3 e4 e5 e6 e7 e10 e11 e12 e13 e14 e15 e16 e17 e18 e19 e31 e32 e33 e34 e35 e36 e37 e8 e9
  obtain⟨⟨a0,a1,a2,a3⟩,-⟩:=D7.out.cells
  cases D with
  | non=>
    have e0:(y.err == 0)=false:=beq_false_of_ne HD.out
    have e0n:(y.err != 0)=true:=bne_iff_ne.2 HD.out
    have A8:=Lib.hid A7.out
    clear A7
    obtain⟨⟨x0,x1,x2,x3⟩,fr⟩:=A8.out.cells
    have f0:=fr 0
    have f1:=fr 1
    have f2:=fr 2
    have f3:=fr 3
    clear fr
    go_wp2_with fail
    obtain⟨⟨z0,z1,z2,z3⟩,-⟩:=(A8.out.put y).cells
    have h9:=Mod.putAns_turned w7 (w.heap.size+1) y
    unfold putAns at z0 z1 z2 z3
    clear x0 x1 x2 x3 f0 f1 f2 f3 a0 a1 a2 a3
    refine bodyPost_ret (v:=ansV y) ?q1 rfl ?q2
    case q1=>
     simp only[results,Tryz.results17]
     simp[go_sem,z0,z1,z2,z3]
    case q2=>exact⟨rfl,ans_below w7 B7.out (show w.heap.size≤w.heap.size+1 by omega) y⟩
  | puts ii T n=>
    obtain⟨he,hi⟩:=HD.out
    have e0:(y.err == 0)=true:=by rw[he]; rfl
    have e0n:(y.err != 0)=false:=by rw[he]; rfl
    obtain⟨b9,x9,rfl,hH9,hG9,hT9,hn9⟩:=HU.out
    clear he HD HU
    have CC:=Lib.hid (puts1_told b9 ii x9 w7 (HL.out.kept B7.out) hi hG9 hH9)
    clear hG9 hH9
    go_wp2_with fail
    refine CC.out.mono ?_
    rintro e w8 ⟨rfl,hl,ht⟩
    have L8:=Lib.hid hl
    have T8:=Lib.hid ht
    have A8:=Lib.hid (show AnsBox w8 (w.heap.size+1) ⟨0,0,false,0⟩ from (ht.rest _ (heap_lt A7.out) (by rintro (e | e) <;> omega)).trans A7.out)
    have D8:=Lib.hid (show AnsBox w8 bA y from (ht.rest _ (heap_lt D7.out) (by rintro (e | e) <;> omega)).trans D7.out)
    clear hl ht CC D7 A7 a0 a1 a2 a3
    obtain⟨⟨a0,a1,a2,a3⟩,-⟩:=D8.out.cells
    obtain⟨⟨x0,x1,x2,x3⟩,fr⟩:=A8.out.cells
    have f0:=fr 0
    have f1:=fr 1
    have f2:=fr 2
    have f3:=fr 3
    clear fr
    go_wp2_with fail
    obtain⟨⟨z0,z1,z2,z3⟩,-⟩:=(A8.out.put y).cells
    have h9:=Mod.putAns_turned w8 (w.heap.size+1) y
    unfold putAns at z0 z1 z2 z3
    clear x0 x1 x2 x3 f0 f1 f2 f3 a0 a1 a2 a3
    refine bodyPost_ret (v:=ansV y) ?q1 rfl ?q2
    case q1=>
     simp only[results,Tryz.results17]
     simp[go_sem,z0,z1,z2,z3]
    case q2=>exact⟨rfl,⟨x9,hT9,hn9,L8.out.beyond A8.out h9 (by omega) (by omega) fun hn b off e=>by have:=pool_lt HL.out.pool hn e; omega⟩,turned_end B7.out T8.out h9 (by omega)⟩
  | updt B z=>
    obtain⟨he,hz⟩:=HD.out
    have e0:(y.err == 0)=true:=by rw[he]; rfl
    have e0n:(y.err != 0)=false:=by rw[he]; rfl
    obtain⟨b9,u9,rfl,hB9,hO9⟩:=HU.out
    obtain⟨ua,uc,rfl,hP9⟩:=hO9.lies
    clear he HD HU
    have CC:=Lib.hid (update1_told b9 ua uc z w7 (HL.out.kept B7.out) hP9 hz (by simp[World.cell?,hB9]))
    have NE:=Lib.hid (own_ne hO9 A7.out)
    clear hP9 hB9 hO9
    go_wp2_with fail
    refine CC.out.mono ?_
    rintro e w8 ⟨rfl,hl,ht⟩
    have L8:=Lib.hid hl
    have T8:=Lib.hid ht
    have A8:=Lib.hid (show AnsBox w8 (w.heap.size+1) ⟨0,0,false,0⟩ from (ht.rest _ (heap_lt A7.out) (by rintro (e | e) <;> omega)).trans A7.out)
    have D8:=Lib.hid (show AnsBox w8 bA y from (ht.rest _ (heap_lt D7.out) (by rintro (e | e) <;> omega)).trans D7.out)
    clear hl ht CC D7 A7 a0 a1 a2 a3
    obtain⟨⟨a0,a1,a2,a3⟩,-⟩:=D8.out.cells
    obtain⟨⟨x0,x1,x2,x3⟩,fr⟩:=A8.out.cells
    have f0:=fr 0
    have f1:=fr 1
    have f2:=fr 2
    have f3:=fr 3
    clear fr
    go_wp2_with fail
    obtain⟨⟨z0,z1,z2,z3⟩,-⟩:=(A8.out.put y).cells
    have h9:=Mod.putAns_turned w8 (w.heap.size+1) y
    unfold putAns at z0 z1 z2 z3
    clear x0 x1 x2 x3 f0 f1 f2 f3 a0 a1 a2 a3
    refine bodyPost_ret (v:=ansV y) ?q1 rfl ?q2
    case q1=>
     simp only[results,Tryz.results17]
     simp[go_sem,z0,z1,z2,z3]
    case q2=>exact⟨rfl,⟨ua,uc,L8.out.beyond A8.out h9 (by omega) (by omega) fun _ b off e=>NE.out b off e⟩,turned_end B7.out T8.out h9 (by omega)⟩
  | stats=>
    have he:y.err=0:=HD.out
    have e0:(y.err == 0)=true:=by rw[he]; rfl
    have e0n:(y.err != 0)=false:=by rw[he]; rfl
    obtain rfl:u9=_:=HU.out
    clear he HD HU
    have CC:=Lib.hid (stats1_told f w7)
    go_wp2_with fail
    refine CC.out.mono ?_
    rintro e w8 ⟨rfl,rfl⟩
    have A8:=Lib.hid A7.out
    clear CC A7
    obtain⟨⟨x0,x1,x2,x3⟩,fr⟩:=A8.out.cells
    have f0:=fr 0
    have f1:=fr 1
    have f2:=fr 2
    have f3:=fr 3
    clear fr
    go_wp2_with fail
    obtain⟨⟨z0,z1,z2,z3⟩,-⟩:=(A8.out.put y).cells
    unfold putAns at z0 z1 z2 z3
    clear x0 x1 x2 x3 f0 f1 f2 f3 a0 a1 a2 a3
    refine bodyPost_ret (v:=ansV y) ?q1 rfl ?q2
    case q1=>
     simp only[results,Tryz.results17]
     simp[go_sem,z0,z1,z2,z3]
    case q2=>exact⟨rfl,ans_below _ B7.out (show w.heap.size≤w.heap.size+1 by omega) y⟩
theorem do_fail0 (w:World) (h:Lay w f idle pa pc P sc m) (pkt:ByteArray) (oa:Option Addr) (on oc:Nat) (sh now:Int) {y:Ans} (he:y.err≠0)
 (hC:∀ W,Below w.heap.size w W→Calls Tryz.prog 83 #[f.v,opV 0 pkt oa on oc sh,.int .i64 now] W (Told y (fun _ _=>True) W)):
 Calls Tryz.prog 17 #[f.v,opV 0 pkt oa on oc sh,.int .i64 now] w fun e W'=>e=.returned (ansV y)∧Below w.heap.size w W':=
 do_arm w h 0 (.inl ⟨rfl,rfl,rfl⟩) pkt oa on oc sh now .non he hC
theorem do_fail1 (w:World) (h:Lay w f idle pa pc P sc m) (pkt:ByteArray) (oa:Option Addr) (on oc:Nat) (sh now:Int) {y:Ans} (he:y.err≠0)
 (hC:∀ W,Below w.heap.size w W→Calls Tryz.prog 84 #[f.v,opV 1 pkt oa on oc sh,.int .i64 now] W (Told y (fun _ _=>True) W)):
 Calls Tryz.prog 17 #[f.v,opV 1 pkt oa on oc sh,.int .i64 now] w fun e W'=>e=.returned (ansV y)∧Below w.heap.size w W':=
 do_arm w h 1 (.inr (.inl ⟨rfl,rfl,rfl⟩)) pkt oa on oc sh now .non he hC
theorem do_fail2 (w:World) (h:Lay w f idle pa pc P sc m) (pkt:ByteArray) (oa:Option Addr) (on oc:Nat) (sh now:Int) {y:Ans} (he:y.err≠0)
 (hC:∀ W,Below w.heap.size w W→Calls Tryz.prog 85 #[f.v,opV 2 pkt oa on oc sh,.int .i64 now] W (Told y (fun _ _=>True) W)):
 Calls Tryz.prog 17 #[f.v,opV 2 pkt oa on oc sh,.int .i64 now] w fun e W'=>e=.returned (ansV y)∧Below w.heap.size w W':=
 do_arm w h 2 (.inr (.inr (.inl ⟨rfl,rfl,rfl⟩))) pkt oa on oc sh now .non he hC
theorem do_puts0 (w:World) (h:Lay w f idle pa pc P sc m) (pkt:ByteArray) (oa:Option Addr) (on oc:Nat) (sh now:Int) {y:Ans} {ii:Nat} {T:List Tab.Ent} {n:Nat} (hi:ii<m.length) (he:y.err=0)
 (hC:∀ W,Below w.heap.size w W→Calls Tryz.prog 83 #[f.v,opV 0 pkt oa on oc sh,.int .i64 now] W (Told y (PutsIs ii T n) W)):
 Calls Tryz.prog 17 #[f.v,opV 0 pkt oa on oc sh,.int .i64 now] w fun e W'=>e=.returned (ansV y)∧(∃ x:ShM,x.T=T∧x.n=n∧Lay W' f idle pa pc P sc (m.set ii x))∧Turned f.has w W':=
 do_arm w h 0 (.inl ⟨rfl,rfl,rfl⟩) pkt oa on oc sh now (.puts ii T n) ⟨he,hi⟩ hC
theorem do_puts2 (w:World) (h:Lay w f idle pa pc P sc m) (pkt:ByteArray) (oa:Option Addr) (on oc:Nat) (sh now:Int) {y:Ans} {ii:Nat} {T:List Tab.Ent} {n:Nat} (hi:ii<m.length) (he:y.err=0)
 (hC:∀ W,Below w.heap.size w W→Calls Tryz.prog 85 #[f.v,opV 2 pkt oa on oc sh,.int .i64 now] W (Told y (PutsIs ii T n) W)):
 Calls Tryz.prog 17 #[f.v,opV 2 pkt oa on oc sh,.int .i64 now] w fun e W'=>e=.returned (ansV y)∧(∃ x:ShM,x.T=T∧x.n=n∧Lay W' f idle pa pc P sc (m.set ii x))∧Turned f.has w W':=
 do_arm w h 2 (.inr (.inr (.inl ⟨rfl,rfl,rfl⟩))) pkt oa on oc sh now (.puts ii T n) ⟨he,hi⟩ hC
theorem do_updt (w:World) (h:Lay w f idle pa pc P sc m) (pkt:ByteArray) (oa:Option Addr) (on oc:Nat) (sh now:Int) {y:Ans} {B:Nat} {z:List Bk} (hz:z.length≤32) (he:y.err=0)
 (hC:∀ W,Below w.heap.size w W→Calls Tryz.prog 84 #[f.v,opV 1 pkt oa on oc sh,.int .i64 now] W (Told y (UpdIs B z) W)):
 Calls Tryz.prog 17 #[f.v,opV 1 pkt oa on oc sh,.int .i64 now] w fun e W'=>e=.returned (ansV y)∧(∃ pa' pc',Lay W' f idle pa' pc' z sc m)∧Turned f.has w W':=
 do_arm w h 1 (.inr (.inl ⟨rfl,rfl,rfl⟩)) pkt oa on oc sh now (.updt B z) ⟨he,hz⟩ hC
theorem do_stats (w:World) (h:Lay w f idle pa pc P sc m) (pkt:ByteArray) (oa:Option Addr) (on oc:Nat) (sh now:Int) {y:Ans} (he:y.err=0)
 (hC:∀ W,Below w.heap.size w W→Calls Tryz.prog 86 #[f.v,opV 3 pkt oa on oc sh,.int .i64 now] W (Told y (fun _ v=>v=fnV 135) W)):
 Calls Tryz.prog 17 #[f.v,opV 3 pkt oa on oc sh,.int .i64 now] w fun e W'=>e=.returned (ansV y)∧Below w.heap.size w W':=
 do_arm w h 3 (.inr (.inr (.inr ⟨rfl,rfl,rfl⟩))) pkt oa on oc sh now .stats he hC
end
end Go.Proofs.YtbamodkgagcmnaaGreat.Mdl
