/-
  Sweep, plain facts: what the laws say of sweeping some places, all places, in parts and again.
-/
import Derived.Test.YtbamodkgagcmnaaGreatSwpAE
import Derived.Test.YtbamodkgagcmnaaGreatBPlmE
import Derived.Test.YtbamodkgagcmnaaGreatMdlCE
import Derived.Test.YtbamodkgagcmnaaGreatTxtE
import Derived.Test.YtbamodkgagcmnaaGreatBPklE
import Derived.Test.YtbamodkgagcmnaaGreatPolQE
import Derived.Test.YtbamodkgagcmnaaGreatSwpBE
set_option maxRecDepth 100000
namespace Go.Proofs.YtbamodkgagcmnaaGreat.Swp
open RowG Tab Prb Flo
section
variable {now later:Int} {T U:List Ent} {n:Nat}
theorem step_len (h:T.length≤64) (l:List Nat):(stepC now l T).length=T.length:=by
 unfold stepC settleC
 split
 ·split
  ·rw[tidyC_length,sweep_length]; omega
  ·rw[sweep_length]
 ·rfl
theorem short_sweep:∀ (l:List Nat) (T:List Ent),Short n T→Short n (Tab.sweep now l T).1
 | [],_,h=>h
 | i :: l,T,h=>by
   rw[sweep_cons]
   split
   ·refine short_sweep l (T.set i tomb) fun x hx=>?_
    rcases List.mem_or_eq_of_mem_set hx with hx | rfl
    ·exact h x hx
    ·show 0≤n; omega
   ·exact short_sweep l T h
theorem step_short (h:Short n T) (l:List Nat):Short n (stepC now l T):=by
 unfold stepC
 split
 ·exact short_settle (short_sweep l T h)
 ·exact h
theorem looked (n:Nat) (h:Nat) (q:Int):∀ a ∈ places n h (span q n),a<n:=fun _ ha=>places_mem (span_le q n) ha
theorem np_le (n h m:Nat):nextP n h m≤n - 1:=by
 by_cases hn:0<n
 ·have:=nextP_lt (h:=h) (m:=m) hn; omega
 ·obtain rfl:n=0:=by omega
  unfold nextP; simp
theorem again (hl:T.length≤64) (hr:Right home T) (e:U=stepC now (places T.length 0 T.length) T):dueN now (places U.length 0 U.length) U=0∧stepC now (places U.length 0 U.length) U=U:=by
 have hU:U.length=T.length:=by rw[e]; exact step_len hl _
 have h2:=all_again (now:=now) hr
 rw[← stepC_stepT hl,← e] at h2
 rw[hU,stepC_stepT (by omega)]
 exact h2
theorem found (hl:T.length≤64) (hr:Right home T) (k:ByteArray) (e:U=stepC now (places T.length 0 T.length) T):find home U k≠none↔∃ a,find home T k=some a∧¬ Due (ent T a) now:=by
 rw[e,stepC_stepT hl]; exact (all_found hr k).1
theorem parts (hl:T.length≤64) (f:Int) {m k:Nat} (hmk:m+k≤T.length) {A B C:List Ent} {i:Nat} (hi:i=nextP T.length (norm T.length f) m) (hA:A=stepC now (places T.length (norm T.length f) m) T) (hB:B=stepC now (places A.length (norm A.length (i:Int)) k) A) (hC:C=stepC now (places T.length (norm T.length f) (m+k)) T):
 A.length=T.length∧B.length=T.length∧C.length=T.length∧nextP A.length (norm A.length (i:Int)) k=nextP T.length (norm T.length f) (m+k)∧
 (2 * count 2 T+2 * dueN now (places T.length (norm T.length f) (m+k)) T≤T.length→dueN now (places T.length (norm T.length f) m) T+dueN now (places A.length (norm A.length (i:Int)) k) A=dueN now (places T.length (norm T.length f) (m+k)) T∧B=C):=by
 have hAl:A.length=T.length:=by rw[hA]; exact step_len hl _
 have hBl:B.length=T.length:=by rw[hB,step_len (by omega),hAl]
 have hCl:C.length=T.length:=by rw[hC]; exact step_len hl _
 refine⟨hAl,hBl,hCl,?_⟩
 rw[hAl] at hB ⊢
 rw[stepC_stepT (by omega)] at hB
 rw[stepC_stepT hl] at hA hC
 by_cases h0:0<T.length
 ·have hni:norm T.length (i:Int)=nextP T.length (norm T.length f) m:=by rw[hi]; exact norm_nat (nextP_lt h0)
  rw[hni] at hB ⊢
  refine⟨nextP_app,fun hf=>?_⟩
  obtain⟨h1,h2⟩:=step_parts (home:=home) h0 hmk hf
  rw[hB,hC,hA]
  exact⟨h1,h2⟩
 ·have hT:T=[]:=List.length_eq_zero_iff.1 (by omega)
  obtain⟨rfl,rfl⟩:m=0∧k=0:=by omega
  subst hT
  have hz:∀ h:Nat,places 0 h 0=[]:=fun h=>places_zero 0 h
  simp only[List.length_nil,norm_zero,Nat.add_zero,hz] at hA hB hC ⊢
  have e:∀ X:List Ent,Tab.stepT home now [] X=X:=fun X=>stepT_zero [] rfl
  rw[e] at hA hB hC
  subst hA; subst hB; subst hC
  exact⟨trivial,fun _=>⟨rfl,rfl⟩⟩
end
end Go.Proofs.YtbamodkgagcmnaaGreat.Swp
set_option maxRecDepth 100000
namespace Go.Proofs.YtbamodkgagcmnaaGreat.Mdl
open Go.RowKit Go.Shelf RowG Trn
open Pol (polV chk chkV)
open Pkt (Tells outV noP pktV pktC keyV okP recS closes)
open Prb (home)
open Go.Proofs.YtbamodkgagcmnaaGreat.Mod (Bk Mo Ans ansV ansC AnsBox putAns TabIs Deals hasId known del deals opV opC)
attribute [local go_sem] Oper.semAt_some
def FlowIs (s:ByteArray):Option (ByteArray × Bool)→Prop
 | none=>∃ e,e≠0∧Tells 128 #[.string s] (noP e)
 | some (k,c)=>k.size≤38∧∃ (V:Int) (x y:ByteArray) (F T p f:Int),Tells 128 #[.string s] (outV V x y F T p f 0)∧Tells 130 #[keyV V x y F T p] (.tuple #[.string k,.bool true])∧Tells 131 #[pktV V x y F T p f] (.bool c)
noncomputable def goodB (z:List Bk):Bool:= @decide (chk z) (Classical.propDecidable _)
theorem good_iff (z:List Bk):chk z↔goodB z=true:=⟨fun h=> @decide_eq_true _ (Classical.propDecidable _) h,fun h=> @of_decide_eq_true _ (Classical.propDecidable _) h⟩
theorem good_few {z:List Bk} (h:goodB z=true):z.length≤32:=((good_iff z).2 h).1
abbrev fnV (k:Nat):Value:=.func (.func k) #[] #[]
abbrev deedsC:Array Value:=#[fnV 83,fnV 84,fnV 85,fnV 86]
set_option maxHeartbeats 400000 in
theorem deeds_told (w:World):Calls Tryz.prog 46 #[] w fun e W'=>e=.returned (.agg deedsC)∧Below w.heap.size w W':=by
 go_enter Tryz.func46,Tryz.ntmps46
 go_wp2_with fail
 refine bodyPost_ret (v:=.agg deedsC) (by simp[results,Tryz.results46,go_sem]) rfl ?_
 exact⟨rfl,(Below.refl _ w).alloc (Nat.le_refl _) _⟩
section
variable {f:Foot} {idle:Int} {pa:Option Addr} {pc:Nat} {P:List Bk} {sc:Nat} {m:List ShM}
def Told (y:Ans) (H:World→Value→Prop) (w:World) (e:Ending) (W':World):Prop:=∃ v,e=.returned (.tuple #[ansV y,v])∧H W' v∧Below w.heap.size w W'
theorem op_boxes (w:World) (kd:Int) (pkt:ByteArray) (oa:Option Addr) (on oc:Nat) (sh:Int):
 let W:=(w.alloc (.cells (opC kd pkt oa on oc sh) 42)).alloc (.cells (ansC ⟨0,0,false,0⟩) 39)
 (W.cell? ⟨w.heap.size,0,none⟩=some (.int .i64 kd)∧W.cell? ⟨w.heap.size,1,none⟩=some (.string pkt)∧W.cell? ⟨w.heap.size,2,none⟩=some (.slice oa on oc)∧W.cell? ⟨w.heap.size,3,none⟩=some (.int .i64 sh))∧AnsBox W (w.heap.size+1) ⟨0,0,false,0⟩∧Below w.heap.size w W∧W.heap.size=w.heap.size+2:=by
 have b1:Below w.heap.size w (w.alloc (.cells (opC kd pkt oa on oc sh) 42)):=(Below.refl _ w).alloc (Nat.le_refl _) _
 have h1:=World.alloc_heap_new w (.cells (opC kd pkt oa on oc sh) 42)
 have s1:=World.size_alloc w (.cells (opC kd pkt oa on oc sh) 42)
 generalize w.alloc (.cells (opC kd pkt oa on oc sh) 42)=W1 at *
 have b2:Below W1.heap.size W1 (W1.alloc (.cells (ansC ⟨0,0,false,0⟩) 39)):=(Below.refl _ W1).alloc (Nat.le_refl _) _
 have h2:=World.alloc_heap_new W1 (.cells (ansC ⟨0,0,false,0⟩) 39)
 have s2:=World.size_alloc W1 (.cells (ansC ⟨0,0,false,0⟩) 39)
 have e:=(b2.block w.heap.size (by omega)).trans h1
 rw[s1] at h2
 refine⟨⟨?_,?_,?_,?_⟩,h2,below2 b1 b2,by omega⟩ <;> simp[World.cell?,e]
theorem ans_below {w:World} (W:World) (hb:Below w.heap.size w W) {g:Nat} (hg:w.heap.size≤g) (y:Ans):Below w.heap.size w (putAns W g y):=(Mod.putAns_turned W g y).below hb hb.size fun k hk=>by rw[show k=g from hk]; exact hg
set_option maxHeartbeats 1000000 in
theorem dispatch_bad (w:World) (kd:Int) (pkt:ByteArray) (oa:Option Addr) (on oc:Nat) (sh now:Int) (hF:FlowIs pkt none):
 Calls Tryz.prog 83 #[f.v,opV kd pkt oa on oc sh,.int .i64 now] w (Told ⟨9,0,false,0⟩ (fun _ _=>True) w):=by
 obtain⟨e,he,hP⟩:=hF
 obtain⟨⟨-,c1,-,-⟩,a0,b0,s0⟩:=op_boxes w kd pkt oa on oc sh
 have CP:=Lib.hid (hP ((w.alloc (.cells (opC kd pkt oa on oc sh) 42)).alloc (.cells (ansC ⟨0,0,false,0⟩) 39)))
 have A0:=Lib.hid a0
 have B0:=Lib.hid b0
 have e1:(e != 0)=true:=bne_iff_ne.2 he
 have e2:(e == 0)=false:=beq_false_of_ne he
 clear he hP a0 b0
 go_enter Tryz.func83,Tryz.ntmps83
 go_wp2_with fail
 refine CP.out.mono ?_
 rintro r w1 ⟨rfl,hb⟩
 have al:=(Below.refl w1.heap.size w1).alloc (Nat.le_refl _) (.cells (pktC 0 ⟨#[]⟩ ⟨#[]⟩ 0 0 0 0) 81)
 have A1:=Lib.hid ((A0.out.kept hb).kept al)
 have B1:=Lib.hid (below2 (below2 B0.out hb) al)
 have CF:=Lib.hid (fails_told 9 (w1.alloc (.cells (pktC 0 ⟨#[]⟩ ⟨#[]⟩ 0 0 0 0) 81)))
 clear hb al CP A0 B0 c1
 go_wp2_with fail
 refine CF.out.mono ?_
 rintro r w2 ⟨rfl,hb⟩
 have A2:=Lib.hid (A1.out.kept hb)
 have B2:=Lib.hid (below2 B1.out hb)
 clear hb CF A1 B1
 obtain⟨⟨x0,x1,x2,x3⟩,fr⟩:=A2.out.cells
 have f0:=fr 0
 have f1:=fr 1
 have f2:=fr 2
 have f3:=fr 3
 clear fr
 go_wp2_with fail
 obtain⟨⟨z0,z1,z2,z3⟩,-⟩:=(A2.out.put ⟨9,0,false,0⟩).cells
 unfold putAns at z0 z1 z2 z3
 clear x0 x1 x2 x3 f0 f1 f2 f3
 refine bodyPost_ret (v:=.tuple #[ansV ⟨9,0,false,0⟩,.nilFunc]) ?q1 rfl ?q2
 case q1=>
  simp only[results,Tryz.results83]
  simp[go_sem,z0,z1,z2,z3]
 case q2=>exact⟨_,rfl,trivial,ans_below w2 B2.out (show w.heap.size≤w.heap.size+1 by omega) ⟨9,0,false,0⟩⟩
set_option maxHeartbeats 1000000 in
theorem update_bad (w:World) (kd:Int) (pkt:ByteArray) (oa:Option Addr) (z:List Bk) (oc:Nat) (sh now:Int) (hz:Pol.Lies w oa oc z) (hg:goodB z=false):
 Calls Tryz.prog 84 #[f.v,opV kd pkt oa z.length oc sh,.int .i64 now] w (Told ⟨10,0,false,0⟩ (fun _ _=>True) w):=by
 obtain⟨⟨-,-,c2,-⟩,a0,b0,s0⟩:=op_boxes w kd pkt oa z.length oc sh
 have CP:=Lib.hid (Pol.Check_told oa oc z (goodB z) (good_iff z) _ (hz.kept b0))
 rw[hg,show chkV false=.int .i64 10 from rfl] at CP
 have A0:=Lib.hid a0
 have B0:=Lib.hid b0
 clear hz hg a0 b0
 go_enter Tryz.func84,Tryz.ntmps84
 go_wp2_with fail
 refine CP.out.mono ?_
 rintro r w1 ⟨rfl,hb⟩
 have A1:=Lib.hid (A0.out.kept hb)
 have B1:=Lib.hid (below2 B0.out hb)
 have CF:=Lib.hid (fails_told 10 w1)
 clear hb CP A0 B0 c2
 go_wp2_with fail
 refine CF.out.mono ?_
 rintro r w2 ⟨rfl,hb⟩
 have A2:=Lib.hid (A1.out.kept hb)
 have B2:=Lib.hid (below2 B1.out hb)
 clear hb CF A1 B1
 obtain⟨⟨x0,x1,x2,x3⟩,fr⟩:=A2.out.cells
 have f0:=fr 0
 have f1:=fr 1
 have f2:=fr 2
 have f3:=fr 3
 clear fr
 go_wp2_with fail
 obtain⟨⟨z0,z1,z2,z3⟩,-⟩:=(A2.out.put ⟨10,0,false,0⟩).cells
 unfold putAns at z0 z1 z2 z3
 clear x0 x1 x2 x3 f0 f1 f2 f3
 refine bodyPost_ret (v:=.tuple #[ansV ⟨10,0,false,0⟩,.nilFunc]) ?q1 rfl ?q2
 case q1=>
  simp only[results,Tryz.results84]
  simp[go_sem,z0,z1,z2,z3]
 case q2=>exact⟨_,rfl,trivial,ans_below w2 B2.out (show w.heap.size≤w.heap.size+1 by omega) ⟨10,0,false,0⟩⟩
theorem own_turned {B g:Nat} {W W':World} {v:Value} {z:List Bk} {cs:Array Value} (h:Pol.Own B W v z) (hg:W.heap[g]? =some (.cells cs 39 (0,0))) (ht:Turned (· =g) W W'):Pol.Own B W' v z:=by
 refine⟨h.1,?_⟩
 rcases h.2 with h0 | ⟨g',cap,cur,hv,hb,hg',r⟩
 ·exact .inl h0
 ·refine .inr ⟨g',cap,cur,hv,hb,(ht.rest g' (heap_lt hg') fun e=>?_).trans hg',r⟩
  rw[show g'=g from e,hg] at hg'
  cases hg'
def UpdIs (B:Nat) (z:List Bk) (W:World) (v:Value):Prop:=∃ b u,v=updV b∧W.heap[b]? =some (.cells #[u] 32 (0,0))∧Pol.Own B W u z
set_option maxHeartbeats 1000000 in
theorem update_good (w:World) (kd:Int) (pkt:ByteArray) (oa:Option Addr) (z:List Bk) (oc:Nat) (sh now:Int) (hz:Pol.Lies w oa oc z) (hg:goodB z=true):
 Calls Tryz.prog 84 #[f.v,opV kd pkt oa z.length oc sh,.int .i64 now] w (Told ⟨0,0,false,0⟩ (UpdIs w.heap.size z) w):=by
 have hl:=good_few hg
 obtain⟨⟨-,-,c2,-⟩,a0,b0,s0⟩:=op_boxes w kd pkt oa z.length oc sh
 have CP:=Lib.hid (Pol.Check_told oa oc z (goodB z) (good_iff z) _ (hz.kept b0))
 rw[hg,show chkV true=.int .i64 0 from rfl] at CP
 have A0:=Lib.hid a0
 have B0:=Lib.hid b0
 have HZ:=Lib.hid hz
 clear hz hg a0 b0
 go_enter Tryz.func84,Tryz.ntmps84
 go_wp2_with fail
 refine CP.out.mono ?_
 rintro r w1 ⟨rfl,hb⟩
 have A1:=Lib.hid (A0.out.kept hb)
 have B1:=Lib.hid (below2 B0.out hb)
 have CF:=Lib.hid (Pol.Clone_any oa oc z w1 (HZ.out.kept (below2 B0.out hb)) (by omega))
 have c2':=(hb.cell (World.block_lt_of_cell? _ _ c2)).trans c2
 clear hb CP A0 B0 c2 HZ
 go_wp2_with fail
 refine CF.out.mono ?_
 rintro r w2 ⟨u,rfl,ho,hb⟩
 obtain⟨ua,uc,rfl,-⟩:=ho.lies
 have A2:=A1.out.kept hb
 have B2:=below2 B1.out hb
 have hle:w.heap.size≤w1.heap.size:=B1.out.size
 have hlt2:w.heap.size+1<w2.heap.size:=Nat.lt_of_lt_of_le (heap_lt A1.out) hb.size
 have ht:=Mod.putAns_turned w2 (w.heap.size+1) ⟨0,0,false,0⟩
 have hsz:(putAns w2 (w.heap.size+1) ⟨0,0,false,0⟩).heap.size=w2.heap.size:=by simp[putAns,World.setCell]
 obtain⟨⟨x0,x1,x2,x3⟩,fr⟩:=A2.cells
 have f0:=fr 0
 have f1:=fr 1
 have f2:=fr 2
 have f3:=fr 3
 have al:=(Below.refl (putAns w2 (w.heap.size+1) ⟨0,0,false,0⟩).heap.size (putAns w2 (w.heap.size+1) ⟨0,0,false,0⟩)).alloc (Nat.le_refl _) (.cells #[polV ua uc z] 32)
 have A4:=Lib.hid ((A2.put ⟨0,0,false,0⟩).kept al)
 have U4:=Lib.hid (World.alloc_heap_new (putAns w2 (w.heap.size+1) ⟨0,0,false,0⟩) (.cells #[polV ua uc z] 32))
 have O4:=Lib.hid ((own_turned (Pol.own_less hle ho) A2 ht).kept al)
 have B4:=Lib.hid (below2 (ans_below w2 B2 (show w.heap.size≤w.heap.size+1 by omega) ⟨0,0,false,0⟩) al)
 rw[hsz] at U4
 clear hb CF A1 B1 ho al fr ht hsz A2 B2
 go_wp2_with fail
 obtain⟨⟨z0,z1,z2,z3⟩,-⟩:=A4.out.cells
 unfold putAns at z0 z1 z2 z3
 clear x0 x1 x2 x3 f0 f1 f2 f3
 refine bodyPost_ret (v:=.tuple #[ansV ⟨0,0,false,0⟩,updV w2.heap.size]) ?q1 rfl ?q2
 case q1=>
  simp only[results,Tryz.results84]
  simp[go_sem,z0,z1,z2,z3]
 case q2=>exact⟨_,rfl,⟨w2.heap.size,polV ua uc z,rfl,U4.out,O4.out⟩,B4.out⟩
end
end Go.Proofs.YtbamodkgagcmnaaGreat.Mdl
set_option maxRecDepth 100000
namespace Go.Proofs.YtbamodkgagcmnaaGreat.Mdl
open Go.RowKit Go.Shelf RowG Trn
open Pol (polV)
open Prb (home)
open Go.Proofs.YtbamodkgagcmnaaGreat.Mod (Bk Mo Ans ansV ansC AnsBox putAns TabIs opV opC)
attribute [local go_sem] Oper.semAt_some
def PutsIs (i:Nat) (T:List Tab.Ent) (n:Nat) (W:World) (v:Value):Prop:=∃ b x,v=putsV b∧Handed W b (i:Nat) x∧x.Good W∧x.T=T∧x.n=n
def sums (m:List ShM):Nat:=((m.map (·.T)).map (Tab.count 1)).sum
theorem sums_snoc (m:List ShM) {k:Nat} (hk:k<m.length):sums (m.take (k+1))=sums (m.take k)+Tab.count 1 m[k].T:=by
 unfold sums
 rw[List.take_succ_eq_append_getElem hk]
 simp only[List.map_append,List.sum_append,List.map_cons,List.map_nil,List.sum_cons,List.sum_nil]
 omega
theorem sums_le (W:World) (m:List ShM) (h:∀ x ∈ m,x.Good W):sums m≤64 * m.length:=by
 unfold sums
 induction m with
 | nil=>simp
 | cons x m ih=>
   have h1:=ih fun y hy=>h y (List.mem_cons_of_mem _ hy)
   have h2:=Tab.count_le 1 x.T
   have h3:=(h x (List.mem_cons_self ..)).len
   simp only[List.map_cons,List.sum_cons,List.length_cons]
   omega
theorem shard_box (w:World) (x:ShM):let W:=w.alloc (.cells #[rowV x.p x.c x.T,.int .i64 (x.n:Nat)] 92)
 Below w.heap.size w W∧W.cell? ⟨w.heap.size,0,none⟩=some (rowV x.p x.c x.T)∧W.cell? ⟨w.heap.size,1,none⟩=some (.int .i64 (x.n:Nat)):=by
 have:=box2_cells (World.alloc_heap_new w (.cells #[rowV x.p x.c x.T,.int .i64 (x.n:Nat)] 92))
 exact⟨(Below.refl _ w).alloc (Nat.le_refl _) _,this.1,this.2.1⟩
section
variable {f:Foot} {idle:Int} {pa:Option Addr} {pc:Nat} {P:List Bk} {sc:Nat} {m:List ShM}
set_option maxHeartbeats 1000000 in
theorem expire_bad (w:World) (h:Lay w f idle pa pc P sc m) (kd:Int) (pkt:ByteArray) (oa:Option Addr) (on oc:Nat) (sh now:Int) (hi:¬ (0≤sh∧sh<m.length)):
 Calls Tryz.prog 85 #[f.v,opV kd pkt oa on oc sh,.int .i64 now] w (Told ⟨1,0,false,0⟩ (fun _ _=>True) w):=by
 obtain⟨⟨-,-,-,c3⟩,a0,b0,s0⟩:=op_boxes w kd pkt oa on oc sh
 have CP:=Lib.hid (has_told sh _ (h.kept b0))
 rw[show isB m.length sh=false from decide_eq_false hi] at CP
 have A0:=Lib.hid a0
 have B0:=Lib.hid b0
 clear h hi a0 b0
 go_enter Tryz.func85,Tryz.ntmps85
 go_wp2_with fail
 refine CP.out.mono ?_
 rintro r w1 ⟨rfl,rfl⟩
 have CF:=Lib.hid (fails_told 1 ((w.alloc (.cells (opC kd pkt oa on oc sh) 42)).alloc (.cells (ansC ⟨0,0,false,0⟩) 39)))
 clear CP c3
 go_wp2_with fail
 refine CF.out.mono ?_
 rintro r w2 ⟨rfl,hb⟩
 have A2:=Lib.hid (A0.out.kept hb)
 have B2:=Lib.hid (below2 B0.out hb)
 clear hb CF A0 B0
 obtain⟨⟨x0,x1,x2,x3⟩,fr⟩:=A2.out.cells
 have f0:=fr 0
 have f1:=fr 1
 have f2:=fr 2
 have f3:=fr 3
 clear fr
 go_wp2_with fail
 obtain⟨⟨z0,z1,z2,z3⟩,-⟩:=(A2.out.put ⟨1,0,false,0⟩).cells
 unfold putAns at z0 z1 z2 z3
 clear x0 x1 x2 x3 f0 f1 f2 f3
 refine bodyPost_ret (v:=.tuple #[ansV ⟨1,0,false,0⟩,.nilFunc]) ?q1 rfl ?q2
 case q1=>
  simp only[results,Tryz.results85]
  simp[go_sem,z0,z1,z2,z3]
 case q2=>exact⟨_,rfl,trivial,ans_below w2 B2.out (show w.heap.size≤w.heap.size+1 by omega) ⟨1,0,false,0⟩⟩
set_option maxHeartbeats 1000000 in
theorem expire_good (w:World) (h:Lay w f idle pa pc P sc m) (kd:Int) (pkt:ByteArray) (oa:Option Addr) (on oc:Nat) (now:Int) {k:Nat} (hk:k<m.length):
 Calls Tryz.prog 85 #[f.v,opV kd pkt oa on oc (k:Nat),.int .i64 now] w
  (Told ⟨0,0,false,(Tab.dueN now (Tab.places m[k].T.length (Tab.norm m[k].T.length (m[k].n:Int)) (Tab.span 4 m[k].T.length)) m[k].T:Nat)⟩ (PutsIs k (Swp.stepC now (Tab.places m[k].T.length (Tab.norm m[k].T.length (m[k].n:Int)) (Tab.span 4 m[k].T.length)) m[k].T) (Tab.nextP m[k].T.length (Tab.norm m[k].T.length (m[k].n:Int)) (Tab.span 4 m[k].T.length))) w):=by
 obtain⟨⟨-,-,-,c3⟩,a0,b0,s0⟩:=op_boxes w kd pkt oa on oc (k:Nat)
 have CP:=Lib.hid (has_told (k:Nat) _ (h.kept b0))
 rw[show isB m.length (k:Nat)=true from decide_eq_true (by omega)] at CP
 have CA:=Lib.hid (at_told (k:Nat) _ (h.kept b0))
 rw[atM_in hk] at CA
 have A0:=Lib.hid a0
 have B0:=Lib.hid b0
 have G:=h.good _ (List.getElem_mem hk)
 have G0:=Lib.hid G
 have hlen:=G.len
 have hsh:=G.keys
 have hst:=Swp.step_len (now:=now) hlen (Tab.places m[k].T.length (Tab.norm m[k].T.length (m[k].n:Int)) (Tab.span 4 m[k].T.length))
 have hss:=Swp.step_short (now:=now) hsh (Tab.places m[k].T.length (Tab.norm m[k].T.length (m[k].n:Int)) (Tab.span 4 m[k].T.length))
 have hnp:=Swp.np_le m[k].T.length (Tab.norm m[k].T.length (m[k].n:Int)) (Tab.span 4 m[k].T.length)
 clear h a0 b0 G
 generalize m[k]=x at *
 go_enter Tryz.func85,Tryz.ntmps85
 go_wp2_with fail
 refine CP.out.mono ?_
 rintro r w1 ⟨rfl,rfl⟩
 clear CP
 go_wp2_with fail
 refine CA.out.mono ?_
 rintro r w2 ⟨rfl,hb⟩
 obtain⟨bs,s1,s2⟩:=shard_box w2 x
 have A2:=Lib.hid ((A0.out.kept hb).kept bs)
 have B2:=Lib.hid (below2 (below2 B0.out hb) bs)
 have c3':=(below2 hb bs).cell (World.block_lt_of_cell? _ _ c3)
 rw[c3] at c3'
 have CS:=Lib.hid (Swp.Step_told x.p x.c x.T (x.n:Int) 4 now (w2.alloc (.cells #[rowV x.p x.c x.T,.int .i64 (x.n:Nat)] 92)) (G0.out.lies.kept B2.out) (fun y hy=>by have:=hsh y hy; omega) (by omega))
 have hlt2:w.heap.size+1<w2.heap.size:=Nat.lt_of_lt_of_le (by omega) hb.size
 have c3'':=(hb.cell (World.block_lt_of_cell? _ _ c3)).trans c3
 generalize Swp.stepC now (Tab.places x.T.length (Tab.norm x.T.length (x.n:Int)) (Tab.span 4 x.T.length)) x.T=T' at *
 generalize Tab.dueN now (Tab.places x.T.length (Tab.norm x.T.length (x.n:Int)) (Tab.span 4 x.T.length)) x.T=du at *
 generalize Tab.nextP x.T.length (Tab.norm x.T.length (x.n:Int)) (Tab.span 4 x.T.length)=np at *
 clear hb bs CA A0 B0 c3
 go_wp2_with fail
 refine CS.out.mono ?_
 rintro r w3 ⟨v,rfl,hv,hb⟩
 obtain⟨ta,tc,rfl,hl⟩:=hv
 have A3:=Lib.hid (A2.out.kept hb)
 have B3:=Lib.hid (below2 B2.out hb)
 have c4:=(hb.cell (World.block_lt_of_cell? _ _ c3')).trans c3'
 have L3:=Lib.hid hl
 have CU:=Lib.hid (puts_told (k:Nat) ⟨ta,tc,T',np⟩ w3)
 clear hb hl CS A2 B2 c3' c3'' s1 s2
 go_wp2_with fail
 refine CU.out.mono ?_
 rintro r w4 ⟨rfl,hh,hb⟩
 have A4:=Lib.hid (A3.out.kept hb)
 have B4:=Lib.hid (below2 B3.out hb)
 have L4:=Lib.hid (L3.out.kept hb)
 have H4:=Lib.hid hh
 have hlt4:=heap_lt A3.out
 clear hb hh CU A3 B3 L3 c4
 obtain⟨⟨x0,x1,x2,x3⟩,fr⟩:=A4.out.cells
 have f0:=fr 0
 have f1:=fr 1
 have f2:=fr 2
 have f3:=fr 3
 clear fr
 go_wp2_with fail
 obtain⟨⟨z0,z1,z2,z3⟩,-⟩:=(A4.out.put ⟨0,0,false,(du:Nat)⟩).cells
 have ht:=Mod.putAns_turned w4 (w.heap.size+1) ⟨0,0,false,(du:Nat)⟩
 have HT:=Lib.hid (H4.out.turned ht (by omega) (by omega))
 have LT:=Lib.hid (ht.lies L4.out fun hn b off e=>Mod.tab_apart A4.out L4.out hn b off e)
 unfold putAns at z0 z1 z2 z3
 clear x0 x1 x2 x3 f0 f1 f2 f3 ht
 refine bodyPost_ret (v:=.tuple #[ansV ⟨0,0,false,(du:Nat)⟩,putsV w3.heap.size]) ?q1 rfl ?q2
 case q1=>
  simp only[results,Tryz.results85]
  simp[go_sem,z0,z1,z2,z3]
 case q2=>exact⟨_,rfl,⟨w3.heap.size,⟨ta,tc,T',np⟩,rfl,HT.out,⟨LT.out,by show T'.length≤64; omega,hss,by show np≤64; omega⟩,rfl,rfl⟩,ans_below w4 B4.out (show w.heap.size≤w.heap.size+1 by omega) ⟨0,0,false,(du:Nat)⟩⟩
set_option maxHeartbeats 1000000 in
theorem stats_told (w:World) (h:Lay w f idle pa pc P sc m) (kd:Int) (pkt:ByteArray) (oa:Option Addr) (on oc:Nat) (sh now:Int):
 Calls Tryz.prog 86 #[f.v,opV kd pkt oa on oc sh,.int .i64 now] w (Told ⟨0,0,false,(sums m:Nat)⟩ (fun _ v=>v=fnV 135) w):=by
 obtain⟨-,a0,b0,s0⟩:=op_boxes w kd pkt oa on oc sh
 have H0:=Lib.hid (h.kept b0)
 obtain⟨⟨-,-,c2⟩,-⟩:=H0.out.cells
 have A0:=Lib.hid a0
 have B0:=Lib.hid b0
 have hsum:=sums_le w m h.good
 have hmany:=h.many
 have hl:=h.row.len
 have hmx:=hl.2
 unfold maxLen at hmx
 clear h a0 b0
 go_enter Tryz.func86,Tryz.ntmps86
 go_wp2_with fail
 go_loopw [8,16] (fun n i W=>∃ k:Nat,k≤m.length∧i=.int .i64 k∧n=.int .i64 (sums (m.take k):Nat)∧Lay W f idle pa pc P sc m∧AnsBox W (w.heap.size+1) ⟨0,0,false,0⟩∧Below w.heap.size w W) (fun _ i _=>m.length - (intOf i).toNat)
 case atStart=>exact⟨0,Nat.zero_le _,rfl,rfl,H0.out,A0.out,B0.out⟩
 case round=>
  clear H0 A0 B0 c2 s0
  obtain⟨k,hk,rfl,rfl,H,A,B⟩:=hrel
  have HH:=Lib.hid H
  have HA:=Lib.hid A
  have HB:=Lib.hid B
  by_cases hlt:k<m.length
  ·obtain⟨⟨c3,c4⟩,-⟩:=H.shard hlt
   have HS:=Lib.hid (sums_snoc m hlt)
   have hb1:=sums_le wr (m.take (k+1)) fun x hx=>H.good x (List.mem_of_mem_take hx)
   rw[sums_snoc m hlt,List.length_take] at hb1
   have G:=Lib.hid (H.good _ (List.getElem_mem hlt)).lies
   generalize m[k]=x at *
   obtain⟨bs,s1,s2⟩:=shard_box wr x
   have CL:=Lib.hid (live_told x.p x.c x.T (wr.alloc (.cells #[rowV x.p x.c x.T,.int .i64 (x.n:Nat)] 92)) (G.out.kept bs))
   generalize hsn:sums (m.take (k+1))=sn at *
   generalize sums (m.take k)=so at *
   generalize Tab.count 1 x.T=ct at *
   have BS:=Lib.hid bs
   have e1:IntKind.i64.wrap ((so:Int)+(ct:Int))=(sn:Int):=by have:=HS.out; rw[IntKind.wrap_i64]; omega
   have HSN:=Lib.hid hsn
   clear H A B bs hsn
   go_wp2_with fail
   refine CL.out.mono ?_
   rintro e w4 ⟨rfl,hb⟩
   have HH4:=Lib.hid ((HH.out.kept BS.out).kept hb)
   have HA4:=Lib.hid ((HA.out.kept BS.out).kept hb)
   have HB4:=Lib.hid (below2 (below2 HB.out BS.out) hb)
   clear hb CL HH HA HB BS c3 c4 s1 s2
   go_wp2_with fail
   refine⟨⟨k+1,hlt,by go_num,by rw[HSN.out],HH4.out,HA4.out,HB4.out⟩,by simp[intOf]; omega⟩
  ·obtain rfl:k=m.length:=by omega
   rw[List.take_length]
   generalize hsm:sums m=sn at *
   have HSM:=Lib.hid hsm
   clear H A B hsm
   obtain⟨⟨x0,x1,x2,x3⟩,fr⟩:=HA.out.cells
   have f0:=fr 0
   have f1:=fr 1
   have f2:=fr 2
   have f3:=fr 3
   clear fr
   go_wp2_with fail
   obtain⟨⟨z0,z1,z2,z3⟩,-⟩:=(HA.out.put ⟨0,0,false,(sn:Nat)⟩).cells
   unfold putAns at z0 z1 z2 z3
   clear x0 x1 x2 x3 f0 f1 f2 f3
   refine bodyPost_ret (v:=.tuple #[ansV ⟨0,0,false,(sn:Nat)⟩,fnV 135]) ?q1 rfl ?q2
   case q1=>
    simp only[results,Tryz.results86]
    simp[go_sem,z0,z1,z2,z3]
   case q2=>exact⟨_,by rw[HSM.out],rfl,ans_below wr HB.out (show w.heap.size≤w.heap.size+1 by omega) ⟨0,0,false,(sn:Nat)⟩⟩
end
end Go.Proofs.YtbamodkgagcmnaaGreat.Mdl
