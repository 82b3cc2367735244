/-
  A region that draws its order, by one invariant: whatever may come up keeps it, so no order is gone through by itself.
-/
import Derived.WalkKit
import Derived.RangeFuncNested
import Derived.RegionTactic
import Derived.Lib.Hide
import Derived.OrdersIn
import Derived.RangeFuncBound
import Derived.RangeFuncLeaves
import Derived.Test.YtbamodkgagcmnaaGreatProg
set_option maxRecDepth 100000
namespace Go.Proofs.YtbamodkgagcmnaaGreat.Rgn
open Go Go.RowKit
def upd (d:Nat→Bool) (i:Nat):Nat→Bool:=fun j=>if j=i then true else d j
theorem upd_same (d:Nat→Bool) (i:Nat):upd d i i=true:=if_pos rfl
theorem upd_other (d:Nat→Bool) {i j:Nat} (h:j≠i):upd d i j=d j:=if_neg h
def upv {α:Type} (x:Nat→α) (i:Nat) (v:α):Nat→α:=fun j=>if j=i then v else x j
theorem upv_same {α:Type} (x:Nat→α) (i:Nat) (v:α):upv x i v i=v:=if_pos rfl
theorem upv_other {α:Type} (x:Nat→α) {i j:Nat} (v:α) (h:j≠i):upv x i v j=x j:=if_neg h
def ahead (md:Region.Mode) (ops:Array Oper):Bool:=
 (List.range ops.size).all fun i=>((ops[i]?).map (·.after.all fun e=>!Region.binds md e || decide (e.on<i))).getD true
section
variable {P:Program} {ops:Array Oper} {Q:Exit→Act→World→Prop} {md:Region.Mode}
theorem ahead_of (h:ahead md ops=true) {i:Nat} {o:Oper} (ho:ops[i]? =some o):∀ e ∈ o.after,Region.binds md e=true→e.on<i:=by
 intro e he hb
 have hi:i<ops.size:=(Array.getElem?_eq_some_iff.1 ho).1
 have h1:=List.all_eq_true.1 h i (List.mem_range.2 hi)
 simp only[ho,Option.map_some,Option.getD_some] at h1
 have h2:=Array.all_eq_true_iff_forall_mem.1 h1 e he
 simpa [hb] using h2
theorem getD_false_lt {l:Array Bool} {j:Nat} (h:l.getD j false=true):j<l.size:=by
 rcases Nat.lt_or_ge j l.size with h' | h'
 ·exact h'
 ·simp[Array.getElem?_eq_none h'] at h
theorem all_listed (ha:ahead md ops=true) {l:Array Bool} (hsz:l.size=ops.size) (hr:Region.ready md ops l=[]):∀ i,i<ops.size→l.getD i false=true:=by
 intro i
 induction i using Nat.strongRecOn with
 | _ i ih=>
   intro hi
   cases hb:l.getD i false with
   | true=>rfl
   | false=>
     exfalso
     have ho:ops[i]? =some ops[i]:=Array.getElem?_eq_getElem hi
     have hm:i ∈ Region.ready md ops l:=mem_ready.2 ⟨by simpa [hsz,hi] using hb,_,ho,fun e he hbd=>by
      have hlt:=ahead_of ha ho e he hbd
      exact ih e.on hlt (by omega)⟩
     rw[hr] at hm; cases hm
theorem count_set {l:List Bool} {i:Nat} (h:l[i]? =some false):(l.set i true).count false+1=l.count false:=by
 induction l generalizing i with
 | nil=>simp at h
 | cons b l ih=>
   cases i with
   | zero=>simp at h; subst h; simp
   | succ i=>
     have h1:l[i]? =some false:=by simpa using h
     have:=ih h1
     simp only[List.set_cons_succ,List.count_cons]
     omega
theorem wpAny_inv (I:(Nat→Bool)→Act→World→Prop) (ha:ahead md ops=true)
 (hstep:∀ d a w i o,ops[i]? =some o→d i=false→(∀ e ∈ o.after,Region.binds md e=true→d e.on=true)→I d a w→wpOp P ops Q i (fun a' w'=>I (upd d i) a' w') a w)
 (hdone:∀ d a w,(∀ i,i<ops.size→d i=true)→I d a w→Q .normal a w):
 ∀ (fuel:Nat) (l:Array Bool) (d:Nat→Bool) (a:Act) (w:World),l.size=ops.size→(∀ j,j<ops.size→d j=l.getD j false)→l.toList.count false≤fuel→I d a w→wpAny P md ops Q fuel l a w:=by
 intro fuel
 induction fuel with
 | zero=>
   intro l d a w hsz hd hc hI
   have hno:∀ j,j<ops.size→l.getD j false=true:=by
    intro j hj
    cases hb:l.getD j false with
    | true=>rfl
    | false=>
      exfalso
      have hm:false ∈ l.toList:=by
       have:l.toList[j]? =some false:=by
        rw[Array.getElem?_toList]; simp[hsz ▸ hj] at hb ⊢; exact hb
       exact List.mem_of_getElem? this
      have:=List.count_pos_iff.2 hm
      omega
   refine⟨?_,hdone d a w (fun i hi=>(hd i hi).trans (hno i hi)) hI⟩
   cases hr:Region.ready md ops l with
   | nil=>rfl
   | cons x xs=>
     exfalso
     have hm:x ∈ Region.ready md ops l:=by rw[hr]; simp
     obtain⟨h0,o,ho,_⟩:=mem_ready.1 hm
     have hx:x<ops.size:=(Array.getElem?_eq_some_iff.1 ho).1
     have h1:=hno x hx
     simp[hsz,hx] at h0 h1
     rw[h0] at h1; cases h1
 | succ fuel ih=>
   intro l d a w hsz hd hc hI
   refine⟨fun hr=>hdone d a w (fun i hi=>(hd i hi).trans (all_listed ha hsz hr i hi)) hI,fun i hi=>?_⟩
   obtain⟨h0,o,ho,hall⟩:=mem_ready.1 hi
   have hx:i<ops.size:=(Array.getElem?_eq_some_iff.1 ho).1
   have hl:l.toList[i]? =some false:=by
    rw[Array.getElem?_toList]; simp[hsz,hx] at h0 ⊢; exact h0
   have hdi:d i=false:=by rw[hd i hx]; simp[hsz,hx] at h0 ⊢; exact h0
   refine wpOp_mono (fun a' w' hI'=>ih _ (upd d i) a' w' (by simpa using hsz) (fun j hj=>?_) ?_ hI') (hstep d a w i o ho hdi (fun e he hb=>?_) hI)
   ·by_cases hji:j=i
    ·subst hji; rw[upd_same]; simp[hsz,hx]
    ·rw[upd_other d hji,getD_set_ne false (Ne.symm hji)]; exact hd j hj
   ·have:=count_set hl
    rw[Array.toList_setIfInBounds]; omega
   ·have h1:=hall e he hb
    have h2:=getD_false_lt h1
    rw[hd e.on (by omega)]; exact h1
def waits (md:Region.Mode) (ops:Array Oper) (i j:Nat):Bool:=((ops[i]?).map (·.after.any fun e=>Region.binds md e && e.on == j)).getD false
theorem wp_region_inv {id:Nat} {a:Act} {w:World} (I:(Nat→Bool)→Act→World→Prop) (hm:P.follows .mixedOrders=true) (ha:ahead .any ops=true)
 (hstep:∀ d a w i,i<ops.size→d i=false→(∀ j,waits .any ops i j=true→d j=true)→I d a w→wpOp P ops Q i (fun a' w'=>I (upd d i) a' w') a w)
 (hdone:∀ d a w,(∀ i,i<ops.size→d i=true)→I d a w→Q .normal a w)
 (hI:I (fun _=>false) a w.drew):(Code.region id ops true).wp P Q a w:=by
 refine wp_region_any hm (wpAny_inv I ha (fun d a w i o ho hd hall h=>?_) hdone ops.size _ (fun _=>false) a _ (by simp) (fun j hj=>by simp[hj]) (by simp) hI)
 refine hstep d a w i (Array.getElem?_eq_some_iff.1 ho).1 hd (fun j hj=>?_) h
 unfold waits at hj
 simp only[ho,Option.map_some,Option.getD_some] at hj
 obtain⟨n,hn,hb⟩:=Array.any_eq_true.1 hj
 rw[Bool.and_eq_true,beq_iff_eq] at hb
 obtain⟨h1,rfl⟩:=hb
 exact hall _ (Array.getElem_mem hn) h1
end
structure Inv (m k:Nat) (W:World) (ty:Nat→TypeId) (zero val vals:Nat→Value) (d:Nat→Bool) (x:Nat→Value) (b:Nat→Nat) (w:World):Prop where
 below:Below W.heap.size W w
 pure:∀ i,i<m→d i=true→x i=vals i
 order:∀ i,m≤i→i<m+k→d (i+k)=true→d i=true
 cell:∀ i,m≤i→i<m+k→d i=true→x i=.pointer (some ⟨b i,0,none⟩)∧W.heap.size≤b i∧Boxed w (b i) (ty i) (if d (i+k)=true then val i else zero i)
 apart:∀ i j,m≤i→i<m+k→m≤j→j<m+k→d i=true→d j=true→b i=b j→i=j
section
variable {m k:Nat} {W w:World} {ty:Nat→TypeId} {zero val vals:Nat→Value} {d:Nat→Bool} {x:Nat→Value} {b:Nat→Nat}
theorem Inv.start (w:World) (x:Nat→Value) (b:Nat→Nat) (h:Below W.heap.size W w):Inv m k W ty zero val vals (fun _=>false) x b w:=
 ⟨h,fun _ _ h=>(by cases h),fun _ _ _ h=>(by cases h),fun _ _ _ h=>(by cases h),fun _ _ _ _ _ _ h=>(by cases h)⟩
theorem boxed_below {w w':World} {B t:Nat} {v:Value} (h:Boxed w B t v) (hb:Below w.heap.size w w'):Boxed w' B t v:=(hb.block B h.lt).trans h
theorem Inv.yields (h:Inv m k W ty zero val vals d x b w) {i:Nat} (hi:i<m) {w':World} (hb:Below w.heap.size w w'):Inv m k W ty zero val vals (upd d i) (upv x i (vals i)) b w' where
 below:=h.below.trans (hb.mono h.below.size)
 pure j hj hd:=by
  by_cases e:j=i
  ·subst e; rw[upv_same]
  ·rw[upv_other x _ e]; rw[upd_other d e] at hd; exact h.pure j hj hd
 order j h1 h2 hd:=by
  rw[upd_other d (by omega)] at hd ⊢; exact h.order j h1 h2 hd
 cell j h1 h2 hd:=by
  rw[upd_other d (by omega)] at hd ⊢
  rw[upv_other x _ (by omega)]
  obtain⟨a1,a2,a3⟩:=h.cell j h1 h2 hd
  exact⟨a1,a2,boxed_below a3 hb⟩
 apart j l h1 h2 h3 h4 hj hl:=by
  rw[upd_other d (by omega)] at hj hl; exact h.apart j l h1 h2 h3 h4 hj hl
theorem Inv.makes (h:Inv m k W ty zero val vals d x b w) {i:Nat} (h1:m≤i) (h2:i<m+k) (hd:d i=false):
 Inv m k W ty zero val vals (upd d i) (upv x i (.pointer (some ⟨w.heap.size,0,none⟩))) (upv b i w.heap.size) (w.alloc (.cells #[zero i] (ty i))) where
 below:=h.below.alloc h.below.size _
 pure j hj hdj:=by
  rw[upv_other x _ (by omega)]; rw[upd_other d (by omega)] at hdj; exact h.pure j hj hdj
 order j h3 h4 hdj:=by
  by_cases e:j=i
  ·subst e; exact upd_same _ _
  ·rw[upd_other d (by omega)] at hdj; rw[upd_other d e]; exact h.order j h3 h4 hdj
 cell j h3 h4 hdj:=by
  by_cases e:j=i
  ·subst e
   rw[upv_same,upv_same,upd_other d (by omega)]
   have hn:d (j+k)=false:=by
    cases hk:d (j+k) with
    | false=>rfl
    | true=>rw[h.order j h3 h4 hk] at hd; cases hd
   rw[hn,if_neg (by simp)]
   exact⟨rfl,h.below.size,Boxed.new _ _ _⟩
  ·rw[upd_other d e] at hdj
   rw[upv_other x _ e,upv_other b _ e,upd_other d (by omega)]
   obtain⟨a1,a2,a3⟩:=h.cell j h3 h4 hdj
   exact⟨a1,a2,a3.alloc _⟩
 apart j l h3 h4 h5 h6 hj hl he:=by
  by_cases e:j=i
  ·by_cases e':l=i
   ·omega
   ·exfalso
    rw[upd_other d e'] at hl
    rw[e,upv_same,upv_other b _ e'] at he
    have:=(h.cell l h5 h6 hl).2.2.lt
    omega
  ·rw[upd_other d e] at hj
   by_cases e':l=i
   ·exfalso
    rw[e',upv_same,upv_other b _ e] at he
    have:=(h.cell j h3 h4 hj).2.2.lt
    omega
   ·rw[upd_other d e'] at hl
    rw[upv_other b _ e,upv_other b _ e'] at he
    exact h.apart j l h3 h4 h5 h6 hj hl he
theorem Inv.lays (h:Inv m k W ty zero val vals d x b w) {i:Nat} (h1:m≤i) (h2:i<m+k) (hd:d i=true):
 Inv m k W ty zero val vals (upd d (i+k)) x b (w.setCell ⟨b i,0,none⟩ (val i)) where
 below:=h.below.setCell (p:=⟨b i,0,none⟩) (h.cell i h1 h2 hd).2.1 _
 pure j hj hdj:=by
  rw[upd_other d (by omega)] at hdj; exact h.pure j hj hdj
 order j h3 h4 hdj:=by
  by_cases e:j=i
  ·subst e; rw[upd_other d (by omega)]; exact hd
  ·rw[upd_other d (by omega)] at hdj; rw[upd_other d (by omega)]; exact h.order j h3 h4 hdj
 cell j h3 h4 hdj:=by
  rw[upd_other d (by omega)] at hdj
  obtain⟨a1,a2,a3⟩:=h.cell j h3 h4 hdj
  by_cases e:j=i
  ·subst e
   rw[upd_same,if_pos rfl]
   exact⟨a1,a2,a3.set _⟩
  ·rw[upd_other d (by omega)]
   exact⟨a1,a2,a3.other (fun hb=>e (h.apart j i h3 h4 h1 h2 hdj hd hb)) _⟩
 apart j l h3 h4 h5 h6 hj hl:=by
  rw[upd_other d (by omega)] at hj hl; exact h.apart j l h3 h4 h5 h6 hj hl
end
end Go.Proofs.YtbamodkgagcmnaaGreat.Rgn
namespace Go.Proofs.YtbamodkgagcmnaaGreat.Rgn
open Go Go.RowKit
theorem free_wanted {o:Oper} {y:Nat→Option Bool} (h:o.guard=none) {A B:Prop} (hA:A):if Region.wanted o y=true then A else B:=by
 rw[if_pos (by unfold Region.wanted; rw[h])]; exact hA
structure InvJ (m:Nat) (vals:Nat→Value) (J:(Nat→Bool)→World→Prop) (d:Nat→Bool) (x:Nat→Value) (w:World):Prop where
 pure:∀ i,i<m→d i=true→x i=vals i
 st:J d w
section
variable {m:Nat} {vals:Nat→Value} {J:(Nat→Bool)→World→Prop} {d:Nat→Bool} {x:Nat→Value} {w:World}
theorem InvJ.start (x:Nat→Value) (h:J (fun _=>false) w):InvJ m vals J (fun _=>false) x w:=⟨fun _ _ h=>(by cases h),h⟩
theorem InvJ.yields (h:InvJ m vals J d x w) (i:Nat) {w':World} (hJ:J (upd d i) w'):InvJ m vals J (upd d i) (upv x i (vals i)) w' where
 pure j hj hd:=by
  by_cases e:j=i
  ·subst e; rw[upv_same]
  ·rw[upv_other x _ e]; rw[upd_other d e] at hd; exact h.pure j hj hd
 st:=hJ
theorem InvJ.does (h:InvJ m vals J d x w) (i:Nat) (hi:m≤i) {w':World} (hJ:J (upd d i) w'):InvJ m vals J (upd d i) x w' where
 pure j hj hd:=by
  rw[upd_other d (by omega)] at hd; exact h.pure j hj hd
 st:=hJ
end
end Go.Proofs.YtbamodkgagcmnaaGreat.Rgn
namespace Go.Proofs.YtbamodkgagcmnaaGreat.Rgn
open Go Go.RowKit
def dstAt (ops:Array Oper) (i:Nat):Option Tmp:=(ops[i]?).bind (·.dst)
def uniq (ops:Array Oper) (n:Nat):Bool:=
 (List.range ops.size).all fun i=>match dstAt ops i with
   | none=>true
   | some s=>decide (s<n) && (List.range ops.size).all fun j=>j == i || dstAt ops j != some s
theorem dstAt_lt {ops:Array Oper} {i s:Nat} (h:dstAt ops i=some s):i<ops.size:=by
 unfold dstAt at h
 rcases Nat.lt_or_ge i ops.size with h' | h'
 ·exact h'
 ·rw[Array.getElem?_eq_none h'] at h; cases h
theorem uniq_of {ops:Array Oper} {n i s:Nat} (hu:uniq ops n=true) (h:dstAt ops i=some s):s<n∧∀ j,dstAt ops j=some s→j=i:=by
 have h1:=List.all_eq_true.1 hu i (List.mem_range.2 (dstAt_lt h))
 simp only[h,Bool.and_eq_true,decide_eq_true_eq] at h1
 refine⟨h1.1,fun j hj=>?_⟩
 have h2:=List.all_eq_true.1 h1.2 j (List.mem_range.2 (dstAt_lt hj))
 rw[Bool.or_eq_true] at h2
 rcases h2 with h2 | h2
 ·exact beq_iff_eq.1 h2
 ·rw[hj] at h2; simp at h2
structure InvV (V:Nat→World→Value→Prop) (ops:Array Oper) (a0:Act) (w0:World) (d:Nat→Bool) (a:Act) (w:World):Prop where
 below:Below w0.heap.size w0 w
 defs:a.defers=a0.defers
 size:a.tmps.size=a0.tmps.size
 val:∀ i s,dstAt ops i=some s→d i=true→V i w (a.tmps[s]?.getD undef)
 old:∀ s,(∀ i,dstAt ops i=some s→d i=false)→a.tmps[s]?.getD undef=a0.tmps[s]?.getD undef
section
variable {P:Program} {ops:Array Oper} {Q:Exit→Act→World→Prop} {V:Nat→World→Value→Prop} {a0 a:Act} {w0 w:World} {d:Nat→Bool} {i:Nat} {o:Oper}
theorem getD_put_same {t:Array Value} {s:Nat} (hs:s<t.size) (v:Value):(t.setIfInBounds s v)[s]?.getD undef=v:=by simp[hs]
theorem getD_put_other {t:Array Value} {s r:Nat} (hr:r≠s) (v:Value):(t.setIfInBounds s v)[r]?.getD undef=t[r]?.getD undef:=by
 simp[Ne.symm hr]
theorem InvV.put (h:InvV V ops a0 w0 d a w) (hu:uniq ops a0.tmps.size=true) (hV:∀ j w w' v,V j w v→Below w.heap.size w w'→V j w' v) (ho:ops[i]? =some o) {v:Value} {w':World} (hb:Below w.heap.size w w') (hv:V i w' v):
 InvV V ops a0 w0 (upd d i) (a.put o.dst v) w':=by
 have hd:dstAt ops i=o.dst:=by unfold dstAt; rw[ho]; rfl
 cases hdst:o.dst with
 | none=>
   rw[hdst] at hd
   refine⟨h.below.trans (hb.mono h.below.size),h.defs,h.size,fun j s hj hdj=>?_,fun s hs=>h.old s fun j hj=>?_⟩
   ·have hne:j≠i:=fun e=>by rw[e,hd] at hj; cases hj
    rw[upd_other d hne] at hdj
    exact hV _ _ _ _ (h.val j s hj hdj) hb
   ·have hne:j≠i:=fun e=>by rw[e,hd] at hj; cases hj
    have:=hs j hj; rwa [upd_other d hne] at this
 | some s0=>
   rw[hdst] at hd
   obtain⟨hlt,huq⟩:=uniq_of hu hd
   rw[← h.size] at hlt
   refine⟨h.below.trans (hb.mono h.below.size),h.defs,by show (a.tmps.setIfInBounds s0 v).size=_; rw[Array.size_setIfInBounds]; exact h.size,fun j s hj hdj=>?_,fun s hs=>?_⟩
   ·show V j w' ((a.tmps.setIfInBounds s0 v)[s]?.getD undef)
    by_cases e:j=i
    ·subst e
     rw[hd] at hj; cases hj
     rw[getD_put_same hlt]; exact hv
    ·rw[upd_other d e] at hdj
     have hne:s≠s0:=fun e'=>by subst e'; exact e (huq j hj)
     rw[getD_put_other hne]
     exact hV _ _ _ _ (h.val j s hj hdj) hb
   ·show (a.tmps.setIfInBounds s0 v)[s]?.getD undef=_
    have hne:s≠s0:=fun e=>by subst e; have:=hs i hd; rw[upd_same] at this; cases this
    rw[getD_put_other hne]
    refine h.old s fun j hj=>?_
    have:=hs j hj
    by_cases e:j=i
    ·rw[e,upd_same] at this; cases this
    ·rwa [upd_other d e] at this
theorem InvV.does (h:InvV V ops a0 w0 d a w) (hu:uniq ops a0.tmps.size=true) (hV:∀ j w w' v,V j w v→Below w.heap.size w w'→V j w' v) (ho:ops[i]? =some o) (hw:Region.wanted o (yielded ops a.tmps)=true)
 (H:∀ K':Act→World→Prop,(∀ v w',Below w.heap.size w w'→V i w' v→K' (a.put o.dst v) w')→Oper.wp P o a w K' Q):
 wpOp P ops Q i (fun a' w'=>InvV V ops a0 w0 (upd d i) a' w') a w:=by
 refine wpOp_step ho fun K hK=>?_
 rw[if_pos hw]
 exact H K fun v w' hb hv=>hK _ _ (h.put hu hV ho hb hv)
theorem InvV.leaves (h:InvV V ops a0 w0 d a w) (hu:uniq ops a0.tmps.size=true) (hV:∀ j w w' v,V j w v→Below w.heap.size w w'→V j w' v) (ho:ops[i]? =some o) (hw:Region.wanted o (yielded ops a.tmps)=false) (hv:V i w undef):
 wpOp P ops Q i (fun a' w'=>InvV V ops a0 w0 (upd d i) a' w') a w:=by
 refine wpOp_step ho fun K hK=>?_
 rw[if_neg (by rw[hw]; simp)]
 exact hK _ _ (h.put hu hV ho (Below.refl _ _) hv)
theorem wanted_free {y:Nat→Option Bool} (h:o.guard=none):Region.wanted o y=true:=by unfold Region.wanted; rw[h]
theorem wanted_if {j s:Nat} {want b:Bool} (hg:o.guard=some (j,want)) (hs:dstAt ops j=some s) (hb:a.tmps[s]?.getD undef=.bool b):Region.wanted o (yielded ops a.tmps)=(b == want):=by
 have h1:a.tmps[s]? =some (.bool b):=by
  cases h:a.tmps[s]? with
  | none=>rw[h] at hb; simp[undef] at hb
  | some v=>rw[h] at hb; simp at hb; rw[hb]
 unfold Region.wanted yielded
 unfold dstAt at hs
 rw[hg]
 simp only[hs,Option.bind_some,h1]
 cases b <;> cases want <;> rfl
def StepV (P:Program) (ops:Array Oper) (Q:Exit→Act→World→Prop) (V:Nat→World→Value→Prop) (i:Nat) (a:Act) (w:World):Prop:=
 ∃ o,ops[i]? =some o∧((Region.wanted o (yielded ops a.tmps)=true∧∀ K':Act→World→Prop,(∀ v w',Below w.heap.size w w'→V i w' v→K' (a.put o.dst v) w')→Oper.wp P o a w K' Q)∨(Region.wanted o (yielded ops a.tmps)=false∧V i w undef))
theorem StepV.done (ho:ops[i]? =some o) (hw:Region.wanted o (yielded ops a.tmps)=true) (H:∀ K':Act→World→Prop,(∀ v w',Below w.heap.size w w'→V i w' v→K' (a.put o.dst v) w')→Oper.wp P o a w K' Q):StepV P ops Q V i a w:=⟨o,ho,.inl ⟨hw,H⟩⟩
theorem StepV.left (ho:ops[i]? =some o) (hw:Region.wanted o (yielded ops a.tmps)=false) (hv:V i w undef):StepV P ops Q V i a w:=⟨o,ho,.inr ⟨hw,hv⟩⟩
theorem wp_region_val {id:Nat} (V:Nat→World→Value→Prop) (hV:∀ j w w' v,V j w v→Below w.heap.size w w'→V j w' v) (hm:P.follows .mixedOrders=true) (ha:ahead .any ops=true) (hu:uniq ops a.tmps.size=true)
 (hstep:∀ d a' w' i,i<ops.size→(∀ j,waits .any ops i j=true→d j=true)→InvV V ops a w d a' w'→StepV P ops Q V i a' w')
 (hdone:∀ a' w',(∀ i s,dstAt ops i=some s→V i w' (a'.tmps[s]?.getD undef))→InvV V ops a w (fun _=>true) a' w'→Q .normal a' w'):(Code.region id ops true).wp P Q a w:=by
 refine wp_region_inv (fun d a' w'=>InvV V ops a w d a' w') hm ha (fun d a' w' i hi hd hall h=>?_) (fun d a' w' hall h=>?_) ⟨(Below.refl _ w).drew,rfl,rfl,(fun i s _ h=>by cases h),fun s _=>rfl⟩
 ·obtain⟨o,ho,⟨hw,H⟩ | ⟨hw,hv⟩⟩:=hstep d a' w' i hi hall h
  ·exact h.does hu hV ho hw H
  ·exact h.leaves hu hV ho hw hv
 ·refine hdone a' w' (fun i s hs=>h.val i s hs (hall i (dstAt_lt hs))) ⟨h.below,h.defs,h.size,fun i s hs _=>h.val i s hs (hall i (dstAt_lt hs)),fun s hs=>h.old s fun i hi=>?_⟩
  have:=hs i hi; cases this
end
def unwritten (ops:Array Oper) (s:Nat):Bool:=(List.range ops.size).all fun i=>dstAt ops i != some s
theorem unwritten_of {ops:Array Oper} {s:Nat} (h:unwritten ops s=true) (d:Nat→Bool):∀ i,dstAt ops i=some s→d i=false:=by
 intro i hi
 have:=List.all_eq_true.1 h i (List.mem_range.2 (dstAt_lt hi))
 rw[hi] at this; simp at this
def Olds (t t0:Array Value):List Nat→Prop
 | []=>True
 | n :: l=>t[n]?.getD undef=t0[n]?.getD undef∧Olds t t0 l
theorem olds {ops:Array Oper} {d:Nat→Bool} {t t0:Array Value} (h:∀ r,(∀ i,dstAt ops i=some r→d i=false)→t[r]?.getD undef=t0[r]?.getD undef):∀ l:List Nat,(l.all fun r=>unwritten ops r)=true→Olds t t0 l
 | [],_=>trivial
 | n :: l,e=>by
   rw[List.all_cons,Bool.and_eq_true] at e
   exact⟨h n (unwritten_of e.1 d),olds h l e.2⟩
section
variable {P:Program} {Q:Exit→Act→World→Prop} {a:Act} {w:World} {o:Oper} {K:Act→World→Prop}
theorem op_run (v:Value) (w':World) (h:(execOp a.eval o).run P w=.ok (.value v) w') (H:K (a.put o.dst v) w'):Oper.wp P o a w K Q:=by
 unfold Oper.wp; rw[h]; exact H
theorem eval_tmp (s:Nat):a.eval (.tmp s)=a.tmps[s]?.getD undef:=by
 show a.tmps.getD s undef=_
 rw[Array.getD_eq_getD_getElem?]
theorem op_move {s:Nat} (ho:o.op=.move (.tmp s)) (H:K (a.put o.dst (a.tmps[s]?.getD undef)) w):Oper.wp P o a w K Q:=by
 rw[← eval_tmp] at H
 refine op_run _ w ?_ H
 unfold execOp; rw[ho]; rfl
theorem op_assign {s:Nat} (ho:o.op=.assign (.tmp s)) (H:K (a.put o.dst (a.tmps[s]?.getD undef)) w):Oper.wp P o a w K Q:=by
 rw[← eval_tmp] at H
 refine op_run _ w ?_ H
 unfold execOp; rw[ho]; rfl
theorem op_call (f:FuncId) (args:Array Value) (R:Value→World→Prop) (h:(execOp a.eval o).run P w=.ok (.enter f args) w) (C:Calls P f args w fun e w'=>∃ v,e=.returned v∧R v w') (H:∀ v w',R v w'→K (a.put o.dst v) w'):Oper.wp P o a w K Q:=by
 unfold Oper.wp; rw[h,Oper.upon_enter]
 refine C.mono ?_
 rintro e w' ⟨v,rfl,hr⟩
 exact H v w' hr
end
def slotsFrom (y:Nat→Value):Nat→Nat→List Value
 | _,0=>[]
 | s,n+1=>y s :: slotsFrom y (s+1) n
theorem slots_get (y:Nat→Value):∀ (n s i:Nat),i<n→(slotsFrom y s n)[i]? =some (y (s+i)):=by
 intro n
 induction n with
 | zero=>intro s i h; omega
 | succ n ih=>
   intro s i h
   unfold slotsFrom
   cases i with
   | zero=>rfl
   | succ i=>rw[List.getElem?_cons_succ,ih (s+1) i (by omega)]; congr 2; omega
theorem slots_length (y:Nat→Value):∀ (n s:Nat),(slotsFrom y s n).length=n:=by
 intro n
 induction n with
 | zero=>intro s; rfl
 | succ n ih=>intro s; unfold slotsFrom; rw[List.length_cons,ih]
theorem arr_slots (t:Array Value) (n:Nat) (h:t.size=n):∃ y:Nat→Value,(∀ s,t[s]?.getD undef=y s)∧t=(slotsFrom y 0 n).toArray:=by
 refine⟨fun s=>t[s]?.getD undef,fun _=>rfl,?_⟩
 apply Array.ext
 ·simp[slots_length,h]
 ·intro i h1 h2
  have:=slots_get (fun s=>t[s]?.getD undef) n 0 i (by omega)
  have h3:i<(slotsFrom (fun s=>t[s]?.getD undef) 0 n).length:=by rw[slots_length]; omega
  rw[List.getElem?_eq_getElem h3] at this
  simp only[Nat.zero_add,Option.some.injEq] at this
  show t[i]=(slotsFrom (fun s=>t[s]?.getD undef) 0 n)[i]
  rw[this]
  simp[h1]
end Go.Proofs.YtbamodkgagcmnaaGreat.Rgn
namespace Go.Proofs.YtbamodkgagcmnaaGreat.Rgn
open Go Go.RowKit
def tails (ops:Array Oper) (m:Nat):Bool:=
 decide (m<ops.size) && ((List.range m).all fun j=>(List.range (m+1)).any fun i=>decide (j<i) && waits .any ops i j) && (List.range ops.size).all fun i=>decide (i≤m) || waits .any ops i (i - 1)
def late (ops:Array Oper) (m s:Nat):Bool:=(List.range ops.size).all fun i=>dstAt ops i != some s || decide (m≤i)
theorem late_of {ops:Array Oper} {m s:Nat} {d:Nat→Bool} (h:late ops m s=true) (hno:∀ j,m≤j→d j=false):∀ i,dstAt ops i=some s→d i=false:=by
 intro i hi
 have:=List.all_eq_true.1 h i (List.mem_range.2 (dstAt_lt hi))
 rw[hi] at this
 simp at this
 exact hno i this
section
variable {P:Program} {ops:Array Oper} {Q:Exit→Act→World→Prop} {a:Act} {w:World} {d:Nat→Bool} {i:Nat} {o:Oper}
def Shut (ops:Array Oper) (d:Nat→Bool):Prop:=∀ i j,d i=true→waits .any ops i j=true→d j=true
theorem Shut.upd (h:Shut ops d) (hall:∀ j,waits .any ops i j=true→d j=true):Shut ops (upd d i):=by
 intro k j hk hw
 by_cases e:j=i
 ·rw[e,upd_same]
 ·rw[upd_other d e]
  by_cases e':k=i
  ·subst e'; exact hall j hw
  ·rw[upd_other d e'] at hk; exact h k j hk hw
theorem tails_all {m:Nat} (ht:tails ops m=true) (h:Shut ops d) (hall:∀ j,waits .any ops m j=true→d j=true):∀ j,j<m→d j=true:=by
 unfold tails at ht
 simp only[Bool.and_eq_true,List.all_eq_true,List.any_eq_true,List.mem_range,decide_eq_true_eq] at ht
 have key:∀ n j,m - j≤n→j<m→d j=true:=by
  intro n
  induction n with
  | zero=>intro j h1 h2; omega
  | succ n ih=>
    intro j h1 h2
    obtain⟨k,hk,hjk,hw⟩:=ht.1.2 j h2
    by_cases e:k=m
    ·subst e; exact hall j hw
    ·exact h k j (ih k (by omega) (by omega)) hw
 exact fun j hj=>key _ j (Nat.le_refl _) hj
theorem tails_prev {m:Nat} (ht:tails ops m=true) (hi:i<ops.size) (hm:m<i):waits .any ops i (i - 1)=true:=by
 unfold tails at ht
 simp only[Bool.and_eq_true,List.all_eq_true,Bool.or_eq_true,List.mem_range,decide_eq_true_eq] at ht
 rcases ht.2 i hi with h | h
 ·omega
 ·exact h
theorem tails_lt {m:Nat} (ht:tails ops m=true):m<ops.size:=by
 unfold tails at ht
 simp only[Bool.and_eq_true,decide_eq_true_eq] at ht
 exact ht.1.1
theorem drop_at (h:ops[i]? =some o):ops.toList.drop i=o :: ops.toList.drop (i+1):=by
 obtain⟨hi,e⟩:=Array.getElem?_eq_some_iff.1 h
 rw[List.drop_eq_getElem_cons (by simpa using hi)]
 simp[e]
theorem wpOp_of_list {K:Act→World→Prop} (ho:ops[i]? =some o) (h:wpList P ops Q (ops.toList.drop i) a w) (hK:∀ a w,wpList P ops Q (ops.toList.drop (i+1)) a w→K a w):wpOp P ops Q i K a w:=by
 rw[drop_at ho] at h
 unfold wpList at h
 unfold wpOp
 rw[ho]
 show if Region.wanted o (yielded ops a.tmps)=true then _ else _
 split
 ·rename_i hw
  rw[if_pos hw] at h
  exact h.imp (fun h=>Oper.wp_mono hK h) id
 ·rename_i hw
  rw[if_neg hw] at h
  exact hK _ _ h
theorem wp_region_tail {id:Nat} (m:Nat) (V:Nat→World→Value→Prop) (hV:∀ j w w' v,V j w v→Below w.heap.size w w'→V j w' v) (hm:P.follows .mixedOrders=true) (ha:ahead .any ops=true) (hu:uniq ops a.tmps.size=true) (ht:tails ops m=true)
 (hstep:∀ d a' w' i,i<m→(∀ j,m≤j→d j=false)→(∀ j,waits .any ops i j=true→d j=true)→InvV V ops a w d a' w'→StepV P ops Q V i a' w')
 (hdone:∀ d a' w',(∀ j,j<m→d j=true)→(∀ j,m≤j→d j=false)→InvV V ops a w d a' w'→wpList P ops Q (ops.toList.drop m) a' w'):(Code.region id ops true).wp P Q a w:=by
 have hlt:=tails_lt ht
 refine wp_region_inv (fun d a' w'=>Shut ops d∧(((∀ j,m≤j→d j=false)∧InvV V ops a w d a' w')∨∃ k,m<k∧k≤ops.size∧(∀ j,j<k→d j=true)∧(∀ j,k≤j→d j=false)∧wpList P ops Q (ops.toList.drop k) a' w')) hm ha (fun d a' w' i hi hd hall h=>?_) (fun d a' w' hall h=>?_) ⟨(fun _ _ h=>by cases h),.inl ⟨fun _ _=>rfl,(Below.refl _ w).drew,rfl,rfl,(fun i s _ h=>by cases h),fun s _=>rfl⟩⟩
 ·obtain⟨hc,⟨hno,hI⟩ | ⟨k,hmk,hk,hyes,hno,hl⟩⟩:=h
  ·rcases Nat.lt_or_ge i m with him | him
   ·have hs:=hstep d a' w' i him hno hall hI
    have hstp:wpOp P ops Q i (fun a'' w''=>InvV V ops a w (upd d i) a'' w'') a' w':=by
     obtain⟨o,ho,⟨hw,H⟩ | ⟨hw,hv⟩⟩:=hs
     ·exact hI.does hu hV ho hw H
     ·exact hI.leaves hu hV ho hw hv
    have ho:ops[i]? =some ops[i]:=Array.getElem?_eq_getElem hi
    unfold wpOp at hstp ⊢
    rw[ho] at hstp ⊢
    have hK:∀ a'' w'',InvV V ops a w (upd d i) a'' w''→Shut ops (upd d i)∧(((∀ j,m≤j→upd d i j=false)∧InvV V ops a w (upd d i) a'' w'')∨∃ k,m<k∧k≤ops.size∧(∀ j,j<k→upd d i j=true)∧(∀ j,k≤j→upd d i j=false)∧wpList P ops Q (ops.toList.drop k) a'' w''):=
     fun a'' w'' h=>⟨hc.upd hall,.inl ⟨fun j hj=>by rw[upd_other d (by omega)]; exact hno j hj,h⟩⟩
    revert hstp
    dsimp only
    split
    ·exact fun h=>h.imp (fun h=>Oper.wp_mono hK h) (fun h=>h)
    ·exact fun h=>hK _ _ h
   ·have e:i=m:=by
     rcases Nat.lt_or_ge m i with h | h
     ·have:=hall _ (tails_prev ht hi h)
      rw[hno _ (by omega)] at this; cases this
     ·omega
    subst e
    have hyes:=tails_all ht hc hall
    refine wpOp_of_list (Array.getElem?_eq_getElem hi) (hdone d a' w' hyes hno hI) fun a'' w'' h=>⟨hc.upd hall,.inr ⟨i+1,by omega,by omega,fun j hj=>?_,fun j hj=>by rw[upd_other d (by omega)]; exact hno j (by omega),h⟩⟩
    by_cases e:j=i
    ·rw[e,upd_same]
    ·rw[upd_other d e]; exact hyes j (by omega)
  ·have e:i=k:=by
    rcases Nat.lt_trichotomy i k with h | h | h
    ·rw[hyes i h] at hd; cases hd
    ·exact h
    ·have:=hall _ (tails_prev ht hi (by omega))
     rw[hno _ (by omega)] at this; cases this
   subst e
   refine wpOp_of_list (Array.getElem?_eq_getElem hi) hl fun a'' w'' h=>⟨hc.upd hall,.inr ⟨i+1,by omega,by omega,fun j hj=>?_,fun j hj=>by rw[upd_other d (by omega)]; exact hno j (by omega),h⟩⟩
   by_cases e:j=i
   ·rw[e,upd_same]
   ·rw[upd_other d e]; exact hyes j (by omega)
 ·obtain⟨_,⟨hno,_⟩ | ⟨k,_,hk,_,hno,hl⟩⟩:=h
  ·have:=hall m hlt
   rw[hno m (Nat.le_refl _)] at this; cases this
  ·have e:k=ops.size:=by
    rcases Nat.lt_or_ge k ops.size with h | h
    ·have:=hall k h
     rw[hno k (Nat.le_refl _)] at this; cases this
    ·omega
   rw[e,← Array.length_toList,List.drop_length] at hl
   exact hl
end
end Go.Proofs.YtbamodkgagcmnaaGreat.Rgn
namespace Go.Proofs.YtbamodkgagcmnaaGreat.Rgn
open Go Go.RowKit
section
variable {F:Fence} {n:Nat} {P:Program} {md:Region.Mode} {ops:Array Oper} {Q:Exit→Act→World→Prop}
theorem wpAnyIn_inv (I:(Nat→Bool)→Act→World→Prop) (ha:ahead md ops=true)
 (hstep:∀ d a w i o,ops[i]? =some o→d i=false→(∀ e ∈ o.after,Region.binds md e=true→d e.on=true)→I d a w→wpOpIn F n P ops Q i (fun a' w'=>I (upd d i) a' w') a w)
 (hdone:∀ d a w,(∀ i,i<ops.size→d i=true)→I d a w→Q .normal a w):
 ∀ (fuel:Nat) (l:Array Bool) (d:Nat→Bool) (a:Act) (w:World),l.size=ops.size→(∀ j,j<ops.size→d j=l.getD j false)→l.toList.count false≤fuel→I d a w→wpAnyIn F n P md ops Q fuel l a w:=by
 intro fuel
 induction fuel with
 | zero=>
   intro l d a w hsz hd hc hI
   have hno:∀ j,j<ops.size→l.getD j false=true:=by
    intro j hj
    cases hb:l.getD j false with
    | true=>rfl
    | false=>
      exfalso
      have hm:false ∈ l.toList:=by
       have:l.toList[j]? =some false:=by
        rw[Array.getElem?_toList]; simp[hsz ▸ hj] at hb ⊢; exact hb
       exact List.mem_of_getElem? this
      have:=List.count_pos_iff.2 hm
      omega
   refine⟨?_,hdone d a w (fun i hi=>(hd i hi).trans (hno i hi)) hI⟩
   cases hr:Region.ready md ops l with
   | nil=>rfl
   | cons x xs=>
     exfalso
     have hm:x ∈ Region.ready md ops l:=by rw[hr]; simp
     obtain⟨h0,o,ho,_⟩:=mem_ready.1 hm
     have hx:x<ops.size:=(Array.getElem?_eq_some_iff.1 ho).1
     have h1:=hno x hx
     simp[hsz,hx] at h0 h1
     rw[h0] at h1; cases h1
 | succ fuel ih=>
   intro l d a w hsz hd hc hI
   refine⟨fun hr=>hdone d a w (fun i hi=>(hd i hi).trans (all_listed ha hsz hr i hi)) hI,fun i hi=>?_⟩
   obtain⟨h0,o,ho,hall⟩:=mem_ready.1 hi
   have hx:i<ops.size:=(Array.getElem?_eq_some_iff.1 ho).1
   have hl:l.toList[i]? =some false:=by
    rw[Array.getElem?_toList]; simp[hsz,hx] at h0 ⊢; exact h0
   have hdi:d i=false:=by rw[hd i hx]; simp[hsz,hx] at h0 ⊢; exact h0
   refine wpOpIn_mono (fun a' w' hI'=>ih _ (upd d i) a' w' (by simpa using hsz) (fun j hj=>?_) ?_ hI') (hstep d a w i o ho hdi (fun e he hb=>?_) hI)
   ·by_cases hji:j=i
    ·subst hji; rw[upd_same]; simp[hsz,hx]
    ·rw[upd_other d hji,getD_set_ne false (Ne.symm hji)]; exact hd j hj
   ·have:=count_set hl
    rw[Array.toList_setIfInBounds]; omega
   ·have h1:=hall e he hb
    have h2:=getD_false_lt h1
    rw[hd e.on (by omega)]; exact h1
theorem wpIn_region_inv {id:Nat} {a:Act} {w:World} (I:(Nat→Bool)→Act→World→Prop) (hm:P.follows .mixedOrders=true) (ha:ahead .any ops=true)
 (hstep:∀ d a w i,i<ops.size→d i=false→(∀ j,waits .any ops i j=true→d j=true)→I d a w→wpOpIn F n P ops Q i (fun a' w'=>I (upd d i) a' w') a w)
 (hdone:∀ d a w,(∀ i,i<ops.size→d i=true)→I d a w→Q .normal a w)
 (hI:I (fun _=>false) a w.drew):(Code.region id ops true).wpIn F n P Q a w:=by
 refine wpIn_region_any hm (wpAnyIn_inv I ha (fun d a w i o ho hd hall h=>?_) hdone ops.size _ (fun _=>false) a _ (by simp) (fun j hj=>by simp[hj]) (by simp) hI)
 refine hstep d a w i (Array.getElem?_eq_some_iff.1 ho).1 hd (fun j hj=>?_) h
 unfold waits at hj
 simp only[ho,Option.map_some,Option.getD_some] at hj
 obtain⟨m,hn,hb⟩:=Array.any_eq_true.1 hj
 rw[Bool.and_eq_true,beq_iff_eq] at hb
 obtain⟨h1,rfl⟩:=hb
 exact hall _ (Array.getElem_mem hn) h1
end
theorem wpOpIn_free {F:Fence} {n:Nat} {P:Program} {ops:Array Oper} {Q:Exit→Act→World→Prop} {i:Nat} {o:Oper} {K:Act→World→Prop} {a:Act} {w:World} (ho:ops[i]? =some o) (hg:o.guard=none)
 (h:∀ K':Act→World→Prop,(∀ a w,K a w→K' a w)→Oper.wpIn F n P o a w K' Q):wpOpIn F n P ops Q i K a w:=by
 refine wpOpIn_step ho fun K' hK'=>?_
 rw[if_pos (by unfold Region.wanted; rw[hg])]
 exact h K' hK'
end Go.Proofs.YtbamodkgagcmnaaGreat.Rgn
namespace Go.Proofs.YtbamodkgagcmnaaGreat.Rgn
open Go Go.RowKit
structure Keeps (sp:Nat→Obj→Bool) (l:Option Nat) (W W':World):Prop where
 size:W.heap.size≤W'.heap.size
 same:∀ k o,W.heap[k]? =some o→some k≠l→sp k o=true→W'.heap[k]? =some o
section
variable {sp:Nat→Obj→Bool} {l:Option Nat} {W W' W'':World}
theorem Keeps.refl (W:World):Keeps sp l W W:=⟨Nat.le_refl _,fun _ _ h _ _=>h⟩
theorem Keeps.trans (h:Keeps sp l W W') (k:Keeps sp l W' W''):Keeps sp l W W'':=⟨Nat.le_trans h.size k.size,fun i o hi hl hs=>k.same i o (h.same i o hi hl hs) hl hs⟩
theorem Keeps.but (h:Keeps sp none W W') (l:Nat):Keeps sp (some l) W W':=⟨h.size,fun k o hk _ hs=>h.same k o hk (by simp) hs⟩
theorem Keeps.below (h:Below W.heap.size W W'):Keeps sp l W W':=⟨h.size,fun k _ hk _ _=>(h.block k (Array.getElem?_eq_some_iff.1 hk).1).trans hk⟩
theorem Keeps.grown {row:Option Nat} (h:W.grownBy W' row) (hr:∀ r o,row=some r→W.heap[r]? =some o→sp r o=false):Keeps sp l W W':=
 ⟨h.size,fun k o hk _ hs=>(h.block k (Array.getElem?_eq_some_iff.1 hk).1 (fun e=>by rw[hr k o e.symm hk] at hs; cases hs)).trans hk⟩
theorem Keeps.putObj (W:World) (l:Nat) (o:Obj):Keeps sp (some l) W (W.putObj l o):=⟨(grownBy_putObj' W l o).size,fun k o' hk hl _=>(World.putObj_heap_other (fun e=>hl (by rw[e]))).trans hk⟩
theorem Keeps.setCell (W:World) (a:Addr) (v:Value) (hs:∀ o,W.heap[a.block]? =some o→sp a.block o=false):Keeps sp l W (W.setCell a v):=
 ⟨by simp[World.setCell],fun k o hk _ h=>(Below.heap_setCell _ _ _ k (fun e=>by subst e; rw[hs o hk] at h; cases h)).trans hk⟩
end
def Through {α:Type} (P:Program) (g:Nat) (lb:Array Value) (encs:α→Array Value) (xs:List α) (sp:Nat→Obj→Bool) (w0:World):Prop:=
 ∀ (m l:Nat) (J:List α→World→Prop) (W:World),Below w0.heap.size w0 W→w0.heap.size≤l→l<W.heap.size→OwnFrom W.heap.size J→
  (∀ (k:Nat) (pre:List α) (x:α) (W1:World),J pre W1→pre.length<xs.length→YieldAt Fence.wide k P l (encs x) W1 fun e W'=>e=.returned (.bool true)∧J (pre ++ [x]) W'∧Keeps sp (some l) W1 W')→
  J [] W→CallsIn Fence.wide m P g (#[.func (.yield l) #[] #[]] ++ lb) W fun e W'=>(∃ v,e=.returned v)∧J xs W'
theorem OwnFrom.more {β:Type} {B B':Nat} {I:β→World→Prop} (h:OwnFrom B I) (hB:B≤B'):OwnFrom B' I:=
 fun s W W' row hs hg hr=>h s W W' row hs hg fun r e=>⟨Nat.le_trans hB (hr r e).1,(hr r e).2⟩
theorem wpIn_range_through {α:Type} {P:Program} {m:Nat} {g:Operand} {ps:Array Tmp} {assign body:Code} {Q:Exit→Act→World→Prop} {a:Act} {w:World}
 {gf:Nat} {lb:Array Value} (hg:a.eval g=.func (.func gf) #[] lb) (eg:∀ args w,(callFunc gf args).run P w=.ok (.enter gf args) w)
 {encs:α→Array Value} {xs:List α} {sp:Nat→Obj→Bool} (hT:Through P gf lb encs xs sp w) (hps:∀ x,(encs x).size=ps.size) (hsp:∀ k o,w.heap.size≤k→o.isCells=false→sp k o=true)
 (I:List α→World→Prop) (hI:OwnFrom w.heap.size I) (h0:I [] w) (Ax:α→Act→World→Prop) (hAx:∀ x a',OwnFrom w.heap.size (fun (_:Unit) W=>Ax x a' W))
 (hassign:∀ (k:Nat) (pre:List α) (x:α) (W:World) (K:Act→World→Prop),I pre W→pre.length<xs.length→(∀ a' W',Keeps sp none W W'→I pre W'→Ax x a' W'→K a' W')→
   assign.wpIn (Fence.wide.inRound (w.heap.size+1)) k P (Exit.then K (fun _ _ _=>False)) { tmps:=(ps.zip (encs x)).foldl (fun t (p,v)=>t.setIfInBounds p v) a.tmps,defers:=[] } W)
 (hbody:∀ (k:Nat) (pre:List α) (x:α) (a':Act) (W:World),I pre W→Ax x a' W→pre.length<xs.length→
   body.wpIn (Fence.wide.inRound (w.heap.size+1)) k P (fun e _ W'=>e=.normal∧Keeps sp none W W'∧I (pre ++ [x]) W') a' W)
 (hdone:∀ (W:World),I xs W→W.heap[w.heap.size]? =some (.deferred (some []))→Q .normal { a with defers:= { target:=.collected w.heap.size,args:=#[] } :: a.defers } W):
 (Code.rangeFunc g ps assign body).wpIn Fence.wide m P Q a w:=by
 refine wpIn_rangeFunc fun fn hfn=>?_
 let rec_:LoopState→Loop:=fun st=> { state:=st,pending:=none,fn:=fn,tmps:=a.tmps,params:=ps,assign:=assign,body:=body,defers:=w.heap.size }
 obtain⟨V,hV⟩:∃ V,(w.alloc (.deferred (some []))).alloc (.loop (rec_ .ready))=V:=⟨_,rfl⟩
 have hL0:V.heap[w.heap.size+1]? =some (.loop (rec_ .ready)):=by
  have:=World.alloc_heap_new (w.alloc (.deferred (some []))) (.loop (rec_ .ready)); rw[World.size_alloc,hV] at this; exact this
 have hD0:V.heap[w.heap.size]? =some (.deferred (some [])):=by
  rw[← hV]; exact (Below.heap_alloc _ _ _ (by simp)).trans (World.alloc_heap_new w _)
 have hb0:Below w.heap.size w V:=by rw[← hV]; exact ((Below.refl _ w).alloc (Nat.le_refl _) _).alloc (by simp) _
 have hz0:V.heap.size=w.heap.size+2:=by rw[← hV]; simp
 have hi0:I [] V:=by rw[← hV]; exact hI.alloc _ (hI.alloc _ h0)
 refine⟨w.heap.size+1,[{ target:=.collected w.heap.size,args:=#[] }],V,{ target:=.fn (.func gf) lb,args:=#[.func (.yield (w.heap.size+1)) #[] #[]] },V,gf,#[.func (.yield (w.heap.size+1)) #[] #[]] ++ lb,V,?enter,?res,fun _ _=>trivial,?inv,fun h=>absurd h Bool.false_ne_true,?_⟩
 case enter=>rw[← hV]; exact run_enterLoop_outer fn a.tmps ps assign body
 case res=>simp only[resolve,hg]; simp[go_sem]
 case inv=>simp[invoke,go_sem,eg]
 refine (hT (m - 1) (w.heap.size+1) (fun pre W=>I pre W∧W.heap[w.heap.size+1]? =some (.loop (rec_ .ready))∧W.heap[w.heap.size]? =some (.deferred (some []))) V hb0 (by omega) (by rw[hz0]; omega) ?own ?round ⟨hi0,hL0,hD0⟩).mono ?_
 case own=>
  intro s A B row hs hgr hr
  rw[hz0] at hr
  refine⟨OwnFrom.more hI (by omega) s A B row hs.1 hgr hr,?_,?_⟩
  ·refine (hgr.block _ (Array.getElem?_eq_some_iff.1 hs.2.1).1 (fun e=>?_)).trans hs.2.1
   have:=(hr _ e.symm).1; omega
  ·refine (hgr.block _ (Array.getElem?_eq_some_iff.1 hs.2.2).1 (fun e=>?_)).trans hs.2.2
   have:=(hr _ e.symm).1; omega
 case round=>
  rintro k pre x W ⟨hi,hl,hd⟩ hlen
  refine⟨fn,_,assign,body,run_yield (r:=rec_ .ready) hl (hps x),roundIn_of_wpIn hfn (hassign k pre x W _ hi hlen ?_)⟩
  intro a' Wa ka ia ax
  have hla:=ka.same _ _ hl (by simp) (hsp _ _ (by omega) rfl)
  have hda:=ka.same _ _ hd (by simp) (hsp _ _ (Nat.le_refl _) rfl)
  refine⟨_,run_beginRound hla rfl,wpIn_mono (hbody k pre x a' _ (hI.putObj _ ia (by omega) hla rfl) ((hAx x a').putObj (s:=()) _ ax (by omega) hla rfl) hlen) ?_⟩
  rintro e a2 Wb ⟨rfl,kb,ib⟩
  have hlb:=kb.same _ _ (World.putObj_heap_same (Array.getElem?_eq_some_iff.1 hla).1) (by simp) (hsp _ _ (by omega) rfl)
  have hdb:=kb.same _ _ ((World.putObj_heap_other (by omega)).trans hda) (by simp) (hsp _ _ (Nat.le_refl _) rfl)
  refine⟨_,_,run_endRound none hlb,rfl,⟨hI.putObj _ ib (by omega) hlb rfl,World.putObj_heap_same (Array.getElem?_eq_some_iff.1 hlb).1,(World.putObj_heap_other (by omega)).trans hdb⟩,?_⟩
  exact (((ka.but _).trans (Keeps.putObj _ _ _)).trans (kb.but _)).trans (Keeps.putObj _ _ _)
 rintro e W2 ⟨⟨v,rfl⟩,hi,hl,hd⟩
 exact⟨none,_,run_endLoop hl (by simp[rec_]),hdone _ (hI.putObj _ hi (by omega) hl rfl) ((World.putObj_heap_other (by omega)).trans hd)⟩
end Go.Proofs.YtbamodkgagcmnaaGreat.Rgn
