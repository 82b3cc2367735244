/-
  A region that draws its order, by one state: what the operations done so far have yielded, and the world, are as the state says; each operation that may come up carries it on.
-/
import Derived.Test.YtbamodkgagcmnaaGreatRgnNE
set_option maxRecDepth 100000
namespace Go.Proofs.YtbamodkgagcmnaaGreat.Rgn
open Go Go.RowKit
structure InvS (ops:Array Oper) (St:(Nat→Bool)→(Nat→Value)→World→Prop) (a0:Act) (d:Nat→Bool) (x:Nat→Value) (a:Act) (w:World):Prop where
 defs:a.defers=a0.defers
 size:a.tmps.size=a0.tmps.size
 val:∀ i r,dstAt ops i=some r→d i=true→a.tmps[r]?.getD undef=x i
 old:∀ r,(∀ i,dstAt ops i=some r→d i=false)→a.tmps[r]?.getD undef=a0.tmps[r]?.getD undef
 shut:∀ i j,d i=true→waits .any ops i j=true→d j=true
 st:St d x w
section
variable {P:Program} {ops:Array Oper} {Q:Exit→Act→World→Prop} {St:(Nat→Bool)→(Nat→Value)→World→Prop} {a0 a:Act} {w0 w:World} {d:Nat→Bool} {x:Nat→Value} {i:Nat} {o:Oper}
theorem InvS.put (h:InvS ops St a0 d x a w) (hu:uniq ops a0.tmps.size=true) (ho:ops[i]? =some o) (hall:∀ j,waits .any ops i j=true→d j=true) {v:Value} {w':World} (hs:St (upd d i) (upv x i v) w'):
 InvS ops St a0 (upd d i) (upv x i v) (a.put o.dst v) w':=by
 have hd:dstAt ops i=o.dst:=by unfold dstAt; rw[ho]; rfl
 have hsh:∀ k j,upd d i k=true→waits .any ops k j=true→upd d i j=true:=by
  intro k j hk hw
  by_cases e:j=i
  ·rw[e,upd_same]
  ·rw[upd_other d e]
   by_cases e':k=i
   ·subst e'; exact hall j hw
   ·rw[upd_other d e'] at hk; exact h.shut k j hk hw
 cases hdst:o.dst with
 | none=>
   rw[hdst] at hd
   refine⟨h.defs,h.size,fun j r hj hdj=>?_,fun r hr=>h.old r fun j hj=>?_,hsh,hs⟩
   ·have hn:j≠i:=fun e=>by rw[e,hd] at hj; cases hj
    rw[upd_other d hn] at hdj
    rw[upv_other x _ hn]
    exact h.val j r hj hdj
   ·have hn:j≠i:=fun e=>by rw[e,hd] at hj; cases hj
    have:=hr j hj; rwa [upd_other d hn] at this
 | some s0=>
   rw[hdst] at hd
   obtain⟨hlt,huq⟩:=uniq_of hu hd
   rw[← h.size] at hlt
   refine⟨h.defs,by show (a.tmps.setIfInBounds s0 v).size=_; rw[Array.size_setIfInBounds]; exact h.size,fun j r hj hdj=>?_,fun r hr=>?_,hsh,hs⟩
   ·show (a.tmps.setIfInBounds s0 v)[r]?.getD undef=_
    by_cases e:j=i
    ·subst e
     rw[hd] at hj; cases hj
     rw[getD_put_same hlt,upv_same]
    ·rw[upd_other d e] at hdj
     have hn:r≠s0:=fun e'=>by subst e'; exact e (huq j hj)
     rw[getD_put_other hn,upv_other x _ e]
     exact h.val j r hj hdj
   ·show (a.tmps.setIfInBounds s0 v)[r]?.getD undef=_
    have hn:r≠s0:=fun e=>by subst e; have:=hr i hd; rw[upd_same] at this; cases this
    rw[getD_put_other hn]
    refine h.old r fun j hj=>?_
    have:=hr j hj
    by_cases e:j=i
    ·rw[e,upd_same] at this; cases this
    ·rwa [upd_other d e] at this
def StepS (P:Program) (ops:Array Oper) (Q:Exit→Act→World→Prop) (St:(Nat→Bool)→(Nat→Value)→World→Prop) (d:Nat→Bool) (x:Nat→Value) (i:Nat) (a:Act) (w:World):Prop:=
 ∃ o,ops[i]? =some o∧Region.wanted o (yielded ops a.tmps)=true∧∀ K':Act→World→Prop,(∀ v w',St (upd d i) (upv x i v) w'→K' (a.put o.dst v) w')→Oper.wp P o a w K' Q
theorem StepS.done (ho:ops[i]? =some o) (hw:Region.wanted o (yielded ops a.tmps)=true) (H:∀ K':Act→World→Prop,(∀ v w',St (upd d i) (upv x i v) w'→K' (a.put o.dst v) w')→Oper.wp P o a w K' Q):StepS P ops Q St d x i a w:=⟨o,ho,hw,H⟩
theorem wp_region_st {id:Nat} (St:(Nat→Bool)→(Nat→Value)→World→Prop) (hm:P.follows .mixedOrders=true) (ha:ahead .any ops=true) (hu:uniq ops a.tmps.size=true)
 (h0:St (fun _=>false) (fun _=>undef) w.drew)
 (hstep:∀ d x a' w' i,i<ops.size→d i=false→(∀ j,waits .any ops i j=true→d j=true)→InvS ops St a d x a' w'→StepS P ops Q St d x i a' w')
 (hdone:∀ d x a' w',(∀ i,i<ops.size→d i=true)→InvS ops St a d x a' w'→Q .normal a' w'):(Code.region id ops true).wp P Q a w:=by
 refine wp_region_inv (fun d a' w'=>∃ x,InvS ops St a d x a' w') hm ha (fun d a' w' i hi hd hall ⟨x,h⟩=>?_) (fun d a' w' hall ⟨x,h⟩=>hdone d x a' w' hall h)
  ⟨fun _=>undef,rfl,rfl,(fun i r _ h=>by cases h),(fun r _=>rfl),(fun i j h=>by cases h),h0⟩
 obtain⟨o,ho,hw,H⟩:=hstep d x a' w' i hi hd hall h
 refine wpOp_step ho fun K hK=>?_
 rw[if_pos hw]
 exact H K fun v w'' hs=>hK _ _ ⟨_,h.put hu ho hall hs⟩
end
end Go.Proofs.YtbamodkgagcmnaaGreat.Rgn
