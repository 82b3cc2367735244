/-
  A region that draws its order, and among its operations lays one slot's value into a box that lay there ahead of it ('return x, f(..)' where x's result lies in a box): whatever may come up, each operation's slot holds what is said of it, and but for that box what lay there lies as it lay.
-/
import Derived.Test.YtbamodkgagcmnaaGreatRgnYE
import Derived.Test.YtbamodkgagcmnaaGreatTrnE
set_option maxRecDepth 100000
namespace Go.Proofs.YtbamodkgagcmnaaGreat.Rgn
open Go Go.RowKit Trn
structure InvZ (V:Nat→World→Value→Prop) (ops:Array Oper) (s b0:Nat) (T:TypeId) (cs0:Array Value) (vs:Nat) (a0:Act) (w0:World) (d:Nat→Bool) (a:Act) (w:World):Prop where
 turned:Turned (· =b0) w0 w
 defs:a.defers=a0.defers
 size:a.tmps.size=a0.tmps.size
 val:∀ i r,dstAt ops i=some r→d i=true→V i w (a.tmps[r]?.getD undef)
 old:∀ r,(∀ i,dstAt ops i=some r→d i=false)→a.tmps[r]?.getD undef=a0.tmps[r]?.getD undef
 box:w.heap[b0]? =some (.cells (if d s=true then (a.tmps[vs]?.getD undef).cells else cs0) T (0,0))
 done:d s=true→∀ i,waits .any ops s i=true→d i=true
section
variable {P:Program} {ops:Array Oper} {Q:Exit→Act→World→Prop} {V:Nat→World→Value→Prop} {a0 a:Act} {w0 w:World} {d:Nat→Bool} {i:Nat} {o:Oper} {s b0 vs:Nat} {T:TypeId} {cs0:Array Value}
theorem InvZ.put (h:InvZ V ops s b0 T cs0 vs a0 w0 d a w) (hu:uniq ops a0.tmps.size=true) (hV:∀ j w w' v,V j w v→Turned (· =b0) w w'→V j w' v) (ho:ops[i]? =some o) (hne:i≠s) (hdi:d i=false) (hvs:∀ j,dstAt ops j=some vs→waits .any ops s j=true) {v:Value} {w':World} (hb:Below w.heap.size w w') (hv:V i w' v):
 InvZ V ops s b0 T cs0 vs a0 w0 (upd d i) (a.put o.dst v) w':=by
 have hd:dstAt ops i=o.dst:=by unfold dstAt; rw[ho]; rfl
 have hds:upd d i s=d s:=upd_other d (Ne.symm hne)
 have hbox:w'.heap[b0]? =w.heap[b0]? :=hb.block b0 (heap_lt h.box)
 have hdone:upd d i s=true→∀ j,waits .any ops s j=true→upd d i j=true:=fun h1 j hj=>by
  rw[hds] at h1
  have:=h.done h1 j hj
  by_cases e:j=i
  ·subst e; exact upd_same d j
  ·rw[upd_other d e]; exact this
 cases hdst:o.dst with
 | none=>
   rw[hdst] at hd
   refine⟨h.turned.trans (.of_below hb),h.defs,h.size,fun j r hj hdj=>?_,fun r hr=>h.old r fun j hj=>?_,?_,hdone⟩
   ·have hn:j≠i:=fun e=>by rw[e,hd] at hj; cases hj
    rw[upd_other d hn] at hdj
    exact hV _ _ _ _ (h.val j r hj hdj) (.of_below hb)
   ·have hn:j≠i:=fun e=>by rw[e,hd] at hj; cases hj
    have:=hr j hj; rwa [upd_other d hn] at this
   ·rw[hbox,hds]; exact h.box
 | some s0=>
   rw[hdst] at hd
   obtain⟨hlt,huq⟩:=uniq_of hu hd
   rw[← h.size] at hlt
   refine⟨h.turned.trans (.of_below hb),h.defs,by show (a.tmps.setIfInBounds s0 v).size=_; rw[Array.size_setIfInBounds]; exact h.size,fun j r hj hdj=>?_,fun r hr=>?_,?_,hdone⟩
   ·show V j w' ((a.tmps.setIfInBounds s0 v)[r]?.getD undef)
    by_cases e:j=i
    ·subst e
     rw[hd] at hj; cases hj
     rw[getD_put_same hlt]; exact hv
    ·rw[upd_other d e] at hdj
     have hn:r≠s0:=fun e'=>by subst e'; exact e (huq j hj)
     rw[getD_put_other hn]
     exact hV _ _ _ _ (h.val j r hj hdj) (.of_below hb)
   ·show (a.tmps.setIfInBounds s0 v)[r]?.getD undef=_
    have hn:r≠s0:=fun e=>by subst e; have:=hr i hd; rw[upd_same] at this; cases this
    rw[getD_put_other hn]
    refine h.old r fun j hj=>?_
    have:=hr j hj
    by_cases e:j=i
    ·rw[e,upd_same] at this; cases this
    ·rwa [upd_other d e] at this
   ·rw[hbox,hds,h.box]
    cases hs:d s with
    | false=>rfl
    | true=>
      have hn:vs≠s0:=fun e=>by
       subst e
       have:=h.done hs i (hvs i hd)
       rw[hdi] at this; cases this
      show some (Obj.cells (if true=true then _ else _) _ _)=some (Obj.cells (if true=true then ((a.tmps.setIfInBounds s0 v)[vs]?.getD undef).cells else _) _ _)
      rw[if_pos rfl,if_pos rfl,getD_put_other hn]
def StepZ (P:Program) (ops:Array Oper) (Q:Exit→Act→World→Prop) (V:Nat→World→Value→Prop) (i:Nat) (a:Act) (w:World):Prop:=
 ∃ o,ops[i]? =some o∧Region.wanted o (yielded ops a.tmps)=true∧∀ K':Act→World→Prop,(∀ v w',Below w.heap.size w w'→V i w' v→K' (a.put o.dst v) w')→Oper.wp P o a w K' Q
theorem StepZ.done (ho:ops[i]? =some o) (hw:Region.wanted o (yielded ops a.tmps)=true) (H:∀ K':Act→World→Prop,(∀ v w',Below w.heap.size w w'→V i w' v→K' (a.put o.dst v) w')→Oper.wp P o a w K' Q):StepZ P ops Q V i a w:=⟨o,ho,hw,H⟩
theorem wp_region_old {id:Nat} (V:Nat→World→Value→Prop) (s b0:Nat) (T:TypeId) (cs0:Array Value) (vs:Nat) (hV:∀ j w w' v,V j w v→Turned (· =b0) w w'→V j w' v) (hm:P.follows .mixedOrders=true) (ha:ahead .any ops=true) (hu:uniq ops a.tmps.size=true)
 (hs:dstAt ops s=none) (hvs:((List.range ops.size).all fun j=>dstAt ops j != some vs || waits .any ops s j)=true) (hbox:w.heap[b0]? =some (.cells cs0 T (0,0)))
 (hstep:∀ d a' w' i,i<ops.size→i≠s→(∀ j,waits .any ops i j=true→d j=true)→InvZ V ops s b0 T cs0 vs a w d a' w'→StepZ P ops Q V i a' w')
 (hstore:∀ d a' w',d s=false→(∀ j,waits .any ops s j=true→d j=true)→InvZ V ops s b0 T cs0 vs a w d a' w'→∃ o,ops[s]? =some o∧Region.wanted o (yielded ops a'.tmps)=true∧∀ K':Act→World→Prop,(∀ w'',Stored b0 T (a'.tmps[vs]?.getD undef).cells w' w''→K' a' w'')→Oper.wp P o a' w' K' Q)
 (hdone:∀ a' w',InvZ V ops s b0 T cs0 vs a w (fun _=>true) a' w'→Q .normal a' w') (hsz:s<ops.size):(Code.region id ops true).wp P Q a w:=by
 have hvs':∀ j,dstAt ops j=some vs→waits .any ops s j=true:=fun j hj=>by
  have h1:=List.all_eq_true.1 hvs j (List.mem_range.2 (dstAt_lt hj))
  rw[Bool.or_eq_true] at h1
  rcases h1 with h1 | h1
  ·rw[hj] at h1; simp at h1
  ·exact h1
 refine wp_region_inv (fun d a' w'=>InvZ V ops s b0 T cs0 vs a w d a' w') hm ha (fun d a' w' i hi hd hall h=>?_) (fun d a' w' hall h=>?_)
  ⟨.of_below (Below.refl _ w).drew,rfl,rfl,(fun i r _ h=>by cases h),(fun r _=>rfl),?_,fun h=>by cases h⟩
 ·by_cases his:i=s
  ·subst his
   obtain⟨o,ho,hw,H⟩:=hstore d a' w' hd hall h
   have hdst:o.dst=none:=by have:=hs; unfold dstAt at this; rw[ho] at this; exact this
   refine wpOp_step ho fun K hK=>?_
   rw[if_pos hw]
   refine H K fun w'' hst=>hK a' w'' ?_
   have ht:Turned (· =b0) w' w'':=⟨hst.os,hst.tape,hst.output,by rw[hst.size]; exact Nat.le_refl _,fun k _ hk=>hst.rest k hk⟩
   refine⟨h.turned.trans ht,h.defs,h.size,fun j r hj hdj=>?_,fun r hr=>h.old r fun j hj=>?_,?_,fun _ j hj=>?_⟩
   ·have hn:j≠i:=fun e=>by rw[e,hs] at hj; cases hj
    rw[upd_other d hn] at hdj
    exact hV _ _ _ _ (h.val j r hj hdj) ht
   ·have hn:j≠i:=fun e=>by rw[e,hs] at hj; cases hj
    have:=hr j hj; rwa [upd_other d hn] at this
   ·rw[upd_same,if_pos rfl]; exact hst.new
   ·by_cases e:j=i
    ·subst e; exact upd_same d j
    ·rw[upd_other d e]; exact hall j hj
  ·obtain⟨o,ho,hw,H⟩:=hstep d a' w' i hi his hall h
   refine wpOp_step ho fun K hK=>?_
   rw[if_pos hw]
   exact H K fun v w'' hb hv=>hK _ _ (h.put hu hV ho his hd hvs' hb hv)
 ·refine hdone a' w' ⟨h.turned,h.defs,h.size,fun i r hr _=>h.val i r hr (hall i (dstAt_lt hr)),fun r hr=>h.old r fun i hi=>?_,?_,fun _ _ _=>rfl⟩
  ·have:=hr i hi; cases this
  ·have:=h.box
   rw[hall s hsz] at this; exact this
 ·show w.drew.heap[b0]? =_
  exact hbox
end
end Go.Proofs.YtbamodkgagcmnaaGreat.Rgn
set_option maxRecDepth 100000
namespace Go.Proofs.YtbamodkgagcmnaaGreat.Rgn
open Go Go.RowKit Trn
structure InvN (V:Nat→World→Value→Prop) (ops:Array Oper) (s ba br:Nat) (T:TypeId) (cs0:Array Value) (vs:Nat) (a0:Act) (w0:World) (d:Nat→Bool) (a:Act) (w:World):Prop where
 below:Below w0.heap.size w0 w
 defs:a.defers=a0.defers
 size:a.tmps.size=a0.tmps.size
 val:∀ i r,dstAt ops i=some r→d i=true→i≠ba→V i w (a.tmps[r]?.getD undef)
 old:∀ r,(∀ i,dstAt ops i=some r→d i=false)→a.tmps[r]?.getD undef=a0.tmps[r]?.getD undef
 box:d ba=true→∃ b,a.tmps[br]?.getD undef=.pointer (some ⟨b,0,none⟩)∧w0.heap.size≤b∧w.heap[b]? =some (.cells (if d s=true then (a.tmps[vs]?.getD undef).cells else cs0) T (0,0))
 done:d s=true→∀ i,waits .any ops s i=true→d i=true
section
variable {P:Program} {ops:Array Oper} {Q:Exit→Act→World→Prop} {V:Nat→World→Value→Prop} {a0 a:Act} {w0 w:World} {d:Nat→Bool} {i:Nat} {o:Oper} {s ba br vs:Nat} {T:TypeId} {cs0:Array Value}
theorem InvN.put (h:InvN V ops s ba br T cs0 vs a0 w0 d a w) (hu:uniq ops a0.tmps.size=true) (hV:∀ j w w' v,V j w v→Below w.heap.size w w'→V j w' v) (ho:ops[i]? =some o) (hne:i≠s) (hdi:d i=false) (hvs:∀ j,dstAt ops j=some vs→waits .any ops s j=true) (hbr:dstAt ops ba=some br) {v:Value} {w':World} (hb:Below w.heap.size w w') (hv:i≠ba→V i w' v)
 (hbx:i=ba→∃ b,v=.pointer (some ⟨b,0,none⟩)∧w0.heap.size≤b∧w'.heap[b]? =some (.cells cs0 T (0,0))) (hba:waits .any ops s ba=true):
 InvN V ops s ba br T cs0 vs a0 w0 (upd d i) (a.put o.dst v) w':=by
 have hd:dstAt ops i=o.dst:=by unfold dstAt; rw[ho]; rfl
 have hds:upd d i s=d s:=upd_other d (Ne.symm hne)
 have hdone:upd d i s=true→∀ j,waits .any ops s j=true→upd d i j=true:=fun h1 j hj=>by
  rw[hds] at h1
  have:=h.done h1 j hj
  by_cases e:j=i
  ·subst e; exact upd_same d j
  ·rw[upd_other d e]; exact this
 have hold:∀ b,w.heap[b]? =some (Obj.cells (if d s=true then (a.tmps[vs]?.getD undef).cells else cs0) T (0,0))→(∀ s0,o.dst=some s0→d s=true→vs≠s0)→w'.heap[b]? =some (Obj.cells (if upd d i s=true then ((a.put o.dst v).tmps[vs]?.getD undef).cells else cs0) T (0,0)):=fun b hb0 hn=>by
  rw[hb.block b (heap_lt hb0),hb0,hds]
  cases hs:d s with
  | false=>rfl
  | true=>
    rw[if_pos rfl,if_pos rfl]
    cases hdst:o.dst with
    | none=>rfl
    | some s0=>
      show some (Obj.cells _ _ _)=some (Obj.cells ((a.tmps.setIfInBounds s0 v)[vs]?.getD undef).cells _ _)
      rw[getD_put_other (hn s0 hdst hs)]
 cases hdst:o.dst with
 | none=>
   rw[hdst] at hd
   have hnb:i≠ba:=fun e=>by subst e; rw[hd] at hbr; cases hbr
   refine⟨h.below.trans (hb.mono h.below.size),h.defs,h.size,fun j r hj hdj hjb=>?_,fun r hr=>h.old r fun j hj=>?_,fun hq=>?_,hdone⟩
   ·have hn:j≠i:=fun e=>by rw[e,hd] at hj; cases hj
    rw[upd_other d hn] at hdj
    exact hV _ _ _ _ (h.val j r hj hdj hjb) hb
   ·have hn:j≠i:=fun e=>by rw[e,hd] at hj; cases hj
    have:=hr j hj; rwa [upd_other d hn] at this
   ·rw[upd_other d (Ne.symm hnb)] at hq
    obtain⟨b,e,hle,hb0⟩:=h.box hq
    have h2:=hold b hb0 (fun s0 e'=>by rw[hdst] at e'; cases e')
    rw[hdst] at h2
    exact⟨b,e,hle,h2⟩
 | some s0=>
   rw[hdst] at hd
   obtain⟨hlt,huq⟩:=uniq_of hu hd
   rw[← h.size] at hlt
   refine⟨h.below.trans (hb.mono h.below.size),h.defs,by show (a.tmps.setIfInBounds s0 v).size=_; rw[Array.size_setIfInBounds]; exact h.size,fun j r hj hdj hjb=>?_,fun r hr=>?_,fun hq=>?_,hdone⟩
   ·show V j w' ((a.tmps.setIfInBounds s0 v)[r]?.getD undef)
    by_cases e:j=i
    ·subst e
     rw[hd] at hj; cases hj
     rw[getD_put_same hlt]; exact hv hjb
    ·rw[upd_other d e] at hdj
     have hn:r≠s0:=fun e'=>by subst e'; exact e (huq j hj)
     rw[getD_put_other hn]
     exact hV _ _ _ _ (h.val j r hj hdj hjb) hb
   ·show (a.tmps.setIfInBounds s0 v)[r]?.getD undef=_
    have hn:r≠s0:=fun e=>by subst e; have:=hr i hd; rw[upd_same] at this; cases this
    rw[getD_put_other hn]
    refine h.old r fun j hj=>?_
    have:=hr j hj
    by_cases e:j=i
    ·rw[e,upd_same] at this; cases this
    ·rwa [upd_other d e] at this
   ·by_cases hib:i=ba
    ·obtain⟨b,e,hle,hb0⟩:=hbx hib
     subst hib
     rw[hd] at hbr; cases hbr
     have hsf:d s=false:=by
      cases hs:d s with
      | false=>rfl
      | true=>have:=h.done hs i hba; rw[hdi] at this; cases this
     refine⟨b,?_,hle,?_⟩
     ·show ((a.tmps.setIfInBounds br v)[br]?.getD undef)=_
      rw[getD_put_same hlt]; exact e
     ·rw[hb0,hds,hsf]; rfl
    ·rw[upd_other d (Ne.symm hib)] at hq
     obtain⟨b,e,hle,hb0⟩:=h.box hq
     have hnr:br≠s0:=fun e'=>by subst e'; exact hib (huq ba hbr).symm
     have h2:=hold b hb0 (fun s1 e' hs e2=>by
      rw[hdst] at e'
      cases e'
      subst e2
      have:=h.done hs i (hvs i hd)
      rw[hdi] at this; cases this)
     rw[hdst] at h2
     refine⟨b,?_,hle,h2⟩
     show ((a.tmps.setIfInBounds s0 v)[br]?.getD undef)=_
     rw[getD_put_other hnr]; exact e
def StepN (P:Program) (ops:Array Oper) (Q:Exit→Act→World→Prop) (V:Nat→World→Value→Prop) (i:Nat) (a:Act) (w:World):Prop:=
 ∃ o,ops[i]? =some o∧Region.wanted o (yielded ops a.tmps)=true∧∀ K':Act→World→Prop,(∀ v w',Below w.heap.size w w'→V i w' v→K' (a.put o.dst v) w')→Oper.wp P o a w K' Q
theorem StepN.done (ho:ops[i]? =some o) (hw:Region.wanted o (yielded ops a.tmps)=true) (H:∀ K':Act→World→Prop,(∀ v w',Below w.heap.size w w'→V i w' v→K' (a.put o.dst v) w')→Oper.wp P o a w K' Q):StepN P ops Q V i a w:=⟨o,ho,hw,H⟩
theorem wp_region_new {id:Nat} (V:Nat→World→Value→Prop) (s ba br:Nat) (T:TypeId) (cs0:Array Value) (vs:Nat) (hV:∀ j w w' v,V j w v→Below w.heap.size w w'→V j w' v) (hV2:∀ j w w' b v,V j w v→w.heap[b]? =some (.cells cs0 T (0,0))→Turned (· =b) w w'→V j w' v) (hm:P.follows .mixedOrders=true) (ha:ahead .any ops=true) (hu:uniq ops a.tmps.size=true)
 (hs:dstAt ops s=none) (hbr:dstAt ops ba=some br) (hba:waits .any ops s ba=true) (hvs:((List.range ops.size).all fun j=>dstAt ops j != some vs || waits .any ops s j)=true)
 (hmk:∃ o,ops[ba]? =some o∧o.guard=none∧∀ (a':Act) (w':World) (K':Act→World→Prop),K' (a'.put o.dst (.pointer (some ⟨w'.heap.size,0,none⟩))) (w'.alloc (.cells cs0 T))→Oper.wp P o a' w' K' Q)
 (hstep:∀ d a' w' i,i<ops.size→i≠s→i≠ba→(∀ j,waits .any ops i j=true→d j=true)→InvN V ops s ba br T cs0 vs a w d a' w'→StepN P ops Q V i a' w')
 (hstore:∀ d a' w' b,(∀ j,waits .any ops s j=true→d j=true)→a'.tmps[br]?.getD undef=.pointer (some ⟨b,0,none⟩)→w'.heap[b]? =some (.cells cs0 T (0,0))→InvN V ops s ba br T cs0 vs a w d a' w'→∃ o,ops[s]? =some o∧Region.wanted o (yielded ops a'.tmps)=true∧∀ K':Act→World→Prop,(∀ w'',Stored b T (a'.tmps[vs]?.getD undef).cells w' w''→K' a' w'')→Oper.wp P o a' w' K' Q)
 (hdone:∀ a' w',InvN V ops s ba br T cs0 vs a w (fun _=>true) a' w'→Q .normal a' w') (hsz:s<ops.size):(Code.region id ops true).wp P Q a w:=by
 have hvs':∀ j,dstAt ops j=some vs→waits .any ops s j=true:=fun j hj=>by
  have h1:=List.all_eq_true.1 hvs j (List.mem_range.2 (dstAt_lt hj))
  rw[Bool.or_eq_true] at h1
  rcases h1 with h1 | h1
  ·rw[hj] at h1; simp at h1
  ·exact h1
 have hsb:ba≠s:=fun e=>by subst e; rw[hs] at hbr; cases hbr
 refine wp_region_inv (fun d a' w'=>InvN V ops s ba br T cs0 vs a w d a' w') hm ha (fun d a' w' i hi hd hall h=>?_) (fun d a' w' hall h=>?_)
  ⟨(Below.refl _ w).drew,rfl,rfl,(fun i r _ h=>by cases h),(fun r _=>rfl),(fun h=>by cases h),fun h=>by cases h⟩
 ·by_cases his:i=s
  ·subst his
   obtain⟨b,eb,hle,hb0⟩:=h.box (hall ba hba)
   rw[hd] at hb0
   obtain⟨o,ho,hw,H⟩:=hstore d a' w' b hall eb hb0 h
   refine wpOp_step ho fun K hK=>?_
   rw[if_pos hw]
   refine H K fun w'' hst=>hK a' w'' ?_
   have ht:Turned (· =b) w' w'':=⟨hst.os,hst.tape,hst.output,by rw[hst.size]; exact Nat.le_refl _,fun k _ hk=>hst.rest k hk⟩
   refine⟨ht.below h.below h.below.size (fun k hk=>by rw[show k=b from hk]; exact hle),h.defs,h.size,fun j r hj hdj hjb=>?_,fun r hr=>h.old r fun j hj=>?_,fun _=>⟨b,eb,hle,?_⟩,fun _ j hj=>?_⟩
   ·have hn:j≠i:=fun e=>by rw[e,hs] at hj; cases hj
    rw[upd_other d hn] at hdj
    exact hV2 _ _ _ _ _ (h.val j r hj hdj hjb) hb0 ht
   ·have hn:j≠i:=fun e=>by rw[e,hs] at hj; cases hj
    have:=hr j hj; rwa [upd_other d hn] at this
   ·rw[upd_same,if_pos rfl]; exact hst.new
   ·by_cases e:j=i
    ·subst e; exact upd_same d j
    ·rw[upd_other d e]; exact hall j hj
  ·by_cases hib:i=ba
   ·obtain⟨o,ho,hg,H⟩:=hmk
    rw[← hib] at ho
    refine wpOp_step ho fun K hK=>?_
    rw[if_pos (wanted_free hg)]
    refine H a' w' K (hK _ _ (h.put hu hV ho his hd hvs' hbr ((Below.refl _ w').alloc (Nat.le_refl _) _) (fun e=>absurd hib e) (fun _=>⟨w'.heap.size,rfl,h.below.size,World.alloc_heap_new w' _⟩) hba))
   ·obtain⟨o,ho,hw,H⟩:=hstep d a' w' i hi his hib hall h
    refine wpOp_step ho fun K hK=>?_
    rw[if_pos hw]
    exact H K fun v w'' hb hv=>hK _ _ (h.put hu hV ho his hd hvs' hbr hb (fun _=>hv) (fun e=>absurd e hib) hba)
 ·refine hdone a' w' ⟨h.below,h.defs,h.size,fun i r hr _ hb=>h.val i r hr (hall i (dstAt_lt hr)) hb,fun r hr=>h.old r fun i hi=>?_,fun _=>?_,fun _ _ _=>rfl⟩
  ·have:=hr i hi; cases this
  ·have:=h.box (hall ba (dstAt_lt hbr))
   rw[hall s hsz] at this; exact this
end
end Go.Proofs.YtbamodkgagcmnaaGreat.Rgn
