/-
  A region that draws its order, by what each operation yields and which blocks it makes: no two operations make the same block.
-/
import Derived.Test.YtbamodkgagcmnaaGreatBRgnE
set_option maxRecDepth 100000
namespace Go.Proofs.YtbamodkgagcmnaaGreat.Rgn
open Go Go.RowKit
structure InvX (V:Nat→Nat→Nat→World→Value→Prop) (ops:Array Oper) (a0:Act) (w0:World) (d:Nat→Bool) (lo hi:Nat→Nat) (a:Act) (w:World):Prop where
 below:Below w0.heap.size w0 w
 defs:a.defers=a0.defers
 size:a.tmps.size=a0.tmps.size
 val:∀ i s,dstAt ops i=some s→d i=true→V i (lo i) (hi i) w (a.tmps[s]?.getD undef)
 old:∀ s,(∀ i,dstAt ops i=some s→d i=false)→a.tmps[s]?.getD undef=a0.tmps[s]?.getD undef
 lim:∀ i,d i=true→w0.heap.size≤lo i∧hi i≤w.heap.size
 apart:∀ i j,d i=true→d j=true→i≠j→hi i≤lo j∨hi j≤lo i
section
variable {P:Program} {ops:Array Oper} {Q:Exit→Act→World→Prop} {V:Nat→Nat→Nat→World→Value→Prop} {a0 a:Act} {w0 w:World} {d:Nat→Bool} {lo hi:Nat→Nat} {i:Nat} {o:Oper}
theorem InvX.put (h:InvX V ops a0 w0 d lo hi a w) (hu:uniq ops a0.tmps.size=true) (hV:∀ j l m w w' v,V j l m w v→Below w.heap.size w w'→V j l m w' v) (ho:ops[i]? =some o) {v:Value} {w':World} (hb:Below w.heap.size w w') (hv:V i w.heap.size w'.heap.size w' v):
 InvX V ops a0 w0 (upd d i) (upv lo i w.heap.size) (upv hi i w'.heap.size) (a.put o.dst v) w':=by
 have hd:dstAt ops i=o.dst:=by unfold dstAt; rw[ho]; rfl
 have hlim:∀ j,upd d i j=true→w0.heap.size≤upv lo i w.heap.size j∧upv hi i w'.heap.size j≤w'.heap.size:=by
  intro j hj
  by_cases e:j=i
  ·subst e; rw[upv_same,upv_same]; exact⟨h.below.size,Nat.le_refl _⟩
  ·rw[upd_other d e] at hj; rw[upv_other lo _ e,upv_other hi _ e]; exact⟨(h.lim j hj).1,Nat.le_trans (h.lim j hj).2 hb.size⟩
 have hapart:∀ j k,upd d i j=true→upd d i k=true→j≠k→upv hi i w'.heap.size j≤upv lo i w.heap.size k∨upv hi i w'.heap.size k≤upv lo i w.heap.size j:=by
  intro j k hj hk hjk
  by_cases e:j=i
  ·have e':k≠i:=fun e'=>hjk (e.trans e'.symm)
   subst e
   rw[upd_other d e'] at hk
   rw[upv_same,upv_same,upv_other lo _ e',upv_other hi _ e']
   exact .inr (h.lim k hk).2
  ·rw[upd_other d e] at hj
   rw[upv_other lo _ e,upv_other hi _ e]
   by_cases e':k=i
   ·subst e'
    rw[upv_same,upv_same]
    exact .inl (h.lim j hj).2
   ·rw[upd_other d e'] at hk
    rw[upv_other lo _ e',upv_other hi _ e']
    exact h.apart j k hj hk hjk
 cases hdst:o.dst with
 | none=>
   rw[hdst] at hd
   refine⟨h.below.trans (hb.mono h.below.size),h.defs,h.size,fun j s hj hdj=>?_,fun s hs=>h.old s fun j hj=>?_,hlim,hapart⟩
   ·have hne:j≠i:=fun e=>by rw[e,hd] at hj; cases hj
    rw[upd_other d hne] at hdj
    rw[upv_other lo _ hne,upv_other hi _ hne]
    exact hV _ _ _ _ _ _ (h.val j s hj hdj) hb
   ·have hne:j≠i:=fun e=>by rw[e,hd] at hj; cases hj
    have:=hs j hj; rwa [upd_other d hne] at this
 | some s0=>
   rw[hdst] at hd
   obtain⟨hlt,huq⟩:=uniq_of hu hd
   rw[← h.size] at hlt
   refine⟨h.below.trans (hb.mono h.below.size),h.defs,by show (a.tmps.setIfInBounds s0 v).size=_; rw[Array.size_setIfInBounds]; exact h.size,fun j s hj hdj=>?_,fun s hs=>?_,hlim,hapart⟩
   ·show V j _ _ w' ((a.tmps.setIfInBounds s0 v)[s]?.getD undef)
    by_cases e:j=i
    ·subst e
     rw[hd] at hj; cases hj
     rw[getD_put_same hlt,upv_same,upv_same]; exact hv
    ·rw[upd_other d e] at hdj
     have hne:s≠s0:=fun e'=>by subst e'; exact e (huq j hj)
     rw[getD_put_other hne,upv_other lo _ e,upv_other hi _ e]
     exact hV _ _ _ _ _ _ (h.val j s hj hdj) hb
   ·show (a.tmps.setIfInBounds s0 v)[s]?.getD undef=_
    have hne:s≠s0:=fun e=>by subst e; have:=hs i hd; rw[upd_same] at this; cases this
    rw[getD_put_other hne]
    refine h.old s fun j hj=>?_
    have:=hs j hj
    by_cases e:j=i
    ·rw[e,upd_same] at this; cases this
    ·rwa [upd_other d e] at this
def StepX (P:Program) (ops:Array Oper) (Q:Exit→Act→World→Prop) (V:Nat→Nat→Nat→World→Value→Prop) (i:Nat) (a:Act) (w:World):Prop:=
 ∃ o,ops[i]? =some o∧((Region.wanted o (yielded ops a.tmps)=true∧∀ K':Act→World→Prop,(∀ v w',Below w.heap.size w w'→V i w.heap.size w'.heap.size w' v→K' (a.put o.dst v) w')→Oper.wp P o a w K' Q)∨(Region.wanted o (yielded ops a.tmps)=false∧V i w.heap.size w.heap.size w undef))
theorem StepX.done (ho:ops[i]? =some o) (hw:Region.wanted o (yielded ops a.tmps)=true) (H:∀ K':Act→World→Prop,(∀ v w',Below w.heap.size w w'→V i w.heap.size w'.heap.size w' v→K' (a.put o.dst v) w')→Oper.wp P o a w K' Q):StepX P ops Q V i a w:=⟨o,ho,.inl ⟨hw,H⟩⟩
theorem StepX.left (ho:ops[i]? =some o) (hw:Region.wanted o (yielded ops a.tmps)=false) (hv:V i w.heap.size w.heap.size w undef):StepX P ops Q V i a w:=⟨o,ho,.inr ⟨hw,hv⟩⟩
end
end Go.Proofs.YtbamodkgagcmnaaGreat.Rgn
set_option maxRecDepth 100000
namespace Go.Proofs.YtbamodkgagcmnaaGreat.Rgn
open Go Go.RowKit
structure Stored (b:Nat) (T:TypeId) (cs:Array Value) (w w':World):Prop where
 os:w'.os=w.os
 tape:w'.tape=w.tape
 output:w'.output=w.output
 size:w'.heap.size=w.heap.size
 rest:∀ k,k≠b→w'.heap[k]? =w.heap[k]?
 new:w'.heap[b]? =some (.cells cs T (0,0))
theorem heap_at (w:World) (b i:Nat) (cs:Array Value) (T:TypeId) (v:Value) (h:w.heap[b]? =some (.cells cs T (0,0))):(w.setCell ⟨b,i,none⟩ v).heap[b]? =some (.cells (cs.setIfInBounds i v) T (0,0)):=heap_setCell_same w b i _ _ v h
theorem stored4 {w:World} {b:Nat} {T:TypeId} {x y z s:Value} (h:w.heap[b]? =some (.cells #[x,y,z,s] T (0,0))) (u v t r:Value):Stored b T #[u,v,t,r] w ((((w.setCell ⟨b,0,none⟩ u).setCell ⟨b,1,none⟩ v).setCell ⟨b,2,none⟩ t).setCell ⟨b,3,none⟩ r):=by
 refine⟨rfl,rfl,rfl,by simp[World.setCell],fun k hk=>?_,heap_at _ b 3 _ T r (heap_at _ b 2 _ T t (heap_at _ b 1 _ T v (heap_at w b 0 _ T u h)))⟩
 rw[heap_setCell_other _ ⟨b,3,none⟩ k _ (by exact hk),heap_setCell_other _ ⟨b,2,none⟩ k _ (by exact hk),heap_setCell_other _ ⟨b,1,none⟩ k _ (by exact hk),heap_setCell_other _ ⟨b,0,none⟩ k _ (by exact hk)]
structure Mid (m n:Nat) (bx:Nat→Nat) (T:Nat→TypeId) (vs:Nat→Nat) (d:Nat→Bool) (a:Act) (lo:Nat→Nat) (W w:World):Prop where
 os:w.os=W.os
 tape:w.tape=W.tape
 output:w.output=W.output
 size:w.heap.size=W.heap.size
 rest:∀ k,(∀ j,m≤j→j<n→d j=true→k≠lo (bx j))→w.heap[k]? =W.heap[k]?
 done:∀ j,m≤j→j<n→d j=true→w.heap[lo (bx j)]? =some (.cells (a.tmps[vs j]?.getD undef).cells (T j) (0,0))
def storesB (ops:Array Oper) (m:Nat) (bx vs:Nat→Nat) (late:Nat→Bool):Bool:=(List.range ops.size).all fun j=>decide (j<m) || ((dstAt ops j).isNone && decide (bx j<m) && waits .any ops j (bx j) && ((List.range m).all fun i=>(late i || waits .any ops j i) && (dstAt ops i != some (vs j) || waits .any ops j i)) && ((List.range ops.size).all fun i=>decide (i<m) || decide (i=j) || decide (bx i≠bx j)))
structure StoreOk (ops:Array Oper) (m:Nat) (bx vs:Nat→Nat) (late:Nat→Bool) (j:Nat):Prop where
 none:dstAt ops j=none
 lt:bx j<m
 box:waits .any ops j (bx j)=true
 wait:∀ i,i<m→late i=false→waits .any ops j i=true
 val:∀ i,i<m→dstAt ops i=some (vs j)→waits .any ops j i=true
 inj:∀ i,m≤i→i<ops.size→i≠j→bx i≠bx j
theorem storesB_of {ops:Array Oper} {m:Nat} {bx vs:Nat→Nat} {late:Nat→Bool} {j:Nat} (h:storesB ops m bx vs late=true) (hm:m≤j) (hj:j<ops.size):StoreOk ops m bx vs late j:=by
 have h1:=List.all_eq_true.1 h j (List.mem_range.2 hj)
 rw[Bool.or_eq_true] at h1
 rcases h1 with h1 | h1
 ·have:=of_decide_eq_true h1; omega
 ·simp only[Bool.and_eq_true] at h1
  obtain⟨⟨⟨⟨h1,h2⟩,h3⟩,h4⟩,h5⟩:=h1
  refine⟨Option.isNone_iff_eq_none.1 h1,of_decide_eq_true h2,h3,fun i hi hl=>?_,fun i hi hd=>?_,fun i hi hn hij=>?_⟩
  ·have:=List.all_eq_true.1 h4 i (List.mem_range.2 hi)
   simp only[Bool.and_eq_true,Bool.or_eq_true] at this
   rcases this.1 with h | h
   ·rw[hl] at h; cases h
   ·exact h
  ·have:=List.all_eq_true.1 h4 i (List.mem_range.2 hi)
   simp only[Bool.and_eq_true,Bool.or_eq_true] at this
   rcases this.2 with h | h
   ·rw[hd] at h; simp at h
   ·exact h
  ·have:=List.all_eq_true.1 h5 i (List.mem_range.2 hn)
   simp only[Bool.or_eq_true,decide_eq_true_eq] at this
   rcases this with (h | h) | h
   ·omega
   ·exact absurd h hij
   ·exact h
section
variable {P:Program} {ops:Array Oper} {Q:Exit→Act→World→Prop} {V:Nat→Nat→Nat→World→Value→Prop} {a:Act} {w:World}
theorem InvX.less {a0 a:Act} {w0 w:World} {d d':Nat→Bool} {lo hi:Nat→Nat} (h:InvX V ops a0 w0 d lo hi a w) (h1:∀ i,d' i=true→d i=true) (h2:∀ i s,dstAt ops i=some s→d' i=false→d i=false):InvX V ops a0 w0 d' lo hi a w:=
 ⟨h.below,h.defs,h.size,fun i s hs hd=>h.val i s hs (h1 i hd),fun s hs=>h.old s fun i hi=>h2 i s hi (hs i hi),fun i hd=>h.lim i (h1 i hd),fun i j hi hj=>h.apart i j (h1 i hi) (h1 j hj)⟩
abbrev less (m:Nat) (d:Nat→Bool):Nat→Bool:=fun i=>decide (i<m) && d i
theorem less_upd {m i:Nat} (d:Nat→Bool) (hi:i<m):upd (less m d) i=less m (upd d i):=by
 funext k
 by_cases e:k=i
 ·subst e; simp[less,upd_same,hi]
 ·simp[less,upd_other d e,upd_other (less m d) e]
theorem less_store {m i:Nat} (d:Nat→Bool) (hi:m≤i):less m (upd d i)=less m d:=by
 funext k
 by_cases e:k=i
 ·subst e; simp[less,Nat.not_lt.2 hi]
 ·simp[less,upd_other d e]
theorem less_of {m i:Nat} {d:Nat→Bool} (hi:i<m) (h:d i=true):less m d i=true:=by simp[less,hi,h]
def StepL (P:Program) (ops:Array Oper) (Q:Exit→Act→World→Prop) (V:Nat→Nat→Nat→World→Value→Prop) (i:Nat) (a:Act) (W w:World):Prop:=
 ∃ o,ops[i]? =some o∧Region.wanted o (yielded ops a.tmps)=true∧∀ K':Act→World→Prop,(∀ v,V i W.heap.size W.heap.size W v→K' (a.put o.dst v) w)→(∀ v ob,V i W.heap.size (W.alloc ob).heap.size (W.alloc ob) v→K' (a.put o.dst v) (w.alloc ob))→Oper.wp P o a w K' Q
def InvY (V:Nat→Nat→Nat→World→Value→Prop) (ops:Array Oper) (m:Nat) (bx:Nat→Nat) (T:Nat→TypeId) (vs:Nat→Nat) (a0:Act) (w0:World) (d:Nat→Bool) (a:Act) (w:World):Prop:=
 (∀ j,m≤j→j<ops.size→d j=true→∀ i,waits .any ops j i=true→d i=true)∧
 ∃ lo hi W,InvX V ops a0 w0 (less m d) lo hi a W∧Mid m ops.size bx T vs d a lo W w∧((∀ j,m≤j→j<ops.size→d j=false)→W=w)
theorem put_slot {a:Act} {s r:Nat} (v:Value) (h:r≠s):(a.put (some s) v).tmps[r]?.getD undef=a.tmps[r]?.getD undef:=getD_put_other h v
theorem Mid.put {m:Nat} {bx:Nat→Nat} {T:Nat→TypeId} {vs:Nat→Nat} {d:Nat→Bool} {lo:Nat→Nat} {W w:World} {late:Nat→Bool} (h:Mid m ops.size bx T vs d a lo W w) (hs:storesB ops m bx vs late=true) (hcl:∀ j,m≤j→j<ops.size→d j=true→∀ i,waits .any ops j i=true→d i=true)
 {i:Nat} (hi:i<m) (hd:d i=false) {o:Oper} (ho:ops[i]? =some o) (v:Value) (n':Nat):Mid m ops.size bx T vs (upd d i) (a.put o.dst v) (upv lo i n') W w:=by
 have hne:∀ j,m≤j→upd d i j=d j:=fun j hj=>upd_other d (by omega)
 have hb:∀ j,m≤j→j<ops.size→d j=true→upv lo i n' (bx j)=lo (bx j):=fun j h1 h2 h3=>by
  refine upv_other lo _ fun e=>?_
  have:=hcl j h1 h2 h3 (bx j) (storesB_of hs h1 h2).box
  rw[e,hd] at this; cases this
 refine⟨h.os,h.tape,h.output,h.size,fun k hk=>h.rest k fun j h1 h2 h3=>?_,fun j h1 h2 h3=>?_⟩
 ·have:=hk j h1 h2 (by rw[hne j h1]; exact h3)
  rwa [hb j h1 h2 h3] at this
 ·rw[hne j h1] at h3
  rw[hb j h1 h2 h3,h.done j h1 h2 h3]
  have hdst:dstAt ops i=o.dst:=by unfold dstAt; rw[ho]; rfl
  cases hq:o.dst with
  | none=>rfl
  | some s=>
    rw[hq] at hdst
    rw[put_slot v fun e=>?_]
    rw[← e] at hdst
    have:=hcl j h1 h2 h3 i ((storesB_of hs h1 h2).val i hi hdst)
    rw[hd] at this; cases this
theorem wp_region_box {id:Nat} (V:Nat→Nat→Nat→World→Value→Prop) (hV:∀ j l m w w' v,V j l m w v→Below w.heap.size w w'→V j l m w' v) (hm:P.follows .mixedOrders=true) (ha:ahead .any ops=true) (hu:uniq ops a.tmps.size=true)
 (m:Nat) (bx:Nat→Nat) (T:Nat→TypeId) (vs:Nat→Nat) (late:Nat→Bool) (hs:storesB ops m bx vs late=true) (hmn:m≤ops.size)
 (hbox:∀ j lo hi w v,m≤j→j<ops.size→V (bx j) lo hi w v→lo<hi∧lo<w.heap.size) (hbd:∀ j,m≤j→j<ops.size→(dstAt ops (bx j)).isSome=true)
 (hstep:∀ d lo hi a' w' i,i<m→(∀ j,j<m→waits .any ops i j=true→less m d j=true)→InvX V ops a w (less m d) lo hi a' w'→StepX P ops Q V i a' w')
 (hlate:∀ d lo hi a' W w' i,i<m→late i=true→(∀ j,j<m→waits .any ops i j=true→less m d j=true)→InvX V ops a w (less m d) lo hi a' W→w'.heap.size=W.heap.size→StepL P ops Q V i a' W w')
 (hstore:∀ d lo hi a' W w' j,m≤j→j<ops.size→(∀ i,i<m→waits .any ops j i=true→less m d i=true)→InvX V ops a w (less m d) lo hi a' W→w'.heap[lo (bx j)]? =W.heap[lo (bx j)]?→∃ o,ops[j]? =some o∧Region.wanted o (yielded ops a'.tmps)=true∧∀ K':Act→World→Prop,(∀ w'',Stored (lo (bx j)) (T j) (a'.tmps[vs j]?.getD undef).cells w' w''→K' a' w'')→Oper.wp P o a' w' K' Q)
 (hdone:∀ lo hi a' W w',InvX V ops a w (fun i=>decide (i<m)) lo hi a' W→Mid m ops.size bx T vs (fun _=>true) a' lo W w'→Q .normal a' w'):(Code.region id ops true).wp P Q a w:=by
 refine wp_region_inv (InvY V ops m bx T vs a w) hm ha (fun d a' w' i hi hd hall h=>?_) (fun d a' w' hall h=>?_)
  ⟨(fun j _ _ h=>by cases h),fun _=>0,fun _=>0,w.drew,⟨(Below.refl _ w).drew,rfl,rfl,(fun i s _ h=>by simp[less] at h),(fun s _=>rfl),(fun i h=>by simp[less] at h),(fun i j h=>by simp[less] at h)⟩,⟨rfl,rfl,rfl,rfl,fun _ _=>rfl,(fun j _ _ h=>by cases h)⟩,fun _=>rfl⟩
 ·obtain⟨hcl,lo,hi',W,hx,hmid,hW⟩:=h
  by_cases him:i<m
  ·have hw':∀ j,j<m→waits .any ops i j=true→less m d j=true:=fun j hj hjw=>less_of hj (hall j hjw)
   have hcl':∀ j,m≤j→j<ops.size→upd d i j=true→∀ k,waits .any ops j k=true→upd d i k=true:=fun j h1 h2 h3 k hk=>by
    rw[upd_other d (by omega)] at h3
    have:=hcl j h1 h2 h3 k hk
    by_cases e:k=i
    ·subst e; exact upd_same d k
    ·rw[upd_other d e]; exact this
   by_cases hno:∀ j,m≤j→j<ops.size→d j=false
   ·obtain rfl:=hW hno
    have key:∀ a'' w'' lo' hi'',InvX V ops a w (upd (less m d) i) lo' hi'' a'' w''→InvY V ops m bx T vs a w (upd d i) a'' w'':=fun a'' w'' lo' hi'' hx=>by
     rw[less_upd d him] at hx
     refine⟨hcl',lo',hi'',w'',hx,⟨rfl,rfl,rfl,rfl,fun _ _=>rfl,fun j h1 h2 h3=>?_⟩,fun _=>rfl⟩
     rw[upd_other d (by omega),hno j h1 h2] at h3; cases h3
    obtain⟨o,ho,⟨hw,H⟩ | ⟨hw,hv⟩⟩:=hstep d lo hi' a' W i him hw' hx
    ·refine wpOp_step ho fun K hK=>?_
     rw[if_pos hw]
     exact H K fun v w' hb hv=>hK _ _ (key _ _ _ _ (hx.put hu hV ho hb hv))
    ·refine wpOp_step ho fun K hK=>?_
     rw[if_neg (by rw[hw]; simp)]
     exact hK _ _ (key _ _ _ _ (hx.put hu hV ho (Below.refl _ _) hv))
   ·
    have hl:late i=true:=by
     cases hl:late i with
     | true=>rfl
     | false=>
       exfalso
       refine hno fun j h1 h2=>?_
       cases hdj:d j with
       | false=>rfl
       | true=>
         have:=hcl j h1 h2 hdj i ((storesB_of hs h1 h2).wait i him hl)
         rw[hd] at this; cases this
    have hno':¬ ∀ j,m≤j→j<ops.size→upd d i j=false:=fun h'=>hno fun j h1 h2=>by
     have:=h' j h1 h2
     rwa [upd_other d (by omega)] at this
    obtain⟨o,ho,hw,H⟩:=hlate d lo hi' a' W w' i him hl hw' hx hmid.size
    refine wpOp_step ho fun K hK=>?_
    rw[if_pos hw]
    refine H K (fun v hv=>hK _ _ ⟨hcl',upv lo i W.heap.size,upv hi' i W.heap.size,W,?_,hmid.put hs hcl him hd ho v _,fun h'=>absurd h' hno'⟩) (fun v ob hv=>hK _ _ ⟨hcl',upv lo i W.heap.size,upv hi' i (W.alloc ob).heap.size,W.alloc ob,?_,?_,fun h'=>absurd h' hno'⟩)
    ·rw[← less_upd d him]; exact hx.put hu hV ho (Below.refl _ _) hv
    ·rw[← less_upd d him]; exact hx.put hu hV ho ((Below.refl _ _).alloc (Nat.le_refl _) _) hv
    ·have hp:=hmid.put hs hcl him hd ho v W.heap.size
     have hlt:∀ j,m≤j→j<ops.size→d j=true→lo (bx j)<W.heap.size:=fun j h1 h2 h3=>by
      have hb:=(storesB_of hs h1 h2)
      obtain⟨s,hs'⟩:=Option.isSome_iff_exists.1 (hbd j h1 h2)
      exact (hbox j _ _ _ _ h1 h2 (hx.val (bx j) s hs' (less_of hb.lt (hcl j h1 h2 h3 _ hb.box)))).2
     have hub:∀ j,m≤j→j<ops.size→d j=true→upv lo i W.heap.size (bx j)=lo (bx j):=fun j h1 h2 h3=>by
      refine upv_other lo _ fun e=>?_
      have:=hcl j h1 h2 h3 (bx j) (storesB_of hs h1 h2).box
      rw[e,hd] at this; cases this
     refine⟨hp.os,hp.tape,hp.output,by simp[hp.size],fun k hk=>?_,fun j h1 h2 h3=>?_⟩
     ·show (w'.heap.push ob)[k]? =(W.heap.push ob)[k]?
      rw[Array.getElem?_push,Array.getElem?_push,hp.size]
      split
      ·rfl
      ·exact hp.rest k hk
     ·have h3':d j=true:=by rwa [upd_other d (by omega)] at h3
      have:=hp.done j h1 h2 h3
      rw[← this]
      exact Below.heap_alloc _ _ _ (by rw[hub j h1 h2 h3',hp.size]; exact hlt j h1 h2 h3')
  ·
   have hmi:m≤i:=by omega
   have hok:=storesB_of hs hmi hi
   have hat:∀ j,m≤j→j<ops.size→d j=true→lo (bx i)≠lo (bx j):=fun j h1 h2 h3 e=>by
    have hij:i≠j:=fun e'=>by subst e'; rw[hd] at h3; cases h3
    have hbi:=less_of hok.lt (hall _ hok.box)
    have hbj:=less_of (storesB_of hs h1 h2).lt (hcl j h1 h2 h3 _ (storesB_of hs h1 h2).box)
    obtain⟨s,hs1⟩:=Option.isSome_iff_exists.1 (hbd i hmi hi)
    obtain⟨r,hr1⟩:=Option.isSome_iff_exists.1 (hbd j h1 h2)
    have v1:=(hbox i _ _ _ _ hmi hi (hx.val (bx i) s hs1 hbi)).1
    have v2:=(hbox j _ _ _ _ h1 h2 (hx.val (bx j) r hr1 hbj)).1
    have:=hx.apart (bx i) (bx j) hbi hbj ((storesB_of hs h1 h2).inj i hmi hi hij)
    omega
   have hlo:w'.heap[lo (bx i)]? =W.heap[lo (bx i)]? :=hmid.rest _ hat
   obtain⟨o,ho,hw,H⟩:=hstore d lo hi' a' W w' i hmi hi (fun k hk hkw=>less_of hk (hall k hkw)) hx hlo
   have hdst:o.dst=none:=by have:=hok.none; unfold dstAt at this; rw[ho] at this; exact this
   refine wpOp_step ho fun K hK=>?_
   rw[if_pos hw]
   refine H K fun w'' hs'=>hK a' w'' ⟨fun j h1 h2 h3 k hk=>?_,lo,hi',W,by rw[less_store d hmi]; exact hx,⟨hs'.os.trans hmid.os,hs'.tape.trans hmid.tape,hs'.output.trans hmid.output,hs'.size.trans hmid.size,fun k hk=>?_,fun j h1 h2 h3=>?_⟩,fun h'=>?_⟩
   ·have:d k=true:=by
     by_cases e:j=i
     ·subst e; exact hall k hk
     ·rw[upd_other d e] at h3; exact hcl j h1 h2 h3 k hk
    by_cases e:k=i
    ·subst e; exact upd_same d k
    ·rw[upd_other d e]; exact this
   ·rw[hs'.rest k (hk i hmi hi (upd_same d i))]
    exact hmid.rest k fun j h1 h2 h3=>hk j h1 h2 (by
     by_cases e:j=i
     ·subst e; exact upd_same d j
     ·rw[upd_other d e]; exact h3)
   ·by_cases e:j=i
    ·subst e; exact hs'.new
    ·rw[upd_other d e] at h3
     rw[hs'.rest _ (hat j h1 h2 h3).symm]
     exact hmid.done j h1 h2 h3
   ·have:=h' i hmi hi
    rw[upd_same] at this; cases this
 ·obtain⟨hcl,lo,hi',W,hx,hmid,_⟩:=h
  refine hdone lo hi' a' W w' (hx.less (fun k hk=>less_of (of_decide_eq_true hk) (hall k (Nat.lt_of_lt_of_le (of_decide_eq_true hk) hmn))) (fun k s hs' hk=>?_)) ⟨hmid.os,hmid.tape,hmid.output,hmid.size,fun k hk=>hmid.rest k fun j h1 h2 _=>hk j h1 h2 rfl,fun j h1 h2 _=>hmid.done j h1 h2 (hall j h2)⟩
  have hkm:m≤k:=by have:=of_decide_eq_false hk; omega
  simp[less,Nat.not_lt.2 hkm]
end
end Go.Proofs.YtbamodkgagcmnaaGreat.Rgn
