/-
  A region that draws its order, and among its operations lays one slot's value into a box that lay there ahead of it ('return x, f(..)' where x's result lies in a box): whatever may come up, each operation's slot holds what is said of it, and but for that box what lay there lies as it lay.
-/
import Derived.Test.YtbamodkgagcmnaaGreatRgnYM
import Derived.Test.YtbamodkgagcmnaaGreatTrnM
set_option maxRecDepth 100000
namespace Go.Proofs.YtbamodkgagcmnaaGreat.Rgn
open Go Go.RowKit Trn

/-- What is so while the region goes on: operation s is the store, b0 its box, vs the slot whose value it lays. -/
structure InvZ (V : Nat → World → Value → Prop) (ops : Array Oper) (s b0 : Nat) (T : TypeId) (cs0 : Array Value) (vs : Nat) (a0 : Act) (w0 : World) (d : Nat → Bool) (a : Act) (w : World) : Prop where
  turned : Turned (· = b0) w0 w
  defs : a.defers = a0.defers
  size : a.tmps.size = a0.tmps.size
  val : ∀ i r, dstAt ops i = some r → d i = true → V i w (a.tmps[r]?.getD undef)
  old : ∀ r, (∀ i, dstAt ops i = some r → d i = false) → a.tmps[r]?.getD undef = a0.tmps[r]?.getD undef
  box : w.heap[b0]? = some (.cells (if d s = true then (a.tmps[vs]?.getD undef).cells else cs0) T (0, 0))
  done : d s = true → ∀ i, waits .any ops s i = true → d i = true

section
variable {P : Program} {ops : Array Oper} {Q : Exit → Act → World → Prop} {V : Nat → World → Value → Prop} {a0 a : Act} {w0 w : World} {d : Nat → Bool} {i : Nat} {o : Oper} {s b0 vs : Nat} {T : TypeId} {cs0 : Array Value}

theorem InvZ.put (h : InvZ V ops s b0 T cs0 vs a0 w0 d a w) (hu : uniq ops a0.tmps.size = true) (hV : ∀ j w w' v, V j w v → Turned (· = b0) w w' → V j w' v) (ho : ops[i]? = some o) (hne : i ≠ s) (hdi : d i = false) (hvs : ∀ j, dstAt ops j = some vs → waits .any ops s j = true) {v : Value} {w' : World} (hb : Below w.heap.size w w') (hv : V i w' v) :
    InvZ V ops s b0 T cs0 vs a0 w0 (upd d i) (a.put o.dst v) w' := by
  have hd : dstAt ops i = o.dst := by unfold dstAt; rw [ho]; rfl
  have hds : upd d i s = d s := upd_other d (Ne.symm hne)
  have hbox : w'.heap[b0]? = w.heap[b0]? := hb.block b0 (heap_lt h.box)
  have hdone : upd d i s = true → ∀ j, waits .any ops s j = true → upd d i j = true := fun h1 j hj => by
    rw [hds] at h1
    have := h.done h1 j hj
    by_cases e : j = i
    · subst e; exact upd_same d j
    · rw [upd_other d e]; exact this
  cases hdst : o.dst with
  | none =>
    rw [hdst] at hd
    refine ⟨h.turned.trans (.of_below hb), h.defs, h.size, fun j r hj hdj => ?_, fun r hr => h.old r fun j hj => ?_, ?_, hdone⟩
    · have hn : j ≠ i := fun e => by rw [e, hd] at hj; cases hj
      rw [upd_other d hn] at hdj
      exact hV _ _ _ _ (h.val j r hj hdj) (.of_below hb)
    · have hn : j ≠ i := fun e => by rw [e, hd] at hj; cases hj
      have := hr j hj; rwa [upd_other d hn] at this
    · rw [hbox, hds]; exact h.box
  | some s0 =>
    rw [hdst] at hd
    obtain ⟨hlt, huq⟩ := uniq_of hu hd
    rw [← h.size] at hlt
    refine ⟨h.turned.trans (.of_below hb), h.defs, by show (a.tmps.setIfInBounds s0 v).size = _; rw [Array.size_setIfInBounds]; exact h.size, fun j r hj hdj => ?_, fun r hr => ?_, ?_, hdone⟩
    · show V j w' ((a.tmps.setIfInBounds s0 v)[r]?.getD undef)
      by_cases e : j = i
      · subst e
        rw [hd] at hj; cases hj
        rw [getD_put_same hlt]; exact hv
      · rw [upd_other d e] at hdj
        have hn : r ≠ s0 := fun e' => by subst e'; exact e (huq j hj)
        rw [getD_put_other hn]
        exact hV _ _ _ _ (h.val j r hj hdj) (.of_below hb)
    · show (a.tmps.setIfInBounds s0 v)[r]?.getD undef = _
      have hn : r ≠ s0 := fun e => by subst e; have := hr i hd; rw [upd_same] at this; cases this
      rw [getD_put_other hn]
      refine h.old r fun j hj => ?_
      have := hr j hj
      by_cases e : j = i
      · rw [e, upd_same] at this; cases this
      · rwa [upd_other d e] at this
    · rw [hbox, hds, h.box]
      cases hs : d s with
      | false => rfl
      | true =>
        have hn : vs ≠ s0 := fun e => by
          subst e
          have := h.done hs i (hvs i hd)
          rw [hdi] at this; cases this
        show some (Obj.cells (if true = true then _ else _) _ _) = some (Obj.cells (if true = true then ((a.tmps.setIfInBounds s0 v)[vs]?.getD undef).cells else _) _ _)
        rw [if_pos rfl, if_pos rfl, getD_put_other hn]

/-- What is asked of an operation: done, it yields what is said. -/
def StepZ (P : Program) (ops : Array Oper) (Q : Exit → Act → World → Prop) (V : Nat → World → Value → Prop) (i : Nat) (a : Act) (w : World) : Prop :=
  ∃ o, ops[i]? = some o ∧ Region.wanted o (yielded ops a.tmps) = true ∧ ∀ K' : Act → World → Prop, (∀ v w', Below w.heap.size w w' → V i w' v → K' (a.put o.dst v) w') → Oper.wp P o a w K' Q
theorem StepZ.done (ho : ops[i]? = some o) (hw : Region.wanted o (yielded ops a.tmps) = true) (H : ∀ K' : Act → World → Prop, (∀ v w', Below w.heap.size w w' → V i w' v → K' (a.put o.dst v) w') → Oper.wp P o a w K' Q) : StepZ P ops Q V i a w := ⟨o, ho, hw, H⟩

/-- A region that draws, and lays one value into a box that was there. -/
theorem wp_region_old {id : Nat} (V : Nat → World → Value → Prop) (s b0 : Nat) (T : TypeId) (cs0 : Array Value) (vs : Nat) (hV : ∀ j w w' v, V j w v → Turned (· = b0) w w' → V j w' v) (hm : P.follows .mixedOrders = true) (ha : ahead .any ops = true) (hu : uniq ops a.tmps.size = true)
    (hs : dstAt ops s = none) (hvs : ((List.range ops.size).all fun j => dstAt ops j != some vs || waits .any ops s j) = true) (hbox : w.heap[b0]? = some (.cells cs0 T (0, 0)))
    (hstep : ∀ d a' w' i, i < ops.size → i ≠ s → (∀ j, waits .any ops i j = true → d j = true) → InvZ V ops s b0 T cs0 vs a w d a' w' → StepZ P ops Q V i a' w')
    (hstore : ∀ d a' w', d s = false → (∀ j, waits .any ops s j = true → d j = true) → InvZ V ops s b0 T cs0 vs a w d a' w' → ∃ o, ops[s]? = some o ∧ Region.wanted o (yielded ops a'.tmps) = true ∧ ∀ K' : Act → World → Prop, (∀ w'', Stored b0 T (a'.tmps[vs]?.getD undef).cells w' w'' → K' a' w'') → Oper.wp P o a' w' K' Q)
    (hdone : ∀ a' w', InvZ V ops s b0 T cs0 vs a w (fun _ => true) a' w' → Q .normal a' w') (hsz : s < ops.size) : (Code.region id ops true).wp P Q a w := by
  have hvs' : ∀ j, dstAt ops j = some vs → waits .any ops s j = true := fun j hj => by
    have h1 := List.all_eq_true.1 hvs j (List.mem_range.2 (dstAt_lt hj))
    rw [Bool.or_eq_true] at h1
    rcases h1 with h1 | h1
    · rw [hj] at h1; simp at h1
    · exact h1
  refine wp_region_inv (fun d a' w' => InvZ V ops s b0 T cs0 vs a w d a' w') hm ha (fun d a' w' i hi hd hall h => ?_) (fun d a' w' hall h => ?_)
    ⟨.of_below (Below.refl _ w).drew, rfl, rfl, (fun i r _ h => by cases h), (fun r _ => rfl), ?_, fun h => by cases h⟩
  · by_cases his : i = s
    · subst his
      obtain ⟨o, ho, hw, H⟩ := hstore d a' w' hd hall h
      have hdst : o.dst = none := by have := hs; unfold dstAt at this; rw [ho] at this; exact this
      refine wpOp_step ho fun K hK => ?_
      rw [if_pos hw]
      refine H K fun w'' hst => hK a' w'' ?_
      have ht : Turned (· = b0) w' w'' := ⟨hst.os, hst.tape, hst.output, by rw [hst.size]; exact Nat.le_refl _, fun k _ hk => hst.rest k hk⟩
      refine ⟨h.turned.trans ht, h.defs, h.size, fun j r hj hdj => ?_, fun r hr => h.old r fun j hj => ?_, ?_, fun _ j hj => ?_⟩
      · have hn : j ≠ i := fun e => by rw [e, hs] at hj; cases hj
        rw [upd_other d hn] at hdj
        exact hV _ _ _ _ (h.val j r hj hdj) ht
      · have hn : j ≠ i := fun e => by rw [e, hs] at hj; cases hj
        have := hr j hj; rwa [upd_other d hn] at this
      · rw [upd_same, if_pos rfl]; exact hst.new
      · by_cases e : j = i
        · subst e; exact upd_same d j
        · rw [upd_other d e]; exact hall j hj
    · obtain ⟨o, ho, hw, H⟩ := hstep d a' w' i hi his hall h
      refine wpOp_step ho fun K hK => ?_
      rw [if_pos hw]
      exact H K fun v w'' hb hv => hK _ _ (h.put hu hV ho his hd hvs' hb hv)
  · refine hdone a' w' ⟨h.turned, h.defs, h.size, fun i r hr _ => h.val i r hr (hall i (dstAt_lt hr)), fun r hr => h.old r fun i hi => ?_, ?_, fun _ _ _ => rfl⟩
    · have := hr i hi; cases this
    · have := h.box
      rw [hall s hsz] at this; exact this
  · show w.drew.heap[b0]? = _
    exact hbox
end
end Go.Proofs.YtbamodkgagcmnaaGreat.Rgn
