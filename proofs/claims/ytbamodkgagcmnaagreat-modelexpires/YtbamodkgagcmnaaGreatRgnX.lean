/-
  A region that draws its order, by what each operation yields and which blocks it makes: no two operations make the same block.
-/
import Derived.Test.YtbamodkgagcmnaaGreatBRgn
set_option maxRecDepth 100000
namespace Go.Proofs.YtbamodkgagcmnaaGreat.Rgn
open Go Go.RowKit

/-- What is so while the region goes on: operation i has made the blocks from lo i to hi i. -/
structure InvX (V : Nat → Nat → Nat → World → Value → Prop) (ops : Array Oper) (a0 : Act) (w0 : World) (d : Nat → Bool) (lo hi : Nat → Nat) (a : Act) (w : World) : Prop where
  below : Below w0.heap.size w0 w
  defs : a.defers = a0.defers
  size : a.tmps.size = a0.tmps.size
  val : ∀ i s, dstAt ops i = some s → d i = true → V i (lo i) (hi i) w (a.tmps[s]?.getD undef)
  old : ∀ s, (∀ i, dstAt ops i = some s → d i = false) → a.tmps[s]?.getD undef = a0.tmps[s]?.getD undef
  lim : ∀ i, d i = true → w0.heap.size ≤ lo i ∧ hi i ≤ w.heap.size
  apart : ∀ i j, d i = true → d j = true → i ≠ j → hi i ≤ lo j ∨ hi j ≤ lo i

section
variable {P : Program} {ops : Array Oper} {Q : Exit → Act → World → Prop} {V : Nat → Nat → Nat → World → Value → Prop} {a0 a : Act} {w0 w : World} {d : Nat → Bool} {lo hi : Nat → Nat} {i : Nat} {o : Oper}

theorem InvX.put (h : InvX V ops a0 w0 d lo hi a w) (hu : uniq ops a0.tmps.size = true) (hV : ∀ j l m w w' v, V j l m w v → Below w.heap.size w w' → V j l m w' v) (ho : ops[i]? = some o) {v : Value} {w' : World} (hb : Below w.heap.size w w') (hv : V i w.heap.size w'.heap.size w' v) :
    InvX V ops a0 w0 (upd d i) (upv lo i w.heap.size) (upv hi i w'.heap.size) (a.put o.dst v) w' := by
  have hd : dstAt ops i = o.dst := by unfold dstAt; rw [ho]; rfl
  have hlim : ∀ j, upd d i j = true → w0.heap.size ≤ upv lo i w.heap.size j ∧ upv hi i w'.heap.size j ≤ w'.heap.size := by
    intro j hj
    by_cases e : j = i
    · subst e; rw [upv_same, upv_same]; exact ⟨h.below.size, Nat.le_refl _⟩
    · rw [upd_other d e] at hj; rw [upv_other lo _ e, upv_other hi _ e]; exact ⟨(h.lim j hj).1, Nat.le_trans (h.lim j hj).2 hb.size⟩
  have hapart : ∀ j k, upd d i j = true → upd d i k = true → j ≠ k → upv hi i w'.heap.size j ≤ upv lo i w.heap.size k ∨ upv hi i w'.heap.size k ≤ upv lo i w.heap.size j := by
    intro j k hj hk hjk
    by_cases e : j = i
    · have e' : k ≠ i := fun e' => hjk (e.trans e'.symm)
      subst e
      rw [upd_other d e'] at hk
      rw [upv_same, upv_same, upv_other lo _ e', upv_other hi _ e']
      exact .inr (h.lim k hk).2
    · rw [upd_other d e] at hj
      rw [upv_other lo _ e, upv_other hi _ e]
      by_cases e' : k = i
      · subst e'
        rw [upv_same, upv_same]
        exact .inl (h.lim j hj).2
      · rw [upd_other d e'] at hk
        rw [upv_other lo _ e', upv_other hi _ e']
        exact h.apart j k hj hk hjk
  cases hdst : o.dst with
  | none =>
    rw [hdst] at hd
    refine ⟨h.below.trans (hb.mono h.below.size), h.defs, h.size, fun j s hj hdj => ?_, fun s hs => h.old s fun j hj => ?_, hlim, hapart⟩
    · have hne : j ≠ i := fun e => by rw [e, hd] at hj; cases hj
      rw [upd_other d hne] at hdj
      rw [upv_other lo _ hne, upv_other hi _ hne]
      exact hV _ _ _ _ _ _ (h.val j s hj hdj) hb
    · have hne : j ≠ i := fun e => by rw [e, hd] at hj; cases hj
      have := hs j hj; rwa [upd_other d hne] at this
  | some s0 =>
    rw [hdst] at hd
    obtain ⟨hlt, huq⟩ := uniq_of hu hd
    rw [← h.size] at hlt
    refine ⟨h.below.trans (hb.mono h.below.size), h.defs, by show (a.tmps.setIfInBounds s0 v).size = _; rw [Array.size_setIfInBounds]; exact h.size, fun j s hj hdj => ?_, fun s hs => ?_, hlim, hapart⟩
    · show V j _ _ w' ((a.tmps.setIfInBounds s0 v)[s]?.getD undef)
      by_cases e : j = i
      · subst e
        rw [hd] at hj; cases hj
        rw [getD_put_same hlt, upv_same, upv_same]; exact hv
      · rw [upd_other d e] at hdj
        have hne : s ≠ s0 := fun e' => by subst e'; exact e (huq j hj)
        rw [getD_put_other hne, upv_other lo _ e, upv_other hi _ e]
        exact hV _ _ _ _ _ _ (h.val j s hj hdj) hb
    · show (a.tmps.setIfInBounds s0 v)[s]?.getD undef = _
      have hne : s ≠ s0 := fun e => by subst e; have := hs i hd; rw [upd_same] at this; cases this
      rw [getD_put_other hne]
      refine h.old s fun j hj => ?_
      have := hs j hj
      by_cases e : j = i
      · rw [e, upd_same] at this; cases this
      · rwa [upd_other d e] at this

/-- What is asked of an operation: done, it yields what is said; or it is left out, and nothing is said of it. -/
def StepX (P : Program) (ops : Array Oper) (Q : Exit → Act → World → Prop) (V : Nat → Nat → Nat → World → Value → Prop) (i : Nat) (a : Act) (w : World) : Prop :=
  ∃ o, ops[i]? = some o ∧ ((Region.wanted o (yielded ops a.tmps) = true ∧ ∀ K' : Act → World → Prop, (∀ v w', Below w.heap.size w w' → V i w.heap.size w'.heap.size w' v → K' (a.put o.dst v) w') → Oper.wp P o a w K' Q) ∨ (Region.wanted o (yielded ops a.tmps) = false ∧ V i w.heap.size w.heap.size w undef))
theorem StepX.done (ho : ops[i]? = some o) (hw : Region.wanted o (yielded ops a.tmps) = true) (H : ∀ K' : Act → World → Prop, (∀ v w', Below w.heap.size w w' → V i w.heap.size w'.heap.size w' v → K' (a.put o.dst v) w') → Oper.wp P o a w K' Q) : StepX P ops Q V i a w := ⟨o, ho, .inl ⟨hw, H⟩⟩
theorem StepX.left (ho : ops[i]? = some o) (hw : Region.wanted o (yielded ops a.tmps) = false) (hv : V i w.heap.size w.heap.size w undef) : StepX P ops Q V i a w := ⟨o, ho, .inr ⟨hw, hv⟩⟩

/-- A region that draws, by what its operations yield and make. -/
theorem wp_region_blk {id : Nat} (V : Nat → Nat → Nat → World → Value → Prop) (hV : ∀ j l m w w' v, V j l m w v → Below w.heap.size w w' → V j l m w' v) (hm : P.follows .mixedOrders = true) (ha : ahead .any ops = true) (hu : uniq ops a.tmps.size = true)
    (hstep : ∀ d lo hi a' w' i, i < ops.size → (∀ j, waits .any ops i j = true → d j = true) → InvX V ops a w d lo hi a' w' → StepX P ops Q V i a' w')
    (hdone : ∀ lo hi a' w', InvX V ops a w (fun _ => true) lo hi a' w' → Q .normal a' w') : (Code.region id ops true).wp P Q a w := by
  refine wp_region_inv (fun d a' w' => ∃ lo hi, InvX V ops a w d lo hi a' w') hm ha (fun d a' w' i hi hd hall ⟨lo, hi', h⟩ => ?_) (fun d a' w' hall ⟨lo, hi', h⟩ => ?_) ⟨fun _ => 0, fun _ => 0, (Below.refl _ w).drew, rfl, rfl, (fun i s _ h => by cases h), (fun s _ => rfl), (fun i h => by cases h), (fun i j h => by cases h)⟩
  · obtain ⟨o, ho, ⟨hw, H⟩ | ⟨hw, hv⟩⟩ := hstep d lo hi' a' w' i hi hall h
    · refine wpOp_step ho fun K hK => ?_
      rw [if_pos hw]
      exact H K fun v w' hb hv => hK _ _ ⟨_, _, h.put hu hV ho hb hv⟩
    · refine wpOp_step ho fun K hK => ?_
      rw [if_neg (by rw [hw]; simp)]
      exact hK _ _ ⟨_, _, h.put hu hV ho (Below.refl _ _) hv⟩
  · have hall' : ∀ i s, dstAt ops i = some s → d i = true := fun i s hs => hall i (dstAt_lt hs)
    -- what is no operation at all has made nothing: it is told so
    refine hdone (fun i => if i < ops.size then lo i else w'.heap.size) (fun i => if i < ops.size then hi' i else w'.heap.size) a' w' ⟨h.below, h.defs, h.size, fun i s hs _ => ?_, fun s hs => h.old s fun i hi => ?_, fun i _ => ?_, fun i j _ _ hij => ?_⟩
    · have hi := dstAt_lt hs
      simp only [if_pos hi]
      exact h.val i s hs (hall' i s hs)
    · have := hs i hi; cases this
    · by_cases hi : i < ops.size
      · simp only [if_pos hi]; exact h.lim i (hall i hi)
      · simp only [if_neg hi]; exact ⟨h.below.size, Nat.le_refl _⟩
    · by_cases hi : i < ops.size
      · by_cases hj : j < ops.size
        · simp only [if_pos hi, if_pos hj]; exact h.apart i j (hall i hi) (hall j hj) hij
        · simp only [if_pos hi, if_neg hj]; exact .inl (h.lim i (hall i hi)).2
      · by_cases hj : j < ops.size
        · simp only [if_neg hi, if_pos hj]; exact .inr (h.lim j (hall j hj)).2
        · simp only [if_neg hi, if_neg hj]; exact .inl (Nat.le_refl _)
end
end Go.Proofs.YtbamodkgagcmnaaGreat.Rgn
