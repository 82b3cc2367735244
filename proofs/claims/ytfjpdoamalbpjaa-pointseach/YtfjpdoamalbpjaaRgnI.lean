/-
  A region that draws its order, inside a fence, by one invariant over which operations are done.
-/
import Derived.Test.YtfjpdoamalbpjaaRgnJ
import Derived.OrdersIn
namespace Go.Proofs.Ytfjpdoamalbpjaa.Rgn
open Go Go.RowKit

section
variable {F : Fence} {n : Nat} {P : Program} {md : Region.Mode} {ops : Array Oper} {Q : Exit → Act → World → Prop}

theorem wpAnyIn_inv (I : (Nat → Bool) → Act → World → Prop) (ha : ahead md ops = true)
    (hstep : ∀ d a w i o, ops[i]? = some o → d i = false → (∀ e ∈ o.after, Region.binds md e = true → d e.on = true) → I d a w → wpOpIn F n P ops Q i (fun a' w' => I (upd d i) a' w') a w)
    (hdone : ∀ d a w, (∀ i, i < ops.size → d i = true) → I d a w → Q .normal a w) :
    ∀ (fuel : Nat) (l : Array Bool) (d : Nat → Bool) (a : Act) (w : World), l.size = ops.size → (∀ j, j < ops.size → d j = l.getD j false) → l.toList.count false ≤ fuel → I d a w → wpAnyIn F n P md ops Q fuel l a w := by
  intro fuel
  induction fuel with
  | zero =>
    intro l d a w hsz hd hc hI
    have hno : ∀ j, j < ops.size → l.getD j false = true := by
      intro j hj
      cases hb : l.getD j false with
      | true => rfl
      | false =>
        exfalso
        have hm : false ∈ l.toList := by
          have : l.toList[j]? = some false := by
            rw [Array.getElem?_toList]; simp [hsz ▸ hj] at hb ⊢; exact hb
          exact List.mem_of_getElem? this
        have := List.count_pos_iff.2 hm
        omega
    refine ⟨?_, hdone d a w (fun i hi => (hd i hi).trans (hno i hi)) hI⟩
    cases hr : Region.ready md ops l with
    | nil => rfl
    | cons x xs =>
      exfalso
      have hm : x ∈ Region.ready md ops l := by rw [hr]; simp
      obtain ⟨h0, o, ho, _⟩ := mem_ready.1 hm
      have hx : x < ops.size := (Array.getElem?_eq_some_iff.1 ho).1
      have h1 := hno x hx
      simp [hsz, hx] at h0 h1
      rw [h0] at h1; cases h1
  | succ fuel ih =>
    intro l d a w hsz hd hc hI
    refine ⟨fun hr => hdone d a w (fun i hi => (hd i hi).trans (all_listed ha hsz hr i hi)) hI, fun i hi => ?_⟩
    obtain ⟨h0, o, ho, hall⟩ := mem_ready.1 hi
    have hx : i < ops.size := (Array.getElem?_eq_some_iff.1 ho).1
    have hl : l.toList[i]? = some false := by
      rw [Array.getElem?_toList]; simp [hsz, hx] at h0 ⊢; exact h0
    have hdi : d i = false := by rw [hd i hx]; simp [hsz, hx] at h0 ⊢; exact h0
    refine wpOpIn_mono (fun a' w' hI' => ih _ (upd d i) a' w' (by simpa using hsz) (fun j hj => ?_) ?_ hI') (hstep d a w i o ho hdi (fun e he hb => ?_) hI)
    · by_cases hji : j = i
      · subst hji; rw [upd_same]; simp [hsz, hx]
      · rw [upd_other d hji, getD_set_ne false (Ne.symm hji)]; exact hd j hj
    · have := count_set hl
      rw [Array.toList_setIfInBounds]; omega
    · have h1 := hall e he hb
      have h2 := getD_false_lt h1
      rw [hd e.on (by omega)]; exact h1

/-- A region that draws, by its invariant. -/
theorem wpIn_region_inv {id : Nat} {a : Act} {w : World} (I : (Nat → Bool) → Act → World → Prop) (hm : P.follows .mixedOrders = true) (ha : ahead .any ops = true)
    (hstep : ∀ d a w i, i < ops.size → d i = false → (∀ j, waits .any ops i j = true → d j = true) → I d a w → wpOpIn F n P ops Q i (fun a' w' => I (upd d i) a' w') a w)
    (hdone : ∀ d a w, (∀ i, i < ops.size → d i = true) → I d a w → Q .normal a w)
    (hI : I (fun _ => false) a w.drew) : (Code.region id ops true).wpIn F n P Q a w := by
  refine wpIn_region_any hm (wpAnyIn_inv I ha (fun d a w i o ho hd hall h => ?_) hdone ops.size _ (fun _ => false) a _ (by simp) (fun j hj => by simp [hj]) (by simp) hI)
  refine hstep d a w i (Array.getElem?_eq_some_iff.1 ho).1 hd (fun j hj => ?_) h
  unfold waits at hj
  simp only [ho, Option.map_some, Option.getD_some] at hj
  obtain ⟨m, hn, hb⟩ := Array.any_eq_true.1 hj
  rw [Bool.and_eq_true, beq_iff_eq] at hb
  obtain ⟨h1, rfl⟩ := hb
  exact hall _ (Array.getElem_mem hn) h1
end
/-- An operation without a guard is done. -/
theorem wpOpIn_free {F : Fence} {n : Nat} {P : Program} {ops : Array Oper} {Q : Exit → Act → World → Prop} {i : Nat} {o : Oper} {K : Act → World → Prop} {a : Act} {w : World} (ho : ops[i]? = some o) (hg : o.guard = none)
    (h : ∀ K' : Act → World → Prop, (∀ a w, K a w → K' a w) → Oper.wpIn F n P o a w K' Q) : wpOpIn F n P ops Q i K a w := by
  refine wpOpIn_step ho fun K' hK' => ?_
  rw [if_pos (by unfold Region.wanted; rw [hg])]
  exact h K' hK'
end Go.Proofs.Ytfjpdoamalbpjaa.Rgn
