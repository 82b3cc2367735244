/-
  Sweep, plain facts: what the laws say of sweeping some places, all places, in parts and again.
-/
import Derived.Test.YtbamodkgagcmnaaGreatSwpAM
import Derived.Test.YtbamodkgagcmnaaGreatFloPM
set_option maxRecDepth 100000
namespace Go.Proofs.YtbamodkgagcmnaaGreat.Swp
open RowG Tab Prb Flo

section
variable {now later : Int} {T U : List Ent} {n : Nat}
theorem step_len (h : T.length ≤ 64) (l : List Nat) : (stepC now l T).length = T.length := by
  unfold stepC settleC
  split
  · split
    · rw [tidyC_length, sweep_length]; omega
    · rw [sweep_length]
  · rfl
theorem short_sweep : ∀ (l : List Nat) (T : List Ent), Short n T → Short n (Tab.sweep now l T).1
  | [], _, h => h
  | i :: l, T, h => by
    rw [sweep_cons]
    split
    · refine short_sweep l (T.set i tomb) fun x hx => ?_
      rcases List.mem_or_eq_of_mem_set hx with hx | rfl
      · exact h x hx
      · show 0 ≤ n; omega
    · exact short_sweep l T h
theorem step_short (h : Short n T) (l : List Nat) : Short n (stepC now l T) := by
  unfold stepC
  split
  · exact short_settle (short_sweep l T h)
  · exact h
theorem looked (n : Nat) (h : Nat) (q : Int) : ∀ a ∈ places n h (span q n), a < n := fun _ ha => places_mem (span_le q n) ha
theorem np_le (n h m : Nat) : nextP n h m ≤ n - 1 := by
  by_cases hn : 0 < n
  · have := nextP_lt (h := h) (m := m) hn; omega
  · obtain rfl : n = 0 := by omega
    unfold nextP; simp
/-- All places, once more. -/
theorem again (hl : T.length ≤ 64) (hr : Right home T) (e : U = stepC now (places T.length 0 T.length) T) : dueN now (places U.length 0 U.length) U = 0 ∧ stepC now (places U.length 0 U.length) U = U := by
  have hU : U.length = T.length := by rw [e]; exact step_len hl _
  have h2 := all_again (now := now) hr
  rw [← stepC_stepT hl, ← e] at h2
  rw [hU, stepC_stepT (by omega)]
  exact h2
/-- What is found behind all places. -/
theorem found (hl : T.length ≤ 64) (hr : Right home T) (k : ByteArray) (e : U = stepC now (places T.length 0 T.length) T) : find home U k ≠ none ↔ ∃ a, find home T k = some a ∧ ¬ Due (ent T a) now := by
  rw [e, stepC_stepT hl]; exact (all_found hr k).1
/-- In two steps it comes to the same as in one, unless it is tidied. -/
theorem parts (hl : T.length ≤ 64) (f : Int) {m k : Nat} (hmk : m + k ≤ T.length) {A B C : List Ent} {i : Nat} (hi : i = nextP T.length (norm T.length f) m) (hA : A = stepC now (places T.length (norm T.length f) m) T) (hB : B = stepC now (places A.length (norm A.length (i : Int)) k) A) (hC : C = stepC now (places T.length (norm T.length f) (m + k)) T) :
    A.length = T.length ∧ B.length = T.length ∧ C.length = T.length ∧ nextP A.length (norm A.length (i : Int)) k = nextP T.length (norm T.length f) (m + k) ∧
    (2 * count 2 T + 2 * dueN now (places T.length (norm T.length f) (m + k)) T ≤ T.length → dueN now (places T.length (norm T.length f) m) T + dueN now (places A.length (norm A.length (i : Int)) k) A = dueN now (places T.length (norm T.length f) (m + k)) T ∧ B = C) := by
  have hAl : A.length = T.length := by rw [hA]; exact step_len hl _
  have hBl : B.length = T.length := by rw [hB, step_len (by omega), hAl]
  have hCl : C.length = T.length := by rw [hC]; exact step_len hl _
  refine ⟨hAl, hBl, hCl, ?_⟩
  rw [hAl] at hB ⊢
  rw [stepC_stepT (by omega)] at hB
  rw [stepC_stepT hl] at hA hC
  by_cases h0 : 0 < T.length
  · have hni : norm T.length (i : Int) = nextP T.length (norm T.length f) m := by rw [hi]; exact norm_nat (nextP_lt h0)
    rw [hni] at hB ⊢
    refine ⟨nextP_app, fun hf => ?_⟩
    obtain ⟨h1, h2⟩ := step_parts (home := home) h0 hmk hf
    rw [hB, hC, hA]
    exact ⟨h1, h2⟩
  · have hT : T = [] := List.length_eq_zero_iff.1 (by omega)
    obtain ⟨rfl, rfl⟩ : m = 0 ∧ k = 0 := by omega
    subst hT
    have hz : ∀ h : Nat, places 0 h 0 = [] := fun h => places_zero 0 h
    simp only [List.length_nil, norm_zero, Nat.add_zero, hz] at hA hB hC ⊢
    have e : ∀ X : List Ent, Tab.stepT home now [] X = X := fun X => stepT_zero [] rfl
    rw [e] at hA hB hC
    subst hA; subst hB; subst hC
    exact ⟨trivial, fun _ => ⟨rfl, rfl⟩⟩
end
end Go.Proofs.YtbamodkgagcmnaaGreat.Swp
