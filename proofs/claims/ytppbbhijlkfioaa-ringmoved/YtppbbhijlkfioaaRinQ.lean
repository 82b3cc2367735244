/-
  Rings, plain facts: the places of hashes that go elsewhere.
-/
import Derived.Test.YtppbbhijlkfioaaRinD
namespace Go.Proofs.Ytppbbhijlkfioaa.Rin
open Pts (Pt ofL hsh)
open Pol (Bk chk without)

theorem mvK_range (A B : List Pt) (hs : List Int) : ∀ x ∈ mvK A B hs hs.length, 0 ≤ x ∧ x < (hs.length : Int) := by
  intro x hx
  rw [mvK_all] at hx
  obtain ⟨i, hi, rfl⟩ := List.mem_map.1 hx
  have := ((movedL_mem A B hs i).1 hi).1
  omega
theorem mvK_rise (A B : List Pt) (hs : List Int) : (mvK A B hs hs.length).Pairwise (· < ·) := by
  rw [mvK_all]
  exact List.Pairwise.map _ (fun a b h => by omega) (movedL_rises A B hs)
theorem mvK_at (A B : List Pt) (hs : List Int) (j k : Nat) (hj : j < k) (hk : k < (mvK A B hs hs.length).length) : (mvK A B hs hs.length)[j] < (mvK A B hs hs.length)[k] :=
  List.pairwise_iff_getElem.1 (mvK_rise A B hs) j k (by omega) hk hj
theorem mvK_mem (A B : List Pt) (hs : List Int) (i : Nat) (hi : i < hs.length) : (i : Int) ∈ mvK A B hs hs.length ↔ succL A hs[i] ≠ succL B hs[i] := by
  rw [mvK_all, List.mem_map]
  constructor
  · rintro ⟨j, hj, e⟩
    have : j = i := by omega
    subst this
    have := ((movedL_mem A B hs j).1 hj).2
    simpa [hi] using this
  · intro h
    exact ⟨i, (movedL_mem A B hs i).2 ⟨hi, by simpa [hi] using h⟩, rfl⟩
theorem mvK_self (A : List Pt) (hs : List Int) : mvK A A hs hs.length = [] := by rw [mvK_all, movedL_self]; rfl
/-- What moves without a backend is just what went to it. -/
theorem mv_without {z : List Bk} (hc : chk z) (id : Int) (hs : List Int) (i : Nat) (hi : i < hs.length) :
    (i : Int) ∈ mvK (ofL hsh z) (ofL hsh (without z id)) hs hs.length ↔ succL (ofL hsh z) hs[i] = id ∧ 0 ≤ Pol.find z id 0 := by
  rw [mvK_mem _ _ _ _ hi, moved_without hsh hc id hs[i], Pol.find_pos]
end Go.Proofs.Ytppbbhijlkfioaa.Rin
