/-
  Cells and locks, plain facts: one lock, one cell, act by act.
-/
import Derived.Test.YtiokpccdkpgibaaCelP
namespace Go.Proofs.Ytiokpccdkpgibaa.Cel
open Go

/-- A lock is this one's (-1: free), and calls were at most so many. -/
structure LockIs (s : St) (i v : Int) (k : Nat) : Prop where
  has : Has s.locks i
  is : at' s.locks i = v
  own : ∀ x ∈ s.locks, -1 ≤ x
  shared : s.shared ≤ k
theorem LockIs.bound {s : St} {i v : Int} {k : Nat} (h : LockIs s i v k) (hk : k ≤ 1000000) : s.shared < 4611686018427387904 := by have := h.shared; omega
theorem LockIs.owner {s : St} {i v : Int} {k : Nat} (h : LockIs s i v k) : owner s i = v := by unfold Cel.owner; rw [if_pos h.has, h.is]
theorem lock_free {s : St} {i who : Int} {k : Nat} (h : LockIs s i (-1) k) (hw : 0 ≤ who) : ∃ s', lock s i who = (s', true) ∧ LockIs s' i who (k + 1) := by
  refine ⟨⟨s.cells, s.locks.set i.toNat who, s.shared + 1⟩, ?_, h.has.set _ _, at_set h.has, fun x hx => ?_, by have := h.shared; show s.shared + 1 ≤ k + 1; omega⟩
  · unfold lock; rw [if_pos h.has, if_pos ⟨by rw [h.is]; omega, hw⟩]
  · rcases List.mem_or_eq_of_mem_set hx with hx | rfl
    · exact h.own x hx
    · omega
theorem lock_held {s : St} {i v who : Int} {k : Nat} (h : LockIs s i v k) (hv : 0 ≤ v) : ∃ s', lock s i who = (s', false) ∧ LockIs s' i v (k + 1) := by
  refine ⟨⟨s.cells, s.locks, s.shared + 1⟩, ?_, h.has, h.is, h.own, by have := h.shared; show s.shared + 1 ≤ k + 1; omega⟩
  unfold lock; rw [if_pos h.has, if_neg (fun h' => by have := h'.1; rw [h.is] at this; omega)]
theorem unlock_own {s : St} {i v : Int} {k : Nat} (h : LockIs s i v k) (hv : 0 ≤ v) : ∃ s', unlock s i v = (s', true) ∧ LockIs s' i (-1) (k + 1) := by
  refine ⟨⟨s.cells, s.locks.set i.toNat (-1), s.shared + 1⟩, ?_, h.has.set _ _, at_set h.has, fun x hx => ?_, by have := h.shared; show s.shared + 1 ≤ k + 1; omega⟩
  · unfold unlock; rw [if_pos h.has, if_pos ⟨by rw [h.is]; exact hv, h.is⟩]
  · rcases List.mem_or_eq_of_mem_set hx with hx | rfl
    · exact h.own x hx
    · omega
theorem unlock_other {s : St} {i v who : Int} {k : Nat} (h : LockIs s i v k) (hv : v < 0 ∨ v ≠ who) : ∃ s', unlock s i who = (s', false) ∧ LockIs s' i v (k + 1) := by
  refine ⟨⟨s.cells, s.locks, s.shared + 1⟩, ?_, h.has, h.is, h.own, by have := h.shared; show s.shared + 1 ≤ k + 1; omega⟩
  unfold unlock; rw [if_pos h.has, if_neg (fun h' => by rw [h.is] at h'; omega)]
theorem lockIs_runs {n m i : Int} {l : List Act} (h0 : 0 ≤ i) (h1 : i < m) (h2 : i < 1024) : ∃ v, -1 ≤ v ∧ LockIs (runs (new n m) l) i v l.length := by
  have R := ran_runs (new n m) l
  have hh : Has (runs (new n m) l).locks i := ⟨h0, by rw [R.locks]; have := size_lt h0 h1 h2; simpa [new] using this⟩
  have ho := R.own (new_own n m)
  refine ⟨_, ?_, hh, rfl, ho, by have := R.shared.2; simpa [new] using this⟩
  exact ho _ (by rw [at_get hh]; exact List.getElem_mem _)

theorem runs_few (n m : Int) {l : List Act} {j : Nat} (hl : l.length ≤ 1000000) : (runs (new n m) (l.take j)).shared < 4611686018427387904 := by
  have h1 := (ran_runs (new n m) (l.take j)).shared.2
  have h2 : (new n m).shared = 0 := rfl
  have h3 : (l.take j).length ≤ l.length := by rw [List.length_take]; omega
  omega
theorem runs_own (n m : Int) (l : List Act) : ∀ x ∈ (runs (new n m) l).locks, -1 ≤ x := (ran_runs (new n m) l).own (new_own n m)
/-- A cell holds this, and calls were just so many. -/
structure CellIs (s : St) (i v : Int) (k : Nat) : Prop where
  has : Has s.cells i
  is : at' s.cells i = v
  shared : s.shared = k
theorem load_is {s : St} {i v : Int} {k : Nat} (h : CellIs s i v k) : ∃ s', load s i = (s', v) ∧ CellIs s' i v (k + 1) :=
  ⟨⟨s.cells, s.locks, s.shared + 1⟩, by unfold load; rw [if_pos h.has, h.is], h.has, h.is, by rw [← h.shared]⟩
theorem store_is {s : St} {i u : Int} (v : Int) {k : Nat} (h : CellIs s i u k) : CellIs (store s i v) i v (k + 1) := by
  unfold store; rw [if_pos h.has]
  exact ⟨h.has.set _ _, at_set h.has, by rw [← h.shared]⟩
theorem add_is {s : St} {i v : Int} (d : Int) {k : Nat} (h : CellIs s i v k) : ∃ s', add s i d = (s', wr (v + d)) ∧ CellIs s' i (wr (v + d)) (k + 1) :=
  ⟨⟨s.cells.set i.toNat (wr (v + d)), s.locks, s.shared + 1⟩, by unfold add; rw [if_pos h.has, h.is], h.has.set _ _, at_set h.has, by rw [← h.shared]⟩
theorem swap_is {s : St} {i v : Int} (u : Int) {k : Nat} (h : CellIs s i v k) : ∃ s', swap s i v u = (s', true) ∧ CellIs s' i u (k + 1) :=
  ⟨⟨s.cells.set i.toNat u, s.locks, s.shared + 1⟩, by unfold swap; rw [if_pos h.has, if_pos h.is], h.has.set _ _, at_set h.has, by rw [← h.shared]⟩
theorem swap_not {s : St} {i v o : Int} (u : Int) {k : Nat} (h : CellIs s i v k) (ho : v ≠ o) : ∃ s', swap s i o u = (s', false) ∧ CellIs s' i v (k + 1) :=
  ⟨⟨s.cells, s.locks, s.shared + 1⟩, by unfold swap; rw [if_pos h.has, if_neg (by rw [h.is]; exact ho)], h.has, h.is, by rw [← h.shared]⟩
theorem cellIs_runs {n m i : Int} {l : List Act} (h0 : 0 ≤ i) (h1 : i < n) (h2 : i < 1024) : ∃ v k, k ≤ l.length ∧ CellIs (runs (new n m) l) i v k := by
  have R := ran_runs (new n m) l
  have hh : Has (runs (new n m) l).cells i := ⟨h0, by rw [R.cells]; have := size_lt h0 h1 h2; simpa [new] using this⟩
  exact ⟨_, _, by have := R.shared.2; simpa [new] using this, hh, rfl, rfl⟩
theorem CellIs.bound {s : St} {i v : Int} {k : Nat} (h : CellIs s i v k) (hk : k ≤ 1000000) : s.shared < 4611686018427387904 := by have := h.shared; omega
theorem runsBut_own {s : St} {i : Int} (l : List Act) (h : Has s.cells i) (ho : ∀ x ∈ s.locks, -1 ≤ x) : ∀ x ∈ (runsBut i s l).locks, -1 ≤ x := (runsBut_hold i l s h).2.own ho
theorem store_own {s : St} {i v : Int} (ho : ∀ x ∈ s.locks, -1 ≤ x) : ∀ x ∈ (store s i v).locks, -1 ≤ x := by
  unfold store; split <;> exact ho
theorem cellIs_runsBut {s : St} {i v : Int} {k : Nat} (l : List Act) (h : CellIs s i v k) : ∃ k', k ≤ k' ∧ k' ≤ k + l.length ∧ CellIs (runsBut i s l) i v k' := by
  obtain ⟨h1, R⟩ := runsBut_hold i l s h.has
  exact ⟨_, by rw [← h.shared]; exact R.shared.1, by rw [← h.shared]; exact R.shared.2, ⟨h.has.1, by rw [R.cells]; exact h.has.2⟩, h1.trans h.is, rfl⟩
theorem cellIs_new {n m : Int} {i : Int} (h0 : 0 ≤ i) (h1 : i < n) (h2 : i < 1024) : CellIs (new n m) i 0 0 := by
  have hs := size_lt h0 h1 h2
  have hh : Has (new n m).cells i := ⟨h0, by simpa [new] using hs⟩
  refine ⟨hh, ?_, rfl⟩
  rw [at_get hh]; simp [new]
theorem load_is2 {s : St} {i j v u : Int} {k : Nat} (h : CellIs s i v k) (hj : CellIs s j u k) : ∃ s', load s i = (s', v) ∧ CellIs s' i v (k + 1) ∧ CellIs s' j u (k + 1) :=
  ⟨⟨s.cells, s.locks, s.shared + 1⟩, by unfold load; rw [if_pos h.has, h.is], ⟨h.has, h.is, by rw [← h.shared]⟩, ⟨hj.has, hj.is, by rw [← h.shared]⟩⟩
/-- Something is added, and what another cell holds stays. -/
theorem add_is2 {s : St} {i j v u : Int} (d : Int) {k : Nat} (h : CellIs s i v k) (hj : CellIs s j u k) (hij : i ≠ j) : ∃ s', add s i d = (s', wr (v + d)) ∧ CellIs s' i (wr (v + d)) (k + 1) ∧ CellIs s' j u (k + 1) :=
  ⟨⟨s.cells.set i.toNat (wr (v + d)), s.locks, s.shared + 1⟩, by unfold add; rw [if_pos h.has, h.is], ⟨h.has.set _ _, at_set h.has, by rw [← h.shared]⟩, ⟨hj.has.set _ _, (set_at hj.has h.has hij).trans hj.is, by rw [← h.shared]⟩⟩
end Go.Proofs.Ytiokpccdkpgibaa.Cel
