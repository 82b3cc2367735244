/-
  Cells and locks, plain facts: what each act does to them, and what holds of them.
-/
import Derived.WalkKit
set_option maxRecDepth 100000
namespace Go.Proofs.YtbamodkgagcmnaaGreat.Cel
open Go

/-- An act, and what it tells. -/
structure Act where
  k : Int
  i : Int
  a : Int
  b : Int
structure Told where
  n : Int
  ok : Bool
deriving DecidableEq
/-- Cells, locks (whose; -1: free), and how often they were called. -/
structure St where
  cells : List Int
  locks : List Int
  shared : Nat
/-- What goes round. -/
abbrev wr (n : Int) : Int := IntKind.i64.wrap n
/-- How many. -/
def size (n : Int) : Nat := (min (max n 0) 1024).toNat
theorem size_le (n : Int) : size n ≤ 1024 := by unfold size; omega
theorem size_lt {n i : Int} (h0 : 0 ≤ i) (h1 : i < n) (h2 : i < 1024) : i < (size n : Int) := by unfold size; omega
def new (n m : Int) : St := ⟨List.replicate (size n) 0, List.replicate (size m) (-1), 0⟩
/-- Is there such a one? -/
def Has (l : List Int) (i : Int) : Prop := 0 ≤ i ∧ i < (l.length : Int)
instance (l : List Int) (i : Int) : Decidable (Has l i) := inferInstanceAs (Decidable (_ ∧ _))
/-- What stands there. -/
def at' (l : List Int) (i : Int) : Int := l.getD i.toNat 0
theorem Has.lt {l : List Int} {i : Int} (h : Has l i) : i.toNat < l.length := by have := h.1; have := h.2; omega
theorem at_get {l : List Int} {i : Int} (h : Has l i) : at' l i = l[i.toNat]'h.lt := by unfold at'; rw [List.getD_eq_getElem?_getD, List.getElem?_eq_getElem h.lt]; rfl

def load (s : St) (i : Int) : St × Int := if Has s.cells i then (⟨s.cells, s.locks, s.shared + 1⟩, at' s.cells i) else (s, 0)
def store (s : St) (i v : Int) : St := if Has s.cells i then ⟨s.cells.set i.toNat v, s.locks, s.shared + 1⟩ else s
def add (s : St) (i d : Int) : St × Int := if Has s.cells i then (⟨s.cells.set i.toNat (wr (at' s.cells i + d)), s.locks, s.shared + 1⟩, wr (at' s.cells i + d)) else (s, 0)
def swap (s : St) (i o v : Int) : St × Bool := if Has s.cells i then (if at' s.cells i = o then (⟨s.cells.set i.toNat v, s.locks, s.shared + 1⟩, true) else (⟨s.cells, s.locks, s.shared + 1⟩, false)) else (s, false)
def lock (s : St) (i who : Int) : St × Bool := if Has s.locks i then (if at' s.locks i < 0 ∧ 0 ≤ who then (⟨s.cells, s.locks.set i.toNat who, s.shared + 1⟩, true) else (⟨s.cells, s.locks, s.shared + 1⟩, false)) else (s, false)
def unlock (s : St) (i who : Int) : St × Bool := if Has s.locks i then (if 0 ≤ at' s.locks i ∧ at' s.locks i = who then (⟨s.cells, s.locks.set i.toNat (-1), s.shared + 1⟩, true) else (⟨s.cells, s.locks, s.shared + 1⟩, false)) else (s, false)
def owner (s : St) (i : Int) : Int := if Has s.locks i then at' s.locks i else -1
/-- An act. -/
def act (s : St) (x : Act) : St × Told :=
  if x.k = 0 then ((load s x.i).1, ⟨(load s x.i).2, false⟩)
  else if x.k = 1 then (store s x.i x.a, ⟨0, false⟩)
  else if x.k = 2 then ((add s x.i x.a).1, ⟨(add s x.i x.a).2, false⟩)
  else if x.k = 3 then ((swap s x.i x.a x.b).1, ⟨0, (swap s x.i x.a x.b).2⟩)
  else if x.k = 4 then ((lock s x.i x.a).1, ⟨0, (lock s x.i x.a).2⟩)
  else if x.k = 5 then ((unlock s x.i x.a).1, ⟨0, (unlock s x.i x.a).2⟩)
  else (s, ⟨owner s x.i, false⟩)
def runs (s : St) (l : List Act) : St := l.foldl (fun s x => (act s x).1) s
theorem runs_snoc (s : St) (l : List Act) (x : Act) : runs s (l ++ [x]) = (act (runs s l) x).1 := by simp [runs]
theorem runs_take {s : St} {l : List Act} {k : Nat} (h : k < l.length) : runs s (l.take (k + 1)) = (act (runs s (l.take k)) l[k]).1 := by
  rw [List.take_succ_eq_append_getElem h, runs_snoc]

/-- What every act keeps to: how many there are, whose locks may be, how often it is counted. -/
structure Keeps (s t : St) : Prop where
  cells : t.cells.length = s.cells.length
  locks : t.locks.length = s.locks.length
  shared : s.shared ≤ t.shared ∧ t.shared ≤ s.shared + 1
  own : (∀ x ∈ s.locks, -1 ≤ x) → ∀ x ∈ t.locks, -1 ≤ x
theorem Keeps.refl (s : St) : Keeps s s := ⟨rfl, rfl, ⟨Nat.le_refl _, by omega⟩, id⟩
theorem keeps_set {s : St} {n : Nat} {v : Int} {L : List Int} {i : Nat} (hv : -1 ≤ v) (hL : L = s.locks.set i v ∨ L = s.locks) {C : List Int} (hC : C.length = s.cells.length) (hn : n = s.shared + 1) : Keeps s ⟨C, L, n⟩ := by
  refine ⟨hC, ?_, ⟨by show s.shared ≤ n; omega, by show n ≤ s.shared + 1; omega⟩, fun h x hx => ?_⟩
  · rcases hL with rfl | rfl
    · simp
    · rfl
  · rcases hL with rfl | rfl
    · rcases List.mem_or_eq_of_mem_set hx with hx | rfl
      · exact h x hx
      · exact hv
    · exact h x hx
theorem act_keeps (s : St) (x : Act) : Keeps s (act s x).1 := by
  unfold act
  split
  · unfold load; split
    · exact keeps_set (i := 0) (v := 0) (by omega) (.inr rfl) rfl rfl
    · exact Keeps.refl s
  split
  · unfold store; split
    · exact keeps_set (i := 0) (v := 0) (by omega) (.inr rfl) (by simp) rfl
    · exact Keeps.refl s
  split
  · unfold add; split
    · exact keeps_set (i := 0) (v := 0) (by omega) (.inr rfl) (by simp) rfl
    · exact Keeps.refl s
  split
  · unfold swap; split
    · split
      · exact keeps_set (i := 0) (v := 0) (by omega) (.inr rfl) (by simp) rfl
      · exact keeps_set (i := 0) (v := 0) (by omega) (.inr rfl) rfl rfl
    · exact Keeps.refl s
  split
  · unfold lock; split
    · split
      · rename_i h
        exact keeps_set (i := x.i.toNat) (v := x.a) (by have := h.2; omega) (.inl rfl) rfl rfl
      · exact keeps_set (i := 0) (v := 0) (by omega) (.inr rfl) rfl rfl
    · exact Keeps.refl s
  split
  · unfold unlock; split
    · split
      · exact keeps_set (i := x.i.toNat) (v := -1) (by omega) (.inl rfl) rfl rfl
      · exact keeps_set (i := 0) (v := 0) (by omega) (.inr rfl) rfl rfl
    · exact Keeps.refl s
  · exact Keeps.refl s
/-- A cell to which nothing is done stays as it is. -/
theorem set_at {l : List Int} {i j v : Int} (hi : Has l i) (hj : Has l j) (h : j ≠ i) : at' (l.set j.toNat v) i = at' l i := by
  have hne : j.toNat ≠ i.toNat := by have := hi.1; have := hj.1; omega
  unfold at'
  rw [List.getD_eq_getElem?_getD, List.getD_eq_getElem?_getD, List.getElem?_set_ne hne]
theorem at_set {l : List Int} {i v : Int} (hi : Has l i) : at' (l.set i.toNat v) i = v := by
  unfold at'
  rw [List.getD_eq_getElem?_getD, List.getElem?_set_self hi.lt]; rfl
theorem Has.set {l : List Int} {i : Int} (h : Has l i) (j : Nat) (v : Int) : Has (l.set j v) i := ⟨h.1, by rw [List.length_set]; exact h.2⟩
theorem act_cell (s : St) (x : Act) {i : Int} (hi : Has s.cells i) (h : x.i ≠ i) : at' (act s x).1.cells i = at' s.cells i := by
  unfold act
  split
  · unfold load; split <;> rfl
  split
  · unfold store; split
    · rename_i hj; exact set_at hi hj h
    · rfl
  split
  · unfold add; split
    · rename_i hj; exact set_at hi hj h
    · rfl
  split
  · unfold swap; split
    · rename_i hj
      split
      · exact set_at hi hj h
      · rfl
    · rfl
  split
  · unfold lock; split
    · split <;> rfl
    · rfl
  split
  · unfold unlock; split
    · split <;> rfl
    · rfl
  · rfl
/-- Many acts. -/
structure Ran (s t : St) (n : Nat) : Prop where
  cells : t.cells.length = s.cells.length
  locks : t.locks.length = s.locks.length
  shared : s.shared ≤ t.shared ∧ t.shared ≤ s.shared + n
  own : (∀ x ∈ s.locks, -1 ≤ x) → ∀ x ∈ t.locks, -1 ≤ x
theorem ran_zero (s : St) : Ran s s 0 := ⟨rfl, rfl, ⟨Nat.le_refl _, Nat.le_refl _⟩, id⟩
theorem Ran.more {s t : St} {n : Nat} (h : Ran s t n) (x : Act) : Ran s (act t x).1 (n + 1) := by
  have k := act_keeps t x
  refine ⟨k.cells.trans h.cells, k.locks.trans h.locks, ⟨by have := h.shared; have := k.shared; omega, by have := h.shared; have := k.shared; omega⟩, fun ho => k.own (h.own ho)⟩
theorem Ran.wide {s t : St} {n m : Nat} (h : Ran s t n) (hm : n ≤ m) : Ran s t m := ⟨h.cells, h.locks, ⟨h.shared.1, by have := h.shared; omega⟩, h.own⟩
theorem ran_runs (s : St) (l : List Act) : Ran s (runs s l) l.length := by
  have key : ∀ (l : List Act) (t : St) (n : Nat), Ran s t n → Ran s (runs t l) (n + l.length) := by
    intro l
    induction l with
    | nil => intro t n h; exact h
    | cons x l ih =>
      intro t n h
      have := ih (act t x).1 (n + 1) (h.more x)
      rw [List.length_cons, show n + (l.length + 1) = n + 1 + l.length by omega]
      exact this
  have := key l s 0 (ran_zero s)
  simpa using this
theorem new_own (n m : Int) : ∀ x ∈ (new n m).locks, -1 ≤ x := fun x hx => by rw [List.eq_of_mem_replicate hx]; omega
/-- Those acts alone that are not done to i. -/
def runsBut (i : Int) (s : St) (l : List Act) : St := l.foldl (fun s x => if x.i = i then s else (act s x).1) s
theorem runsBut_take {i : Int} {s : St} {l : List Act} {k : Nat} (h : k < l.length) : runsBut i s (l.take (k + 1)) = if l[k].i = i then runsBut i s (l.take k) else (act (runsBut i s (l.take k)) l[k]).1 := by
  unfold runsBut
  rw [List.take_succ_eq_append_getElem h, List.foldl_append]
  rfl
theorem runsBut_hold (i : Int) : ∀ (l : List Act) (s : St), Has s.cells i → at' (runsBut i s l).cells i = at' s.cells i ∧ Ran s (runsBut i s l) l.length := by
  have key : ∀ (l : List Act) (s t : St) (n : Nat), Has s.cells i → Ran s t n → at' t.cells i = at' s.cells i → at' (runsBut i t l).cells i = at' s.cells i ∧ Ran s (runsBut i t l) (n + l.length) := by
    intro l
    induction l with
    | nil => intro s t n _ h e; exact ⟨e, h⟩
    | cons x l ih =>
      intro s t n hi h e
      have ht : Has t.cells i := ⟨hi.1, by rw [h.cells]; exact hi.2⟩
      rw [List.length_cons, show n + (l.length + 1) = n + 1 + l.length by omega]
      show at' (runsBut i (if x.i = i then t else (act t x).1) l).cells i = _ ∧ Ran s (runsBut i (if x.i = i then t else (act t x).1) l) _
      split
      · exact ih s t (n + 1) hi (h.wide (by omega)) e
      · rename_i hx
        exact ih s _ (n + 1) hi (h.more x) ((act_cell t x ht hx).trans e)
  intro l s hi
  have := key l s s 0 hi (ran_zero s) rfl
  simpa using this

/-- What goes round, put together. -/
theorem wr_eq (n : Int) : wr n = (n + 9223372036854775808) % 18446744073709551616 - 9223372036854775808 := by unfold wr; rw [IntKind.wrap_i64]
theorem wr_in {n : Int} (h : -9223372036854775808 ≤ n ∧ n ≤ 9223372036854775807) : wr n = n := by rw [wr_eq]; omega
theorem wr_add (a b : Int) : wr (wr a + b) = wr (a + b) := by rw [wr_eq, wr_eq, wr_eq]; omega
theorem wr_next (v : Int) : wr (v + 1) ≠ v := by rw [wr_eq]; omega
theorem wr_range (n : Int) : -9223372036854775808 ≤ wr n ∧ wr n ≤ 9223372036854775807 := by rw [wr_eq]; omega
/-- A sum that goes round. -/
def sumW (z : Int) (l : List Int) : Int := l.foldl (fun s x => wr (s + x)) z
theorem sumW_snoc (z : Int) (l : List Int) (x : Int) : sumW z (l ++ [x]) = wr (sumW z l + x) := by simp [sumW]
theorem sumW_take {z : Int} {l : List Int} {k : Nat} (h : k < l.length) : sumW z (l.take (k + 1)) = wr (sumW z (l.take k) + l[k]) := by rw [List.take_succ_eq_append_getElem h, sumW_snoc]
theorem sumW_sum : ∀ (l : List Int) (z : Int), wr (sumW z l) = wr (z + l.sum)
  | [], z => by simp [sumW]
  | x :: l, z => by
    show wr (sumW (wr (z + x)) l) = _
    rw [sumW_sum l, wr_add, List.sum_cons, Int.add_assoc]
theorem sumW_range {z : Int} (h : -9223372036854775808 ≤ z ∧ z ≤ 9223372036854775807) : ∀ l : List Int, -9223372036854775808 ≤ sumW z l ∧ sumW z l ≤ 9223372036854775807 := by
  intro l
  rcases List.eq_nil_or_concat l with rfl | ⟨m, x, rfl⟩
  · exact h
  · rw [List.concat_eq_append, sumW_snoc]; exact wr_range _
theorem sumW_swap {z : Int} (h : -9223372036854775808 ≤ z ∧ z ≤ 9223372036854775807) (l m : List Int) : sumW (sumW z l) m = sumW (sumW z m) l := by
  have e : ∀ a b : List Int, sumW (sumW z a) b = wr (z + a.sum + b.sum) := fun a b => by
    rw [← wr_in (sumW_range (sumW_range h a) b), sumW_sum]
    have := sumW_sum a z
    rw [wr_in (sumW_range h a)] at this
    rw [this, wr_add]
  rw [e, e, Int.add_right_comm]
end Go.Proofs.YtbamodkgagcmnaaGreat.Cel
