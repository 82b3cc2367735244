/-
  Pools: plain facts (no program): what is put in is found, what is taken out is not, what is sorted rises and is the same.
-/
import Derived.Test.YtfjpdoamalbpjaaPolC
import Derived.Test.YtfjpdoamalbpjaaPolD
import Derived.Test.YtfjpdoamalbpjaaPolH
namespace Go.Proofs.Ytfjpdoamalbpjaa.Pol

/-! ### find -/
theorem find_cases (id : Int) (bs : List Bk) : ∀ m, (find bs id m = -1 ∧ ∀ x ∈ bs, x.1 ≠ id) ∨ ∃ k x, find bs id m = ((m + k : Nat) : Int) ∧ bs[k]? = some x ∧ x.1 = id ∧ ∀ j y, j < k → bs[j]? = some y → y.1 ≠ id := by
  induction bs with
  | nil => intro m; exact .inl ⟨rfl, fun x hx => by cases hx⟩
  | cons x bs ih =>
    intro m
    by_cases h : x.1 = id
    · exact .inr ⟨0, x, by unfold find; rw [if_pos h]; rfl, rfl, h, fun j y hj => absurd hj (by omega)⟩
    · have e : find (x :: bs) id m = find bs id (m + 1) := if_neg h
      rcases ih (m + 1) with ⟨h1, h2⟩ | ⟨k, y, h1, h2, h3, h4⟩
      · exact .inl ⟨e.trans h1, fun y hy => by rcases List.mem_cons.1 hy with rfl | hy; exact h; exact h2 y hy⟩
      · refine .inr ⟨k + 1, y, ?_, by simpa using h2, h3, fun j z hj hz => ?_⟩
        · rw [e, h1]; congr 1; omega
        · cases j with
          | zero => simp at hz; subst hz; exact h
          | succ j => exact h4 j z (by omega) (by simpa using hz)
theorem find_neg (bs : List Bk) (id : Int) : find bs id 0 < 0 ↔ ∀ x ∈ bs, x.1 ≠ id := by
  rcases find_cases id bs 0 with ⟨h1, h2⟩ | ⟨k, x, h1, h2, h3, _⟩
  · rw [h1]; exact ⟨fun _ => h2, fun _ => by omega⟩
  · rw [h1]; exact ⟨fun h => absurd h (by omega), fun h => absurd h3 (h x (List.mem_of_getElem? h2))⟩
theorem find_pos (bs : List Bk) (id : Int) : 0 ≤ find bs id 0 ↔ ∃ x ∈ bs, x.1 = id := by
  constructor
  · intro h
    rcases find_cases id bs 0 with ⟨h1, _⟩ | ⟨k, x, _, h2, h3, _⟩
    · omega
    · exact ⟨x, List.mem_of_getElem? h2, h3⟩
  · rintro ⟨x, hx, e⟩
    rcases Int.lt_or_le (find bs id 0) 0 with h | h
    · exact absurd e ((find_neg bs id).1 h x hx)
    · exact h
theorem find_is (bs : List Bk) (id : Int) (h : 0 ≤ find bs id 0) : ∃ (k : Nat) (x : Bk), find bs id 0 = (k : Int) ∧ k < bs.length ∧ bs[k]? = some x ∧ x.1 = id := by
  rcases find_cases id bs 0 with ⟨h1, _⟩ | ⟨k, x, h1, h2, h3, _⟩
  · omega
  · exact ⟨k, x, by rw [h1, Nat.zero_add], (List.getElem?_eq_some_iff.1 h2).1, h2, h3⟩
/-- The first backend of an Id. -/
def first (bs : List Bk) (id : Int) : Option Bk := bs.find? fun x => x.1 == id
theorem find_first (bs : List Bk) (id : Int) (k : Nat) (h : find bs id 0 = (k : Int)) : first bs id = bs[k]? := by
  rcases find_cases id bs 0 with ⟨h1, _⟩ | ⟨k', x, h1, h2, h3, h4⟩
  · omega
  · obtain rfl : k = k' := by omega
    rw [h2]
    unfold first
    rw [List.find?_eq_some_iff_getElem]
    obtain ⟨hk, he⟩ := List.getElem?_eq_some_iff.1 h2
    refine ⟨by simp [h3], k, hk, he, fun j hj => ?_⟩
    have := h4 j bs[j] hj (List.getElem?_eq_getElem (by omega))
    simpa using this

/-! ### Check -/
def rng (x : Bk) : Prop := 1 ≤ x.1 ∧ x.1 ≤ 65535 ∧ 1 ≤ x.2 ∧ x.2 ≤ 16
theorem nodup_find (bs : List Bk) : (bs.map (·.1)).Nodup ↔ ∀ (i : Nat) (x : Bk), bs[i]? = some x → find bs x.1 0 = (i : Int) := by
  constructor
  · intro hn i x hi
    rcases find_cases x.1 bs 0 with ⟨_, h2⟩ | ⟨k, y, h1, h2, h3, _⟩
    · exact absurd rfl (h2 x (List.mem_of_getElem? hi))
    · have : k = i := by
        have a1 : (bs.map (·.1))[k]? = some x.1 := by rw [List.getElem?_map, h2]; simp [h3]
        have a2 : (bs.map (·.1))[i]? = some x.1 := by rw [List.getElem?_map, hi]; rfl
        have hk := (List.getElem?_eq_some_iff.1 a1).1
        exact (List.getElem?_inj hk hn).1 (a1.trans a2.symm)
      rw [h1, this, Nat.zero_add]
  · intro h
    show List.Pairwise _ _
    rw [List.pairwise_iff_getElem]
    intro i j hi hj hij he
    have hi' : i < bs.length := by simpa using hi
    have hj' : j < bs.length := by simpa using hj
    rw [List.getElem_map, List.getElem_map] at he
    have f1 := h i _ (List.getElem?_eq_getElem hi')
    have f2 := h j _ (List.getElem?_eq_getElem hj')
    rw [he] at f1
    omega
theorem chk_iff (bs : List Bk) : chk bs ↔ bs.length ≤ 32 ∧ (∀ x ∈ bs, rng x) ∧ (bs.map (·.1)).Nodup := by
  constructor
  · rintro ⟨h1, h2⟩
    refine ⟨h1, fun x hx => ?_, (nodup_find bs).2 fun i x hi => (h2 i x hi).2.2.2.2⟩
    obtain ⟨i, hi⟩ := List.getElem?_of_mem hx
    obtain ⟨a, b, c, d, _⟩ := h2 i x hi
    exact ⟨a, b, c, d⟩
  · rintro ⟨h1, h2, h3⟩
    refine ⟨h1, fun i x hi => ?_⟩
    obtain ⟨a, b, c, d⟩ := h2 x (List.mem_of_getElem? hi)
    exact ⟨a, b, c, d, (nodup_find bs).1 h3 i x hi⟩

/-! ### With -/
theorem with_mem (y : Bk) (bs : List Bk) : y ∈ with_ bs y := by
  induction bs with
  | nil => simp [with_]
  | cons x bs ih => unfold with_; split <;> simp [ih]
theorem with_first (y : Bk) (bs : List Bk) : first (with_ bs y) y.1 = some y := by
  induction bs with
  | nil => simp [with_, first]
  | cons x bs ih =>
    unfold with_
    split
    · simp [first]
    · rename_i h
      unfold first at *
      rw [List.find?_cons, show (x.1 == y.1) = false from beq_false_of_ne h]
      exact ih
theorem with_found (y : Bk) (bs : List Bk) : ∃ k : Nat, find (with_ bs y) y.1 0 = (k : Int) ∧ k < (with_ bs y).length ∧ (with_ bs y)[k]? = some y := by
  obtain ⟨k, x, h1, h2, h3, _⟩ := find_is (with_ bs y) y.1 ((find_pos _ _).2 ⟨y, with_mem y bs, rfl⟩)
  refine ⟨k, h1, h2, ?_⟩
  rw [← find_first _ _ k h1, with_first]
theorem with_other (y : Bk) (bs : List Bk) (id : Int) (h : id ≠ y.1) : (∃ x ∈ with_ bs y, x.1 = id) ↔ ∃ x ∈ bs, x.1 = id := by
  induction bs with
  | nil => simp [with_]; exact fun e => h e.symm
  | cons x bs ih =>
    unfold with_
    split
    · rename_i e
      simp only [List.mem_cons, exists_eq_or_imp]
      constructor
      · rintro (h1 | h1)
        · exact absurd h1.symm h
        · exact .inr h1
      · rintro (h1 | h1)
        · exact absurd (h1.symm.trans e) h
        · exact .inr h1
    · simp only [List.mem_cons, exists_eq_or_imp, ih]
theorem with_twice (y : Bk) (bs : List Bk) : with_ (with_ bs y) y = with_ bs y := by
  induction bs with
  | nil => simp [with_]
  | cons x bs ih =>
    by_cases h : x.1 = y.1
    · rw [show with_ (x :: bs) y = y :: bs from if_pos h]; exact if_pos rfl
    · rw [show with_ (x :: bs) y = x :: with_ bs y from if_neg h, show with_ (x :: with_ bs y) y = x :: with_ (with_ bs y) y from if_neg h, ih]
theorem with_length (y : Bk) (bs : List Bk) : (with_ bs y).length ≤ bs.length + 1 := by
  induction bs with
  | nil => simp [with_]
  | cons x bs ih => unfold with_; split <;> simp; omega
theorem with_all (y : Bk) (bs : List Bk) (P : Bk → Prop) (h : ∀ x ∈ bs, P x) : (∀ x ∈ with_ bs y, P x) ↔ P y := by
  constructor
  · intro h1; exact h1 y (with_mem y bs)
  · intro hy
    induction bs with
    | nil => simpa [with_] using hy
    | cons x bs ih =>
      unfold with_
      split
      · intro z hz; rcases List.mem_cons.1 hz with rfl | hz
        · exact hy
        · exact h z (List.mem_cons_of_mem _ hz)
      · intro z hz; rcases List.mem_cons.1 hz with rfl | hz
        · exact h _ (List.mem_cons_self ..)
        · exact ih (fun w hw => h w (List.mem_cons_of_mem _ hw)) z hz
theorem with_nodup (y : Bk) (bs : List Bk) (h : (bs.map (·.1)).Nodup) : ((with_ bs y).map (·.1)).Nodup := by
  induction bs with
  | nil => simp [with_]
  | cons x bs ih =>
    rw [List.map_cons, List.nodup_cons] at h
    unfold with_
    split
    · rename_i e
      rw [List.map_cons, List.nodup_cons, ← e]; exact h
    · rename_i e
      rw [List.map_cons, List.nodup_cons]
      refine ⟨fun hm => h.1 ?_, ih h.2⟩
      obtain ⟨z, hz, he⟩ := List.mem_map.1 hm
      obtain ⟨z', hz', he'⟩ := (with_other y bs x.1 e).1 ⟨z, hz, he⟩
      exact List.mem_map.2 ⟨z', hz', he'⟩
theorem with_chk (y : Bk) (bs : List Bk) (h : chk bs) : chk (with_ bs y) ↔ rng y ∧ (with_ bs y).length ≤ 32 := by
  obtain ⟨_, h2, h3⟩ := (chk_iff bs).1 h
  rw [chk_iff, with_all y bs rng h2]
  exact ⟨fun ⟨a, b, _⟩ => ⟨b, a⟩, fun ⟨a, b⟩ => ⟨b, a, with_nodup y bs h3⟩⟩

/-! ### Without -/
theorem without_none (bs : List Bk) (id : Int) : find (without bs id) id 0 = -1 := by
  rcases find_cases id (without bs id) 0 with ⟨h1, _⟩ | ⟨k, x, _, h2, h3, _⟩
  · exact h1
  · have := List.mem_filter.1 (List.mem_of_getElem? h2)
    simp [h3] at this
theorem without_other (bs : List Bk) (id other : Int) (h : id ≠ other) : (∃ x ∈ without bs id, x.1 = other) ↔ ∃ x ∈ bs, x.1 = other := by
  constructor
  · rintro ⟨x, hx, e⟩; exact ⟨x, (List.mem_filter.1 hx).1, e⟩
  · rintro ⟨x, hx, e⟩; exact ⟨x, List.mem_filter.2 ⟨hx, by simp [e]; exact fun h' => h h'.symm⟩, e⟩
theorem without_length (bs : List Bk) (id : Int) : (without bs id).length ≤ bs.length := List.length_filter_le ..
theorem without_twice (bs : List Bk) (id : Int) : without (without bs id) id = without bs id := by simp [without]
theorem without_chk (bs : List Bk) (id : Int) (h : chk bs) : chk (without bs id) := by
  obtain ⟨h1, h2, h3⟩ := (chk_iff bs).1 h
  refine (chk_iff _).2 ⟨Nat.le_trans (without_length bs id) h1, fun x hx => h2 x (List.mem_filter.1 hx).1, ?_⟩
  exact h3.sublist ((List.filter_sublist ..).map _)
theorem without_with (bs : List Bk) (y : Bk) : without (with_ bs y) y.1 = without bs y.1 := by
  induction bs with
  | nil => simp [with_, without]
  | cons x bs ih =>
    unfold without at *
    by_cases h : x.1 = y.1
    · rw [show with_ (x :: bs) y = y :: bs from if_pos h]; simp [h]
    · rw [show with_ (x :: bs) y = x :: with_ bs y from if_neg h, List.filter_cons, List.filter_cons, ih]
theorem with_with (bs : List Bk) (y c : Bk) (h : y.1 = c.1) : with_ (with_ bs y) c = with_ bs c := by
  induction bs with
  | nil => simp [with_, h]
  | cons x bs ih =>
    by_cases hx : x.1 = y.1
    · rw [show with_ (x :: bs) y = y :: bs from if_pos hx, show with_ (x :: bs) c = c :: bs from if_pos (hx.trans h)]; exact if_pos h
    · have hx' : ¬ x.1 = c.1 := by rw [← h]; exact hx
      rw [show with_ (x :: bs) y = x :: with_ bs y from if_neg hx, show with_ (x :: bs) c = x :: with_ bs c from if_neg hx', show with_ (x :: with_ bs y) c = x :: with_ (with_ bs y) c from if_neg hx', ih]
end Go.Proofs.Ytfjpdoamalbpjaa.Pol
