/-
  Pools: plain facts (no program): what is sorted rises, and has just the same backends, those of one Id in their order; what is gone.
-/
import Derived.Test.YtfjpdoamalbpjaaPolP
namespace Go.Proofs.Ytfjpdoamalbpjaa.Pol

/-- It rises. -/
def Rises (s : List Bk) : Prop := s.Pairwise fun x y => x.1 ≤ y.1
theorem ins_perm (s : List Bk) (y : Bk) : (ins s y).Perm (y :: s) := by
  induction s with
  | nil => exact .refl _
  | cons x s ih =>
    unfold ins
    split
    · exact .refl _
    · exact (ih.cons x).trans (.swap y x s)
theorem ins_rises (s : List Bk) (y : Bk) (h : Rises s) : Rises (ins s y) := by
  induction s with
  | nil => simp [ins, Rises]
  | cons x s ih =>
    unfold Rises at h
    rw [List.pairwise_cons] at h
    unfold ins
    split
    · rename_i hx
      unfold Rises
      rw [List.pairwise_cons, List.pairwise_cons]
      refine ⟨fun z hz => ?_, h⟩
      rcases List.mem_cons.1 hz with rfl | hz
      · omega
      · have := h.1 z hz; omega
    · rename_i hx
      unfold Rises
      rw [List.pairwise_cons]
      refine ⟨fun z hz => ?_, ih h.2⟩
      rcases List.mem_cons.1 ((ins_perm s y).mem_iff.1 hz) with rfl | hz
      · omega
      · exact h.1 z hz
theorem ins_first (s : List Bk) (y : Bk) (id : Int) (h : Rises s) : first (ins s y) id = first (s ++ [y]) id := by
  induction s with
  | nil => rfl
  | cons x s ih =>
    unfold Rises at h
    rw [List.pairwise_cons] at h
    unfold ins
    split
    · rename_i hx
      unfold first
      by_cases hy : y.1 = id
      · have hn : s.find? (fun z => z.1 == id) = none := by
          rw [List.find?_eq_none]
          intro z hz
          have := h.1 z hz
          simp; omega
        rw [List.find?_cons_of_pos (by simp [hy]), List.cons_append, List.find?_cons_of_neg (by simp; omega), List.find?_append, hn]
        simp [hy]
      · rw [List.find?_cons_of_neg (by simp [hy]), List.find?_append]
        simp [hy]
    · have e := ih h.2
      unfold first at *
      rw [List.find?_cons, List.cons_append, List.find?_cons, e]
theorem fold_all (bs : List Bk) : ∀ s, Rises s → Rises (bs.foldl ins s) ∧ (bs.foldl ins s).Perm (s ++ bs) ∧ ∀ id, first (bs.foldl ins s) id = first (s ++ bs) id := by
  induction bs with
  | nil => intro s h; rw [List.append_nil]; exact ⟨h, .refl _, fun _ => rfl⟩
  | cons x bs ih =>
    intro s h
    obtain ⟨h1, h2, h3⟩ := ih (ins s x) (ins_rises s x h)
    refine ⟨h1, h2.trans ?_, fun id => ?_⟩
    · exact ((ins_perm s x).append_right bs).trans (List.perm_middle.symm)
    · rw [List.foldl_cons, h3 id, show s ++ x :: bs = (s ++ [x]) ++ bs by simp]
      have := ins_first s x id h
      unfold first at *
      rw [List.find?_append, List.find?_append, this]
theorem sorted_rises (bs : List Bk) : Rises (sorted bs) := (fold_all bs [] List.Pairwise.nil).1
theorem sorted_perm (bs : List Bk) : (sorted bs).Perm bs := (fold_all bs [] List.Pairwise.nil).2.1
theorem sorted_first (bs : List Bk) (id : Int) : first (sorted bs) id = first bs id := (fold_all bs [] List.Pairwise.nil).2.2 id
theorem sorted_mem (bs : List Bk) (id : Int) : (∃ x ∈ sorted bs, x.1 = id) ↔ ∃ x ∈ bs, x.1 = id :=
  ⟨fun ⟨x, hx, e⟩ => ⟨x, (sorted_perm bs).mem_iff.1 hx, e⟩, fun ⟨x, hx, e⟩ => ⟨x, (sorted_perm bs).mem_iff.2 hx, e⟩⟩
theorem sorted_chk (bs : List Bk) : chk (sorted bs) ↔ chk bs := by
  rw [chk_iff, chk_iff, sorted_length, ((sorted_perm bs).map (·.1)).nodup_iff]
  exact and_congr_right fun _ => and_congr_left fun _ => ⟨fun h x hx => h x ((sorted_perm bs).mem_iff.2 hx), fun h x hx => h x ((sorted_perm bs).mem_iff.1 hx)⟩
theorem fold_rises (t : List Bk) : ∀ s, Rises (s ++ t) → t.foldl ins s = s ++ t := by
  induction t with
  | nil => intro s _; simp
  | cons x t ih =>
    intro s h
    have hs : seen s x = false := by
      unfold seen
      rw [List.any_eq_false]
      intro z hz
      have := (List.pairwise_append.1 h).2.2 z hz x (List.mem_cons_self ..)
      simp; omega
    rw [List.foldl_cons, ins_seen s x hs, ih (s ++ [x]) (by simpa using h)]
    simp
theorem sorted_twice (bs : List Bk) : sorted (sorted bs) = sorted bs := fold_rises (sorted bs) [] (sorted_rises bs)

/-! ### Gone -/
theorem last_snoc (t : List Bk) (x : Bk) : lastId (t ++ [x]) = some x.1 := by unfold lastId; rw [List.getLast?_append]; rfl
theorem gonL_cons (bs' t : List Bk) (x : Bk) (s : List Bk) : gonL bs' t (x :: s) = (if tells bs' t x = true then [x.1] else []) ++ gonL bs' (t ++ [x]) s := rfl
theorem gonL_rises (bs' : List Bk) (s : List Bk) : ∀ t, Rises s → (∀ l, lastId t = some l → ∀ x ∈ s, l ≤ x.1) →
    (gonL bs' t s).Pairwise (· < ·) ∧ (∀ z ∈ gonL bs' t s, ∀ l, lastId t = some l → l < z) ∧ ∀ z, z ∈ gonL bs' t s ↔ (∃ x ∈ s, x.1 = z) ∧ find bs' z 0 < 0 ∧ lastId t ≠ some z := by
  induction s with
  | nil => intro t _ _; exact ⟨List.Pairwise.nil, fun z hz => (by cases hz), fun z => ⟨fun hz => (by cases hz), fun ⟨⟨x, hx, _⟩, _⟩ => (by cases hx)⟩⟩
  | cons x s ih =>
    intro t hr hl
    unfold Rises at hr
    rw [List.pairwise_cons] at hr
    obtain ⟨i1, i2, i3⟩ := ih (t ++ [x]) hr.2 (fun l e y hy => by rw [last_snoc] at e; cases e; exact hr.1 y hy)
    have i2' : ∀ z ∈ gonL bs' (t ++ [x]) s, x.1 < z := fun z hz => i2 z hz x.1 (last_snoc t x)
    have hm : ∀ z, z ∈ gonL bs' t (x :: s) ↔ (tells bs' t x = true ∧ z = x.1) ∨ z ∈ gonL bs' (t ++ [x]) s := by
      intro z
      rw [gonL_cons, List.mem_append]
      by_cases h : tells bs' t x = true
      · rw [if_pos h]; simp [h]
      · rw [if_neg h]; simp [h]
    have ht : tells bs' t x = true ↔ find bs' x.1 0 < 0 ∧ lastId t ≠ some x.1 := by unfold tells; rw [Bool.and_eq_true, decide_eq_true_eq, decide_eq_true_eq]
    refine ⟨?_, fun z hz l e => ?_, fun z => ?_⟩
    · rw [gonL_cons, List.pairwise_append]
      refine ⟨by split <;> simp, i1, fun a ha b hb => ?_⟩
      by_cases h : tells bs' t x = true
      · rw [if_pos h] at ha
        obtain rfl := List.mem_singleton.1 ha
        exact i2' b hb
      · rw [if_neg h] at ha; cases ha
    · have hx := hl l e x (List.mem_cons_self ..)
      rcases (hm z).1 hz with ⟨h1, rfl⟩ | h1
      · have := (ht.1 h1).2
        rw [e] at this
        have : l ≠ x.1 := fun h => this (by rw [h])
        omega
      · have := i2' z h1; omega
    · rw [hm, i3]
      constructor
      · rintro (⟨h1, rfl⟩ | ⟨⟨y, hy, e⟩, h2, h3⟩)
        · exact ⟨⟨x, List.mem_cons_self .., rfl⟩, ht.1 h1⟩
        · refine ⟨⟨y, List.mem_cons_of_mem _ hy, e⟩, h2, fun hlz => h3 ?_⟩
          have a := hl z hlz x (List.mem_cons_self ..)
          have b := hr.1 y hy
          rw [last_snoc]; congr 1; omega
      · rintro ⟨⟨y, hy, e⟩, h2, h3⟩
        by_cases hx : x.1 = z
        · exact .inl ⟨ht.2 ⟨by rw [hx]; exact h2, by rw [hx]; exact h3⟩, hx.symm⟩
        · refine .inr ⟨?_, h2, by rw [last_snoc]; intro h; cases h; exact hx rfl⟩
          rcases List.mem_cons.1 hy with rfl | hy
          · exact absurd e hx
          · exact ⟨y, hy, e⟩
theorem gone_rises (bs bs' : List Bk) : (gone bs bs').Pairwise (· < ·) := (gonL_rises bs' (sorted bs) [] (sorted_rises bs) (fun l e => by cases e)).1
theorem gone_mem (bs bs' : List Bk) (z : Int) : z ∈ gone bs bs' ↔ 0 ≤ find bs z 0 ∧ find bs' z 0 < 0 := by
  rw [find_pos, ← sorted_mem]
  have := (gonL_rises bs' (sorted bs) [] (sorted_rises bs) (fun l e => by cases e)).2.2 z
  rw [show gone bs bs' = gonL bs' [] (sorted bs) from rfl, this]
  exact ⟨fun ⟨a, b, _⟩ => ⟨a, b⟩, fun ⟨a, b⟩ => ⟨a, b, fun h => by cases h⟩⟩
theorem gone_self (bs : List Bk) : gone bs bs = [] := by
  rw [List.eq_nil_iff_forall_not_mem]
  intro z hz
  have := (gone_mem bs bs z).1 hz
  omega
theorem gone_length (bs bs' : List Bk) : (gone bs bs').length ≤ bs.length := by
  have := gonL_length bs' (sorted bs) []
  rwa [sorted_length] at this
end Go.Proofs.Ytfjpdoamalbpjaa.Pol
