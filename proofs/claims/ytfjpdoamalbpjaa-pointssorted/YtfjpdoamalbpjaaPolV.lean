/-
  Pools in order, plain facts: what is sorted so that those of one Id stay as they stand.
-/
import Derived.Test.YtfjpdoamalbpjaaPolR
namespace Go.Proofs.Ytfjpdoamalbpjaa.Pol

/-- Those of one Id stand as they stood. -/
def Stab (D L : List Bk) : Prop := ∀ v, L.filter (fun x => x.1 == v) = D.filter (fun x => x.1 == v)
theorem Stab.refl (D : List Bk) : Stab D D := fun _ => rfl
theorem Stab.trans {D E F : List Bk} (h : Stab D E) (k : Stab E F) : Stab D F := fun v => (k v).trans (h v)
theorem Stab.symm {D E : List Bk} (h : Stab D E) : Stab E D := fun v => (h v).symm
theorem Stab.app {D E D' E' : List Bk} (h : Stab D E) (h' : Stab D' E') : Stab (D ++ D') (E ++ E') := fun v => by rw [List.filter_append, List.filter_append, h v, h' v]
theorem filter_none {L : List Bk} {v : Int} (h : ∀ x ∈ L, x.1 ≠ v) : L.filter (fun x => x.1 == v) = [] := by
  rw [List.filter_eq_nil_iff]
  intro x hx; simpa using h x hx
/-- Two parts that have no Id in common change places. -/
theorem stab_swap (U V : List Bk) (h : ∀ u ∈ U, ∀ v ∈ V, u.1 ≠ v.1) : Stab (U ++ V) (V ++ U) := by
  intro z
  rw [List.filter_append, List.filter_append]
  by_cases e : ∃ u ∈ U, u.1 = z
  · obtain ⟨u, hu, rfl⟩ := e
    rw [filter_none (L := V) (fun v hv => (h u hu v hv).symm)]; simp
  · rw [filter_none (L := U) (fun u hu e' => e ⟨u, hu, e'⟩)]; simp
theorem rises_unique (L1 : List Bk) : ∀ L2, Rises L1 → Rises L2 → Stab L1 L2 → L1 = L2 := by
  induction L1 with
  | nil =>
    intro L2 _ _ h
    cases L2 with
    | nil => rfl
    | cons y l => have := h y.1; simp at this
  | cons x l1 ih =>
    intro L2 h1 h2 h
    cases L2 with
    | nil => have := h x.1; simp at this
    | cons y l2 =>
      have hx := h x.1
      have hy := h y.1
      unfold Rises at h1 h2
      rw [List.pairwise_cons] at h1 h2
      have e : x.1 = y.1 := by
        rcases Int.lt_trichotomy x.1 y.1 with hlt | e | hlt
        · rw [filter_none (L := y :: l2) (fun z hz => by
            rcases List.mem_cons.1 hz with rfl | hz
            · omega
            · have := h2.1 z hz; omega)] at hx
          simp at hx
        · exact e
        · rw [filter_none (L := x :: l1) (fun z hz => by
            rcases List.mem_cons.1 hz with rfl | hz
            · omega
            · have := h1.1 z hz; omega)] at hy
          simp at hy
      have e2 : y = x := by
        have := h x.1
        simp only [List.filter_cons, e, beq_self_eq_true, if_true] at this
        exact (List.cons.inj this).1
      subst e2
      congr 1
      refine ih l2 h1.2 h2.2 fun v => ?_
      have := h v
      simp only [List.filter_cons] at this
      split at this
      · exact (List.cons.inj this).2
      · exact this
theorem ins_split (L : List Bk) (R : List Bk) (y : Bk) (hL : ∀ l ∈ L, l.1 ≤ y.1) (hR : ∀ r ∈ R, y.1 < r.1) : ins (L ++ R) y = L ++ y :: R := by
  induction L with
  | nil =>
    cases R with
    | nil => rfl
    | cons r R => exact ins_lt _ _ _ (hR r (by simp))
  | cons l L ih =>
    rw [List.cons_append, ins_ge _ _ _ (by have := hL l (by simp); omega), ih (fun z hz => hL z (by simp [hz]))]; rfl
theorem ins_parts (L : List Bk) (y : Bk) (h : Rises L) : ∃ L1 L2, L = L1 ++ L2 ∧ (∀ l ∈ L1, l.1 ≤ y.1) ∧ ∀ r ∈ L2, y.1 < r.1 := by
  induction L with
  | nil => exact ⟨[], [], rfl, (fun l hl => by cases hl), (fun l hl => by cases hl)⟩
  | cons x L ih =>
    rw [Rises, List.pairwise_cons] at h
    by_cases hx : y.1 < x.1
    · refine ⟨[], x :: L, rfl, (fun l hl => by cases hl), fun r hr => ?_⟩
      rcases List.mem_cons.1 hr with rfl | hr
      · exact hx
      · have := h.1 r hr; omega
    · obtain ⟨L1, L2, rfl, h1, h2⟩ := ih h.2
      refine ⟨x :: L1, L2, rfl, fun l hl => ?_, h2⟩
      rcases List.mem_cons.1 hl with rfl | hl
      · omega
      · exact h1 l hl
theorem sorted_snoc (T : List Bk) (y : Bk) : sorted (T ++ [y]) = ins (sorted T) y := by simp [sorted]
theorem stab_snoc (L R : List Bk) (y : Bk) (hR : ∀ r ∈ R, y.1 < r.1) : Stab (L ++ R ++ [y]) (L ++ y :: R) := by
  rw [List.append_assoc]
  refine (Stab.refl L).app ?_
  exact stab_swap R [y] (fun u hu v hv => by simp at hv; subst hv; have := hR u hu; omega)
theorem stab_sorted (T : List Bk) : Stab T (sorted T) := by
  have go : ∀ n (T : List Bk), T.length = n → Stab T (sorted T) := by
    intro n
    induction n with
    | zero => intro T h; rw [List.eq_nil_of_length_eq_zero h]; exact Stab.refl _
    | succ n ih =>
      intro T h
      have hne : T ≠ [] := fun e => by rw [e] at h; simp at h
      obtain ⟨y, T', rfl⟩ : ∃ y T', T = T' ++ [y] := ⟨T.getLast hne, T.dropLast, (List.dropLast_concat_getLast hne).symm⟩
      rw [sorted_snoc]
      obtain ⟨L1, L2, e, h1, h2⟩ := ins_parts (sorted T') y (sorted_rises T')
      rw [e, ins_split _ _ _ h1 h2]
      refine Stab.trans ?_ (stab_snoc L1 L2 y h2)
      rw [← e]
      exact (ih T' (by simpa using h)).app (Stab.refl _)
  exact go _ T rfl
/-- What rises, and has those of one Id as they stand, is what is sorted. -/
theorem sorted_is (D L : List Bk) (h : Rises L) (k : Stab D L) : sorted D = L := rises_unique _ _ (sorted_rises D) h ((stab_sorted D).symm.trans k)
theorem sorted_self (L : List Bk) (h : Rises L) : sorted L = L := sorted_is L L h (Stab.refl L)
theorem rises_app {L R : List Bk} (hL : Rises L) (hR : Rises R) (h : ∀ l ∈ L, ∀ r ∈ R, l.1 ≤ r.1) : Rises (L ++ R) := List.pairwise_append.2 ⟨hL, hR, h⟩
theorem sorted_mem' (D : List Bk) (x : Bk) : x ∈ sorted D ↔ x ∈ D := by
  have := stab_sorted D x.1
  constructor
  · intro h
    have hm : x ∈ (sorted D).filter (fun y => y.1 == x.1) := List.mem_filter.2 ⟨h, by simp⟩
    rw [this] at hm; exact (List.mem_filter.1 hm).1
  · intro h
    have hm : x ∈ D.filter (fun y => y.1 == x.1) := List.mem_filter.2 ⟨h, by simp⟩
    rw [← this] at hm; exact (List.mem_filter.1 hm).1
/-- One ahead of a row. -/
theorem merge_first (x : Bk) (Y1 Y2 : List Bk) (hY : Rises (Y1 ++ Y2)) (h1 : ∀ y ∈ Y1, y.1 < x.1) (h2 : ∀ y ∈ Y2, x.1 ≤ y.1) : sorted ([x] ++ (Y1 ++ Y2)) = Y1 ++ x :: Y2 := by
  rw [Rises, List.pairwise_append] at hY
  refine sorted_is _ _ ?_ ?_
  · refine rises_app hY.1 (List.pairwise_cons.2 ⟨h2, hY.2.1⟩) fun l hl r hr => ?_
    rcases List.mem_cons.1 hr with rfl | hr
    · have := h1 l hl; omega
    · exact hY.2.2 l hl r hr
  · have e : Y1 ++ x :: Y2 = (Y1 ++ [x]) ++ Y2 := by simp
    rw [e, ← List.append_assoc]
    exact (stab_swap [x] Y1 (fun u hu v hv => by simp at hu; subst hu; have := h1 v hv; omega)).app (Stab.refl _)
/-- One behind a row. -/
theorem merge_last (y : Bk) (X1 X2 : List Bk) (hX : Rises (X1 ++ X2)) (h1 : ∀ x ∈ X1, x.1 ≤ y.1) (h2 : ∀ x ∈ X2, y.1 < x.1) : sorted (X1 ++ X2 ++ [y]) = X1 ++ y :: X2 := by
  rw [sorted_snoc, sorted_self _ hX, ins_split _ _ _ h1 h2]
/-- Two rows, parted alike. -/
theorem merge_two (X1 X2 Y1 Y2 : List Bk) (hX : Rises (X1 ++ X2)) (hY : Rises (Y1 ++ Y2)) (h1 : ∀ x ∈ X1, ∀ y ∈ Y2, x.1 ≤ y.1) (h2 : ∀ y ∈ Y1, ∀ x ∈ X2, y.1 < x.1) :
    sorted (X1 ++ X2 ++ (Y1 ++ Y2)) = sorted (X1 ++ Y1) ++ sorted (X2 ++ Y2) := by
  rw [Rises, List.pairwise_append] at hX hY
  refine sorted_is _ _ (rises_app (sorted_rises _) (sorted_rises _) fun l hl r hr => ?_) ?_
  · rw [sorted_mem', List.mem_append] at hl hr
    rcases hl with hl | hl <;> rcases hr with hr | hr
    · exact hX.2.2 l hl r hr
    · exact h1 l hl r hr
    · have := h2 l hl r hr; omega
    · exact hY.2.2 l hl r hr
  · refine Stab.trans ?_ ((stab_sorted (X1 ++ Y1)).app (stab_sorted (X2 ++ Y2)))
    have e1 : X1 ++ X2 ++ (Y1 ++ Y2) = X1 ++ ((X2 ++ Y1) ++ Y2) := by simp
    have e2 : X1 ++ Y1 ++ (X2 ++ Y2) = X1 ++ ((Y1 ++ X2) ++ Y2) := by simp
    rw [e1, e2]
    exact (Stab.refl X1).app ((stab_swap X2 Y1 (fun u hu v hv => by have := h2 v hv u hu; omega)).app (Stab.refl Y2))
end Go.Proofs.Ytfjpdoamalbpjaa.Pol
