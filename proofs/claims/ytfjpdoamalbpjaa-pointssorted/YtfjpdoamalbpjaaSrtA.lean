/-
  Pools in order, plain facts: a row that is in order part by part.
-/
import Derived.Test.YtfjpdoamalbpjaaPolV
namespace Go.Proofs.Ytfjpdoamalbpjaa.Pol

/-- Two neighbours stand in order. -/
def Adj (es : List Bk) (t : Nat) : Prop := ∀ x y, es[t]? = some x → es[t + 1]? = some y → x.1 ≤ y.1
theorem adj_le (es : List Bk) (p q : Nat) (h : ∀ t, p ≤ t → t + 1 < q → Adj es t) : ∀ (d i : Nat) (x y : Bk), p ≤ i → i + d < q → es[i]? = some x → es[i + d]? = some y → x.1 ≤ y.1 := by
  intro d
  induction d with
  | zero => intro i x y _ _ hx hy; rw [Nat.add_zero, hx] at hy; cases hy; exact Int.le_refl _
  | succ d ih =>
    intro i x y hp hq hx hy
    have hl := (List.getElem?_eq_some_iff.1 hy).1
    have hz : es[i + d]? = some es[i + d] := List.getElem?_eq_getElem (by omega)
    have h1 := ih i x _ hp (by omega) hx hz
    have h2 := h (i + d) (by omega) (by omega) _ _ hz hy
    omega
/-- The part of a row from p on, ahead of q. -/
abbrev seg (es : List Bk) (p q : Nat) : List Bk := (es.drop p).take (q - p)
theorem seg_length (es : List Bk) (p q : Nat) (hq : q ≤ es.length) : (seg es p q).length = q - p := by simp [seg]; omega
theorem seg_rises (es : List Bk) (p q : Nat) (h : ∀ t, p ≤ t → t + 1 < q → Adj es t) : Rises (seg es p q) := by
  refine List.pairwise_iff_getElem.2 fun i j hi hj hij => ?_
  have li : (seg es p q)[i]? = some (seg es p q)[i] := List.getElem?_eq_getElem hi
  have lj : (seg es p q)[j]? = some (seg es p q)[j] := List.getElem?_eq_getElem hj
  simp only [seg, List.length_take, List.length_drop] at hi hj
  generalize (seg es p q)[i] = x at *
  generalize (seg es p q)[j] = y at *
  rw [seg, List.getElem?_take_of_lt (by omega), List.getElem?_drop] at li lj
  refine adj_le es p q h (j - i) (p + i) x y (by omega) (by omega) li ?_
  rw [show p + i + (j - i) = p + j by omega]; exact lj
theorem parts (es : List Bk) (a b : Nat) (hab : a ≤ b) : es = es.take a ++ (seg es a b ++ es.drop b) := by
  conv => lhs; rw [← List.take_append_drop a es]
  congr 1
  conv => lhs; rw [← List.take_append_drop (b - a) (es.drop a)]
  rw [List.drop_drop, show a + (b - a) = b by omega]
theorem parts2 (es : List Bk) (a m b : Nat) (h1 : a ≤ m) (h2 : m ≤ b) : seg es a b = seg es a m ++ seg es m b := by
  have e : es.drop m = (es.drop a).drop (m - a) := by rw [List.drop_drop]; congr 1; omega
  have e2 : b - a = (m - a) + (b - m) := by omega
  show (es.drop a).take (b - a) = (es.drop a).take (m - a) ++ (es.drop m).take (b - m)
  rw [e, e2, List.take_add]
/-- A part of a row is another one now. -/
abbrev upd (es Z : List Bk) (a b : Nat) : List Bk := es.take a ++ (Z ++ es.drop b)
theorem upd_get (es Z : List Bk) (a b : Nat) (hab : a ≤ b) (hb : b ≤ es.length) (hZ : Z.length = b - a) (t : Nat) (ht : t < a ∨ b ≤ t) : (upd es Z a b)[t]? = es[t]? := by
  have hl : (es.take a).length = a := by simp; omega
  rcases ht with ht | ht
  · rw [upd, List.getElem?_append_left (by omega), List.getElem?_take_of_lt ht]
  · rw [upd, List.getElem?_append_right (by omega), List.getElem?_append_right (by omega), List.getElem?_drop]
    congr 1; omega
theorem upd_in (es Z : List Bk) (a b : Nat) (hab : a ≤ b) (hb : b ≤ es.length) (hZ : Z.length = b - a) (t : Nat) (h1 : a ≤ t) (h2 : t < b) : (upd es Z a b)[t]? = Z[t - a]? := by
  have hl : (es.take a).length = a := by simp; omega
  rw [upd, List.getElem?_append_right (by omega), List.getElem?_append_left (by omega), hl]
theorem upd_length (es Z : List Bk) (a b : Nat) (hab : a ≤ b) (hb : b ≤ es.length) (hZ : Z.length = b - a) : (upd es Z a b).length = es.length := by simp [upd]; omega
theorem upd_new (es Z : List Bk) (a b : Nat) (hab : a ≤ b) (hb : b ≤ es.length) (hZ : Z.length = b - a) (hr : Rises Z) (t : Nat) (h1 : a ≤ t) (h2 : t + 1 < b) : Adj (upd es Z a b) t := by
  intro x y hx hy
  rw [upd_in es Z a b hab hb hZ t h1 (by omega)] at hx
  rw [upd_in es Z a b hab hb hZ (t + 1) (by omega) h2] at hy
  obtain ⟨hi, rfl⟩ := List.getElem?_eq_some_iff.1 hx
  obtain ⟨hj, rfl⟩ := List.getElem?_eq_some_iff.1 hy
  exact List.pairwise_iff_getElem.1 hr _ _ hi hj (by omega)
theorem upd_old (es Z : List Bk) (a b : Nat) (hab : a ≤ b) (hb : b ≤ es.length) (hZ : Z.length = b - a) (t : Nat) (ht : t + 1 < a ∨ b ≤ t) (h : Adj es t) : Adj (upd es Z a b) t := by
  intro x y hx hy
  rw [upd_get es Z a b hab hb hZ t (by omega)] at hx
  rw [upd_get es Z a b hab hb hZ (t + 1) (by omega)] at hy
  exact h x y hx hy
theorem upd_stab (ds es Z : List Bk) (a b : Nat) (hab : a ≤ b) (h : Stab ds es) (hZ : Stab (seg es a b) Z) : Stab ds (upd es Z a b) := by
  refine h.trans ?_
  have e := parts es a b hab
  intro v
  conv => rhs; rw [e]
  exact ((Stab.refl (es.take a)).app (hZ.app (Stab.refl (es.drop b)))) v
theorem not_dvd {k a t : Nat} (ha : k ∣ a) (h1 : a < t) (h2 : t < a + k) : ¬ k ∣ t := by
  intro h
  have : k ∣ t - a := Nat.dvd_sub h ha
  have := Nat.le_of_dvd (by omega) this
  omega
/-- Parts of k backends are in order, ahead of a; and nothing is lost. -/
structure Ranked (ds es : List Bk) (k a : Nat) : Prop where
  stab : Stab ds es
  len : es.length = ds.length
  dvd : k ∣ a
  low : ∀ t, t + 1 < a → ¬ k ∣ t + 1 → Adj es t
/-- .. and parts of h backends from a on. -/
structure Ranked2 (ds es : List Bk) (h k a : Nat) : Prop extends Ranked ds es k a where
  high : ∀ t, a ≤ t → ¬ h ∣ t + 1 → Adj es t
theorem Ranked.start (ds : List Bk) (k : Nat) : Ranked ds ds k 0 := ⟨Stab.refl _, rfl, Nat.dvd_zero k, fun t h => absurd h (by omega)⟩
theorem Ranked.next {ds es : List Bk} {k a : Nat} (h : Ranked ds es k a) (hb : a + k ≤ es.length) : Ranked ds (upd es (sorted (seg es a (a + k))) a (a + k)) k (a + k) := by
  have hl : (sorted (seg es a (a + k))).length = a + k - a := by rw [sorted_length, seg_length _ _ _ hb]
  refine ⟨upd_stab _ _ _ _ _ (by omega) h.stab (stab_sorted _), by rw [upd_length _ _ _ _ (by omega) hb hl]; exact h.len, Nat.dvd_add h.dvd (Nat.dvd_refl k), fun t ht hd => ?_⟩
  by_cases h1 : t + 1 < a
  · exact upd_old _ _ _ _ (by omega) hb hl t (Or.inl h1) (h.low t h1 hd)
  · by_cases h2 : t + 1 = a
    · exact absurd (h2 ▸ h.dvd) hd
    · exact upd_new _ _ _ _ (by omega) hb hl (sorted_rises _) t (by omega) (by omega)
theorem Ranked.last {ds es : List Bk} {k a : Nat} (h : Ranked ds es k a) (ha : a ≤ es.length) : Ranked2 ds (upd es (sorted (seg es a es.length)) a es.length) k k 0 := by
  have hl : (sorted (seg es a es.length)).length = es.length - a := by rw [sorted_length, seg_length _ _ _ (Nat.le_refl _)]
  refine ⟨⟨upd_stab _ _ _ _ _ ha h.stab (stab_sorted _), by rw [upd_length _ _ _ _ ha (Nat.le_refl _) hl]; exact h.len, Nat.dvd_zero k, fun t ht => absurd ht (by omega)⟩, fun t _ hd => ?_⟩
  by_cases h0 : t + 1 < es.length
  · by_cases h1 : t + 1 < a
    · exact upd_old _ _ _ _ ha (Nat.le_refl _) hl t (Or.inl h1) (h.low t h1 hd)
    · by_cases h2 : t + 1 = a
      · exact absurd (h2 ▸ h.dvd) hd
      · exact upd_new _ _ _ _ ha (Nat.le_refl _) hl (sorted_rises _) t (by omega) h0
  · intro x y _ hy
    have := (List.getElem?_eq_some_iff.1 hy).1
    rw [upd_length _ _ _ _ ha (Nat.le_refl _) hl] at this
    omega
theorem Ranked2.begin {ds es : List Bk} {k : Nat} (h : Ranked2 ds es k k 0) : Ranked2 ds es k (2 * k) 0 := ⟨⟨h.stab, h.len, Nat.dvd_zero _, fun t ht => absurd ht (by omega)⟩, h.high⟩
theorem Ranked2.rises {ds es : List Bk} {k a p q : Nat} (h : Ranked2 ds es k (2 * k) a) (hp : p = a ∨ p = a + k) (hq : q ≤ p + k) : Rises (seg es p q) := by
  have hka : k ∣ a := Nat.dvd_trans (Nat.dvd_mul_left k 2) h.dvd
  have hkp : k ∣ p := by
    rcases hp with rfl | rfl
    · exact hka
    · exact Nat.dvd_add hka (Nat.dvd_refl k)
  exact seg_rises es p q fun t h1 h2 => h.high t (by omega) (not_dvd hkp (by omega) (by omega))
theorem Ranked2.next {ds es : List Bk} {k a : Nat} (h : Ranked2 ds es k (2 * k) a) (hb : a + 2 * k ≤ es.length) : Ranked2 ds (upd es (sorted (seg es a (a + 2 * k))) a (a + 2 * k)) k (2 * k) (a + 2 * k) := by
  have hl : (sorted (seg es a (a + 2 * k))).length = a + 2 * k - a := by rw [sorted_length, seg_length _ _ _ hb]
  exact ⟨h.toRanked.next hb, fun t ht hd => upd_old _ _ _ _ (by omega) hb hl t (Or.inr ht) (h.high t (by omega) hd)⟩
theorem Ranked2.done {ds es : List Bk} {k a : Nat} (h : Ranked2 ds es k (2 * k) a) (ha : a ≤ es.length) : Ranked2 ds (upd es (sorted (seg es a es.length)) a es.length) (2 * k) (2 * k) 0 := h.toRanked.last ha
theorem Ranked2.short {ds es : List Bk} {k a : Nat} (h : Ranked2 ds es k (2 * k) a) (ha : es.length ≤ a + k) : Ranked2 ds es (2 * k) (2 * k) 0 := by
  refine ⟨⟨h.stab, h.len, Nat.dvd_zero _, fun t ht => absurd ht (by omega)⟩, fun t _ hd => ?_⟩
  have hka : k ∣ a := Nat.dvd_trans (Nat.dvd_mul_left k 2) h.dvd
  by_cases h0 : t + 1 < es.length
  · by_cases h1 : t + 1 < a
    · exact h.low t h1 hd
    · by_cases h2 : t + 1 = a
      · exact absurd (h2 ▸ h.dvd) hd
      · exact h.high t (by omega) (not_dvd hka (by omega) (by omega))
  · intro x y _ hy
    have := (List.getElem?_eq_some_iff.1 hy).1
    omega
theorem Ranked2.sorted {ds es : List Bk} {k : Nat} (h : Ranked2 ds es k k 0) (hk : es.length ≤ k) : es = Pol.sorted ds := by
  have hr : Rises es := by
    have := seg_rises es 0 es.length fun t _ h2 => h.high t (by omega) (not_dvd (Nat.dvd_zero k) (by omega) (by omega))
    simpa [seg] using this
  exact (sorted_is ds es hr h.stab).symm
end Go.Proofs.Ytfjpdoamalbpjaa.Pol
