/-
  Plain facts on words and what is carried (no program): the words of some bytes, their total, and what is left when what is above a word has gone round.
-/
import Derived.Lib.Hide
namespace Go.Proofs.Ytcdgcjpdlhknoaa.Cks

/-- The word of two bytes. -/
def wd (a b : UInt8) : Fin 65536 := ⟨a.toNat * 256 + b.toNat, by have := a.toNat_lt; have := b.toNat_lt; omega⟩
/-- The words of some bytes, from the left; a 0 stands behind a last byte alone. -/
def wl : List UInt8 → List (Fin 65536)
  | [] => []
  | [a] => [wd a 0]
  | a :: b :: r => wd a b :: wl r
/-- The total of words. -/
def tt (l : List (Fin 65536)) : Nat := (l.map Fin.val).sum
/-- The total of the words of some bytes. -/
def tot (l : List UInt8) : Nat := tt (wl l)
/-- What is left of a total when all that is above a word has gone round. -/
def fc (n : Nat) : Nat := if n = 0 then 0 else (n - 1) % 65535 + 1

theorem two_ind {P : List UInt8 → Prop} (h0 : P []) (h1 : ∀ a, P [a]) (h2 : ∀ a b r, P r → P (a :: b :: r)) (l : List UInt8) : P l := by
  have h : ∀ n (l : List UInt8), l.length ≤ n → P l := by
    intro n
    induction n with
    | zero => intro l hl; obtain rfl := List.eq_nil_of_length_eq_zero (Nat.le_zero.1 hl); exact h0
    | succ n ih =>
      intro l hl
      match l with
      | [] => exact h0
      | [a] => exact h1 a
      | a :: b :: r => exact h2 a b r (ih r (by simp at hl; omega))
  exact h _ l (Nat.le_refl _)

theorem wl_length (l : List UInt8) : (wl l).length = (l.length + 1) / 2 := by
  induction l using two_ind with
  | h0 => rfl
  | h1 a => simp [wl]
  | h2 a b r ih => simp [wl, ih]; omega

theorem wl_at (l : List UInt8) (k : Nat) (h : 2 * k < l.length) : (wl l)[k]? = some (wd (l[2 * k]?.getD 0) (l[2 * k + 1]?.getD 0)) := by
  induction l using two_ind generalizing k with
  | h0 => simp at h
  | h1 a =>
    obtain rfl : k = 0 := by simp at h; omega
    simp [wl]
  | h2 a b r ih =>
    cases k with
    | zero => simp [wl]
    | succ k =>
      have := ih k (by simp at h; omega)
      rw [show 2 * (k + 1) = 2 * k + 1 + 1 by omega]
      simp [wl, this]

theorem wl_take (l : List UInt8) (k : Nat) (h : 2 * k < l.length) : (wl l).take (k + 1) = (wl l).take k ++ [wd (l[2 * k]?.getD 0) (l[2 * k + 1]?.getD 0)] := by
  have h1 := wl_at l k h
  have h2 : k < (wl l).length := by rw [wl_length]; omega
  rw [List.getElem?_eq_getElem h2] at h1
  rw [List.take_succ_eq_append_getElem h2, Option.some.inj h1]

theorem tt_nil : tt [] = 0 := rfl
theorem tt_snoc (l : List (Fin 65536)) (x : Fin 65536) : tt (l ++ [x]) = tt l + x.1 := by simp [tt]
theorem tt_cons (l : List (Fin 65536)) (x : Fin 65536) : tt (x :: l) = x.1 + tt l := by simp [tt]
theorem tt_le (l : List (Fin 65536)) : tt l ≤ 65535 * l.length := by
  induction l with
  | nil => simp [tt]
  | cons x l ih => rw [tt_cons, List.length_cons]; have := x.2; omega

theorem tot_nil : tot [] = 0 := rfl
theorem tot_one (a : UInt8) : tot [a] = a.toNat * 256 := by simp [tot, wl, tt, wd]
theorem tot_two (a b : UInt8) (r : List UInt8) : tot (a :: b :: r) = a.toNat * 256 + b.toNat + tot r := by simp [tot, wl, tt_cons, wd]
theorem tot_le (l : List UInt8) : tot l ≤ 65535 * l.length := by
  have h := tt_le (wl l)
  rw [wl_length] at h
  have : tot l ≤ 65535 * ((l.length + 1) / 2) := h
  omega

/-- Behind whole words the total goes on. -/
theorem tot_append (l k : List UInt8) (h : l.length % 2 = 0) : tot (l ++ k) = tot l + tot k := by
  induction l using two_ind with
  | h0 => simp [tot_nil]
  | h1 a => simp at h
  | h2 a b r ih =>
    have := ih (by simp at h; omega)
    simp only [List.cons_append, tot_two, this]; omega

/-- A 0 behind a last byte alone changes nothing. -/
theorem tot_zero (l : List UInt8) (h : l.length % 2 = 1) : tot (l ++ [0]) = tot l := by
  induction l using two_ind with
  | h0 => simp at h
  | h1 a => simp [tot_two, tot_one, tot_nil]
  | h2 a b r ih =>
    have := ih (by simp at h; omega)
    simp only [List.cons_append, tot_two, this]

theorem tot_eq_zero (l : List UInt8) : tot l = 0 ↔ ∀ b ∈ l, b = 0 := by
  have hz : ∀ a : UInt8, a.toNat = 0 ↔ a = 0 := fun a => ⟨fun h => UInt8.toNat_inj.1 (by simpa using h), fun h => by rw [h]; rfl⟩
  induction l using two_ind with
  | h0 => simp [tot_nil]
  | h1 a => rw [tot_one, List.forall_mem_singleton, ← hz a]; omega
  | h2 a b r ih =>
    rw [tot_two]
    constructor
    · intro h
      have h1 := (hz a).1 (by omega)
      have h2 := (hz b).1 (by omega)
      have h3 := ih.1 (by omega)
      intro c hc
      rcases List.mem_cons.1 hc with rfl | hc
      · exact h1
      · rcases List.mem_cons.1 hc with rfl | hc
        · exact h2
        · exact h3 c hc
    · intro h
      have h1 := (hz a).2 (h a (by simp))
      have h2 := (hz b).2 (h b (by simp))
      have h3 := ih.2 (fun c hc => h c (by simp [hc]))
      omega

theorem fc_zero : fc 0 = 0 := rfl
theorem fc_small (n : Nat) (h : n < 65536) : fc n = n := by
  unfold fc; split
  · omega
  · rw [Nat.mod_eq_of_lt (by omega)]; omega
theorem fc_le (n : Nat) : fc n ≤ 65535 := by
  unfold fc; split
  · omega
  · omega
theorem fc_eq_zero (n : Nat) : fc n = 0 ↔ n = 0 := by
  unfold fc; split
  · simp [*]
  · simp [*]
theorem fc_round (n : Nat) : fc (n / 65536 + n % 65536) = fc n := by
  unfold fc
  by_cases h : n = 0
  · subst h; rfl
  · rw [if_neg h, if_neg (by omega)]; omega
/-- What is left of a sum is what is left of the sum of what is left. -/
theorem fc_add (a b : Nat) : fc (a + b) = if 65535 < fc a + fc b then fc a + fc b - 65535 else fc a + fc b := by
  unfold fc
  by_cases h : a = 0
  · subst h; by_cases k : b = 0
    · subst k; rfl
    · simp only [Nat.zero_add, if_neg k, if_pos]; rw [if_neg (by omega)]
  · by_cases k : b = 0
    · subst k; simp only [Nat.add_zero, if_neg h, if_pos]; rw [if_neg (by omega)]
    · rw [if_neg h, if_neg k, if_neg (by omega)]; split <;> omega
theorem fc_full (n : Nat) : fc n = 65535 ↔ n ≠ 0 ∧ n % 65535 = 0 := by
  unfold fc
  by_cases h : n = 0
  · subst h; simp
  · rw [if_neg h]; omega
theorem fc_inj (a b : Nat) (h : fc a = fc b) : a % 65535 = b % 65535 := by
  unfold fc at h
  by_cases ha : a = 0
  · subst ha; by_cases hb : b = 0
    · subst hb; rfl
    · rw [if_neg hb] at h; simp at h
  · rw [if_neg ha] at h; by_cases hb : b = 0
    · subst hb; simp at h
    · rw [if_neg hb] at h; omega

end Go.Proofs.Ytcdgcjpdlhknoaa.Cks
