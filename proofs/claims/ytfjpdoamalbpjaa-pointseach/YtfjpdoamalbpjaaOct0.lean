/-
  Plain facts on bytes and numbers (no program): the number of a list of bytes, the greatest one first, and the lowest n bytes of a number.
-/
import Derived.Lib.Hide
namespace Go.Proofs.Ytfjpdoamalbpjaa.Oct

/-- The number of some bytes, the greatest one first. -/
def num (l : List UInt8) : Nat := l.foldl (fun a b => a * 256 + b.toNat) 0

/-- The lowest n bytes of v, the greatest one first. -/
def bytes (v : Nat) : Nat → List UInt8
  | 0 => []
  | n + 1 => bytes (v / 256) n ++ [UInt8.ofNat v]

theorem num_nil : num [] = 0 := rfl
theorem num_snoc (l : List UInt8) (b : UInt8) : num (l ++ [b]) = num l * 256 + b.toNat := by simp [num]

theorem snoc_ind {P : List UInt8 → Prop} (h0 : P []) (h1 : ∀ l b, P l → P (l ++ [b])) (l : List UInt8) : P l := by
  have h : ∀ n (l : List UInt8), l.length = n → P l := by
    intro n
    induction n with
    | zero => intro l hl; obtain rfl := List.eq_nil_of_length_eq_zero hl; exact h0
    | succ n ih =>
      intro l hl
      have hne : l ≠ [] := by intro e; subst e; simp at hl
      rw [← List.dropLast_concat_getLast hne]
      exact h1 _ _ (ih _ (by simp [hl]))
  exact h _ l rfl

theorem num_lt (l : List UInt8) : num l < 256 ^ l.length := by
  induction l using snoc_ind with
  | h0 => simp [num]
  | h1 l b ih =>
    rw [num_snoc, List.length_append, List.length_singleton, Nat.pow_succ]
    have := b.toNat_lt
    omega

theorem bytes_length (v n : Nat) : (bytes v n).length = n := by
  induction n generalizing v with
  | zero => rfl
  | succ n ih => simp [bytes, ih]

theorem toNat_ofNat (v : Nat) : (UInt8.ofNat v).toNat = v % 256 := by simp [UInt8.toNat_ofNat']

theorem num_bytes (v n : Nat) : num (bytes v n) = v % 256 ^ n := by
  induction n generalizing v with
  | zero => simp [bytes, num, Nat.mod_one]
  | succ n ih =>
    rw [bytes, num_snoc, ih, toNat_ofNat, Nat.pow_succ, Nat.mul_comm (256 ^ n) 256, Nat.mod_mul]
    omega

theorem bytes_num (l : List UInt8) : bytes (num l) l.length = l := by
  induction l using snoc_ind with
  | h0 => rfl
  | h1 l b ih =>
    rw [num_snoc, List.length_append, List.length_singleton, bytes]
    have hb := b.toNat_lt
    have h1 : (num l * 256 + b.toNat) / 256 = num l := by omega
    have h2 : UInt8.ofNat (num l * 256 + b.toNat) = b := by
      apply UInt8.toNat_inj.1
      rw [toNat_ofNat]; omega
    rw [h1, h2, ih]

theorem num_inj {l k : List UInt8} (hl : l.length = k.length) (h : num l = num k) : l = k := by
  rw [← bytes_num l, ← bytes_num k, h, hl]

theorem bytes_mod (v n : Nat) : bytes (v % 256 ^ n) n = bytes v n := by
  apply num_inj
  · simp [bytes_length]
  · rw [num_bytes, num_bytes, Nat.mod_mod]

theorem bytes_parts (v n m : Nat) : bytes v (n + m) = bytes (v / 256 ^ m) n ++ bytes v m := by
  induction m generalizing v with
  | zero => simp [bytes]
  | succ m ih =>
    rw [← Nat.add_assoc, bytes, ih, bytes, List.append_assoc, Nat.pow_succ, Nat.mul_comm (256 ^ m) 256, Nat.div_div_eq_div_mul]

theorem num_append (l k : List UInt8) : num (l ++ k) = num l * 256 ^ k.length + num k := by
  induction k using snoc_ind with
  | h0 => simp [num_nil]
  | h1 k b ih =>
    rw [← List.append_assoc, num_snoc, ih, num_snoc, List.length_append, List.length_singleton, Nat.pow_succ, Nat.add_mul, Nat.mul_assoc, Nat.add_assoc]

end Go.Proofs.Ytfjpdoamalbpjaa.Oct
