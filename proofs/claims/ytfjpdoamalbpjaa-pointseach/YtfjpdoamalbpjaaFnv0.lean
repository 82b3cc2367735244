/-
  Plain facts on the hash (no program): one byte on, some bytes on; what hashes keep apart.
-/
import Derived.Lib.Hide
namespace Go.Proofs.Ytfjpdoamalbpjaa.Fnv

/-- A hash, one byte on. -/
def nx (h : Nat) (b : UInt8) : Nat := (h ^^^ b.toNat) * 1099511628211 % 18446744073709551616
/-- A hash, some bytes on. -/
def jn (h : Nat) (l : List UInt8) : Nat := l.foldl nx h

theorem nx_lt (h : Nat) (b : UInt8) : nx h b < 18446744073709551616 := Nat.mod_lt _ (by decide)
theorem jn_nil (h : Nat) : jn h [] = h := rfl
theorem jn_cons (h : Nat) (b : UInt8) (l : List UInt8) : jn h (b :: l) = jn (nx h b) l := rfl
theorem fold_snoc (f : Nat → UInt8 → Nat) (h : Nat) (l : List UInt8) (b : UInt8) : (l ++ [b]).foldl f h = f (l.foldl f h) b := by simp
theorem jn_snoc (h : Nat) (l : List UInt8) (b : UInt8) : jn h (l ++ [b]) = nx (jn h l) b := fold_snoc nx h l b
theorem jn_append (h : Nat) (l k : List UInt8) : jn h (l ++ k) = jn (jn h l) k := List.foldl_append
theorem xor_right {x y b : Nat} (e : x ^^^ b = y ^^^ b) : x = y := by
  rw [← Nat.xor_zero x, ← Nat.xor_zero y, ← Nat.xor_self b, ← Nat.xor_assoc, ← Nat.xor_assoc, e]
theorem xor_left {x y b : Nat} (e : b ^^^ x = b ^^^ y) : x = y := xor_right (b := b) (by rw [Nat.xor_comm x, Nat.xor_comm y, e])
theorem jn_lt (h : Nat) (l : List UInt8) (hh : h < 18446744073709551616) : jn h l < 18446744073709551616 := by
  induction l generalizing h with
  | nil => exact hh
  | cons b l ih => exact ih _ (nx_lt h b)

/-- The product can be undone: the prime is odd. -/
theorem undo (x : Nat) (hx : x < 18446744073709551616) : x * 1099511628211 % 18446744073709551616 * 14886173955864302971 % 18446744073709551616 = x := by
  rw [Nat.mod_mul_mod, Nat.mul_assoc, Nat.mul_mod, show 1099511628211 * 14886173955864302971 % 18446744073709551616 = 1 from by decide, Nat.mul_one, Nat.mod_mod, Nat.mod_eq_of_lt hx]

theorem xor_lt (h : Nat) (b : UInt8) (hh : h < 18446744073709551616) : h ^^^ b.toNat < 18446744073709551616 := by
  have := b.toNat_lt
  exact Nat.xor_lt_two_pow (n := 64) hh (by omega)

theorem mul_inj {x y : Nat} (hx : x < 18446744073709551616) (hy : y < 18446744073709551616) (h : x * 1099511628211 % 18446744073709551616 = y * 1099511628211 % 18446744073709551616) : x = y := by
  rw [← undo x hx, ← undo y hy, h]

theorem nx_inj {h k : Nat} (b : UInt8) (hh : h < 18446744073709551616) (hk : k < 18446744073709551616) (e : nx h b = nx k b) : h = k :=
  xor_right (mul_inj (xor_lt h b hh) (xor_lt k b hk) e)

theorem jn_inj {h k : Nat} (l : List UInt8) (hh : h < 18446744073709551616) (hk : k < 18446744073709551616) (e : jn h l = jn k l) : h = k := by
  induction l generalizing h k with
  | nil => exact e
  | cons b l ih => exact nx_inj b hh hk (ih (nx_lt h b) (nx_lt k b) e)

theorem nx_byte {h : Nat} {b c : UInt8} (hh : h < 18446744073709551616) (e : nx h b = nx h c) : b = c :=
  UInt8.toNat_inj.1 (xor_left (mul_inj (xor_lt h b hh) (xor_lt h c hh) e))

theorem nx_low {h k : Nat} (b : UInt8) (e : h % 256 = k % 256) : nx h b % 256 = nx k b % 256 := by
  have d : ∀ x : Nat, nx x b % 256 = (x % 256 ^^^ b.toNat % 256) * (1099511628211 % 256) % 256 := by
    intro x
    unfold nx
    rw [Nat.mod_mod_of_dvd _ (by decide), Nat.mul_mod, show (256 : Nat) = 2 ^ 8 from rfl, Nat.xor_mod_two_pow]
  rw [d, d, e]

theorem jn_low {h k : Nat} (l : List UInt8) (e : h % 256 = k % 256) : jn h l % 256 = jn k l % 256 := by
  induction l generalizing h k with
  | nil => exact e
  | cons b l ih => exact ih (nx_low b e)

theorem nx_zero (h : Nat) : nx h 0 = h * 1099511628211 % 18446744073709551616 := by
  unfold nx; rw [show (0 : UInt8).toNat = 0 from rfl, Nat.xor_zero]

theorem join_two (h : Nat) (a b : ByteArray) : jn h (a ++ b).data.toList = jn (jn h a.data.toList) b.data.toList := by
  rw [← jn_append]; congr 1

end Go.Proofs.Ytfjpdoamalbpjaa.Fnv
