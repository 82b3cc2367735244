/-
  Package octet: plain facts on bytes.
-/
import Derived.Test.YtfjpdoamalbpjaaOctA
import Derived.Test.YtfjpdoamalbpjaaOct0
import Derived.BigRegionIn
import Derived.Laws.BitsAllLaws
namespace Go.Proofs.Ytfjpdoamalbpjaa.Oct
open Go.RowKit Go.Shelf

attribute [local go_sem] Oper.semAt_some

/-- The bytes of s at the places a + j. -/
def at_ (s : ByteArray) (a : Nat) {n : Nat} (pre : List (Fin n)) : List UInt8 := pre.map fun j => s.data.toList[a + j.1]?.getD 0

theorem at_snoc (s : ByteArray) (a : Nat) {n : Nat} (pre : List (Fin n)) (x : Fin n) : at_ s a (pre ++ [x]) = at_ s a pre ++ [s.data.toList[a + x.1]?.getD 0] := by simp [at_]
theorem at_length (s : ByteArray) (a : Nat) {n : Nat} (pre : List (Fin n)) : (at_ s a pre).length = pre.length := by simp [at_]
theorem at_all (s : ByteArray) (a n : Nat) (h : a + n ≤ s.size) : at_ s a (List.finRange n) = (s.data.toList.drop a).take n := by
  apply List.ext_getElem
  · simp [at_]; have : s.data.size = s.size := rfl; omega
  · intro i h1 h2
    have h3 : i < n := by simpa [at_] using h1
    have h4 : a + i < s.data.toList.length := by rw [Array.length_toList]; exact Nat.lt_of_lt_of_le (by omega) h
    simp only [at_, List.getElem_map, List.getElem_finRange, List.getElem_take, List.getElem_drop]
    rw [List.getElem?_eq_getElem (by simpa using h4)]; rfl
theorem byte_at (s : ByteArray) (i : Nat) (h : i < s.size) : s.data.toList[i]?.getD 0 = s[i] := by
  have h4 : i < s.data.toList.length := by rw [Array.length_toList]; exact h
  rw [List.getElem?_eq_getElem h4]; rfl
theorem pow_le7 {k : Nat} (h : k ≤ 7) : 256 ^ k ≤ 72057594037927936 := by
  have : 256 ^ k ≤ 256 ^ 7 := Nat.pow_le_pow_right (by omega) h
  simpa using this
theorem or_step (v b : Nat) (hv : v < 72057594037927936) (hb : b < 256) : bits .or .u64 (IntKind.u64.wrap ((v : Int) * 256)) (IntKind.u64.wrap (b : Int)) = ((v * 256 + b : Nat) : Int) := by
  have e1 : IntKind.u64.wrap ((v : Int) * 256) = ((v * 256 : Nat) : Int) := by
    simp only [IntKind.wrap, IntKind.signed, IntKind.bits]; simp; omega
  have e2 : IntKind.u64.wrap (b : Int) = ((b : Nat) : Int) := by
    simp only [IntKind.wrap, IntKind.signed, IntKind.bits]; simp; omega
  rw [e1, e2, u64_or_nat _ _ (by omega) (by omega)]
  congr 1
  rw [Nat.mul_comm, show (256 : Nat) = 2 ^ 8 from rfl, ← Nat.two_pow_add_eq_or_of_lt (by simpa using hb)]
theorem step_val (s : ByteArray) (a : Nat) {n : Nat} (pre : List (Fin n)) (x : Fin n) (i : Nat) (hi : i < s.size) (e : i = a + x.1) (hl : pre.length ≤ 7) :
    bits .or .u64 (IntKind.u64.wrap ((num (at_ s a pre) : Nat) * 256 : Int)) (IntKind.u64.wrap (s[i].toNat : Int)) = ((num (at_ s a (pre ++ [x])) : Nat) : Int) := by
  have h := num_lt (at_ s a pre)
  rw [at_length] at h
  have hp := pow_le7 hl
  rw [at_snoc, num_snoc, ← e, byte_at s i hi]
  exact or_step _ _ (by omega) (UInt8.toNat_lt _)

end Go.Proofs.Ytfjpdoamalbpjaa.Oct
