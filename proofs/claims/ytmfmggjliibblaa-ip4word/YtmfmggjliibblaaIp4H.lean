/-
  Another word in a head (no program): its sum is not good, or its length is another.
-/
import Derived.Test.YtmfmggjliibblaaIp4E
namespace Go.Proofs.Ytmfmggjliibblaa.Ip4
open Go.RowKit Go.Shelf
open Oct (num bytes_length str)
open Cks (tot tot_append fc tot_nil tot_two)

theorem getV_le (s : ByteArray) (a : Int) : Oct.getV s a 2 ≤ 65535 := by
  unfold Oct.getV
  have h1 := Oct.num_lt ((s.data.toList.drop a.toNat).take (2 : Int).toNat)
  have h2 : 256 ^ ((s.data.toList.drop a.toNat).take (2 : Int).toNat).length ≤ 256 ^ 2 := Nat.pow_le_pow_right (by omega) (List.length_take_le _ _)
  omega

/-- A text with a word in the place of another. -/
def edit (S : ByteArray) (n v : Nat) : ByteArray := S.extract 0 (2 * n) ++ str (Oct.bytes v 2) ++ S.extract (2 * n + 2) S.size
theorem edit_list (S : ByteArray) (n v : Nat) : (edit S n v).data.toList = S.data.toList.take (2 * n) ++ (Oct.bytes v 2 ++ S.data.toList.drop (2 * n + 2)) := by
  unfold edit
  rw [app_list, app_list, ext_list, ext_list, List.append_assoc, List.drop_zero, Nat.sub_zero]
  congr 2
  rw [List.take_of_length_le (by rw [List.length_drop, len_list]; omega)]
theorem edit_size (S : ByteArray) (n v : Nat) (h : 2 * n + 2 ≤ S.size) : (edit S n v).size = S.size := by
  rw [← len_list, edit_list, List.length_append, List.length_append, List.length_take, List.length_drop, bytes_length, len_list]; omega

theorem tot_word (l : List UInt8) (h : l.length = 2) : tot l = num l := by
  match l, h with
  | [a, b], _ => rw [tot_two, tot_nil]; simp [num]
/-- The total of twenty bytes, parted at a word. -/
theorem tot_parts (l k m : List UInt8) (n : Nat) (hn : n ≤ 9) (hl : l.length = 2 * n) (hk : k.length = 2) : tot ((l ++ (k ++ m)).take 20) = tot l + num k + tot (m.take (18 - 2 * n)) := by
  rw [List.take_append, hl, List.take_of_length_le (by omega), List.take_append, hk, List.take_of_length_le (by omega), show 20 - 2 * n - 2 = 18 - 2 * n by omega, tot_append _ _ (by omega), tot_append _ _ (by omega), tot_word k hk]; omega

theorem word_so (x y : ByteArray) (p : Nat) (r : ByteArray) (hx : x.size = 4) (hy : y.size = 4) (hp : p ≤ 255) (hr : r.size ≤ 65515) (n v V : Nat) (h1 : 1 ≤ n) (h9 : n ≤ 9) (hv : v ≤ 65535)
    (hV : Oct.getV (putS x y p r) (2 * (n : Int)) 2 = V) (hn : V ≠ v) (h0 : ¬ (V % 65535 = 0 ∧ v % 65535 = 0)) :
    ∃ c, c < 6 ∧ (c = 4 ∨ c = 3 ∧ n = 1) ∧ (∀ i, i < c → so (edit (putS x y p r) n v) i = false) ∧ so (edit (putS x y p r) n v) c = true := by
  have hz := putS_size x y p r hx hy
  have hg := putS_good x y p r hx hy
  obtain ⟨g0, g2, _⟩ := putS_fields x y p r hx hy hp hr
  have hVl := getV_le (putS x y p r) (2 * (n : Int))
  rw [hV] at hVl
  generalize putS x y p r = S at *
  have hl : S.data.toList.length = 20 + r.size := by rw [len_list]; exact hz
  have hsz := edit_size S n v (by omega)
  have hkS : ∀ a k : Nat, a + k ≤ 2 * n → gv (edit S n v) (a : Int) (k : Int) = gv S (a : Int) (k : Int) := by
    intro a k hak
    rw [gv_of (edit S n v) a k (by omega), gv_of S a k (by omega), edit_list, take_app _ _ _ _ (by rw [List.length_take]; omega)]
    congr 1
    rw [List.drop_take, List.take_take, Nat.min_eq_left (by omega)]
  have k0 : gv (edit S n v) 0 1 = 69 := (hkS 0 1 (by omega)).trans g0
  have ev : ver (edit S n v) = 4 := by unfold ver; rw [k0]
  have es : siz (edit S n v) = 20 := by unfold siz; rw [k0]
  have hw : num ((S.data.toList.drop (2 * n)).take 2) = V := by
    rw [← hV]; unfold Oct.getV
    rw [show (2 * (n : Int)).toNat = 2 * n by omega]; rfl
  have t1 : tot (S.extract 0 20).data.toList = tot (S.data.toList.take (2 * n)) + V + tot ((S.data.toList.drop (2 * n + 2)).take (18 - 2 * n)) := by
    have e : S.data.toList = S.data.toList.take (2 * n) ++ ((S.data.toList.drop (2 * n)).take 2 ++ S.data.toList.drop (2 * n + 2)) := by
      conv => lhs; rw [← List.take_append_drop (2 * n) S.data.toList]
      congr 1
      conv => lhs; rw [← List.take_append_drop 2 (S.data.toList.drop (2 * n))]
      rw [List.drop_drop]
    rw [ext_list, List.drop_zero, Nat.sub_zero]
    conv => lhs; rw [e]
    rw [tot_parts _ _ _ n h9 (by rw [List.length_take]; omega) (by rw [List.length_take, List.length_drop]; omega), hw]
  have t2 : tot ((edit S n v).extract 0 20).data.toList = tot (S.data.toList.take (2 * n)) + v + tot ((S.data.toList.drop (2 * n + 2)).take (18 - 2 * n)) := by
    rw [ext_list, List.drop_zero, Nat.sub_zero, edit_list, tot_parts _ _ _ n h9 (by rw [List.length_take]; omega) (bytes_length _ _), Oct.num_bytes]
    omega
  have hbad : fc (tot ((edit S n v).extract 0 (siz (edit S n v))).data.toList) ≠ 65535 := by
    rw [es, t2]
    intro h
    rw [t1] at hg
    exact fc_other _ _ V v hVl hv hn h0 (hg.trans h.symm)
  have s0 : so (edit S n v) 0 = false := by rw [so_0]; exact decide_eq_false (by omega)
  have s1 : so (edit S n v) 1 = false := by rw [so_1]; exact decide_eq_false (fun e => e ev)
  have s2 : so (edit S n v) 2 = false := by rw [so_2]; exact decide_eq_false (by rw [es]; omega)
  have s4 : so (edit S n v) 4 = true := by rw [so_4]; exact decide_eq_true hbad
  cases s3 : so (edit S n v) 3 with
  | false =>
    refine ⟨4, by omega, .inl rfl, fun i hi => ?_, s4⟩
    obtain rfl | rfl | rfl | rfl : i = 0 ∨ i = 1 ∨ i = 2 ∨ i = 3 := by omega
    · exact s0
    · exact s1
    · exact s2
    · exact s3
  | true =>
    refine ⟨3, by omega, .inr ⟨rfl, ?_⟩, fun i hi => ?_, s3⟩
    · rcases Nat.lt_or_ge 1 n with h | h
      · exfalso
        have k2 : gv (edit S n v) 2 2 = 20 + r.size := (hkS 2 2 (by omega)).trans g2
        rw [so_3] at s3
        have := of_decide_eq_true s3
        rw [es] at this
        unfold len at this
        rw [k2] at this
        omega
      · omega
    · obtain rfl | rfl | rfl : i = 0 ∨ i = 1 ∨ i = 2 := by omega
      · exact s0
      · exact s1
      · exact s2

end Go.Proofs.Ytmfmggjliibblaa.Ip4
