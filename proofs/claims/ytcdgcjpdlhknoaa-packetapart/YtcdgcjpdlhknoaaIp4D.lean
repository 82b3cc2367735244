/-
  Plain facts on heads of version 4 (no program): what is put has the fields that it was put with, and what stands behind makes no difference.
-/
import Derived.Test.YtcdgcjpdlhknoaaIp4B
import Derived.Test.YtcdgcjpdlhknoaaIp4C
namespace Go.Proofs.Ytcdgcjpdlhknoaa.Ip4
open Go.RowKit Go.Shelf
open Oct (num num_bytes bytes_length str)
open Cks (tot tot_append fc fc_le fc_small fc_add fc_inj tot_nil tot_two)

theorem ba_ext {a b : ByteArray} (h : a.data.toList = b.data.toList) : a = b := by
  cases a; cases b; congr; exact Array.toList_inj.1 h
theorem len_list (a : ByteArray) : a.data.toList.length = a.size := by rw [Array.length_toList]; rfl
theorem ext_list (s : ByteArray) (a b : Nat) : (s.extract a b).data.toList = (s.data.toList.drop a).take (b - a) := by
  rw [ByteArray.data_extract, Array.toList_extract, List.extract_eq_take_drop]
theorem app_list (a b : ByteArray) : (a ++ b).data.toList = a.data.toList ++ b.data.toList := by simp only [ByteArray.data_append, Array.toList_append]

theorem gv_of (s : ByteArray) (a n : Nat) (h : a + n ≤ s.size) : gv s (a : Int) (n : Int) = num ((s.data.toList.drop a).take n) := by
  unfold gv Oct.getV
  rw [if_pos (by omega)]; rfl
theorem gv_out (s : ByteArray) (a n : Nat) (h : s.size < a + n) : gv s (a : Int) (n : Int) = 0 := by
  unfold gv
  rw [if_neg (by omega)]
theorem take_app (l m : List UInt8) (a n : Nat) (h : a + n ≤ l.length) : ((l ++ m).drop a).take n = (l.drop a).take n := by
  rw [List.drop_append_of_le_length (by omega), List.take_append_of_le_length (by rw [List.length_drop]; omega)]
theorem gv_app (s b : ByteArray) (a n : Nat) (h : a + n ≤ s.size) : gv (s ++ b) (a : Int) (n : Int) = gv s (a : Int) (n : Int) := by
  rw [gv_of s a n h, gv_of (s ++ b) a n (by rw [ByteArray.size_append]; omega), app_list, take_app _ _ _ _ (by rw [len_list]; exact h)]
theorem ext_app (s b : ByteArray) (a c : Nat) (h : c ≤ s.size) : (s ++ b).extract a c = s.extract a c := by
  apply ba_ext
  rw [ext_list, ext_list, app_list]
  by_cases hac : a ≤ c
  · exact take_app _ _ _ _ (by rw [len_list]; omega)
  · rw [show c - a = 0 by omega]; rfl

theorem so_0 (s : ByteArray) : so s 0 = decide (s.size < 20) := rfl
theorem so_1 (s : ByteArray) : so s 1 = decide (ver s ≠ 4) := rfl
theorem so_2 (s : ByteArray) : so s 2 = decide (siz s < 20 ∨ s.size < siz s) := rfl
theorem so_3 (s : ByteArray) : so s 3 = decide (len s < siz s ∨ s.size < len s) := rfl
theorem so_4 (s : ByteArray) : so s 4 = decide (fc (tot (s.extract 0 (siz s)).data.toList) ≠ 65535) := rfl
theorem so_5 (s : ByteArray) : so s 5 = decide (gv s 6 2 % 16384 ≠ 0) := rfl
/-- All six, one by one. -/
theorem so_none {s : ByteArray} (h0 : ¬ s.size < 20) (h1 : ver s = 4) (h2 : ¬ (siz s < 20 ∨ s.size < siz s)) (h3 : ¬ (len s < siz s ∨ s.size < len s)) (h4 : fc (tot (s.extract 0 (siz s)).data.toList) = 65535) (h5 : gv s 6 2 % 16384 = 0) :
    ∀ i, i < 6 → so s i = false := by
  intro i hi
  obtain rfl | rfl | rfl | rfl | rfl | rfl : i = 0 ∨ i = 1 ∨ i = 2 ∨ i = 3 ∨ i = 4 ∨ i = 5 := by omega
  · rw [so_0]; exact decide_eq_false h0
  · rw [so_1]; exact decide_eq_false (fun e => e h1)
  · rw [so_2]; exact decide_eq_false h2
  · rw [so_3]; exact decide_eq_false h3
  · rw [so_4]; exact decide_eq_false (fun e => e h4)
  · rw [so_5]; exact decide_eq_false (fun e => e h5)
theorem none_so {s : ByteArray} (h : ∀ i, i < 6 → so s i = false) : ¬ s.size < 20 ∧ ver s = 4 ∧ ¬ (siz s < 20 ∨ s.size < siz s) ∧ ¬ (len s < siz s ∨ s.size < len s) ∧ fc (tot (s.extract 0 (siz s)).data.toList) = 65535 ∧ gv s 6 2 % 16384 = 0 := by
  have h0 := h 0 (by omega)
  have h1 := h 1 (by omega)
  have h2 := h 2 (by omega)
  have h3 := h 3 (by omega)
  have h4 := h 4 (by omega)
  have h5 := h 5 (by omega)
  rw [so_0] at h0
  rw [so_1] at h1
  rw [so_2] at h2
  rw [so_3] at h3
  rw [so_4] at h4
  rw [so_5] at h5
  exact ⟨of_decide_eq_false h0, Decidable.of_not_not (of_decide_eq_false h1), of_decide_eq_false h2, of_decide_eq_false h3, Decidable.of_not_not (of_decide_eq_false h4), Decidable.of_not_not (of_decide_eq_false h5)⟩

/-- What stands behind a head makes no difference. -/
theorem so_app (s b : ByteArray) (h : ∀ i, i < 6 → so s i = false) :
    (∀ i, i < 6 → so (s ++ b) i = false) ∧ parseV (s ++ b) 6 = parseV s 6 := by
  obtain ⟨h0, h1, h2, h3, h4, h5⟩ := none_so h
  have g0 : gv (s ++ b) 0 1 = gv s 0 1 := gv_app s b 0 1 (by omega)
  have g2 : gv (s ++ b) 2 2 = gv s 2 2 := gv_app s b 2 2 (by omega)
  have g6 : gv (s ++ b) 6 2 = gv s 6 2 := gv_app s b 6 2 (by omega)
  have g9 : gv (s ++ b) 9 1 = gv s 9 1 := gv_app s b 9 1 (by omega)
  have ev : ver (s ++ b) = ver s := by unfold ver; rw [g0]
  have es : siz (s ++ b) = siz s := by unfold siz; rw [g0]
  have el : len (s ++ b) = len s := g2
  have hz : (s ++ b).size = s.size + b.size := ByteArray.size_append
  constructor
  · exact so_none (by omega) (ev.trans h1) (by rw [es]; omega) (by rw [es, el]; omega) (by rw [es, ext_app s b 0 (siz s) (by omega)]; exact h4) (by rw [g6]; exact h5)
  · unfold parseV
    rw [if_neg (by omega), if_neg (by omega), es, el, g9, ext_app s b 12 16 (by omega), ext_app s b 16 20 (by omega), ext_app s b _ _ (by omega)]

/-! What is put. -/
/-- The twelve bytes of a head ahead of its addresses. -/
def hdL (n p o : Nat) : List UInt8 := [69, 0, UInt8.ofNat ((20 + n) / 256), UInt8.ofNat (20 + n), 0, 0, 64, 0, 64, UInt8.ofNat p, UInt8.ofNat (o / 256), UInt8.ofNat o]
theorem putS_list (x y : ByteArray) (p : Nat) (r : ByteArray) : (putS x y p r).data.toList = hdL r.size p (own x y r.size p) ++ (x.data.toList ++ (y.data.toList ++ r.data.toList)) := by
  unfold putS front
  simp only [app_list, List.append_assoc]
  rfl
theorem own_le (x y : ByteArray) (n p : Nat) : own x y n p ≤ 65535 := by unfold own; omega
theorem putS_size (x y : ByteArray) (p : Nat) (r : ByteArray) (hx : x.size = 4) (hy : y.size = 4) : (putS x y p r).size = 20 + r.size := by
  rw [← len_list, putS_list]
  simp only [List.length_append, len_list, hx, hy, hdL, List.length_cons, List.length_nil]; omega
theorem tot_bytes (v : Nat) (h : v < 65536) : tot (Oct.bytes v 2) = v := by
  have e : Oct.bytes v 2 = [UInt8.ofNat (v / 256), UInt8.ofNat v] := rfl
  rw [e, tot_two, tot_nil, Oct.toNat_ofNat, Oct.toNat_ofNat]; omega
/-- With what is left of it a total is full. -/
theorem fc_own (T v : Nat) (h : v = 65535 - fc T) : fc (T + v) = 65535 := by
  have h1 := fc_le T
  rw [fc_add, fc_small v (by omega)]; split <;> omega
/-- Another word makes another rest. -/
theorem fc_other (A B x y : Nat) (hx : x ≤ 65535) (hy : y ≤ 65535) (hn : x ≠ y) (h0 : ¬ (x % 65535 = 0 ∧ y % 65535 = 0)) : fc (A + x + B) ≠ fc (A + y + B) := by
  intro h
  have := fc_inj _ _ h
  omega

theorem putS_good (x y : ByteArray) (p : Nat) (r : ByteArray) (hx : x.size = 4) (hy : y.size = 4) : fc (tot ((putS x y p r).extract 0 20).data.toList) = 65535 := by
  have e1 : ((putS x y p r).extract 0 20).data.toList = (front r.size p).data.toList ++ (Oct.bytes (own x y r.size p) 2 ++ (x ++ y).data.toList) := by
    rw [ext_list, putS_list, app_list]
    rw [← List.append_assoc x.data.toList, ← List.append_assoc, List.drop_zero, List.take_append_of_le_length (by simp [hdL, hx, hy]), List.take_of_length_le (by simp [hdL, hx, hy])]
    rfl
  have e2 : (front r.size p ++ ⟨#[0, 0]⟩ ++ (x ++ y)).data.toList = (front r.size p).data.toList ++ ([0, 0] ++ (x ++ y).data.toList) := by
    rw [app_list, app_list, List.append_assoc]
  have hf : (front r.size p).data.toList.length % 2 = 0 := by simp [front, bytes_length]
  have e3 : tot [0, 0] = 0 := by decide
  rw [e1, tot_append _ _ hf, tot_append _ _ (by rw [bytes_length]), tot_bytes _ (Nat.lt_succ_of_le (own_le x y r.size p))]
  have h1 : own x y r.size p = 65535 - fc (tot (front r.size p).data.toList + tot (x ++ y).data.toList) := by
    unfold own
    rw [e2, tot_append _ _ hf, tot_append _ _ (by decide), e3, Nat.zero_add]
  rw [show tot (front r.size p).data.toList + (own x y r.size p + tot (x ++ y).data.toList) = tot (front r.size p).data.toList + tot (x ++ y).data.toList + own x y r.size p by omega]
  exact fc_own _ _ h1

theorem putS_fields (x y : ByteArray) (p : Nat) (r : ByteArray) (hx : x.size = 4) (hy : y.size = 4) (hp : p ≤ 255) (hr : r.size ≤ 65515) :
    gv (putS x y p r) 0 1 = 69 ∧ gv (putS x y p r) 2 2 = 20 + r.size ∧ gv (putS x y p r) 6 2 = 16384 ∧ gv (putS x y p r) 9 1 = p ∧
    (putS x y p r).extract 12 16 = x ∧ (putS x y p r).extract 16 20 = y ∧ (putS x y p r).extract 20 (20 + r.size) = r := by
  have hz := putS_size x y p r hx hy
  have hl := putS_list x y p r
  have lx := len_list x
  have ly := len_list y
  have lr := len_list r
  refine ⟨?_, ?_, ?_, ?_, ?_, ?_, ?_⟩
  · refine (gv_of _ 0 1 (by omega)).trans ?_
    rw [hl]; rfl
  · refine (gv_of _ 2 2 (by omega)).trans ?_
    rw [hl]
    show num (Oct.bytes (20 + r.size) 2) = _
    rw [num_bytes]; omega
  · refine (gv_of _ 6 2 (by omega)).trans ?_
    rw [hl]; rfl
  · refine (gv_of _ 9 1 (by omega)).trans ?_
    rw [hl]
    show num (Oct.bytes p 1) = _
    rw [num_bytes]; omega
  · apply ba_ext
    rw [ext_list, hl, List.drop_append_of_le_length (by simp [hdL])]
    show ([] ++ (x.data.toList ++ (y.data.toList ++ r.data.toList))).take 4 = _
    rw [List.nil_append, List.take_append_of_le_length (by omega), List.take_of_length_le (by omega)]
  · apply ba_ext
    rw [ext_list, hl, ← List.append_assoc, List.drop_append_of_le_length (by simp [hdL, lx, hx]), List.drop_of_length_le (by simp [hdL, lx, hx]), List.nil_append, List.take_append_of_le_length (by omega), List.take_of_length_le (by omega)]
  · apply ba_ext
    rw [ext_list, hl, ← List.append_assoc, ← List.append_assoc, List.drop_append_of_le_length (by simp [hdL, lx, hx, ly, hy]), List.drop_of_length_le (by simp [hdL, lx, hx, ly, hy]), List.nil_append, List.take_of_length_le (by omega)]

/-- What is put has no fault, and is what it was put with. -/
theorem putS_parsed (x y : ByteArray) (p : Nat) (r : ByteArray) (hx : x.size = 4) (hy : y.size = 4) (hp : p ≤ 255) (hr : r.size ≤ 65515) :
    (∀ i, i < 6 → so (putS x y p r) i = false) ∧ parseV (putS x y p r) 6 = .tuple #[.agg #[.string x, .string y, .int .i64 (p : Nat)], .string r, .int .i64 0] := by
  have hz := putS_size x y p r hx hy
  obtain ⟨g0, g2, g6, g9, ex, ey, er⟩ := putS_fields x y p r hx hy hp hr
  have ev : ver (putS x y p r) = 4 := by unfold ver; rw [g0]
  have es : siz (putS x y p r) = 20 := by unfold siz; rw [g0]
  have el : len (putS x y p r) = 20 + r.size := g2
  constructor
  · exact so_none (by omega) ev (by rw [es]; omega) (by rw [es, el]; omega) (by rw [es]; exact putS_good x y p r hx hy) (by rw [g6])
  · unfold parseV
    rw [if_neg (by omega), es, el, g9, ex, ey, er]

end Go.Proofs.Ytcdgcjpdlhknoaa.Ip4
