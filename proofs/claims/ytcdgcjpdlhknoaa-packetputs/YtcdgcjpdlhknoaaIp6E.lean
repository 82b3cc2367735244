/-
  Package ip6: plain facts on heads of version 6 (what is put has the fields that it was put with, what stands behind makes no difference), and its calls as the laws meet them.
-/
import Derived.Test.YtcdgcjpdlhknoaaIp6D
namespace Go.Proofs.Ytcdgcjpdlhknoaa.Ip6
open Go.RowKit Go.Shelf Txt
open Oct (num num_bytes bytes_length str)

/-- A text that begins with a head. -/
def good (s : ByteArray) : Prop := 40 ≤ s.size ∧ ver s = 6 ∧ ¬ s.size < 40 + len s

/-- What stands behind a head makes no difference. -/
theorem ver_app (s b : ByteArray) (h : 40 ≤ s.size) : ver (s ++ b) = ver s := by unfold ver; rw [gv_app s b 0 4 (by omega)]
theorem len_app (s b : ByteArray) (h : 40 ≤ s.size) : len (s ++ b) = len s := by unfold len; rw [gv_app s b 4 2 (by omega)]
theorem good_app (s b : ByteArray) (h : good s) : good (s ++ b) ∧ okV (s ++ b) = okV s := by
  obtain ⟨h0, h1, h2⟩ := h
  have hz : (s ++ b).size = s.size + b.size := ByteArray.size_append
  refine ⟨⟨by omega, (ver_app s b h0).trans h1, by rw [len_app s b h0]; omega⟩, ?_⟩
  unfold okV
  rw [len_app s b h0, gv_app s b 6 1 (by omega), ext_app s b 8 24 (by omega), ext_app s b 24 40 (by omega), ext_app s b _ _ (by omega)]

/-! What is put. -/
/-- A head, and what it holds, as a text. -/
def putS (x y : ByteArray) (p : Nat) (r : ByteArray) : ByteArray := ⟨(putL x y p r).toArray⟩
/-- The eight bytes of a head ahead of its addresses. -/
def hdL (n p : Nat) : List UInt8 := [96, 0, 0, 0, UInt8.ofNat (n / 256), UInt8.ofNat n, UInt8.ofNat p, 64]
theorem putS_list (x y : ByteArray) (p : Nat) (r : ByteArray) : (putS x y p r).data.toList = hdL r.size p ++ (x.data.toList ++ (y.data.toList ++ r.data.toList)) := by
  show putL x y p r = _
  unfold putL
  simp only [List.append_assoc]
  rfl
theorem putS_size (x y : ByteArray) (p : Nat) (r : ByteArray) (hx : x.size = 16) (hy : y.size = 16) : (putS x y p r).size = 40 + r.size := by
  rw [← len_list, putS_list]
  simp only [List.length_append, len_list, hx, hy, hdL, List.length_cons, List.length_nil]; omega

theorem putS_fields (x y : ByteArray) (p : Nat) (r : ByteArray) (hx : x.size = 16) (hy : y.size = 16) (hp : p ≤ 255) (hr : r.size ≤ 65535) :
    ver (putS x y p r) = 6 ∧ len (putS x y p r) = r.size ∧ gv (putS x y p r) 6 1 = p ∧
    (putS x y p r).extract 8 24 = x ∧ (putS x y p r).extract 24 40 = y ∧ (putS x y p r).extract 40 (40 + r.size) = r := by
  have hl := putS_list x y p r
  have lx := len_list x
  have ly := len_list y
  have lr := len_list r
  refine ⟨?_, ?_, ?_, ?_, ?_, ?_⟩
  · unfold ver gv
    rw [hl]
    have e : num (((hdL r.size p ++ (x.data.toList ++ (y.data.toList ++ r.data.toList))).drop 0).take 4) = 1610612736 := rfl
    rw [e]
  · unfold len gv
    rw [hl]
    show num (Oct.bytes r.size 2) = _
    rw [num_bytes]; omega
  · unfold gv
    rw [hl]
    show num (Oct.bytes p 1) = _
    rw [num_bytes]; omega
  · apply ba_ext
    rw [ext_list, hl, List.drop_append_of_le_length (by simp [hdL])]
    show ([] ++ (x.data.toList ++ (y.data.toList ++ r.data.toList))).take 16 = _
    rw [List.nil_append, List.take_append_of_le_length (by omega), List.take_of_length_le (by omega)]
  · apply ba_ext
    rw [ext_list, hl, ← List.append_assoc, List.drop_append_of_le_length (by simp [hdL, lx, hx]), List.drop_of_length_le (by simp [hdL, lx, hx]), List.nil_append, List.take_append_of_le_length (by omega), List.take_of_length_le (by omega)]
  · apply ba_ext
    rw [ext_list, hl, ← List.append_assoc, ← List.append_assoc, List.drop_append_of_le_length (by simp [hdL, lx, hx, ly, hy]), List.drop_of_length_le (by simp [hdL, lx, hx, ly, hy]), List.nil_append, List.take_of_length_le (by omega)]

/-- What is put has no fault, and is what it was put with. -/
theorem putS_parsed (x y : ByteArray) (p : Nat) (r : ByteArray) (hx : x.size = 16) (hy : y.size = 16) (hp : p ≤ 255) (hr : r.size ≤ 65535) :
    good (putS x y p r) ∧ okV (putS x y p r) = .tuple #[.agg #[.string x, .string y, .int .i64 (p : Nat)], .string r, .int .i64 0] := by
  have hz := putS_size x y p r hx hy
  obtain ⟨g0, g2, g6, ex, ey, er⟩ := putS_fields x y p r hx hy hp hr
  refine ⟨⟨by omega, g0, by rw [g2]; omega⟩, ?_⟩
  unfold okV
  rw [g2, g6, ex, ey, er]

/-! The calls. -/
theorem Parse_good (s : ByteArray) (hs : s.size ≤ 1099511627776) (h : good s) (w : World) :
    Calls Try.prog 26 #[.string s] w fun e W' => e = .returned (okV s) ∧ Below w.heap.size w W' := by
  have h1 := Parse_long s h.1 hs w
  rwa [longV_ok h.2.1 h.2.2] at h1
theorem Parse_version (s : ByteArray) (hs : s.size ≤ 1099511627776) (h0 : 40 ≤ s.size) (h : ver s ≠ 6) (w : World) :
    Calls Try.prog 26 #[.string s] w fun e W' => e = .returned (badV 3) ∧ Below w.heap.size w W' := by
  have h1 := Parse_long s h0 hs w
  rwa [longV_version h] at h1
theorem Parse_length (s : ByteArray) (hs : s.size ≤ 1099511627776) (h0 : 40 ≤ s.size) (h : ver s = 6) (h2 : s.size < 40 + len s) (w : World) :
    Calls Try.prog 26 #[.string s] w fun e W' => e = .returned (badV 4) ∧ Below w.heap.size w W' := by
  have h1 := Parse_long s h0 hs w
  rwa [longV_length h h2] at h1
/-- What is told of a text that does not begin with a head. -/
theorem Parse_bad (s : ByteArray) (hs : s.size ≤ 1099511627776) (h : ¬ good s) : ∃ c : Int, (2 ≤ c ∧ c ≤ 4) ∧ ∀ w : World,
    Calls Try.prog 26 #[.string s] w fun e W' => e = .returned (badV c) ∧ Below w.heap.size w W' := by
  by_cases h0 : s.size < 40
  · exact ⟨2, by omega, Parse_short s h0⟩
  · by_cases h1 : ver s = 6
    · by_cases h2 : s.size < 40 + len s
      · exact ⟨4, by omega, Parse_length s hs (by omega) h1 h2⟩
      · exact absurd ⟨by omega, h1, h2⟩ h
    · exact ⟨3, by omega, Parse_version s hs (by omega) h1⟩

/-- What is put is parsed, whatever stands behind it. -/
theorem Parse_put (S b x y : ByteArray) (p : Int) (r : ByteArray) (hx : x.size = 16) (hy : y.size = 16) (hp : 0 ≤ p ∧ p ≤ 255) (hr : r.size ≤ 65535) (hb : b.size ≤ 1000000) (hS : Hid (S = putS x y p.toNat r)) (w : World) :
    Calls Try.prog 26 #[.string (S ++ b)] w fun e W' => e = .returned (.tuple #[.agg #[.string x, .string y, .int .i64 p], .string r, .int .i64 0]) ∧ Below w.heap.size w W' := by
  obtain ⟨P, rfl⟩ := Int.eq_ofNat_of_zero_le hp.1
  rw [hS.out]
  have hz := putS_size x y P r hx hy
  have h1 := putS_parsed x y P r hx hy (by omega) hr
  have h2 := good_app (putS x y P r) b h1.1
  have h := Parse_good (putS x y P r ++ b) (by rw [ByteArray.size_append, hz]; omega) h2.1 w
  rw [h2.2, h1.2] at h
  exact h
theorem Parse_put0 (S x y : ByteArray) (p : Int) (r : ByteArray) (hx : x.size = 16) (hy : y.size = 16) (hp : 0 ≤ p ∧ p ≤ 255) (hr : r.size ≤ 65535) (hS : Hid (S = putS x y p.toNat r)) (w : World) :
    Calls Try.prog 26 #[.string S] w fun e W' => e = .returned (.tuple #[.agg #[.string x, .string y, .int .i64 p], .string r, .int .i64 0]) ∧ Below w.heap.size w W' := by
  have h := Parse_put S ⟨#[]⟩ x y p r hx hy hp hr (by decide) hS w
  rwa [app_nil] at h
/-- What is cut is refused. -/
theorem Parse_cut (S x y : ByteArray) (p : Int) (r : ByteArray) (n : Nat) (hx : x.size = 16) (hy : y.size = 16) (hp : 0 ≤ p ∧ p ≤ 255) (hr : r.size ≤ 65535) (hS : Hid (S = putS x y p.toNat r)) (hn : n < S.size) (w : World) :
    Calls Try.prog 26 #[.string (S.extract 0 n)] w fun e W' => e = .returned (badV (if n < 40 then 2 else 4)) ∧ Below w.heap.size w W' := by
  have hz : S.size = 40 + r.size := by rw [hS.out]; exact putS_size x y p.toNat r hx hy
  have hs := ext_size S 0 n (by omega)
  by_cases h : n < 40
  · rw [if_pos h]
    exact Parse_short _ (by omega) w
  · rw [if_neg h]
    have hf := putS_fields x y p.toNat r hx hy (by omega) hr
    rw [← hS.out] at hf
    have e : S = S.extract 0 n ++ S.extract n S.size := by
      apply ba_ext
      rw [app_list, ext_list, ext_list, ← len_list S, List.drop_zero, Nat.sub_zero, List.take_of_length_le (l := S.data.toList.drop n) (by rw [List.length_drop]; omega), List.take_append_drop]
    have h1 := ver_app (S.extract 0 n) (S.extract n S.size) (by omega)
    have h2 := len_app (S.extract 0 n) (S.extract n S.size) (by omega)
    rw [← e] at h1 h2
    exact Parse_length _ (by omega) (by omega) (h1 ▸ hf.1) (by rw [← h2, hf.2.1]; omega) w

/-- What Put answers of a head that is well, under a name of its own. -/
theorem Put_named (x y : ByteArray) (p : Int) (r : ByteArray) (hx : x.size = 16) (hy : y.size = 16) (hp : 0 ≤ p ∧ p ≤ 255) (hr : r.size ≤ 65535) (w : World) :
    Calls Try.prog 32 #[.agg #[.string x, .string y, .int .i64 p], .string r] w fun e W' => ∃ S : ByteArray, e = .returned (.tuple #[.string S, .int .i64 0]) ∧ S.size = 40 + r.size ∧ Hid (S = putS x y p.toNat r) ∧ Below w.heap.size w W' :=
  (Put_good x y p r hx hy hp hr w).mono fun _ _ ⟨he, hb⟩ => ⟨_, he, putS_size x y p.toNat r hx hy, Lib.hid rfl, hb⟩

/-- A variable that holds a head. -/
def Headed (W : World) (b : Nat) (x y : ByteArray) (p : Int) : Prop := W.heap[b]? = some (.cells #[.string x, .string y, .int .i64 p] 52 (0, 0))
theorem headed_new (W : World) (x y : ByteArray) (p : Int) : Headed (W.alloc (.cells #[.string x, .string y, .int .i64 p] 52)) W.heap.size x y p := World.alloc_heap_new W _
theorem Headed.kept {W W' : World} {b : Nat} {x y : ByteArray} {p : Int} (h : Headed W b x y p) (hb : Below W.heap.size W W') : Headed W' b x y p := (hb.block b (Array.getElem?_eq_some_iff.1 h).1).trans h
theorem Headed.alloc {W : World} {b : Nat} {x y : ByteArray} {p : Int} (h : Headed W b x y p) (o : Obj) : Headed (W.alloc o) b x y p := h.kept (below_alloc W o)
theorem Headed.cells {W : World} {b : Nat} {x y : ByteArray} {p : Int} (h : Headed W b x y p) : W.cell? ⟨b, 0, none⟩ = some (.string x) ∧ W.cell? ⟨b, 1, none⟩ = some (.string y) ∧ W.cell? ⟨b, 2, none⟩ = some (.int .i64 p) :=
  ⟨(head_cells h).1, (head_cells h).2.1, (head_cells h).2.2.1⟩
end Go.Proofs.Ytcdgcjpdlhknoaa.Ip6
