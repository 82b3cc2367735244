/-
  Package ip6: Put.
-/
import Derived.Test.YtcdgcjpdlhknoaaIp6C
namespace Go.Proofs.Ytcdgcjpdlhknoaa.Ip6
open Go.RowKit Go.Shelf Txt Rgn
open Oct (num bytes_length str)

/-- A Builder that holds these bytes. -/
def HeldL (B b : Nat) (l : List UInt8) (w W : World) : Prop := Held B b (Lib.byteCells l) w W
theorem heldL_keep {B b : Nat} {l : List UInt8} {w W W' : World} (h : HeldL B b l w W) (hb : Below W.heap.size W W') : HeldL B b l w W' := held_keep h hb
theorem heldL_new (w : World) : HeldL w.heap.size w.heap.size [] w (w.alloc (.cells #[.pointer none, .slice none 0 0] 105)) :=
  ⟨Lib.fresh_isBuilder _ _ w, below_alloc w _, by simp⟩
theorem heldL_write {B b : Nat} {l : List UInt8} {w W : World} (s : ByteArray) (h : HeldL B b l w W) (hlen : l.length + s.size ≤ 1099511627776) :
    Calls Try.prog 65 #[.pointer (some ⟨b, 0, none⟩), .string s] W fun e W' => e = .returned (.tuple #[.int .i64 s.size, .nilIface]) ∧ HeldL B b (l ++ s.data.toList) w W' := by
  refine (held_write s h (by rw [Lib.byteCells_length]; omega)).mono fun _ _ ⟨he, hI⟩ => ⟨he, ?_⟩
  unfold HeldL
  rw [Lib.byteCells_append]
  exact hI
theorem heldL_number {B b : Nat} {l : List UInt8} {w W : World} (v n : Int) (h : HeldL B b l w W) (hv : 0 ≤ v) (hv2 : v ≤ 9223372036854775807) (hn : 1 ≤ n ∧ n ≤ 8) (hlen : l.length ≤ 1099511627776) :
    Calls Try.prog 64 #[.pointer (some ⟨b, 0, none⟩), .int .i64 v, .int .i64 n] W fun e W' => e = .returned (.tuple #[]) ∧ HeldL B b (l ++ Oct.bytes v.toNat n.toNat) w W' := by
  refine (textNumber_any B b _ v n w W h hv hv2 hn (by rw [Lib.byteCells_length]; omega)).mono fun _ _ ⟨he, hI⟩ => ⟨he, ?_⟩
  unfold HeldL
  rw [Lib.byteCells_append]
  exact hI
theorem heldL_string {B b : Nat} {l : List UInt8} {w W : World} (h : HeldL B b l w W) (h0 : l ≠ []) :
    Calls Try.prog 66 #[.pointer (some ⟨b, 0, none⟩)] W fun e W' => e = .returned (.string ⟨l.toArray⟩) ∧ Below B w W' :=
  (Sb.String_some B b l W h.1 h0).mono fun _ _ ⟨he, hb⟩ => ⟨he, h.2.1.trans hb⟩

/-- The bytes of a head, and what it holds. -/
def putL (x y : ByteArray) (p : Nat) (r : ByteArray) : List UInt8 :=
  [] ++ Oct.bytes 1610612736 4 ++ Oct.bytes r.size 2 ++ Oct.bytes p 1 ++ Oct.bytes 64 1 ++ x.data.toList ++ y.data.toList ++ r.data.toList

set_option maxRecDepth 100000 in
set_option maxHeartbeats 2000000 in
theorem Put_arg (x y : ByteArray) (p : Int) (r : ByteArray) (h : x.size ≠ 16 ∨ y.size ≠ 16 ∨ p < 0 ∨ 255 < p) (w : World) :
    Calls Try.prog 32 #[.agg #[.string x, .string y, .int .i64 p], .string r] w fun e W' => e = .returned (.tuple #[.string ⟨#[]⟩, .int .i64 1]) ∧ Below w.heap.size w W' := by
  have hB := Lib.hid (below_alloc w (.cells #[.string x, .string y, .int .i64 p] 52))
  by_cases hx6 : x.size = 16
  · by_cases hy6 : y.size = 16
    · by_cases hp : p < 0
      · have d1 : decide (p < 0) = true := decide_eq_true hp
        go_enter Try.func32, Try.ntmps32
        go_wp2
        go_ret2
        exact ⟨rfl, hB.out⟩
      · have d1 : decide (p < 0) = false := decide_eq_false hp
        have d2 : decide (255 < p) = true := decide_eq_true (by omega)
        go_enter Try.func32, Try.ntmps32
        go_wp2
        go_ret2
        exact ⟨rfl, hB.out⟩
    · have e2 : ((y.size : Int) != 16) = true := by simp; omega
      go_enter Try.func32, Try.ntmps32
      go_wp2
      go_ret2
      exact ⟨rfl, hB.out⟩
  · have e1 : ((x.size : Int) != 16) = true := by simp; omega
    go_enter Try.func32, Try.ntmps32
    go_wp2
    go_ret2
    exact ⟨rfl, hB.out⟩

set_option maxRecDepth 100000 in
set_option maxHeartbeats 2000000 in
theorem Put_length (x y : ByteArray) (p : Int) (r : ByteArray) (hx : x.size = 16) (hy : y.size = 16) (hp : 0 ≤ p ∧ p ≤ 255) (hr : 65535 < r.size) (hr2 : r.size ≤ 1099511627776) (w : World) :
    Calls Try.prog 32 #[.agg #[.string x, .string y, .int .i64 p], .string r] w fun e W' => e = .returned (.tuple #[.string ⟨#[]⟩, .int .i64 4]) ∧ Below w.heap.size w W' := by
  have hB := Lib.hid (below_alloc w (.cells #[.string x, .string y, .int .i64 p] 52))
  have d1 : decide (p < 0) = false := decide_eq_false (by omega)
  have d2 : decide (255 < p) = false := decide_eq_false (by omega)
  go_enter Try.func32, Try.ntmps32
  go_wp2
  go_ret2
  exact ⟨rfl, hB.out⟩

set_option maxRecDepth 100000 in
set_option maxHeartbeats 2000000 in
theorem Put_good (x y : ByteArray) (p : Int) (r : ByteArray) (hx : x.size = 16) (hy : y.size = 16) (hp : 0 ≤ p ∧ p ≤ 255) (hr : r.size ≤ 65535) (w : World) :
    Calls Try.prog 32 #[.agg #[.string x, .string y, .int .i64 p], .string r] w fun e W' => e = .returned (.tuple #[.string ⟨(putL x y p.toNat r).toArray⟩, .int .i64 0]) ∧ Below w.heap.size w W' := by
  have hB := Lib.hid (below_alloc w (.cells #[.string x, .string y, .int .i64 p] 52))
  have H0 := heldL_new (w.alloc (.cells #[.string x, .string y, .int .i64 p] 52))
  have bh : (w.alloc (.cells #[.string x, .string y, .int .i64 p] 52)).heap[w.heap.size]? = some (.cells #[.string x, .string y, .int .i64 p] 52 (0, 0)) := World.alloc_heap_new w _
  have hz : (w.alloc (.cells #[.string x, .string y, .int .i64 p] 52)).heap.size = w.heap.size + 1 := by simp
  rw [hz] at H0
  have hd : ∀ W, Below (w.heap.size + 1) (w.alloc (.cells #[.string x, .string y, .int .i64 p] 52)) W → W.heap[w.heap.size]? = some (.cells #[.string x, .string y, .int .i64 p] 52 (0, 0)) := fun W hb => (hb.block w.heap.size (by omega)).trans bh
  have HD := Lib.hid hd
  have d1 : decide (p < 0) = false := decide_eq_false (by omega)
  have d2 : decide (255 < p) = false := decide_eq_false (by omega)
  have HH := Lib.hid H0
  have lx := len_list x
  have ly := len_list y
  clear H0 bh hz hd
  go_enter Try.func32, Try.ntmps32
  go_wp2_with fail
  generalize w.alloc (.cells #[.string x, .string y, .int .i64 p] 52) = W0 at *
  refine (heldL_number 1610612736 4 HH.out (by omega) (by omega) (by omega) (by simp)).mono ?_
  rintro e w1 ⟨rfl, h1⟩
  have H1 := Lib.hid h1
  clear h1 HH
  go_wp2_with fail
  refine (heldL_number (r.size : Int) 2 H1.out (by omega) (by omega) (by omega) (by simp [bytes_length])).mono ?_
  rintro e w2 ⟨rfl, h2⟩
  have c2 := (head_cells (HD.out w2 h2.2.1)).2.2.1
  have H2 := Lib.hid h2
  clear h2 H1
  go_wp2_with fail
  refine (heldL_number p 1 H2.out (by omega) (by omega) (by omega) (by simp [bytes_length])).mono ?_
  rintro e w3 ⟨rfl, h3⟩
  have H3 := Lib.hid h3
  clear h3 H2 c2
  go_wp2_with fail
  refine (heldL_number 64 1 H3.out (by omega) (by omega) (by omega) (by simp [bytes_length])).mono ?_
  rintro e w4 ⟨rfl, h4⟩
  have c4 := (head_cells (HD.out w4 h4.2.1)).1
  have H4 := Lib.hid h4
  clear h4 H3
  go_wp2_with fail
  refine (heldL_write x H4.out (by simp [bytes_length]; omega)).mono ?_
  rintro e w5 ⟨rfl, h5⟩
  have c5 := (head_cells (HD.out w5 h5.2.1)).2.1
  have H5 := Lib.hid h5
  clear h5 H4 c4
  go_wp2_with fail
  refine (heldL_write y H5.out (by simp only [List.length_append, bytes_length, lx, List.length_nil]; omega)).mono ?_
  rintro e w6 ⟨rfl, h6⟩
  have H6 := Lib.hid h6
  clear h6 H5 c5
  go_wp2_with fail
  refine (heldL_write r H6.out (by simp only [List.length_append, bytes_length, lx, ly, List.length_nil]; omega)).mono ?_
  rintro e w7 ⟨rfl, h7⟩
  have H7 := Lib.hid h7
  clear h7 H6
  go_wp2_with fail
  refine (heldL_string H7.out (by simp [Oct.bytes])).mono ?_
  rintro e w8 ⟨rfl, hb8⟩
  have hB8 : Below w.heap.size w w8 := hB.out.trans (hb8.mono (by omega))
  have E8 : ([] ++ Oct.bytes (1610612736 : Int).toNat (4 : Int).toNat ++ Oct.bytes (r.size : Int).toNat (2 : Int).toNat ++ Oct.bytes p.toNat (1 : Int).toNat ++ Oct.bytes (64 : Int).toNat (1 : Int).toNat ++ x.data.toList ++ y.data.toList ++ r.data.toList) = putL x y p.toNat r := rfl
  rw [E8]
  clear E8 H7
  generalize hL : putL x y p.toNat r = L at *
  go_wp2_with fail
  go_ret2
  exact ⟨by subst hL; rfl, hB8⟩
end Go.Proofs.Ytcdgcjpdlhknoaa.Ip6
