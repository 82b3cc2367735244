/-
  Package packet: number, address, (*record).put.
-/
import Derived.Test.YtcdgcjpdlhknoaaPktA
import Derived.Deep.RegionHeld3
namespace Go.Proofs.Ytcdgcjpdlhknoaa.Pkt
open Go.RowKit Go.Shelf Txt Rgn
open Lib (byteCells)

/-- A key, as a value; none. -/
abbrev keyC (V : Int) (x y : ByteArray) (F T p : Int) : Array Value := #[.int .i64 V, .string x, .string y, .int .i64 F, .int .i64 T, .int .i64 p]
abbrev keyV (V : Int) (x y : ByteArray) (F T p : Int) : Value := .agg (keyC V x y F T p)
/-- A variable that holds a key. -/
def Keyed (W : World) (b : Nat) (V : Int) (x y : ByteArray) (F T p : Int) : Prop := W.heap[b]? = some (.cells (keyC V x y F T p) 24 (0, 0))
theorem cell_of {W : World} {b : Nat} {C : Array Value} {t : TypeId} (h : W.heap[b]? = some (.cells C t (0, 0))) (i : Nat) : W.cell? ⟨b, i, none⟩ = C[i]? := by simp [World.cell?, h]
theorem free_of {W : World} {b : Nat} {C : Array Value} {t : TypeId} (h : W.heap[b]? = some (.cells C t (0, 0))) (i : Nat) : W.frozen? ⟨b, i, none⟩ = false := by simp [World.frozen?, h]
section
variable {W W' : World} {b : Nat} {V : Int} {x y : ByteArray} {F T p : Int}
theorem keyed_new (W : World) (V : Int) (x y : ByteArray) (F T p : Int) : Keyed (W.alloc (.cells (keyC V x y F T p) 24)) W.heap.size V x y F T p := World.alloc_heap_new W _
theorem Keyed.kept (h : Keyed W b V x y F T p) (hb : Below W.heap.size W W') : Keyed W' b V x y F T p := (hb.block b (Array.getElem?_eq_some_iff.1 h).1).trans h
theorem Keyed.alloc (h : Keyed W b V x y F T p) (o : Obj) : Keyed (W.alloc o) b V x y F T p := h.kept (below_alloc W o)
theorem Keyed.cells (h : Keyed W b V x y F T p) : W.cell? ⟨b, 0, none⟩ = some (.int .i64 V) ∧ W.cell? ⟨b, 1, none⟩ = some (.string x) ∧ W.cell? ⟨b, 2, none⟩ = some (.string y) ∧ W.cell? ⟨b, 3, none⟩ = some (.int .i64 F) ∧ W.cell? ⟨b, 4, none⟩ = some (.int .i64 T) ∧ W.cell? ⟨b, 5, none⟩ = some (.int .i64 p) :=
  ⟨cell_of h 0, cell_of h 1, cell_of h 2, cell_of h 3, cell_of h 4, cell_of h 5⟩
theorem Keyed.free (h : Keyed W b V x y F T p) (i : Nat) : W.frozen? ⟨b, i, none⟩ = false := free_of h i
end

set_option maxRecDepth 100000 in
set_option maxHeartbeats 1000000 in
theorem number_any (s : ByteArray) (a n : Nat) (hn : 1 ≤ n ∧ n ≤ 2) (ha : a + n ≤ s.size) (hs : s.size ≤ 1000) (w : World) :
    Calls Try.prog 70 #[.string s, .int .i64 (a : Nat), .int .i64 (n : Nat)] w fun e W' => e = .returned (.int .i64 (gv s a n : Nat)) ∧ Below w.heap.size w W' := by
  have hg : Oct.getV s (a : Int) (n : Int) = gv s a n := by unfold Oct.getV gv; rw [Int.toNat_natCast, Int.toNat_natCast]
  have hl := gv_lt s a n ha
  have hl2 : gv s a n < 65536 := by
    rcases (show n = 1 ∨ n = 2 by omega) with rfl | rfl <;> omega
  have q := IntWalk.i64_in (gv s a n : Nat) (by omega)
  have G := Lib.hid hg
  clear hg hl
  go_enter Try.func70, Try.ntmps70
  go_wp2_with fail
  refine (Oct.Get_yes s (a : Int) (n : Int) w (by omega) (by omega)).mono ?_
  rintro e w2 ⟨rfl, hb2⟩
  rw [G.out]
  go_wp2_with fail
  go_ret
  exact ⟨rfl, hb2⟩

/-- How many bytes an address has. -/
def addr (v : Int) : Nat := if v = 4 then 4 else if v = 6 then 16 else 0
set_option maxHeartbeats 1000000 in
theorem address_any (v : Int) (w : World) : Calls Try.prog 71 #[.int .i64 v] w fun e W' => e = .returned (.int .i64 (addr v : Nat)) ∧ w = W' := by
  by_cases h4 : v = 4
  · subst h4
    go_enter Try.func71, Try.ntmps71
    go_wp2_with fail
    go_ret
    exact ⟨rfl, rfl⟩
  · have n4 : (v == 4) = false := beq_false_of_ne h4
    by_cases h6 : v = 6
    · subst h6
      clear n4
      go_enter Try.func71, Try.ntmps71
      go_wp2_with fail
      go_ret
      exact ⟨rfl, rfl⟩
    · have n6 : (v == 6) = false := beq_false_of_ne h6
      have E := Lib.hid (show addr v = 0 by unfold addr; rw [if_neg h4, if_neg h6])
      clear h4 h6
      go_enter Try.func71, Try.ntmps71
      go_wp2_with fail
      go_ret
      exact ⟨by rw [E.out]; rfl, rfl⟩

/-- The lowest 64 bits of a number. -/
def low (v : Int) : Nat := (v % 18446744073709551616).toNat
theorem low_wrap (v : Int) : IntKind.u64.wrap v = (low v : Nat) := by
  unfold low
  simp only [IntKind.wrap, IntKind.signed, IntKind.bits]; simp; omega
theorem low_lt (v : Int) : low v < 18446744073709551616 := by unfold low; omega
/-- The numbers of a key, as bytes. -/
def nums (V F T p : Int) : List UInt8 := Oct.bytes (low V) 1 ++ Oct.bytes (low p) 1 ++ Oct.bytes (low F) 2 ++ Oct.bytes (low T) 2
theorem nums_length (V F T p : Int) : (nums V F T p).length = 6 := by simp [nums, Oct.bytes_length]
/-- What a record holds of a key. -/
def recL (V : Int) (x y : ByteArray) (F T p : Int) : List UInt8 := nums V F T p ++ (pad 16 x.data.toList ++ pad 16 y.data.toList)
theorem recL_length (V : Int) (x y : ByteArray) (F T p : Int) : (recL V x y F T p).length = 38 := by simp [recL, nums_length, pad_length]
theorem lay3 (L N X Y : List UInt8) (hL : L.length = 38) (hN : N.length = 6) (hX : X.length = 16) (hY : Y.length = 16) : lay (lay (lay L 0 N) 6 X) 22 Y = N ++ (X ++ Y) := by
  have e1 := lay_lay L 0 N X (by omega)
  rw [hN, Nat.zero_add] at e1
  have e2 := lay_lay L 0 (N ++ X) Y (by simp; omega)
  rw [List.length_append, hN, hX] at e2
  rw [e1, show (22 : Nat) = 0 + (6 + 16) by omega, e2]
  unfold lay
  rw [List.drop_eq_nil_of_le (by simp; omega)]
  simp

/-- What Put of octet answers, under a name of its own. -/
theorem Put_some (v n : Int) (w : World) (hv0 : 0 ≤ v) (hv : v ≤ 18446744073709551615) (h : 1 ≤ n ∧ n ≤ 2) :
    Calls Try.prog 62 #[.int .u64 v, .int .i64 n] w fun e W' => ∃ S : ByteArray, e = .returned (.string S) ∧ S.size ≤ 2 ∧ Hid (S = Oct.str (Oct.bytes v.toNat n.toNat)) ∧ Below w.heap.size w W' :=
  (Oct.Put_yes v n w hv0 hv (by omega)).mono fun _ _ ⟨he, hb⟩ => ⟨_, he, by rw [str_size, Oct.bytes_length]; omega, Lib.hid rfl, hb⟩

theorem st_keep {w W W' : World} {h : Nat} {V : Int} {x y : ByteArray} {F T p : Int} (hS : Below w.heap.size w W ∧ Keyed W h V x y F T p ∧ W.cell? ⟨h, 0, none⟩ = some (.int .i64 V) ∧ W.cell? ⟨h, 3, none⟩ = some (.int .i64 F) ∧ W.cell? ⟨h, 4, none⟩ = some (.int .i64 T) ∧ W.cell? ⟨h, 5, none⟩ = some (.int .i64 p)) (hb : Below W.heap.size W W') :
    Below w.heap.size w W' ∧ Keyed W' h V x y F T p ∧ W'.cell? ⟨h, 0, none⟩ = some (.int .i64 V) ∧ W'.cell? ⟨h, 3, none⟩ = some (.int .i64 F) ∧ W'.cell? ⟨h, 4, none⟩ = some (.int .i64 T) ∧ W'.cell? ⟨h, 5, none⟩ = some (.int .i64 p) :=
  ⟨below2 hS.1 hb, hS.2.1.kept hb, (hS.2.1.kept hb).cells.1, (hS.2.1.kept hb).cells.2.2.2.1, (hS.2.1.kept hb).cells.2.2.2.2.1, (hS.2.1.kept hb).cells.2.2.2.2.2⟩

/-- What is known while a key is put into a record: its own block, the record's, and that no other turns. -/
structure St (b h : Nat) (L : List UInt8) (V : Int) (x y : ByteArray) (F T p : Int) (w0 W : World) : Prop where
  ne : h ≠ b
  rec' : Rec W b L
  key : Keyed W h V x y F T p
  grown : w0.grownBy W (some b)
theorem St.drew {b h : Nat} {L : List UInt8} {V : Int} {x y : ByteArray} {F T p : Int} {w0 W : World} (hs : St b h L V x y F T p w0 W) : St b h L V x y F T p w0 W.drew :=
  ⟨hs.ne, hs.rec', hs.key, hs.grown.os, hs.grown.tape, hs.grown.output, hs.grown.size, hs.grown.block⟩
theorem St.turned {b h : Nat} {L : List UInt8} {V : Int} {x y : ByteArray} {F T p : Int} {w0 W : World} (hs : St b h L V x y F T p w0 W) (M : List UInt8) : St b h M V x y F T p w0 (recW W b M) :=
  ⟨hs.ne, hs.rec'.turned M, (recW_other W b h M hs.ne).trans hs.key, hs.grown.os, hs.grown.tape, hs.grown.output, by rw [recW_size]; exact hs.grown.size, fun k hk hn => (recW_other W b k M (fun e => hn (by rw [e]))).trans (hs.grown.block k hk hn)⟩

set_option maxRecDepth 100000 in
set_option maxHeartbeats 2000000 in
theorem put_any (b : Nat) (L : List UInt8) (hL : L.length = 38) (V : Int) (x y : ByteArray) (F T p : Int) (w : World) (h : Rec w b L) :
    Calls Try.prog 36 #[.pointer (some ⟨b, 0, none⟩), keyV V x y F T p] w fun e W' => e = .returned (.tuple #[]) ∧ Rec W' b (recL V x y F T p) ∧ w.grownBy W' (some b) := by
  have hbw : b < w.heap.size := (Array.getElem?_eq_some_iff.1 h).1
  have K0 := keyed_new w V x y F T p
  obtain ⟨c0, c1, c2, c3, c4, c5⟩ := K0.cells
  have q0 := low_wrap V
  have q1 := low_wrap p
  have q2 := low_wrap F
  have q3 := low_wrap T
  have l0 := low_lt V
  have l1 := low_lt p
  have l2 := low_lt F
  have l3 := low_lt T
  have HR := Lib.hid h
  have HK := Lib.hid K0
  have HN := Lib.hid (show nums V F T p = Oct.bytes (low V) 1 ++ Oct.bytes (low p) 1 ++ Oct.bytes (low F) 2 ++ Oct.bytes (low T) 2 from rfl)
  generalize low V = nV at *
  generalize low p = np at *
  generalize low F = nF at *
  generalize low T = nT at *
  clear h K0
  have A1 : ∀ (S T : ByteArray) (u : World), S.size ≤ 2 → T.size ≤ 2 → (Op.stringOp .add S T).run Try.prog u = .ok (.string (S ++ T)) u := fun S T u hS hT => run_string_add_sum u _ _ (by omega)
  have A2 : ∀ (S T R : ByteArray) (u : World), S.size ≤ 2 → T.size ≤ 2 → R.size ≤ 2 → (Op.stringOp .add (S ++ T) R).run Try.prog u = .ok (.string (S ++ T ++ R)) u := fun S T R u hS hT hR => run_string_add_sum u _ _ (by rw [ByteArray.size_append]; omega)
  have A3 : ∀ (S T R M : ByteArray) (u : World), S.size ≤ 2 → T.size ≤ 2 → R.size ≤ 2 → M.size ≤ 2 → (Op.stringOp .add (S ++ T ++ R) M).run Try.prog u = .ok (.string (S ++ T ++ R ++ M)) u := fun S T R M u hS hT hR hM => run_string_add_sum u _ _ (by rw [ByteArray.size_append, ByteArray.size_append]; omega)
  go_enter Try.func36, Try.ntmps36
  go_wp2_with fail
  go_region_held3 (fun W => Below w.heap.size w W ∧ Keyed W w.heap.size V x y F T p ∧ W.cell? ⟨w.heap.size, 0, none⟩ = some (.int .i64 V) ∧ W.cell? ⟨w.heap.size, 3, none⟩ = some (.int .i64 F) ∧ W.cell? ⟨w.heap.size, 4, none⟩ = some (.int .i64 T) ∧ W.cell? ⟨w.heap.size, 5, none⟩ = some (.int .i64 p))
      (first | exact ⟨(below_alloc w _).drew, HK.out, c0, c3, c4, c5⟩ | exact st_keep (by assumption) hb3)
      (first | (go_at_call 62; (with_reducible refine (Put_some _ _ _ ?_ ?_ ?_).mono ?_); omega; omega; omega; rintro e w3 ⟨S, rfl, hS, HS, hb3⟩))
  rename_i S1 hS1 HS1 hx1 u2 S2 hS2 HS2 hx2 u3 S3 hS3 HS3 hx3 hHeld
  obtain ⟨hB3, hK3, _, _, _, _⟩ := hHeld
  have hN : (S1 ++ S2 ++ S3 ++ S).data.toList = nums V F T p := by
    rw [HN.out, app_list, app_list, app_list, HS1.out, HS2.out, HS3.out, HS.out]; rfl
  have zN : (S1 ++ S2 ++ S3 ++ S).size = 6 := by rw [← len_list, hN, nums_length]
  have hR3 : Rec w3 b L := HR.out.kept hB3
  have pN : pad 6 (S1 ++ S2 ++ S3 ++ S).data.toList = nums V F T p := by rw [hN, pad_long _ _ (by rw [nums_length]; omega), List.take_of_length_le (by rw [nums_length]; omega)]
  clear hx1 hx2 hx3 hb3 A1 A2 A3 HS HS1 HS2 HS3 hS hS1 hS2 hS3 c0 c1 c2 c3 c4 c5 HK HN q0 q1 q2 q3 l0 l1 l2 l3 hN
  generalize S1 ++ S2 ++ S3 ++ S = N at *
  have F1 := Lib.hid (fill_any b 0 6 38 N L (by omega) (by omega) w3 hR3)
  clear hR3
  go_wp2_with fail
  refine F1.out.mono ?_
  rintro e w4 ⟨rfl, hw4⟩
  have hG : St b w.heap.size (lay L 0 (nums V F T p)) V x y F T p w w4 := by
    rw [hw4, pN]
    exact St.turned ⟨by omega, HR.out.kept hB3, hK3, hB3.os, hB3.tape, hB3.output, hB3.size, fun k hk _ => hB3.block k hk⟩ _
  have zL : (lay L 0 (nums V F T p)).length = 38 := by rw [lay_length _ _ _ (by rw [nums_length]; omega), hL]
  have HL := Lib.hid (lay3 L (nums V F T p) (pad 16 x.data.toList) (pad 16 y.data.toList) hL (nums_length ..) (pad_length ..) (pad_length ..))
  clear hw4 F1 pN zN hK3 HR hB3
  generalize lay L 0 (nums V F T p) = L1 at *
  have HG := Lib.hid hG.drew
  have F2 := Lib.hid (fill_any b 6 16 32 x L1 (by omega) (by omega) w4.drew HG.out.rec')
  obtain ⟨c0, c1, c2, c3, c4, c5⟩ := HG.out.key.cells
  go_wp2_with fail
  go_region_held3 (fun W => Keyed W w.heap.size V x y F T p ∧ W.cell? ⟨w.heap.size, 1, none⟩ = some (.string x))
      (first | exact ⟨HG.out.key, c1⟩ | exact ⟨hG5.key, hG5.key.cells.2.1⟩)
      (first | (go_at_call 69; refine F2.out.mono ?_; rintro e w5 ⟨rfl, hw5⟩; have hG5 : St b w.heap.size (lay L1 6 (pad 16 x.data.toList)) V x y F T p w w5 := by { rw [hw5]; exact HG.out.turned _ }; clear hw5))
  have zL2 : (lay L1 6 (pad 16 x.data.toList)).length = 38 := by rw [lay_length _ _ _ (by rw [pad_length]; omega), zL]
  clear F2 c0 c1 c2 c3 c4 c5 HG hG zL
  generalize lay L1 6 (pad 16 x.data.toList) = L2 at *
  have HG := Lib.hid hG5.drew
  clear hG5
  have F3 := Lib.hid (fill_any b 22 16 16 y L2 (by omega) (by omega) w5.drew HG.out.rec')
  obtain ⟨c0, c1, c2, c3, c4, c5⟩ := HG.out.key.cells
  go_wp2_with fail
  go_region_held3 (fun W => Keyed W w.heap.size V x y F T p ∧ W.cell? ⟨w.heap.size, 2, none⟩ = some (.string y))
      (first | exact ⟨HG.out.key, c2⟩ | exact ⟨hG6.key, hG6.key.cells.2.2.1⟩)
      (first | (go_at_call 69; refine F3.out.mono ?_; rintro e w6 ⟨rfl, hw6⟩; have hG6 : St b w.heap.size (lay L2 22 (pad 16 y.data.toList)) V x y F T p w w6 := by { rw [hw6]; exact HG.out.turned _ }; clear hw6))
  go_wp2_with fail
  go_end0
  exact ⟨rfl, by have := hG6.rec'; rw [HL.out] at this; exact this, hG6.grown⟩
end Go.Proofs.Ytcdgcjpdlhknoaa.Pkt
