/-
  Package packet: Of.
-/
import Derived.Test.YtcdgcjpdlhknoaaPktF
namespace Go.Proofs.Ytcdgcjpdlhknoaa.Pkt
open Go.RowKit Go.Shelf Txt Rgn
open Lib (byteCells)

theorem lay_zeros (n : Nat) (l : List UInt8) : lay (List.replicate n 0) 0 (l.take n) = pad n l := by
  unfold lay pad
  rw [List.take_zero, List.nil_append, Nat.zero_add, List.drop_replicate, List.length_take]
  congr 2; omega
/-- The cells of an empty record. -/
abbrev zeroR : Array Value := #[.int .u8 0, .int .u8 0, .int .u8 0, .int .u8 0, .int .u8 0, .int .u8 0, .int .u8 0, .int .u8 0, .int .u8 0, .int .u8 0, .int .u8 0, .int .u8 0, .int .u8 0, .int .u8 0, .int .u8 0, .int .u8 0, .int .u8 0, .int .u8 0, .int .u8 0, .int .u8 0, .int .u8 0, .int .u8 0, .int .u8 0, .int .u8 0, .int .u8 0, .int .u8 0, .int .u8 0, .int .u8 0, .int .u8 0, .int .u8 0, .int .u8 0, .int .u8 0, .int .u8 0, .int .u8 0, .int .u8 0, .int .u8 0, .int .u8 0, .int .u8 0]
theorem rec_zero (W : World) : Rec (W.alloc (.cells zeroR 71)) W.heap.size (List.replicate 38 0) := rec_new W
/-- A key, and true; or none, and false. -/
def ofV (ok : Bool) (V : Int) (x y : ByteArray) (F T p : Int) : Value := match ok with
  | true => .tuple #[keyV V x y F T p, .bool true]
  | false => .tuple #[zeroK, .bool false]

set_option maxRecDepth 100000 in
set_option maxHeartbeats 2000000 in
theorem Of_gen (B : ByteArray) (V : Int) (x y : ByteArray) (F T p : Int) (ok : Bool)
    (hk : ∀ b W, Rec W b (pad 38 B.data.toList) → Calls Try.prog 37 #[.pointer (some ⟨b, 0, none⟩)] W fun e W' => e = .returned (.tuple #[keyV V x y F T p, .bool ok]) ∧ Below W.heap.size W W')
    (same : Bool) (hs : decide (recS V x y F T p = B) = same) (w : World) :
    Calls Try.prog 20 #[.string B] w fun e W' => e = .returned (ofV (ok && same) V x y F T p) ∧ Below w.heap.size w W' := by
  have K1 := (keyed_new w 0 ⟨#[]⟩ ⟨#[]⟩ 0 0 0).alloc (.cells zeroR 71)
  have R1 := rec_zero (w.alloc (.cells (keyC 0 ⟨#[]⟩ ⟨#[]⟩ 0 0 0) 24))
  rw [World.size_alloc] at R1
  have B1 := (below_alloc w (.cells (keyC 0 ⟨#[]⟩ ⟨#[]⟩ 0 0 0) 24)).alloc (by simp) (.cells zeroR 71)
  have e1 := fun sT ty => run_copy_rec _ _ _ R1 sT ty 0 38 38 (by simp) B
  rw [lay_zeros] at e1
  have hz : (B.data.toList.take 38).length ≤ 38 := List.length_take_le ..
  have R2 := Lib.hid (R1.turned (pad 38 B.data.toList))
  have K2 := Lib.hid ((recW_other _ (w.heap.size + 1) w.heap.size (pad 38 B.data.toList) (by omega)).trans K1)
  have B2 := Lib.hid (B1.trans ((recW_below _ (w.heap.size + 1) (pad 38 B.data.toList)).mono (Nat.le_succ _)))
  have T1 := text_cmp (recS V x y F T p) B
  rw [hs] at T1
  have HK := Lib.hid (hk (w.heap.size + 1))
  clear hk K1 R1 B1 hs
  generalize (B.data.toList.take 38).length = z at *
  have hL : (pad 38 B.data.toList).length = 38 := pad_length ..
  generalize pad 38 B.data.toList = L at *
  go_enter Try.func20, Try.ntmps20
  go_wp2_with fail
  refine (HK.out _ R2.out).mono ?_
  rintro e w3 ⟨rfl, hb3⟩
  have R3 := Lib.hid ((R2.out.kept hb3).kept (below_alloc w3 (.cells (keyC V x y F T p) 24)))
  have K3 := Lib.hid ((Keyed.kept (V := 0) (x := ⟨#[]⟩) (y := ⟨#[]⟩) (F := 0) (T := 0) (p := 0) K2.out hb3).alloc (.cells (keyC V x y F T p) 24))
  have hw3 : w.heap.size + 1 < w3.heap.size := Nat.lt_of_lt_of_le (Array.getElem?_eq_some_iff.1 R2.out).1 hb3.size
  have B3 := Lib.hid (below2 (below2 B2.out hb3) (below_alloc w3 (.cells (keyC V x y F T p) 24)))
  have N3 := Lib.hid (keyed_new w3 V x y F T p)
  have P3 := Lib.hid (put_any (w.heap.size + 1) L hL V x y F T p _ R3.out)
  obtain ⟨c0, c1, c2, c3, c4, c5⟩ := N3.out.cells
  clear e1 R2 K2 B2 HK hb3
  go_wp2_with fail
  refine P3.out.mono ?_
  rintro e w4 ⟨rfl, hR4, hG4⟩
  have e4 := run_text _ _ _ hR4 (recL_length ..)
  have K4 := Lib.hid (K3.out.grown hG4 (by omega))
  have N4 := Lib.hid (N3.out.grown hG4 (by omega))
  have B4 := Lib.hid (B3.out.trans (grown_below hG4 (by omega) (by simp; omega)))
  change (convert 74 9 (.slice (some ⟨w.heap.size + 1, 0, none⟩) 38 38)).run Try.prog w4 = .ok (.string (recS V x y F T p)) w4 at e4
  clear hR4 hG4 P3 N3 K3 R3 B3 c0 c1 c2 c3 c4 c5 hw3
  obtain ⟨c0, c1, c2, c3, c4, c5⟩ := N4.out.cells
  obtain ⟨k0, k1, k2, k3, k4, k5⟩ := K4.out.cells
  have fr := K4.out.free
  generalize recS V x y F T p = S at *
  cases ok with
  | false =>
    go_wp2_with fail
    refine six_cells (C := fun W' => bodyPost _ _ _ _ _ W') K4.out ?_
    intro W6 hK6 hb6
    have B6 := Lib.hid (B4.out.trans hb6)
    clear hb6 k0 k1 k2 k3 k4 k5 c0 c1 c2 c3 c4 c5 fr K4 N4 B4 e4
    obtain ⟨k0, k1, k2, k3, k4, k5⟩ := hK6.cells
    exact bodyPost_ret (v := .tuple #[zeroK, .bool false]) (by simp [results, Try.results20, go_sem, k0, k1, k2, k3, k4, k5]) rfl ⟨rfl, B6.out⟩
  | true =>
    cases same with
    | false =>
      go_wp2_with fail
      refine six_cells (C := fun W' => bodyPost _ _ _ _ _ W') K4.out ?_
      intro W6 hK6 hb6
      have B6 := Lib.hid (B4.out.trans hb6)
      clear hb6 k0 k1 k2 k3 k4 k5 c0 c1 c2 c3 c4 c5 fr K4 N4 B4 e4
      obtain ⟨k0, k1, k2, k3, k4, k5⟩ := hK6.cells
      exact bodyPost_ret (v := .tuple #[zeroK, .bool false]) (by simp [results, Try.results20, go_sem, k0, k1, k2, k3, k4, k5]) rfl ⟨rfl, B6.out⟩
    | true =>
      go_wp2_with fail
      refine six_cells (C := fun W' => bodyPost _ _ _ _ _ W') K4.out ?_
      intro W6 hK6 hb6
      have B6 := Lib.hid (B4.out.trans hb6)
      clear hb6 k0 k1 k2 k3 k4 k5 c0 c1 c2 c3 c4 c5 fr K4 N4 B4 e4
      obtain ⟨k0, k1, k2, k3, k4, k5⟩ := hK6.cells
      exact bodyPost_ret (v := .tuple #[keyV V x y F T p, .bool true]) (by simp [results, Try.results20, go_sem, k0, k1, k2, k3, k4, k5]) rfl ⟨rfl, B6.out⟩

/-- Of a key's bytes Of tells the key. -/
theorem Of_yes (V : Int) (x y : ByteArray) (F T p : Int) (h : right V x y F T p) (w : World) :
    Calls Try.prog 20 #[.string (recS V x y F T p)] w fun e W' => e = .returned (.tuple #[keyV V x y F T p, .bool true]) ∧ Below w.heap.size w W' := by
  have e : pad 38 (recS V x y F T p).data.toList = recL V x y F T p := by
    rw [recS_list, pad_long _ _ (by rw [recL_length]; omega), List.take_of_length_le (by rw [recL_length]; omega)]
  exact Of_gen (recS V x y F T p) V x y F T p true (fun b W hR => key_right b V x y F T p h W (e ▸ hR)) true (decide_eq_true rfl) w
/-- Of other texts it tells none. -/
theorem Of_no (B : ByteArray) (h : ∀ V x y F T p, right V x y F T p → recS V x y F T p ≠ B) (w : World) :
    Calls Try.prog 20 #[.string B] w fun e W' => e = .returned (.tuple #[zeroK, .bool false]) ∧ Below w.heap.size w W' := by
  by_cases hok : okR (Oct.str (pad 38 B.data.toList))
  · have hn := okR_right (Oct.str (pad 38 B.data.toList)) (by rw [str_size, pad_length]) hok _ rfl
    exact Of_gen B _ _ _ _ _ _ true (fun b W hR => key_good b _ (pad_length ..) hok _ rfl (okR_addr _ hok).1 (okR_addr _ hok).2 W hR) false (decide_eq_false (h _ _ _ _ _ _ hn)) w
  · exact Of_gen B _ _ _ _ _ _ false (fun b W hR => key_bad b _ (pad_length ..) hok W hR) _ rfl w
end Go.Proofs.Ytcdgcjpdlhknoaa.Pkt
