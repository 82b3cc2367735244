/-
  Package packet: Parse.
-/
import Derived.Test.YtcdgcjpdlhknoaaPktP
namespace Go.Proofs.Ytcdgcjpdlhknoaa.Pkt
open Go.RowKit Go.Shelf Txt Rgn

/-- The upper four bits of the first byte. -/
def top (s : ByteArray) : Nat := gv s 0 1 / 16
set_option maxRecDepth 100000 in
set_option maxHeartbeats 2000000 in
theorem Parse_empty (s : ByteArray) (hs : s.size = 0) : Tells 11 #[.string s] (noP 2) := by
  intro w
  have P0 := Lib.hid (packed_new w 0 ⟨#[]⟩ ⟨#[]⟩ 0 0 0 0)
  go_enter Try.func11, Try.ntmps11
  go_wp2_with fail
  refine (Oct.Get_no s 0 1 _ (by omega) (by omega) (by omega)).mono ?_
  rintro e w1 ⟨rfl, hb1⟩
  have P1 := Lib.hid (P0.out.kept hb1)
  have B1 := Lib.hid (below2 (below_alloc w _) hb1)
  clear hb1 P0
  obtain ⟨k0, k1, k2, k3, k4, k5, k6⟩ := P1.out.cells
  have fr := P1.out.free
  go_wp2_with fail
  refine seven_cells (C := fun W' => bodyPost _ _ _ _ _ W') P1.out ?_
  intro W6 hK6 hb6
  have B6 := Lib.hid (B1.out.trans hb6)
  clear hb6 k0 k1 k2 k3 k4 k5 k6 fr P1 B1
  obtain ⟨k0, k1, k2, k3, k4, k5, k6⟩ := hK6.cells
  exact bodyPost_ret (v := noP 2) (by simp [results, Try.results11, go_sem, k0, k1, k2, k3, k4, k5, k6]) rfl ⟨rfl, B6.out⟩

set_option maxRecDepth 100000 in
set_option maxHeartbeats 2000000 in
theorem Parse_other (s : ByteArray) (h0 : 0 < s.size) (hs : s.size ≤ 1099511627776) (ht : top s ≠ 4 ∧ top s ≠ 6) : Tells 11 #[.string s] (noP 3) := by
  intro w
  have P0 := Lib.hid (packed_new w 0 ⟨#[]⟩ ⟨#[]⟩ 0 0 0 0)
  have hg : Oct.getV s 0 1 = gv s 0 1 := rfl
  have hl := gv_lt s 0 1 (by omega)
  have G := Lib.hid hg
  unfold top at ht
  generalize gv s 0 1 = b at *
  clear hg
  have t4 : ((b : Int) / 16 == 4) = false := beq_false_of_ne (by omega)
  have t6 : ((b : Int) / 16 == 6) = false := beq_false_of_ne (by omega)
  clear ht
  go_enter Try.func11, Try.ntmps11
  go_wp2_with fail
  refine (Oct.Get_yes s 0 1 _ (by omega) (by omega)).mono ?_
  rintro e' w1 ⟨rfl, hb1⟩
  rw [G.out]
  have P1 := Lib.hid (P0.out.kept hb1)
  have B1 := Lib.hid (below2 (below_alloc w _) hb1)
  clear hb1 P0 G
  obtain ⟨k0, k1, k2, k3, k4, k5, k6⟩ := P1.out.cells
  have fr := P1.out.free
  go_wp2_with fail
  refine seven_cells (C := fun W' => bodyPost _ _ _ _ _ W') P1.out ?_
  intro W6 hK6 hb6
  have B6 := Lib.hid (B1.out.trans hb6)
  clear hb6 k0 k1 k2 k3 k4 k5 k6 fr P1 B1
  obtain ⟨k0, k1, k2, k3, k4, k5, k6⟩ := hK6.cells
  exact bodyPost_ret (v := noP 3) (by simp [results, Try.results11, go_sem, k0, k1, k2, k3, k4, k5, k6]) rfl ⟨rfl, B6.out⟩

set_option maxRecDepth 100000 in
set_option maxHeartbeats 2000000 in
theorem Parse_four (s : ByteArray) (h0 : 0 < s.size) (hs : s.size ≤ 1099511627776) (ht : top s = 4) (V : Int) (x y : ByteArray) (F T p f e : Int) (h : Tells 23 #[.int .i64 4, .string s, fnV 24] (outV V x y F T p f e)) : Tells 11 #[.string s] (outV V x y F T p f e) := by
  intro w
  have P0 := Lib.hid (packed_new w 0 ⟨#[]⟩ ⟨#[]⟩ 0 0 0 0)
  have hg : Oct.getV s 0 1 = gv s 0 1 := rfl
  have hl := gv_lt s 0 1 (by omega)
  have G := Lib.hid hg
  unfold top at ht
  generalize gv s 0 1 = b at *
  clear hg
  have t4 : ((b : Int) / 16 == 4) = true := beq_iff_eq.2 (by omega)
  have H := Lib.hid h
  clear ht h
  go_enter Try.func11, Try.ntmps11
  go_wp2_with fail
  refine (Oct.Get_yes s 0 1 _ (by omega) (by omega)).mono ?_
  rintro e' w1 ⟨rfl, hb1⟩
  rw [G.out]
  have P1 := Lib.hid (P0.out.kept hb1)
  have B1 := Lib.hid (below2 (below_alloc w _) hb1)
  clear hb1 P0 G
  obtain ⟨k0, k1, k2, k3, k4, k5, k6⟩ := P1.out.cells
  have fr := P1.out.free
  go_wp2_with fail
  refine (H.out _).mono ?_
  rintro e'' w2 ⟨rfl, hb2⟩
  have P2 := Lib.hid (P1.out.kept hb2)
  have B2 := Lib.hid (below2 B1.out hb2)
  clear hb2 P1 B1 k0 k1 k2 k3 k4 k5 k6 fr H
  obtain ⟨k0, k1, k2, k3, k4, k5, k6⟩ := P2.out.cells
  have fr := P2.out.free
  go_wp2_with fail
  refine seven_cells (C := fun W' => bodyPost _ _ _ _ _ W') P2.out ?_
  intro W6 hK6 hb6
  have B6 := Lib.hid (B2.out.trans hb6)
  clear hb6 k0 k1 k2 k3 k4 k5 k6 fr P2 B2
  obtain ⟨k0, k1, k2, k3, k4, k5, k6⟩ := hK6.cells
  exact bodyPost_ret (v := outV V x y F T p f e) (by simp [results, Try.results11, go_sem, k0, k1, k2, k3, k4, k5, k6]) rfl ⟨rfl, B6.out⟩

set_option maxRecDepth 100000 in
set_option maxHeartbeats 2000000 in
theorem Parse_six (s : ByteArray) (h0 : 0 < s.size) (hs : s.size ≤ 1099511627776) (ht : top s = 6) (V : Int) (x y : ByteArray) (F T p f e : Int) (h : Tells 25 #[.int .i64 6, .string s, fnV 26] (outV V x y F T p f e)) : Tells 11 #[.string s] (outV V x y F T p f e) := by
  intro w
  have P0 := Lib.hid (packed_new w 0 ⟨#[]⟩ ⟨#[]⟩ 0 0 0 0)
  have hg : Oct.getV s 0 1 = gv s 0 1 := rfl
  have hl := gv_lt s 0 1 (by omega)
  have G := Lib.hid hg
  unfold top at ht
  generalize gv s 0 1 = b at *
  clear hg
  have t4 : ((b : Int) / 16 == 4) = false := beq_false_of_ne (by omega)
  have t6 : ((b : Int) / 16 == 6) = true := beq_iff_eq.2 (by omega)
  have H := Lib.hid h
  clear ht h
  go_enter Try.func11, Try.ntmps11
  go_wp2_with fail
  refine (Oct.Get_yes s 0 1 _ (by omega) (by omega)).mono ?_
  rintro e' w1 ⟨rfl, hb1⟩
  rw [G.out]
  have P1 := Lib.hid (P0.out.kept hb1)
  have B1 := Lib.hid (below2 (below_alloc w _) hb1)
  clear hb1 P0 G
  obtain ⟨k0, k1, k2, k3, k4, k5, k6⟩ := P1.out.cells
  have fr := P1.out.free
  go_wp2_with fail
  refine (H.out _).mono ?_
  rintro e'' w2 ⟨rfl, hb2⟩
  have P2 := Lib.hid (P1.out.kept hb2)
  have B2 := Lib.hid (below2 B1.out hb2)
  clear hb2 P1 B1 k0 k1 k2 k3 k4 k5 k6 fr H
  obtain ⟨k0, k1, k2, k3, k4, k5, k6⟩ := P2.out.cells
  have fr := P2.out.free
  go_wp2_with fail
  refine seven_cells (C := fun W' => bodyPost _ _ _ _ _ W') P2.out ?_
  intro W6 hK6 hb6
  have B6 := Lib.hid (B2.out.trans hb6)
  clear hb6 k0 k1 k2 k3 k4 k5 k6 fr P2 B2
  obtain ⟨k0, k1, k2, k3, k4, k5, k6⟩ := hK6.cells
  exact bodyPost_ret (v := outV V x y F T p f e) (by simp [results, Try.results11, go_sem, k0, k1, k2, k3, k4, k5, k6]) rfl ⟨rfl, B6.out⟩

end Go.Proofs.Ytcdgcjpdlhknoaa.Pkt
