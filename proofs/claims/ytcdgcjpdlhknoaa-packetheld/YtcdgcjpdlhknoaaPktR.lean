/-
  Package packet: put, of heads of either version; Put; Closing.
-/
import Derived.Test.YtcdgcjpdlhknoaaPktP
import Derived.Laws.BitsAllLaws
namespace Go.Proofs.Ytcdgcjpdlhknoaa.Pkt
open Go.RowKit Go.Shelf Txt Rgn

/-- A text, and an error. -/
abbrev txV (R : ByteArray) (e : Int) : Value := .tuple #[.string R, .int .i64 e]

set_option maxRecDepth 100000 in
set_option maxHeartbeats 2000000 in
theorem put4_port (V : Int) (x y : ByteArray) (F T p f e : Int) (q : Tells 58 #[.int .i64 p, .agg #[.int .i64 F, .int .i64 T, .int .i64 f]] (txV ⟨#[]⟩ e)) (he : e ≠ 0) :
    Tells 29 #[pktV V x y F T p f, fnV 30] (txV ⟨#[]⟩ e) := by
  have he2 : (e != 0) = true := bne_iff_ne.2 he
  clear he
  intro w
  have P0 := Lib.hid ((packed_new w V x y F T p f).alloc (.cells (keyC V x y F T p) 24))
  have K0 := Lib.hid (keyed_new (w.alloc (.cells (pktC V x y F T p f) 26)) V x y F T p)
  rw [World.size_alloc] at K0
  have B0 := Lib.hid (below2 (below_alloc w (.cells (pktC V x y F T p f) 26)) (below_alloc _ (.cells (keyC V x y F T p) 24)))
  obtain ⟨k0, k1, k2, k3, k4, k5, k6⟩ := P0.out.cells
  have Q := Lib.hid q
  clear q
  go_enter Try.func29, Try.ntmps29
  go_wp2_with fail
  refine (Q.out _).mono ?_
  rintro e' w1 ⟨rfl, hb1⟩
  have B1 := Lib.hid (below2 B0.out hb1)
  have K1 := Lib.hid (K0.out.kept hb1)
  clear hb1 P0 K0 B0 k0 k1 k2 k3 k4 k5 k6 Q
  go_wp2_with fail
  exact bodyPost_ret (v := txV ⟨#[]⟩ e) (by simp [results, Try.results29, go_sem]) rfl ⟨rfl, B1.out⟩

set_option maxRecDepth 100000 in
set_option maxHeartbeats 2000000 in
theorem put4_head (V : Int) (x y : ByteArray) (F T p f : Int) (S R : ByteArray) (e : Int) (q : Tells 58 #[.int .i64 p, .agg #[.int .i64 F, .int .i64 T, .int .i64 f]] (txV S 0)) (h : Tells 30 #[.agg #[.string x, .string y, .int .i64 p], .string S] (txV R e)) :
    Tells 29 #[pktV V x y F T p f, fnV 30] (txV R e) := by
  have H := Lib.hid h
  clear h
  intro w
  have P0 := Lib.hid ((packed_new w V x y F T p f).alloc (.cells (keyC V x y F T p) 24))
  have K0 := Lib.hid (keyed_new (w.alloc (.cells (pktC V x y F T p f) 26)) V x y F T p)
  rw [World.size_alloc] at K0
  have B0 := Lib.hid (below2 (below_alloc w (.cells (pktC V x y F T p f) 26)) (below_alloc _ (.cells (keyC V x y F T p) 24)))
  obtain ⟨k0, k1, k2, k3, k4, k5, k6⟩ := P0.out.cells
  have Q := Lib.hid q
  clear q
  go_enter Try.func29, Try.ntmps29
  go_wp2_with fail
  refine (Q.out _).mono ?_
  rintro e' w1 ⟨rfl, hb1⟩
  have B1 := Lib.hid (below2 B0.out hb1)
  have K1 := Lib.hid (K0.out.kept hb1)
  clear hb1 P0 K0 B0 k0 k1 k2 k3 k4 k5 k6 Q
  obtain ⟨c0, c1, c2, c3, c4, c5⟩ := K1.out.cells
  go_wp2_with fail
  refine (H.out _).mono ?_
  rintro e' w2 ⟨rfl, hb2⟩
  have B2 := Lib.hid (below2 B1.out hb2)
  clear hb2 K1 B1 c0 c1 c2 c3 c4 c5 H
  go_wp2_with fail
  exact bodyPost_ret (v := txV R e) (by simp [results, Try.results29, go_sem]) rfl ⟨rfl, B2.out⟩

set_option maxRecDepth 100000 in
set_option maxHeartbeats 2000000 in
theorem put6_port (V : Int) (x y : ByteArray) (F T p f e : Int) (q : Tells 58 #[.int .i64 p, .agg #[.int .i64 F, .int .i64 T, .int .i64 f]] (txV ⟨#[]⟩ e)) (he : e ≠ 0) :
    Tells 31 #[pktV V x y F T p f, fnV 32] (txV ⟨#[]⟩ e) := by
  have he2 : (e != 0) = true := bne_iff_ne.2 he
  clear he
  intro w
  have P0 := Lib.hid ((packed_new w V x y F T p f).alloc (.cells (keyC V x y F T p) 24))
  have K0 := Lib.hid (keyed_new (w.alloc (.cells (pktC V x y F T p f) 26)) V x y F T p)
  rw [World.size_alloc] at K0
  have B0 := Lib.hid (below2 (below_alloc w (.cells (pktC V x y F T p f) 26)) (below_alloc _ (.cells (keyC V x y F T p) 24)))
  obtain ⟨k0, k1, k2, k3, k4, k5, k6⟩ := P0.out.cells
  have Q := Lib.hid q
  clear q
  go_enter Try.func31, Try.ntmps31
  go_wp2_with fail
  refine (Q.out _).mono ?_
  rintro e' w1 ⟨rfl, hb1⟩
  have B1 := Lib.hid (below2 B0.out hb1)
  have K1 := Lib.hid (K0.out.kept hb1)
  clear hb1 P0 K0 B0 k0 k1 k2 k3 k4 k5 k6 Q
  go_wp2_with fail
  exact bodyPost_ret (v := txV ⟨#[]⟩ e) (by simp [results, Try.results31, go_sem]) rfl ⟨rfl, B1.out⟩

set_option maxRecDepth 100000 in
set_option maxHeartbeats 2000000 in
theorem put6_head (V : Int) (x y : ByteArray) (F T p f : Int) (S R : ByteArray) (e : Int) (q : Tells 58 #[.int .i64 p, .agg #[.int .i64 F, .int .i64 T, .int .i64 f]] (txV S 0)) (h : Tells 32 #[.agg #[.string x, .string y, .int .i64 p], .string S] (txV R e)) :
    Tells 31 #[pktV V x y F T p f, fnV 32] (txV R e) := by
  have H := Lib.hid h
  clear h
  intro w
  have P0 := Lib.hid ((packed_new w V x y F T p f).alloc (.cells (keyC V x y F T p) 24))
  have K0 := Lib.hid (keyed_new (w.alloc (.cells (pktC V x y F T p f) 26)) V x y F T p)
  rw [World.size_alloc] at K0
  have B0 := Lib.hid (below2 (below_alloc w (.cells (pktC V x y F T p f) 26)) (below_alloc _ (.cells (keyC V x y F T p) 24)))
  obtain ⟨k0, k1, k2, k3, k4, k5, k6⟩ := P0.out.cells
  have Q := Lib.hid q
  clear q
  go_enter Try.func31, Try.ntmps31
  go_wp2_with fail
  refine (Q.out _).mono ?_
  rintro e' w1 ⟨rfl, hb1⟩
  have B1 := Lib.hid (below2 B0.out hb1)
  have K1 := Lib.hid (K0.out.kept hb1)
  clear hb1 P0 K0 B0 k0 k1 k2 k3 k4 k5 k6 Q
  obtain ⟨c0, c1, c2, c3, c4, c5⟩ := K1.out.cells
  go_wp2_with fail
  refine (H.out _).mono ?_
  rintro e' w2 ⟨rfl, hb2⟩
  have B2 := Lib.hid (below2 B1.out hb2)
  clear hb2 K1 B1 c0 c1 c2 c3 c4 c5 H
  go_wp2_with fail
  exact bodyPost_ret (v := txV R e) (by simp [results, Try.results31, go_sem]) rfl ⟨rfl, B2.out⟩

set_option maxRecDepth 100000 in
set_option maxHeartbeats 2000000 in
theorem Put_other (V : Int) (x y : ByteArray) (F T p f : Int) (h4 : V ≠ 4) (h6 : V ≠ 6) : Tells 14 #[pktV V x y F T p f] (txV ⟨#[]⟩ 3) := by
  have n4 : (V == 4) = false := beq_false_of_ne h4
  have n6 : (V == 6) = false := beq_false_of_ne h6
  clear h4 h6
  intro w
  have P0 := Lib.hid (packed_new w V x y F T p f)
  have B0 := Lib.hid (below_alloc w (.cells (pktC V x y F T p f) 26))
  obtain ⟨k0, k1, k2, k3, k4, k5, k6⟩ := P0.out.cells
  go_enter Try.func14, Try.ntmps14
  go_wp2_with fail
  exact bodyPost_ret (v := txV ⟨#[]⟩ 3) (by simp [results, Try.results14, go_sem]) rfl ⟨rfl, B0.out⟩

set_option maxRecDepth 100000 in
set_option maxHeartbeats 2000000 in
theorem Put_four (x y : ByteArray) (F T p f : Int) (R : ByteArray) (e : Int) (h : Tells 29 #[pktV 4 x y F T p f, fnV 30] (txV R e)) : Tells 14 #[pktV 4 x y F T p f] (txV R e) := by
  have H := Lib.hid h
  clear h
  intro w
  have P0 := Lib.hid (packed_new w 4 x y F T p f)
  have B0 := Lib.hid (below_alloc w (.cells (pktC 4 x y F T p f) 26))
  obtain ⟨k0, k1, k2, k3, k4, k5, k6⟩ := P0.out.cells
  go_enter Try.func14, Try.ntmps14
  go_wp2_with fail
  refine (H.out _).mono ?_
  rintro e' w1 ⟨rfl, hb1⟩
  have B1 := Lib.hid (below2 B0.out hb1)
  clear hb1 P0 B0 k0 k1 k2 k3 k4 k5 k6 H
  go_wp2_with fail
  exact bodyPost_ret (v := txV R e) (by simp [results, Try.results14, go_sem]) rfl ⟨rfl, B1.out⟩

set_option maxRecDepth 100000 in
set_option maxHeartbeats 2000000 in
theorem Put_six (x y : ByteArray) (F T p f : Int) (R : ByteArray) (e : Int) (h : Tells 31 #[pktV 6 x y F T p f, fnV 32] (txV R e)) : Tells 14 #[pktV 6 x y F T p f] (txV R e) := by
  have H := Lib.hid h
  clear h
  intro w
  have P0 := Lib.hid (packed_new w 6 x y F T p f)
  have B0 := Lib.hid (below_alloc w (.cells (pktC 6 x y F T p f) 26))
  obtain ⟨k0, k1, k2, k3, k4, k5, k6⟩ := P0.out.cells
  go_enter Try.func14, Try.ntmps14
  go_wp2_with fail
  refine (H.out _).mono ?_
  rintro e' w1 ⟨rfl, hb1⟩
  have B1 := Lib.hid (below2 B0.out hb1)
  clear hb1 P0 B0 k0 k1 k2 k3 k4 k5 k6 H
  go_wp2_with fail
  exact bodyPost_ret (v := txV R e) (by simp [results, Try.results14, go_sem]) rfl ⟨rfl, B1.out⟩

set_option maxRecDepth 100000 in
set_option maxHeartbeats 2000000 in
theorem Closing_any (V : Int) (x y : ByteArray) (F T p f : Int) : Tells 16 #[pktV V x y F T p f] (.bool (p == 6 && bits .and .i64 f 5 != 0)) := by
  intro w
  have P0 := Lib.hid (packed_new w V x y F T p f)
  have B0 := Lib.hid (below_alloc w (.cells (pktC V x y F T p f) 26))
  obtain ⟨k0, k1, k2, k3, k4, k5, k6⟩ := P0.out.cells
  by_cases h6 : p = 6
  · subst h6
    go_enter Try.func16, Try.ntmps16
    go_wp2_with fail
    go_ret
    exact ⟨rfl, B0.out⟩
  · have n6 : (p == 6) = false := beq_false_of_ne h6
    clear h6
    go_enter Try.func16, Try.ntmps16
    go_wp2_with fail
    go_ret
    exact ⟨by rw [n6]; rfl, B0.out⟩
end Go.Proofs.Ytcdgcjpdlhknoaa.Pkt
