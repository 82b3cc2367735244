/-
  Package port: Parse.
-/
import Derived.Test.YtbamodkgagcmnaaGreatBPrtQ
set_option maxRecDepth 100000
namespace Go.Proofs.YtbamodkgagcmnaaGreat.Prt
open Go.RowKit Go.Shelf Txt Rgn

/-- The zero head, and an error. -/
abbrev badV (e : Int) : Value := .tuple #[.agg #[.int .i64 0, .int .i64 0, .int .i64 0], .int .i64 e]
/-- A head, and OK. -/
abbrev okV (a b f : Int) : Value := .tuple #[.agg #[.int .i64 a, .int .i64 b, .int .i64 f], .int .i64 0]
/-- How many bytes a text says that it has. -/
def sizeT (s : ByteArray) : Nat := gv s 12 1 / 16 * 4
def sizeU (s : ByteArray) : Nat := gv s 4 2

theorem head_cells {W : World} {b T : Nat} {v0 v1 v2 : Value} (h : W.heap[b]? = some (.cells #[v0, v1, v2] T (0, 0))) :
    W.cell? ⟨b, 0, none⟩ = some v0 ∧ W.cell? ⟨b, 1, none⟩ = some v1 ∧ W.cell? ⟨b, 2, none⟩ = some v2 ∧ W.frozen? ⟨b, 0, none⟩ = false ∧ W.frozen? ⟨b, 1, none⟩ = false ∧ W.frozen? ⟨b, 2, none⟩ = false :=
  ⟨by simp [World.cell?, h], by simp [World.cell?, h], by simp [World.cell?, h], by simp [World.frozen?, h], by simp [World.frozen?, h], by simp [World.frozen?, h]⟩
/-- The variable of the result, behind calls. -/
theorem res_cells {w W : World} {T : Nat} {o : Obj} {v0 v1 v2 : Value} (ho : o = .cells #[v0, v1, v2] T (0, 0)) (h : Below (w.alloc o).heap.size (w.alloc o) W) :
    W.cell? ⟨w.heap.size, 0, none⟩ = some v0 ∧ W.cell? ⟨w.heap.size, 1, none⟩ = some v1 ∧ W.cell? ⟨w.heap.size, 2, none⟩ = some v2 ∧ W.frozen? ⟨w.heap.size, 0, none⟩ = false ∧ W.frozen? ⟨w.heap.size, 1, none⟩ = false ∧ W.frozen? ⟨w.heap.size, 2, none⟩ = false := by
  subst ho
  exact head_cells (T := T) ((h.block w.heap.size (by simp)).trans (World.alloc_heap_new w _))

set_option maxRecDepth 100000 in
set_option maxHeartbeats 2000000 in
theorem Parse_none (p : Int) (hp : (Lit.int .i64 p).wf = true) (h6 : p ≠ 6) (h17 : p ≠ 17) (s : ByteArray) (w : World) :
    Calls Tryz.prog 185 #[.int .i64 p, .string s] w fun e W' => e = .returned (badV 7) ∧ Below w.heap.size w W' := by
  go_enter Tryz.func185, Tryz.ntmps185
  go_wp2_with fail
  refine (protocols_any _).mono ?_
  rintro e w2 ⟨b, rfl, hown, hb⟩
  obtain ⟨v, hl⟩ := look_none hown p hp h6 h17
  clear hown
  obtain ⟨z0, z1, z2, f0, f1, f2⟩ := res_cells rfl hb
  replace hb := below2 (below_alloc w _) hb
  go_wp2_with fail
  refine bodyPost_ret (v := badV 7) (by simp [results, Tryz.results185, go_sem, z0, z1, z2]) rfl ⟨rfl, ?_⟩
  exact ((hb.setCell (p := ⟨w.heap.size, 0, none⟩) (by simp) _).setCell (p := ⟨w.heap.size, 1, none⟩) (by simp) _).setCell (p := ⟨w.heap.size, 2, none⟩) (by simp) _

set_option maxRecDepth 100000 in
set_option maxHeartbeats 2000000 in
theorem Parse_tcp_short (s : ByteArray) (h : s.size < 20) (w : World) :
    Calls Tryz.prog 185 #[.int .i64 6, .string s] w fun e W' => e = .returned (badV 2) ∧ Below w.heap.size w W' := by
  have m1 := fun W => (at_tcp W).1
  have d1 : decide ((s.size : Int) < 20) = true := decide_eq_true (by omega)
  go_enter Tryz.func185, Tryz.ntmps185
  go_wp2_with fail
  refine (protocols_any _).mono ?_
  rintro e w2 ⟨b, rfl, hown, hb⟩
  have hl := look_tcp hown
  clear hown
  go_wp2_with fail
  refine (tcp_least _).mono ?_
  rintro e w3 ⟨rfl, hb3⟩
  replace hb := below2 hb hb3
  clear hb3
  obtain ⟨z0, z1, z2, f0, f1, f2⟩ := res_cells rfl hb
  replace hb := below2 (below_alloc w _) hb
  go_wp2_with fail
  refine bodyPost_ret (v := badV 2) (by simp [results, Tryz.results185, go_sem, z0, z1, z2]) rfl ⟨rfl, ?_⟩
  exact ((hb.setCell (p := ⟨w.heap.size, 0, none⟩) (by simp) _).setCell (p := ⟨w.heap.size, 1, none⟩) (by simp) _).setCell (p := ⟨w.heap.size, 2, none⟩) (by simp) _

theorem tcp_sizes (s : ByteArray) (h : 20 ≤ s.size) (hs : s.size ≤ 1099511627776) (w : World) : Calls Tryz.prog 251 #[.agg #[], .string s] w fun e W' => e = .returned (.int .i64 (sizeT s : Nat)) ∧ Below w.heap.size w W' := tcp_size s h hs w
set_option maxRecDepth 100000 in
set_option maxHeartbeats 2000000 in
theorem Parse_tcp_low (s : ByteArray) (h : 20 ≤ s.size) (hs : s.size ≤ 1099511627776) (h2 : sizeT s < 20) (w : World) :
    Calls Tryz.prog 185 #[.int .i64 6, .string s] w fun e W' => e = .returned (badV 8) ∧ Below w.heap.size w W' := by
  have m1 := fun W => (at_tcp W).1
  have m2 := fun W => (at_tcp W).2.1
  have m3 := fun W => (at_tcp W).2.2.1
  have d1 : decide ((s.size : Int) < 20) = false := decide_eq_false (by omega)
  have d2 : decide (((sizeT s : Nat) : Int) < 20) = true := decide_eq_true (by omega)
  go_enter Tryz.func185, Tryz.ntmps185
  go_wp2_with fail
  refine (protocols_any _).mono ?_
  rintro e w2 ⟨b, rfl, hown, hb⟩
  have hl := look_tcp hown
  clear hown
  go_wp2_with fail
  refine (tcp_least _).mono ?_
  rintro e w3 ⟨rfl, hb3⟩
  replace hb := below2 hb hb3
  clear hb3
  go_wp2_with fail
  refine (tcp_sizes s h hs _).mono ?_
  rintro e w4 ⟨rfl, hb4⟩
  replace hb := below2 hb hb4
  clear hb4
  go_wp2_with fail
  refine (tcp_least _).mono ?_
  rintro e w5 ⟨rfl, hb5⟩
  replace hb := below2 hb hb5
  clear hb5
  go_wp2_with fail
  refine (tcp_wrong _).mono ?_
  rintro e w6 ⟨rfl, hb6⟩
  replace hb := below2 hb hb6
  clear hb6
  obtain ⟨z0, z1, z2, f0, f1, f2⟩ := res_cells rfl hb
  replace hb := below2 (below_alloc w _) hb
  go_wp2_with fail
  refine bodyPost_ret (v := badV 8) (by simp [results, Tryz.results185, go_sem, z0, z1, z2]) rfl ⟨rfl, ?_⟩
  exact ((hb.setCell (p := ⟨w.heap.size, 0, none⟩) (by simp) _).setCell (p := ⟨w.heap.size, 1, none⟩) (by simp) _).setCell (p := ⟨w.heap.size, 2, none⟩) (by simp) _

set_option maxRecDepth 100000 in
set_option maxHeartbeats 2000000 in
theorem Parse_tcp_high (s : ByteArray) (h : 20 ≤ s.size) (hs : s.size ≤ 1099511627776) (h2 : 20 ≤ sizeT s) (h3 : s.size < sizeT s) (w : World) :
    Calls Tryz.prog 185 #[.int .i64 6, .string s] w fun e W' => e = .returned (badV 8) ∧ Below w.heap.size w W' := by
  have m1 := fun W => (at_tcp W).1
  have m2 := fun W => (at_tcp W).2.1
  have m3 := fun W => (at_tcp W).2.2.1
  have d1 : decide ((s.size : Int) < 20) = false := decide_eq_false (by omega)
  have d2 : decide (((sizeT s : Nat) : Int) < 20) = false := decide_eq_false (by omega)
  have d3 : decide ((s.size : Int) < ((sizeT s : Nat) : Int)) = true := decide_eq_true (by omega)
  go_enter Tryz.func185, Tryz.ntmps185
  go_wp2_with fail
  refine (protocols_any _).mono ?_
  rintro e w2 ⟨b, rfl, hown, hb⟩
  have hl := look_tcp hown
  clear hown
  go_wp2_with fail
  refine (tcp_least _).mono ?_
  rintro e w3 ⟨rfl, hb3⟩
  replace hb := below2 hb hb3
  clear hb3
  go_wp2_with fail
  refine (tcp_sizes s h hs _).mono ?_
  rintro e w4 ⟨rfl, hb4⟩
  replace hb := below2 hb hb4
  clear hb4
  go_wp2_with fail
  refine (tcp_least _).mono ?_
  rintro e w5 ⟨rfl, hb5⟩
  replace hb := below2 hb hb5
  clear hb5
  go_wp2_with fail
  refine (tcp_sizes s h hs _).mono ?_
  rintro e w6 ⟨rfl, hb6⟩
  replace hb := below2 hb hb6
  clear hb6
  go_wp2_with fail
  refine (tcp_wrong _).mono ?_
  rintro e w7 ⟨rfl, hb7⟩
  replace hb := below2 hb hb7
  clear hb7
  obtain ⟨z0, z1, z2, f0, f1, f2⟩ := res_cells rfl hb
  replace hb := below2 (below_alloc w _) hb
  go_wp2_with fail
  refine bodyPost_ret (v := badV 8) (by simp [results, Tryz.results185, go_sem, z0, z1, z2]) rfl ⟨rfl, ?_⟩
  exact ((hb.setCell (p := ⟨w.heap.size, 0, none⟩) (by simp) _).setCell (p := ⟨w.heap.size, 1, none⟩) (by simp) _).setCell (p := ⟨w.heap.size, 2, none⟩) (by simp) _

set_option maxRecDepth 100000 in
set_option maxHeartbeats 2000000 in
theorem Parse_tcp_good (s : ByteArray) (h : 20 ≤ s.size) (hs : s.size ≤ 1099511627776) (h2 : 20 ≤ sizeT s) (h3 : sizeT s ≤ s.size) (w : World) :
    Calls Tryz.prog 185 #[.int .i64 6, .string s] w fun e W' => e = .returned (okV (gv s 0 2 : Nat) (gv s 2 2 : Nat) (gv s 13 1 : Nat)) ∧ Below w.heap.size w W' := by
  have m1 := fun W => (at_tcp W).1
  have m2 := fun W => (at_tcp W).2.1
  have m3 := fun W => (at_tcp W).2.2.1
  have m4 := fun W => (at_tcp W).2.2.2.1
  have d1 : decide ((s.size : Int) < 20) = false := decide_eq_false (by omega)
  have d2 : decide (((sizeT s : Nat) : Int) < 20) = false := decide_eq_false (by omega)
  have d3 : decide ((s.size : Int) < ((sizeT s : Nat) : Int)) = false := decide_eq_false (by omega)
  go_enter Tryz.func185, Tryz.ntmps185
  go_wp2_with fail
  refine (protocols_any _).mono ?_
  rintro e w2 ⟨b, rfl, hown, hb⟩
  have hl := look_tcp hown
  clear hown
  go_wp2_with fail
  refine (tcp_least _).mono ?_
  rintro e w3 ⟨rfl, hb3⟩
  replace hb := below2 hb hb3
  clear hb3
  go_wp2_with fail
  refine (tcp_sizes s h hs _).mono ?_
  rintro e w4 ⟨rfl, hb4⟩
  replace hb := below2 hb hb4
  clear hb4
  go_wp2_with fail
  refine (tcp_least _).mono ?_
  rintro e w5 ⟨rfl, hb5⟩
  replace hb := below2 hb hb5
  clear hb5
  go_wp2_with fail
  refine (tcp_sizes s h hs _).mono ?_
  rintro e w6 ⟨rfl, hb6⟩
  replace hb := below2 hb hb6
  clear hb6
  go_wp2_with fail
  refine (number_any s 0 2 (by omega) (by omega) (by omega) hs _).mono ?_
  rintro e w7 ⟨rfl, hb7⟩
  replace hb := below2 hb hb7
  clear hb7
  go_wp2_with fail
  refine (number_any s 2 2 (by omega) (by omega) (by omega) hs _).mono ?_
  rintro e w8 ⟨rfl, hb8⟩
  replace hb := below2 hb hb8
  clear hb8
  go_wp2_with fail
  refine (tcp_flags s h hs _).mono ?_
  rintro e w9 ⟨rfl, hb9⟩
  replace hb := below2 hb hb9
  clear hb9
  obtain ⟨z0, z1, z2, f0, f1, f2⟩ := res_cells rfl hb
  replace hb := below2 (below_alloc w _) hb
  go_wp2_with fail
  refine bodyPost_ret (v := okV (gv s 0 2 : Nat) (gv s 2 2 : Nat) (gv s 13 1 : Nat)) (by simp [results, Tryz.results185, go_sem, z0, z1, z2]) rfl ⟨rfl, ?_⟩
  exact ((hb.setCell (p := ⟨w.heap.size, 0, none⟩) (by simp) _).setCell (p := ⟨w.heap.size, 1, none⟩) (by simp) _).setCell (p := ⟨w.heap.size, 2, none⟩) (by simp) _

set_option maxRecDepth 100000 in
set_option maxHeartbeats 2000000 in
theorem Parse_udp_short (s : ByteArray) (h : s.size < 8) (w : World) :
    Calls Tryz.prog 185 #[.int .i64 17, .string s] w fun e W' => e = .returned (badV 2) ∧ Below w.heap.size w W' := by
  have m1 := fun W => (at_udp W).1
  have d1 : decide ((s.size : Int) < 8) = true := decide_eq_true (by omega)
  go_enter Tryz.func185, Tryz.ntmps185
  go_wp2_with fail
  refine (protocols_any _).mono ?_
  rintro e w2 ⟨b, rfl, hown, hb⟩
  have hl := look_udp hown
  clear hown
  go_wp2_with fail
  refine (udp_least _).mono ?_
  rintro e w3 ⟨rfl, hb3⟩
  replace hb := below2 hb hb3
  clear hb3
  obtain ⟨z0, z1, z2, f0, f1, f2⟩ := res_cells rfl hb
  replace hb := below2 (below_alloc w _) hb
  go_wp2_with fail
  refine bodyPost_ret (v := badV 2) (by simp [results, Tryz.results185, go_sem, z0, z1, z2]) rfl ⟨rfl, ?_⟩
  exact ((hb.setCell (p := ⟨w.heap.size, 0, none⟩) (by simp) _).setCell (p := ⟨w.heap.size, 1, none⟩) (by simp) _).setCell (p := ⟨w.heap.size, 2, none⟩) (by simp) _

theorem udp_sizes (s : ByteArray) (h : 8 ≤ s.size) (hs : s.size ≤ 1099511627776) (w : World) : Calls Tryz.prog 257 #[.agg #[], .string s] w fun e W' => e = .returned (.int .i64 (sizeU s : Nat)) ∧ Below w.heap.size w W' := udp_size s h hs w
set_option maxRecDepth 100000 in
set_option maxHeartbeats 2000000 in
theorem Parse_udp_low (s : ByteArray) (h : 8 ≤ s.size) (hs : s.size ≤ 1099511627776) (h2 : sizeU s < 8) (w : World) :
    Calls Tryz.prog 185 #[.int .i64 17, .string s] w fun e W' => e = .returned (badV 4) ∧ Below w.heap.size w W' := by
  have m1 := fun W => (at_udp W).1
  have m2 := fun W => (at_udp W).2.1
  have m3 := fun W => (at_udp W).2.2.1
  have d1 : decide ((s.size : Int) < 8) = false := decide_eq_false (by omega)
  have d2 : decide (((sizeU s : Nat) : Int) < 8) = true := decide_eq_true (by omega)
  go_enter Tryz.func185, Tryz.ntmps185
  go_wp2_with fail
  refine (protocols_any _).mono ?_
  rintro e w2 ⟨b, rfl, hown, hb⟩
  have hl := look_udp hown
  clear hown
  go_wp2_with fail
  refine (udp_least _).mono ?_
  rintro e w3 ⟨rfl, hb3⟩
  replace hb := below2 hb hb3
  clear hb3
  go_wp2_with fail
  refine (udp_sizes s h hs _).mono ?_
  rintro e w4 ⟨rfl, hb4⟩
  replace hb := below2 hb hb4
  clear hb4
  go_wp2_with fail
  refine (udp_least _).mono ?_
  rintro e w5 ⟨rfl, hb5⟩
  replace hb := below2 hb hb5
  clear hb5
  go_wp2_with fail
  refine (udp_wrong _).mono ?_
  rintro e w6 ⟨rfl, hb6⟩
  replace hb := below2 hb hb6
  clear hb6
  obtain ⟨z0, z1, z2, f0, f1, f2⟩ := res_cells rfl hb
  replace hb := below2 (below_alloc w _) hb
  go_wp2_with fail
  refine bodyPost_ret (v := badV 4) (by simp [results, Tryz.results185, go_sem, z0, z1, z2]) rfl ⟨rfl, ?_⟩
  exact ((hb.setCell (p := ⟨w.heap.size, 0, none⟩) (by simp) _).setCell (p := ⟨w.heap.size, 1, none⟩) (by simp) _).setCell (p := ⟨w.heap.size, 2, none⟩) (by simp) _

set_option maxRecDepth 100000 in
set_option maxHeartbeats 2000000 in
theorem Parse_udp_high (s : ByteArray) (h : 8 ≤ s.size) (hs : s.size ≤ 1099511627776) (h2 : 8 ≤ sizeU s) (h3 : s.size < sizeU s) (w : World) :
    Calls Tryz.prog 185 #[.int .i64 17, .string s] w fun e W' => e = .returned (badV 4) ∧ Below w.heap.size w W' := by
  have m1 := fun W => (at_udp W).1
  have m2 := fun W => (at_udp W).2.1
  have m3 := fun W => (at_udp W).2.2.1
  have d1 : decide ((s.size : Int) < 8) = false := decide_eq_false (by omega)
  have d2 : decide (((sizeU s : Nat) : Int) < 8) = false := decide_eq_false (by omega)
  have d3 : decide ((s.size : Int) < ((sizeU s : Nat) : Int)) = true := decide_eq_true (by omega)
  go_enter Tryz.func185, Tryz.ntmps185
  go_wp2_with fail
  refine (protocols_any _).mono ?_
  rintro e w2 ⟨b, rfl, hown, hb⟩
  have hl := look_udp hown
  clear hown
  go_wp2_with fail
  refine (udp_least _).mono ?_
  rintro e w3 ⟨rfl, hb3⟩
  replace hb := below2 hb hb3
  clear hb3
  go_wp2_with fail
  refine (udp_sizes s h hs _).mono ?_
  rintro e w4 ⟨rfl, hb4⟩
  replace hb := below2 hb hb4
  clear hb4
  go_wp2_with fail
  refine (udp_least _).mono ?_
  rintro e w5 ⟨rfl, hb5⟩
  replace hb := below2 hb hb5
  clear hb5
  go_wp2_with fail
  refine (udp_sizes s h hs _).mono ?_
  rintro e w6 ⟨rfl, hb6⟩
  replace hb := below2 hb hb6
  clear hb6
  go_wp2_with fail
  refine (udp_wrong _).mono ?_
  rintro e w7 ⟨rfl, hb7⟩
  replace hb := below2 hb hb7
  clear hb7
  obtain ⟨z0, z1, z2, f0, f1, f2⟩ := res_cells rfl hb
  replace hb := below2 (below_alloc w _) hb
  go_wp2_with fail
  refine bodyPost_ret (v := badV 4) (by simp [results, Tryz.results185, go_sem, z0, z1, z2]) rfl ⟨rfl, ?_⟩
  exact ((hb.setCell (p := ⟨w.heap.size, 0, none⟩) (by simp) _).setCell (p := ⟨w.heap.size, 1, none⟩) (by simp) _).setCell (p := ⟨w.heap.size, 2, none⟩) (by simp) _

set_option maxRecDepth 100000 in
set_option maxHeartbeats 2000000 in
theorem Parse_udp_good (s : ByteArray) (h : 8 ≤ s.size) (hs : s.size ≤ 1099511627776) (h2 : 8 ≤ sizeU s) (h3 : sizeU s ≤ s.size) (w : World) :
    Calls Tryz.prog 185 #[.int .i64 17, .string s] w fun e W' => e = .returned (okV (gv s 0 2 : Nat) (gv s 2 2 : Nat) 0) ∧ Below w.heap.size w W' := by
  have m1 := fun W => (at_udp W).1
  have m2 := fun W => (at_udp W).2.1
  have m3 := fun W => (at_udp W).2.2.1
  have m4 := fun W => (at_udp W).2.2.2.1
  have d1 : decide ((s.size : Int) < 8) = false := decide_eq_false (by omega)
  have d2 : decide (((sizeU s : Nat) : Int) < 8) = false := decide_eq_false (by omega)
  have d3 : decide ((s.size : Int) < ((sizeU s : Nat) : Int)) = false := decide_eq_false (by omega)
  go_enter Tryz.func185, Tryz.ntmps185
  go_wp2_with fail
  refine (protocols_any _).mono ?_
  rintro e w2 ⟨b, rfl, hown, hb⟩
  have hl := look_udp hown
  clear hown
  go_wp2_with fail
  refine (udp_least _).mono ?_
  rintro e w3 ⟨rfl, hb3⟩
  replace hb := below2 hb hb3
  clear hb3
  go_wp2_with fail
  refine (udp_sizes s h hs _).mono ?_
  rintro e w4 ⟨rfl, hb4⟩
  replace hb := below2 hb hb4
  clear hb4
  go_wp2_with fail
  refine (udp_least _).mono ?_
  rintro e w5 ⟨rfl, hb5⟩
  replace hb := below2 hb hb5
  clear hb5
  go_wp2_with fail
  refine (udp_sizes s h hs _).mono ?_
  rintro e w6 ⟨rfl, hb6⟩
  replace hb := below2 hb hb6
  clear hb6
  go_wp2_with fail
  refine (number_any s 0 2 (by omega) (by omega) (by omega) hs _).mono ?_
  rintro e w7 ⟨rfl, hb7⟩
  replace hb := below2 hb hb7
  clear hb7
  go_wp2_with fail
  refine (number_any s 2 2 (by omega) (by omega) (by omega) hs _).mono ?_
  rintro e w8 ⟨rfl, hb8⟩
  replace hb := below2 hb hb8
  clear hb8
  go_wp2_with fail
  refine (udp_flags s _).mono ?_
  rintro e w9 ⟨rfl, hb9⟩
  replace hb := below2 hb hb9
  clear hb9
  obtain ⟨z0, z1, z2, f0, f1, f2⟩ := res_cells rfl hb
  replace hb := below2 (below_alloc w _) hb
  go_wp2_with fail
  refine bodyPost_ret (v := okV (gv s 0 2 : Nat) (gv s 2 2 : Nat) 0) (by simp [results, Tryz.results185, go_sem, z0, z1, z2]) rfl ⟨rfl, ?_⟩
  exact ((hb.setCell (p := ⟨w.heap.size, 0, none⟩) (by simp) _).setCell (p := ⟨w.heap.size, 1, none⟩) (by simp) _).setCell (p := ⟨w.heap.size, 2, none⟩) (by simp) _

end Go.Proofs.YtbamodkgagcmnaaGreat.Prt
