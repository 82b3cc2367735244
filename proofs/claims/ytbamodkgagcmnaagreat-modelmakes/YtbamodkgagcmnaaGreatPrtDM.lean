/-
  Package port: Parse.
-/
import Derived.Test.YtbamodkgagcmnaaGreatBPrtM
import Derived.Deep.RegionHeld3
import Derived.BigQuiet
import Derived.WalkSmall
set_option maxRecDepth 100000
namespace Go.Proofs.YtbamodkgagcmnaaGreat.Prt
open Go.RowKit Go.Shelf Txt Rgn

/-- The zero head, and an error. -/
abbrev badV (e : Int) : Value := .tuple #[.agg #[.int .i64 0, .int .i64 0, .int .i64 0], .int .i64 e]
/-- A head, and OK. -/
abbrev okV (a b f : Int) : Value := .tuple #[.agg #[.int .i64 a, .int .i64 b, .int .i64 f], .int .i64 0]
/-- How many bytes a text says that it has. -/
def sizeT (s : ByteArray) : Nat := gv s 12 1 / 16 * 4
def sizeU (s : ByteArray) : Nat := gv s 4 2

theorem head_cells {W : World} {b T : Nat} {v0 v1 v2 : Value} (h : W.heap[b]? = some (.cells #[v0, v1, v2] T (0, 0))) :
    W.cell? ⟨b, 0, none⟩ = some v0 ∧ W.cell? ⟨b, 1, none⟩ = some v1 ∧ W.cell? ⟨b, 2, none⟩ = some v2 ∧ W.frozen? ⟨b, 0, none⟩ = false ∧ W.frozen? ⟨b, 1, none⟩ = false ∧ W.frozen? ⟨b, 2, none⟩ = false :=
  ⟨by simp [World.cell?, h], by simp [World.cell?, h], by simp [World.cell?, h], by simp [World.frozen?, h], by simp [World.frozen?, h], by simp [World.frozen?, h]⟩
/-- The variable of the result, behind calls. -/
theorem res_cells {w W : World} {T : Nat} {o : Obj} {v0 v1 v2 : Value} (ho : o = .cells #[v0, v1, v2] T (0, 0)) (h : Below (w.alloc o).heap.size (w.alloc o) W) :
    W.cell? ⟨w.heap.size, 0, none⟩ = some v0 ∧ W.cell? ⟨w.heap.size, 1, none⟩ = some v1 ∧ W.cell? ⟨w.heap.size, 2, none⟩ = some v2 ∧ W.frozen? ⟨w.heap.size, 0, none⟩ = false ∧ W.frozen? ⟨w.heap.size, 1, none⟩ = false ∧ W.frozen? ⟨w.heap.size, 2, none⟩ = false := by
  subst ho
  exact head_cells (T := T) ((h.block w.heap.size (by simp)).trans (World.alloc_heap_new w _))

theorem tcp_sizes (s : ByteArray) (h : 20 ≤ s.size) (hs : s.size ≤ 1099511627776) (w : World) : Calls Tryz.prog 251 #[.agg #[], .string s] w fun e W' => e = .returned (.int .i64 (sizeT s : Nat)) ∧ Below w.heap.size w W' := tcp_size s h hs w
set_option maxRecDepth 100000 in
set_option maxHeartbeats 2000000 in
theorem Parse_tcp_good (s : ByteArray) (h : 20 ≤ s.size) (hs : s.size ≤ 1099511627776) (h2 : 20 ≤ sizeT s) (h3 : sizeT s ≤ s.size) (w : World) :
    Calls Tryz.prog 185 #[.int .i64 6, .string s] w fun e W' => e = .returned (okV (gv s 0 2 : Nat) (gv s 2 2 : Nat) (gv s 13 1 : Nat)) ∧ Below w.heap.size w W' := by
  have m1 := fun W => (at_tcp W).1
  have m2 := fun W => (at_tcp W).2.1
  have m3 := fun W => (at_tcp W).2.2.1
  have m4 := fun W => (at_tcp W).2.2.2.1
  have d1 : decide ((s.size : Int) < 20) = false := decide_eq_false (by omega)
  have d2 : decide (((sizeT s : Nat) : Int) < 20) = false := decide_eq_false (by omega)
  have d3 : decide ((s.size : Int) < ((sizeT s : Nat) : Int)) = false := decide_eq_false (by omega)
  go_enter Tryz.func185, Tryz.ntmps185
  go_wp2_with fail
  refine (protocols_any _).mono ?_
  rintro e w2 ⟨b, rfl, hown, hb⟩
  have hl := look_tcp hown
  clear hown
  go_wp2_with fail
  refine (tcp_least _).mono ?_
  rintro e w3 ⟨rfl, hb3⟩
  replace hb := below2 hb hb3
  clear hb3
  go_wp2_with fail
  refine (tcp_sizes s h hs _).mono ?_
  rintro e w4 ⟨rfl, hb4⟩
  replace hb := below2 hb hb4
  clear hb4
  go_wp2_with fail
  refine (tcp_least _).mono ?_
  rintro e w5 ⟨rfl, hb5⟩
  replace hb := below2 hb hb5
  clear hb5
  go_wp2_with fail
  refine (tcp_sizes s h hs _).mono ?_
  rintro e w6 ⟨rfl, hb6⟩
  replace hb := below2 hb hb6
  clear hb6
  go_wp2_with fail
  refine (number_any s 0 2 (by omega) (by omega) (by omega) hs _).mono ?_
  rintro e w7 ⟨rfl, hb7⟩
  replace hb := below2 hb hb7
  clear hb7
  go_wp2_with fail
  refine (number_any s 2 2 (by omega) (by omega) (by omega) hs _).mono ?_
  rintro e w8 ⟨rfl, hb8⟩
  replace hb := below2 hb hb8
  clear hb8
  go_wp2_with fail
  refine (tcp_flags s h hs _).mono ?_
  rintro e w9 ⟨rfl, hb9⟩
  replace hb := below2 hb hb9
  clear hb9
  obtain ⟨z0, z1, z2, f0, f1, f2⟩ := res_cells rfl hb
  replace hb := below2 (below_alloc w _) hb
  go_wp2_with fail
  refine bodyPost_ret (v := okV (gv s 0 2 : Nat) (gv s 2 2 : Nat) (gv s 13 1 : Nat)) (by simp [results, Tryz.results185, go_sem, z0, z1, z2]) rfl ⟨rfl, ?_⟩
  exact ((hb.setCell (p := ⟨w.heap.size, 0, none⟩) (by simp) _).setCell (p := ⟨w.heap.size, 1, none⟩) (by simp) _).setCell (p := ⟨w.heap.size, 2, none⟩) (by simp) _

theorem udp_sizes (s : ByteArray) (h : 8 ≤ s.size) (hs : s.size ≤ 1099511627776) (w : World) : Calls Tryz.prog 257 #[.agg #[], .string s] w fun e W' => e = .returned (.int .i64 (sizeU s : Nat)) ∧ Below w.heap.size w W' := udp_size s h hs w
set_option maxRecDepth 100000 in
set_option maxHeartbeats 2000000 in
theorem Parse_udp_good (s : ByteArray) (h : 8 ≤ s.size) (hs : s.size ≤ 1099511627776) (h2 : 8 ≤ sizeU s) (h3 : sizeU s ≤ s.size) (w : World) :
    Calls Tryz.prog 185 #[.int .i64 17, .string s] w fun e W' => e = .returned (okV (gv s 0 2 : Nat) (gv s 2 2 : Nat) 0) ∧ Below w.heap.size w W' := by
  have m1 := fun W => (at_udp W).1
  have m2 := fun W => (at_udp W).2.1
  have m3 := fun W => (at_udp W).2.2.1
  have m4 := fun W => (at_udp W).2.2.2.1
  have d1 : decide ((s.size : Int) < 8) = false := decide_eq_false (by omega)
  have d2 : decide (((sizeU s : Nat) : Int) < 8) = false := decide_eq_false (by omega)
  have d3 : decide ((s.size : Int) < ((sizeU s : Nat) : Int)) = false := decide_eq_false (by omega)
  go_enter Tryz.func185, Tryz.ntmps185
  go_wp2_with fail
  refine (protocols_any _).mono ?_
  rintro e w2 ⟨b, rfl, hown, hb⟩
  have hl := look_udp hown
  clear hown
  go_wp2_with fail
  refine (udp_least _).mono ?_
  rintro e w3 ⟨rfl, hb3⟩
  replace hb := below2 hb hb3
  clear hb3
  go_wp2_with fail
  refine (udp_sizes s h hs _).mono ?_
  rintro e w4 ⟨rfl, hb4⟩
  replace hb := below2 hb hb4
  clear hb4
  go_wp2_with fail
  refine (udp_least _).mono ?_
  rintro e w5 ⟨rfl, hb5⟩
  replace hb := below2 hb hb5
  clear hb5
  go_wp2_with fail
  refine (udp_sizes s h hs _).mono ?_
  rintro e w6 ⟨rfl, hb6⟩
  replace hb := below2 hb hb6
  clear hb6
  go_wp2_with fail
  refine (number_any s 0 2 (by omega) (by omega) (by omega) hs _).mono ?_
  rintro e w7 ⟨rfl, hb7⟩
  replace hb := below2 hb hb7
  clear hb7
  go_wp2_with fail
  refine (number_any s 2 2 (by omega) (by omega) (by omega) hs _).mono ?_
  rintro e w8 ⟨rfl, hb8⟩
  replace hb := below2 hb hb8
  clear hb8
  go_wp2_with fail
  refine (udp_flags s _).mono ?_
  rintro e w9 ⟨rfl, hb9⟩
  replace hb := below2 hb hb9
  clear hb9
  obtain ⟨z0, z1, z2, f0, f1, f2⟩ := res_cells rfl hb
  replace hb := below2 (below_alloc w _) hb
  go_wp2_with fail
  refine bodyPost_ret (v := okV (gv s 0 2 : Nat) (gv s 2 2 : Nat) 0) (by simp [results, Tryz.results185, go_sem, z0, z1, z2]) rfl ⟨rfl, ?_⟩
  exact ((hb.setCell (p := ⟨w.heap.size, 0, none⟩) (by simp) _).setCell (p := ⟨w.heap.size, 1, none⟩) (by simp) _).setCell (p := ⟨w.heap.size, 2, none⟩) (by simp) _

end Go.Proofs.YtbamodkgagcmnaaGreat.Prt

set_option maxRecDepth 100000
namespace Go.Proofs.YtbamodkgagcmnaaGreat.Prt
open Go.RowKit Go.Shelf Txt Rgn

/-- No text, and an error. -/
abbrev noV (e : Int) : Value := .tuple #[.string ⟨#[]⟩, .int .i64 e]
/-- The ports. -/
def ports (x y : Int) : ByteArray := Oct.str (Oct.bytes x.toNat 2) ++ Oct.str (Oct.bytes y.toNat 2)
/-- What is put, of 6 and of 17. -/
def putT (x y f : Int) : ByteArray := ports x y ++ tailT f
def putU (x y : Int) : ByteArray := ports x y ++ tailU
theorem tailT_size (f : Int) : (tailT f).size = 16 := by
  unfold tailT
  rw [ByteArray.size_append, ByteArray.size_append, str_size (Oct.bytes f.toNat 1), Oct.bytes_length]
  rfl
/-- What stands behind the ports of 6, under a name of its own. -/
theorem tcp_tails (f : Int) (h0 : 0 ≤ f) (h1 : f ≤ 255) (w : World) :
    Calls Tryz.prog 252 #[.agg #[], .int .i64 f] w fun e W' => ∃ S : ByteArray, e = .returned (.string S) ∧ S.size ≤ 16 ∧ Hid (S = tailT f) ∧ Below w.heap.size w W' :=
  (tcp_tail f h0 h1 w).mono fun _ _ ⟨he, hb⟩ => ⟨_, he, by rw [tailT_size]; omega, Lib.hid rfl, hb⟩
theorem udp_tails (f : Int) (w : World) :
    Calls Tryz.prog 258 #[.agg #[], .int .i64 f] w fun e W' => ∃ S : ByteArray, e = .returned (.string S) ∧ S.size ≤ 16 ∧ Hid (S = tailU) ∧ Below w.heap.size w W' :=
  (udp_tail f w).mono fun _ _ ⟨he, hb⟩ => ⟨_, he, by decide, Lib.hid rfl, hb⟩

/-- The numbers that are put, kept behind calls. -/
theorem nums_keep {w W W' : World} {b : Nat} {v0 v1 v2 : Value} (h : Below w.heap.size w W ∧ W.cell? ⟨b, 0, none⟩ = some v0 ∧ W.cell? ⟨b, 1, none⟩ = some v1 ∧ W.cell? ⟨b, 2, none⟩ = some v2) (hb : Below W.heap.size W W') :
    Below w.heap.size w W' ∧ W'.cell? ⟨b, 0, none⟩ = some v0 ∧ W'.cell? ⟨b, 1, none⟩ = some v1 ∧ W'.cell? ⟨b, 2, none⟩ = some v2 :=
  ⟨below2 h.1 hb, (hb.cell (World.block_lt_of_cell? W _ h.2.1)).trans h.2.1, (hb.cell (World.block_lt_of_cell? W _ h.2.2.1)).trans h.2.2.1, (hb.cell (World.block_lt_of_cell? W _ h.2.2.2)).trans h.2.2.2⟩

set_option maxRecDepth 100000 in
set_option maxHeartbeats 4000000 in
theorem Put_tcp_good (x y f : Int) (h1 : 0 ≤ x) (h2 : x ≤ 65535) (h3 : 0 ≤ y) (h4 : y ≤ 65535) (h5 : 0 ≤ f) (h6 : f ≤ 255) (w : World) :
    Calls Tryz.prog 118 #[.int .i64 6, .agg #[.int .i64 x, .int .i64 y, .int .i64 f]] w fun e W' => e = .returned (.tuple #[.string (putT x y f), .int .i64 0]) ∧ Below w.heap.size w W' := by
  have m5 := fun W => (at_tcp W).2.2.2.2.1
  have m6 := fun W => (at_tcp W).2.2.2.2.2
  have d1 : decide (x < 0) = false := decide_eq_false (by omega)
  have d2 : decide (65535 < x) = false := decide_eq_false (by omega)
  have d3 : decide (y < 0) = false := decide_eq_false (by omega)
  have d4 : decide (65535 < y) = false := decide_eq_false (by omega)
  have d5 : decide (f < 0) = false := decide_eq_false (by omega)
  have d6 : decide (255 < f) = false := decide_eq_false (by omega)
  go_enter Tryz.func118, Tryz.ntmps118
  go_wp2_with fail
  refine (protocols_any _).mono ?_
  rintro e w2 ⟨b, rfl, hown, hb⟩
  have hl := look_tcp hown
  clear hown
  obtain ⟨z0, z1, z2, f0, f1, f2⟩ := res_cells rfl hb
  replace hb := below2 (below_alloc w _) hb
  go_wp2_with fail
  go_region_held3 (fun W => Below w.heap.size w W ∧ W.cell? ⟨w.heap.size, 0, none⟩ = some (.int .i64 x) ∧ W.cell? ⟨w.heap.size, 1, none⟩ = some (.int .i64 y) ∧ W.cell? ⟨w.heap.size, 2, none⟩ = some (.int .i64 f))
    (first | exact ⟨hb.drew, z0, z1, z2⟩ | exact nums_keep (by assumption) hb3)
    (first | (go_at_call 250; (with_reducible refine (tcp_most _).mono ?_); rintro e w3 ⟨rfl, hb3⟩))
  rename_i hHeld
  clear hb z0 z1 z2 f0 f1 f2
  obtain ⟨hb, z0, z1, z2⟩ := hHeld
  clear hb3 m5
  have q1 : IntKind.u64.wrap x = x := IntWalk.u64_in _ (by omega)
  have q2 : IntKind.u64.wrap y = y := IntWalk.u64_in _ (by omega)
  have A1 : ∀ (S T : ByteArray) (u : World), S.size ≤ 8 → T.size ≤ 8 → (Op.stringOp .add S T).run Tryz.prog u = .ok (.string (S ++ T)) u := fun S T u hS hT => run_string_add_sum u _ _ (by omega)
  have A2 : ∀ (S T U : ByteArray) (u : World), S.size ≤ 8 → T.size ≤ 8 → U.size ≤ 16 → (Op.stringOp .add (S ++ T) U).run Tryz.prog u = .ok (.string (S ++ T ++ U)) u := fun S T U u hS hT hU => run_string_add_sum u _ _ (by rw [ByteArray.size_append]; omega)
  go_wp2_with fail
  go_region_held3 (fun W => Below w.heap.size w W ∧ W.cell? ⟨w.heap.size, 0, none⟩ = some (.int .i64 x) ∧ W.cell? ⟨w.heap.size, 1, none⟩ = some (.int .i64 y) ∧ W.cell? ⟨w.heap.size, 2, none⟩ = some (.int .i64 f))
    (first | exact ⟨hb.drew, z0, z1, z2⟩ | exact nums_keep (by assumption) hb4)
    (first | (go_at_call 123; (with_reducible refine (Put_some _ _ _ ?_ ?_ ?_).mono ?_); omega; omega; omega; rintro e w4 ⟨S, rfl, hS, HS, hb4⟩) | (go_at_call 252; (with_reducible refine (tcp_tails _ ?_ ?_ _).mono ?_); omega; omega; rintro e w4 ⟨S, rfl, hS, HS, hb4⟩))
  rename_i u1 S1 hS1 HS1 hc1 u2 S2 hS2 HS2 hc2 hHeld
  go_wp2
  exact bodyPost_ret (v := .tuple #[.string (S1 ++ S2 ++ S), .int .i64 0]) (by simp [results, Tryz.results118, go_sem]) rfl ⟨by rw [HS1.out, HS2.out, HS.out]; rfl, hHeld.1⟩

set_option maxRecDepth 100000 in
set_option maxHeartbeats 4000000 in
theorem Put_udp_good (x y : Int) (h1 : 0 ≤ x) (h2 : x ≤ 65535) (h3 : 0 ≤ y) (h4 : y ≤ 65535)  (w : World) :
    Calls Tryz.prog 118 #[.int .i64 17, .agg #[.int .i64 x, .int .i64 y, .int .i64 0]] w fun e W' => e = .returned (.tuple #[.string (putU x y), .int .i64 0]) ∧ Below w.heap.size w W' := by
  have m5 := fun W => (at_udp W).2.2.2.2.1
  have m6 := fun W => (at_udp W).2.2.2.2.2
  have d1 : decide (x < 0) = false := decide_eq_false (by omega)
  have d2 : decide (65535 < x) = false := decide_eq_false (by omega)
  have d3 : decide (y < 0) = false := decide_eq_false (by omega)
  have d4 : decide (65535 < y) = false := decide_eq_false (by omega)
  go_enter Tryz.func118, Tryz.ntmps118
  go_wp2_with fail
  refine (protocols_any _).mono ?_
  rintro e w2 ⟨b, rfl, hown, hb⟩
  have hl := look_udp hown
  clear hown
  obtain ⟨z0, z1, z2, f0, f1, f2⟩ := res_cells rfl hb
  replace hb := below2 (below_alloc w _) hb
  go_wp2_with fail
  go_region_held3 (fun W => Below w.heap.size w W ∧ W.cell? ⟨w.heap.size, 0, none⟩ = some (.int .i64 x) ∧ W.cell? ⟨w.heap.size, 1, none⟩ = some (.int .i64 y) ∧ W.cell? ⟨w.heap.size, 2, none⟩ = some (.int .i64 0))
    (first | exact ⟨hb.drew, z0, z1, z2⟩ | exact nums_keep (by assumption) hb3)
    (first | (go_at_call 256; (with_reducible refine (udp_most _).mono ?_); rintro e w3 ⟨rfl, hb3⟩))
  rename_i hHeld
  clear hb z0 z1 z2 f0 f1 f2
  obtain ⟨hb, z0, z1, z2⟩ := hHeld
  clear hb3 m5
  have q1 : IntKind.u64.wrap x = x := IntWalk.u64_in _ (by omega)
  have q2 : IntKind.u64.wrap y = y := IntWalk.u64_in _ (by omega)
  have A1 : ∀ (S T : ByteArray) (u : World), S.size ≤ 8 → T.size ≤ 8 → (Op.stringOp .add S T).run Tryz.prog u = .ok (.string (S ++ T)) u := fun S T u hS hT => run_string_add_sum u _ _ (by omega)
  have A2 : ∀ (S T U : ByteArray) (u : World), S.size ≤ 8 → T.size ≤ 8 → U.size ≤ 16 → (Op.stringOp .add (S ++ T) U).run Tryz.prog u = .ok (.string (S ++ T ++ U)) u := fun S T U u hS hT hU => run_string_add_sum u _ _ (by rw [ByteArray.size_append]; omega)
  go_wp2_with fail
  go_region_held3 (fun W => Below w.heap.size w W ∧ W.cell? ⟨w.heap.size, 0, none⟩ = some (.int .i64 x) ∧ W.cell? ⟨w.heap.size, 1, none⟩ = some (.int .i64 y) ∧ W.cell? ⟨w.heap.size, 2, none⟩ = some (.int .i64 0))
    (first | exact ⟨hb.drew, z0, z1, z2⟩ | exact nums_keep (by assumption) hb4)
    (first | (go_at_call 123; (with_reducible refine (Put_some _ _ _ ?_ ?_ ?_).mono ?_); omega; omega; omega; rintro e w4 ⟨S, rfl, hS, HS, hb4⟩) | (go_at_call 258; (with_reducible refine (udp_tails _ _).mono ?_); rintro e w4 ⟨S, rfl, hS, HS, hb4⟩))
  rename_i u1 S1 hS1 HS1 hc1 u2 S2 hS2 HS2 hc2 hHeld
  go_wp2
  exact bodyPost_ret (v := .tuple #[.string (S1 ++ S2 ++ S), .int .i64 0]) (by simp [results, Tryz.results118, go_sem]) rfl ⟨by rw [HS1.out, HS2.out, HS.out]; rfl, hHeld.1⟩

end Go.Proofs.YtbamodkgagcmnaaGreat.Prt
