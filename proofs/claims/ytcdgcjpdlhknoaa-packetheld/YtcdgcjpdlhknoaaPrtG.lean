/-
  The document's answer for port (package gangplankref06): its Put tells what port's tells.
-/
import Derived.Test.YtcdgcjpdlhknoaaPrtE
import Derived.Test.YtcdgcjpdlhknoaaOctD
import Derived.Deep.RegionHeld3
namespace Go.Proofs.Ytcdgcjpdlhknoaa.Prt
open Go.RowKit Go.Shelf Txt

/-- Is a number from 0 to another one? -/
def inB (n m : Int) : Bool := decide (0 ≤ n) && decide (n ≤ m)
set_option maxHeartbeats 800000 in
theorem in_any (n m : Int) (w : World) : Calls Try.prog 67 #[.int .i64 n, .int .i64 m] w fun e W' => e = .returned (.bool (inB n m)) ∧ w = W' := by
  by_cases h : 0 ≤ n
  · have E := Lib.hid (show inB n m = decide (n ≤ m) by unfold inB; rw [decide_eq_true h]; rfl)
    have d0 : decide (0 ≤ n) = true := decide_eq_true h
    go_enter Try.func67, Try.ntmps67
    go_wp2
    all_goals go_ret
    all_goals exact ⟨by rw [E.out]; rfl, rfl⟩
  · have E := Lib.hid (show inB n m = false by unfold inB; rw [decide_eq_false h]; rfl)
    have d0 : decide (0 ≤ n) = false := decide_eq_false h
    go_enter Try.func67, Try.ntmps67
    go_wp2
    all_goals go_ret
    all_goals exact ⟨by rw [E.out]; rfl, rfl⟩
theorem in_is (n m : Int) {b : Bool} (h : inB n m = b) (w : World) : Calls Try.prog 67 #[.int .i64 n, .int .i64 m] w fun e W' => e = .returned (.bool b) ∧ w = W' := h ▸ in_any n m w
theorem in_yes {n m : Int} (h0 : 0 ≤ n) (h1 : n ≤ m) : inB n m = true := by unfold inB; rw [decide_eq_true h0, decide_eq_true h1]; rfl
theorem in_no {n m : Int} (h : n < 0 ∨ m < n) : inB n m = false := by
  unfold inB
  rcases h with h | h
  · rw [decide_eq_false (by omega)]; rfl
  · rw [decide_eq_false (p := n ≤ m) (by omega), Bool.and_false]

/-- What the document's Put of octet answers, under a name of its own. -/
theorem refPut_some (v n : Int) (w : World) (hv0 : 0 ≤ v) (hv : v ≤ 18446744073709551615) (h : 1 ≤ n ∧ n ≤ 2) :
    Calls Try.prog 39 #[.int .u64 v, .int .i64 n] w fun e W' => ∃ S : ByteArray, e = .returned (.string S) ∧ S.size ≤ 2 ∧ Hid (S = Oct.str (Oct.bytes v.toNat n.toNat)) ∧ Below w.heap.size w W' :=
  (Oct.refPut_yes v n w hv0 hv (by omega)).mono fun _ _ ⟨he, hb⟩ => ⟨_, he, by rw [str_size, Oct.bytes_length]; omega, Lib.hid rfl, hb⟩

set_option maxRecDepth 100000 in
set_option maxHeartbeats 3200000 in
theorem refPut_none (p : Int) (h6 : p ≠ 6) (h17 : p ≠ 17) (x y f : Int) (w : World) :
    Calls Try.prog 33 #[.int .i64 p, .agg #[.int .i64 x, .int .i64 y, .int .i64 f]] w fun e W' => e = .returned (noV 7) ∧ Below w.heap.size w W' := by
  have n6 : (p != 6) = true := bne_iff_ne.2 h6
  have n17 : (p != 17) = true := bne_iff_ne.2 h17
  go_enter Try.func33, Try.ntmps33
  go_wp2_with fail
  exact bodyPost_ret (v := noV 7) (by simp [results, Try.results33, go_sem]) rfl ⟨rfl, below_alloc w _⟩

set_option maxRecDepth 100000 in
set_option maxHeartbeats 3200000 in
theorem refPut_tcp_from (x y f : Int) (h : x < 0 ∨ 65535 < x) (w : World) :
    Calls Try.prog 33 #[.int .i64 6, .agg #[.int .i64 x, .int .i64 y, .int .i64 f]] w fun e W' => e = .returned (noV 1) ∧ Below w.heap.size w W' := by
  go_enter Try.func33, Try.ntmps33
  go_wp2_with fail
  refine (in_is x 65535 (in_no h) _).mono ?_
  rintro e w1 ⟨rfl, rfl⟩
  go_wp2_with fail
  exact bodyPost_ret (v := noV 1) (by simp [results, Try.results33, go_sem]) rfl ⟨rfl, below_alloc w _⟩

set_option maxRecDepth 100000 in
set_option maxHeartbeats 3200000 in
theorem refPut_tcp_to (x y f : Int) (h1 : 0 ≤ x) (h2 : x ≤ 65535) (h : y < 0 ∨ 65535 < y) (w : World) :
    Calls Try.prog 33 #[.int .i64 6, .agg #[.int .i64 x, .int .i64 y, .int .i64 f]] w fun e W' => e = .returned (noV 1) ∧ Below w.heap.size w W' := by
  go_enter Try.func33, Try.ntmps33
  go_wp2_with fail
  refine (in_is x 65535 (in_yes h1 h2) _).mono ?_
  rintro e w1 ⟨rfl, rfl⟩
  go_wp2_with fail
  refine (in_is y 65535 (in_no h) _).mono ?_
  rintro e w1 ⟨rfl, rfl⟩
  go_wp2_with fail
  exact bodyPost_ret (v := noV 1) (by simp [results, Try.results33, go_sem]) rfl ⟨rfl, below_alloc w _⟩

set_option maxRecDepth 100000 in
set_option maxHeartbeats 3200000 in
theorem refPut_tcp_flags (x y f : Int) (h1 : 0 ≤ x) (h2 : x ≤ 65535) (h3 : 0 ≤ y) (h4 : y ≤ 65535) (h : f < 0 ∨ 255 < f) (w : World) :
    Calls Try.prog 33 #[.int .i64 6, .agg #[.int .i64 x, .int .i64 y, .int .i64 f]] w fun e W' => e = .returned (noV 1) ∧ Below w.heap.size w W' := by
  go_enter Try.func33, Try.ntmps33
  go_wp2_with fail
  refine (in_is x 65535 (in_yes h1 h2) _).mono ?_
  rintro e w1 ⟨rfl, rfl⟩
  go_wp2_with fail
  refine (in_is y 65535 (in_yes h3 h4) _).mono ?_
  rintro e w1 ⟨rfl, rfl⟩
  go_wp2_with fail
  refine (in_is f 255 (in_no h) _).mono ?_
  rintro e w1 ⟨rfl, rfl⟩
  go_wp2_with fail
  exact bodyPost_ret (v := noV 1) (by simp [results, Try.results33, go_sem]) rfl ⟨rfl, below_alloc w _⟩

set_option maxRecDepth 100000 in
set_option maxHeartbeats 3200000 in
theorem refPut_udp_from (x y f : Int) (h : x < 0 ∨ 65535 < x) (w : World) :
    Calls Try.prog 33 #[.int .i64 17, .agg #[.int .i64 x, .int .i64 y, .int .i64 f]] w fun e W' => e = .returned (noV 1) ∧ Below w.heap.size w W' := by
  go_enter Try.func33, Try.ntmps33
  go_wp2_with fail
  refine (in_is x 65535 (in_no h) _).mono ?_
  rintro e w1 ⟨rfl, rfl⟩
  go_wp2_with fail
  exact bodyPost_ret (v := noV 1) (by simp [results, Try.results33, go_sem]) rfl ⟨rfl, below_alloc w _⟩

set_option maxRecDepth 100000 in
set_option maxHeartbeats 3200000 in
theorem refPut_udp_to (x y f : Int) (h1 : 0 ≤ x) (h2 : x ≤ 65535) (h : y < 0 ∨ 65535 < y) (w : World) :
    Calls Try.prog 33 #[.int .i64 17, .agg #[.int .i64 x, .int .i64 y, .int .i64 f]] w fun e W' => e = .returned (noV 1) ∧ Below w.heap.size w W' := by
  go_enter Try.func33, Try.ntmps33
  go_wp2_with fail
  refine (in_is x 65535 (in_yes h1 h2) _).mono ?_
  rintro e w1 ⟨rfl, rfl⟩
  go_wp2_with fail
  refine (in_is y 65535 (in_no h) _).mono ?_
  rintro e w1 ⟨rfl, rfl⟩
  go_wp2_with fail
  exact bodyPost_ret (v := noV 1) (by simp [results, Try.results33, go_sem]) rfl ⟨rfl, below_alloc w _⟩

set_option maxRecDepth 100000 in
set_option maxHeartbeats 3200000 in
theorem refPut_udp_flags (x y f : Int) (h1 : 0 ≤ x) (h2 : x ≤ 65535) (h3 : 0 ≤ y) (h4 : y ≤ 65535) (h : f < 0 ∨ 255 < f) (w : World) :
    Calls Try.prog 33 #[.int .i64 17, .agg #[.int .i64 x, .int .i64 y, .int .i64 f]] w fun e W' => e = .returned (noV 1) ∧ Below w.heap.size w W' := by
  go_enter Try.func33, Try.ntmps33
  go_wp2_with fail
  refine (in_is x 65535 (in_yes h1 h2) _).mono ?_
  rintro e w1 ⟨rfl, rfl⟩
  go_wp2_with fail
  refine (in_is y 65535 (in_yes h3 h4) _).mono ?_
  rintro e w1 ⟨rfl, rfl⟩
  go_wp2_with fail
  refine (in_is f 255 (in_no h) _).mono ?_
  rintro e w1 ⟨rfl, rfl⟩
  go_wp2_with fail
  exact bodyPost_ret (v := noV 1) (by simp [results, Try.results33, go_sem]) rfl ⟨rfl, below_alloc w _⟩

set_option maxRecDepth 100000 in
set_option maxHeartbeats 3200000 in
theorem refPut_udp_some (x y f : Int) (h1 : 0 ≤ x) (h2 : x ≤ 65535) (h3 : 0 ≤ y) (h4 : y ≤ 65535) (h5 : 0 < f) (h6 : f ≤ 255) (w : World) :
    Calls Try.prog 33 #[.int .i64 17, .agg #[.int .i64 x, .int .i64 y, .int .i64 f]] w fun e W' => e = .returned (noV 1) ∧ Below w.heap.size w W' := by
  have n0 : (f != 0) = true := bne_iff_ne.2 (by omega)
  go_enter Try.func33, Try.ntmps33
  go_wp2_with fail
  refine (in_is x 65535 (in_yes h1 h2) _).mono ?_
  rintro e w1 ⟨rfl, rfl⟩
  go_wp2_with fail
  refine (in_is y 65535 (in_yes h3 h4) _).mono ?_
  rintro e w1 ⟨rfl, rfl⟩
  go_wp2_with fail
  refine (in_is f 255 (in_yes (by omega) h6) _).mono ?_
  rintro e w1 ⟨rfl, rfl⟩
  go_wp2_with fail
  exact bodyPost_ret (v := noV 1) (by simp [results, Try.results33, go_sem]) rfl ⟨rfl, below_alloc w _⟩

set_option maxRecDepth 100000 in
set_option maxHeartbeats 3200000 in
theorem refPut_udp_good (x y : Int) (h1 : 0 ≤ x) (h2 : x ≤ 65535) (h3 : 0 ≤ y) (h4 : y ≤ 65535) (w : World) :
    Calls Try.prog 33 #[.int .i64 17, .agg #[.int .i64 x, .int .i64 y, .int .i64 0]] w fun e W' => e = .returned (.tuple #[.string (putU x y), .int .i64 0]) ∧ Below w.heap.size w W' := by
  have hh := Lib.hid (World.alloc_heap_new w (.cells #[.int .i64 x, .int .i64 y, .int .i64 0] 58))
  obtain ⟨c0, c1, c2, _⟩ := head_cells hh.out
  have B0 := below_alloc w (.cells #[.int .i64 x, .int .i64 y, .int .i64 0] 58)
  have q1 : IntKind.u64.wrap x = x := IntWalk.u64_in _ (by omega)
  have q2 : IntKind.u64.wrap y = y := IntWalk.u64_in _ (by omega)
  have A1 : ∀ (S T : ByteArray) (u : World), S.size ≤ 2 → T.size ≤ 2 → (Op.stringOp .add S T).run Try.prog u = .ok (.string (S ++ T)) u := fun S T u hS hT => run_string_add_sum u _ _ (by omega)
  go_enter Try.func33, Try.ntmps33
  go_wp2_with fail
  refine (in_is x 65535 (in_yes h1 h2) _).mono ?_
  rintro e w1 ⟨rfl, rfl⟩
  go_wp2_with fail
  refine (in_is y 65535 (in_yes h3 h4) _).mono ?_
  rintro e w1 ⟨rfl, rfl⟩
  go_wp2_with fail
  refine (in_is 0 255 (in_yes (by omega) (by omega)) _).mono ?_
  rintro e w1 ⟨rfl, rfl⟩
  go_wp2_with fail
  clear hh
  generalize (w.alloc (.cells #[.int .i64 x, .int .i64 y, .int .i64 0] 58)) = w2 at *
  go_region_held3 (fun W => Below w.heap.size w W ∧ W.cell? ⟨w.heap.size, 0, none⟩ = some (.int .i64 x) ∧ W.cell? ⟨w.heap.size, 1, none⟩ = some (.int .i64 y) ∧ W.cell? ⟨w.heap.size, 2, none⟩ = some (.int .i64 0))
    (first | exact ⟨B0.drew, c0, c1, c2⟩ | exact nums_keep (by assumption) hb3)
    (first | (go_at_call 39; (with_reducible refine (refPut_some _ _ _ ?_ ?_ ?_).mono ?_); omega; omega; omega; rintro e w3 ⟨S, rfl, hS, HS, hb3⟩))
  rename_i u1 S1 hS1 HS1 hc1 hHeld
  have s1 : (ByteArray.mk #[0, 8, 0, 0]).size = 4 := rfl
  have A2 : ∀ (u : World), (Op.stringOp .add (S1 ++ S) ⟨#[0, 8, 0, 0]⟩).run Try.prog u = .ok (.string (S1 ++ S ++ ⟨#[0, 8, 0, 0]⟩)) u := fun u => run_string_add_sum u _ _ (by rw [ByteArray.size_append]; omega)
  go_wp2_with fail
  exact bodyPost_ret (v := .tuple #[.string (S1 ++ S ++ ⟨#[0, 8, 0, 0]⟩), .int .i64 0]) (by simp [results, Try.results33, go_sem]) rfl ⟨by rw [HS1.out, HS.out]; rfl, hHeld.1⟩

set_option maxRecDepth 100000 in
set_option maxHeartbeats 3200000 in
theorem refPut_tcp_good (x y f : Int) (h1 : 0 ≤ x) (h2 : x ≤ 65535) (h3 : 0 ≤ y) (h4 : y ≤ 65535) (h5 : 0 ≤ f) (h6 : f ≤ 255) (w : World) :
    Calls Try.prog 33 #[.int .i64 6, .agg #[.int .i64 x, .int .i64 y, .int .i64 f]] w fun e W' => e = .returned (.tuple #[.string (putT x y f), .int .i64 0]) ∧ Below w.heap.size w W' := by
  have hh := Lib.hid (World.alloc_heap_new w (.cells #[.int .i64 x, .int .i64 y, .int .i64 f] 58))
  obtain ⟨c0, c1, c2, _⟩ := head_cells hh.out
  have B0 := below_alloc w (.cells #[.int .i64 x, .int .i64 y, .int .i64 f] 58)
  have q1 : IntKind.u64.wrap x = x := IntWalk.u64_in _ (by omega)
  have q2 : IntKind.u64.wrap y = y := IntWalk.u64_in _ (by omega)
  have A1 : ∀ (S T : ByteArray) (u : World), S.size ≤ 2 → T.size ≤ 2 → (Op.stringOp .add S T).run Try.prog u = .ok (.string (S ++ T)) u := fun S T u hS hT => run_string_add_sum u _ _ (by omega)
  go_enter Try.func33, Try.ntmps33
  go_wp2_with fail
  refine (in_is x 65535 (in_yes h1 h2) _).mono ?_
  rintro e w1 ⟨rfl, rfl⟩
  go_wp2_with fail
  refine (in_is y 65535 (in_yes h3 h4) _).mono ?_
  rintro e w1 ⟨rfl, rfl⟩
  go_wp2_with fail
  refine (in_is f 255 (in_yes h5 h6) _).mono ?_
  rintro e w1 ⟨rfl, rfl⟩
  go_wp2_with fail
  clear hh
  generalize (w.alloc (.cells #[.int .i64 x, .int .i64 y, .int .i64 f] 58)) = w2 at *
  go_region_held3 (fun W => Below w.heap.size w W ∧ W.cell? ⟨w.heap.size, 0, none⟩ = some (.int .i64 x) ∧ W.cell? ⟨w.heap.size, 1, none⟩ = some (.int .i64 y) ∧ W.cell? ⟨w.heap.size, 2, none⟩ = some (.int .i64 f))
    (first | exact ⟨B0.drew, c0, c1, c2⟩ | exact nums_keep (by assumption) hb3)
    (first | (go_at_call 39; (with_reducible refine (refPut_some _ _ _ ?_ ?_ ?_).mono ?_); omega; omega; omega; rintro e w3 ⟨S, rfl, hS, HS, hb3⟩))
  rename_i u1 S1 hS1 HS1 hc1 hHeld
  obtain ⟨hB3, z0, z1, z2⟩ := hHeld
  have q3 : IntKind.u64.wrap f = f := IntWalk.u64_in _ (by omega)
  have s1 : (ByteArray.mk #[0, 0, 0, 0, 0, 0, 0, 0, 80]).size = 9 := rfl
  have s2 : (ByteArray.mk #[0, 0, 0, 0, 0, 0]).size = 6 := rfl
  have A2 : ∀ (u : World), (Op.stringOp .add (S1 ++ S) ⟨#[0, 0, 0, 0, 0, 0, 0, 0, 80]⟩).run Try.prog u = .ok (.string (S1 ++ S ++ ⟨#[0, 0, 0, 0, 0, 0, 0, 0, 80]⟩)) u := fun u => run_string_add_sum u _ _ (by rw [ByteArray.size_append]; omega)
  have A3 : ∀ (T : ByteArray) (u : World), T.size ≤ 2 → (Op.stringOp .add (S1 ++ S ++ ⟨#[0, 0, 0, 0, 0, 0, 0, 0, 80]⟩) T).run Try.prog u = .ok (.string (S1 ++ S ++ ⟨#[0, 0, 0, 0, 0, 0, 0, 0, 80]⟩ ++ T)) u := fun T u hT => run_string_add_sum u _ _ (by rw [ByteArray.size_append, ByteArray.size_append]; omega)
  have A4 : ∀ (T : ByteArray) (u : World), T.size ≤ 2 → (Op.stringOp .add (S1 ++ S ++ ⟨#[0, 0, 0, 0, 0, 0, 0, 0, 80]⟩ ++ T) ⟨#[0, 0, 0, 0, 0, 0]⟩).run Try.prog u = .ok (.string (S1 ++ S ++ ⟨#[0, 0, 0, 0, 0, 0, 0, 0, 80]⟩ ++ T ++ ⟨#[0, 0, 0, 0, 0, 0]⟩)) u := fun T u hT => run_string_add_sum u _ _ (by rw [ByteArray.size_append, ByteArray.size_append, ByteArray.size_append]; omega)
  go_wp2_with fail
  refine (refPut_some f 1 _ (by omega) (by omega) (by omega)).mono ?_
  rintro e w4 ⟨U, rfl, hU, HU, hb4⟩
  go_wp2_with fail
  have hF : S1 ++ S ++ ⟨#[0, 0, 0, 0, 0, 0, 0, 0, 80]⟩ ++ U ++ ⟨#[0, 0, 0, 0, 0, 0]⟩ = putT x y f := by
    rw [HS1.out, HS.out, HU.out]
    apply ba_ext
    rw [putT_list]
    simp only [app_list, List.append_assoc]
    rfl
  exact bodyPost_ret (v := .tuple #[.string (S1 ++ S ++ ⟨#[0, 0, 0, 0, 0, 0, 0, 0, 80]⟩ ++ U ++ ⟨#[0, 0, 0, 0, 0, 0]⟩), .int .i64 0]) (by simp [results, Try.results33, go_sem]) rfl ⟨by rw [hF], below2 hB3 hb4⟩

theorem refPut_good (p x y f : Int) (h : fit p x y f) (w : World) :
    Calls Try.prog 33 #[.int .i64 p, .agg #[.int .i64 x, .int .i64 y, .int .i64 f]] w fun e W' => e = .returned (.tuple #[.string (putS p x y f), .int .i64 0]) ∧ Below w.heap.size w W' := by
  obtain ⟨hp, hx, hy, hf, h6, h17⟩ := h
  rcases hp with rfl | rfl
  · rw [putS_tcp]
    exact refPut_tcp_good x y f hx.1 hx.2 hy.1 hy.2 hf (h6 rfl) w
  · obtain rfl := h17 rfl
    rw [putS_udp]
    exact refPut_udp_good x y hx.1 hx.2 hy.1 hy.2 w
theorem refPut_bad (p x y f : Int) (h : ¬ fit p x y f) (w : World) :
    Calls Try.prog 33 #[.int .i64 p, .agg #[.int .i64 x, .int .i64 y, .int .i64 f]] w fun e W' => e = .returned (noV (errP p)) ∧ Below w.heap.size w W' := by
  unfold errP
  by_cases hk : p = 6 ∨ p = 17
  case neg =>
    rw [if_neg hk]
    exact refPut_none p (fun e => hk (.inl e)) (fun e => hk (.inr e)) x y f w
  rw [if_pos hk]
  have hk' := hk
  rcases hk' with rfl | rfl
  · by_cases h1 : x < 0 ∨ 65535 < x
    · exact refPut_tcp_from x y f h1 w
    by_cases h2 : y < 0 ∨ 65535 < y
    · exact refPut_tcp_to x y f (by omega) (by omega) h2 w
    by_cases h3 : f < 0 ∨ 255 < f
    · exact refPut_tcp_flags x y f (by omega) (by omega) (by omega) (by omega) h3 w
    exact absurd ⟨hk, by omega, by omega, by omega, by omega, by omega⟩ h
  · by_cases h1 : x < 0 ∨ 65535 < x
    · exact refPut_udp_from x y f h1 w
    by_cases h2 : y < 0 ∨ 65535 < y
    · exact refPut_udp_to x y f (by omega) (by omega) h2 w
    by_cases h3 : f < 0 ∨ 255 < f
    · exact refPut_udp_flags x y f (by omega) (by omega) (by omega) (by omega) h3 w
    by_cases h4 : 0 < f
    · exact refPut_udp_some x y f (by omega) (by omega) (by omega) (by omega) h4 (by omega) w
    exact absurd ⟨hk, by omega, by omega, by omega, by omega, by omega⟩ h
end Go.Proofs.Ytcdgcjpdlhknoaa.Prt
