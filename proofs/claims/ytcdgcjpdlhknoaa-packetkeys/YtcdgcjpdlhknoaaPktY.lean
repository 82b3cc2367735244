/-
  The document's answer for packet (package gangplankref07): Bytes.
-/
import Derived.Test.YtcdgcjpdlhknoaaPktX
import Derived.Test.YtcdgcjpdlhknoaaOctD
namespace Go.Proofs.Ytcdgcjpdlhknoaa.Pkt
open Go.RowKit Go.Shelf Txt Rgn

/-- What the document's Put of octet answers, under a name of its own. -/
theorem refOct_some (v n : Int) (w : World) (hv0 : 0 ≤ v) (hv : v ≤ 18446744073709551615) (h : 1 ≤ n ∧ n ≤ 2) :
    Calls Try.prog 39 #[.int .u64 v, .int .i64 n] w fun e W' => ∃ S : ByteArray, e = .returned (.string S) ∧ S.size ≤ 2 ∧ Hid (S = Oct.str (Oct.bytes v.toNat n.toNat)) ∧ Below w.heap.size w W' :=
  (Oct.refPut_yes v n w hv0 hv (by omega)).mono fun _ _ ⟨he, hb⟩ => ⟨_, he, by rw [str_size, Oct.bytes_length]; omega, Lib.hid rfl, hb⟩
/-- What wide answers, under a name of its own. -/
theorem wide_some (x : ByteArray) (h : x.size ≤ 16) (w : World) : Calls Try.prog 40 #[.string x] w fun e W' => ∃ S : ByteArray, e = .returned (.string S) ∧ S.size = 16 ∧ Hid (S = wid x (16 - x.size)) ∧ Below w.heap.size w W' :=
  (wide_any x h w).mono fun _ _ ⟨he, hw⟩ => ⟨_, he, by rw [wid_size]; omega, Lib.hid rfl, hw ▸ Below.refl _ _⟩
theorem kb_keep {w W W' : World} {h : Nat} {V : Int} {x y : ByteArray} {F T p : Int} (hS : Below w.heap.size w W ∧ Keyed W h V x y F T p ∧ W.cell? ⟨h, 0, none⟩ = some (.int .i64 V) ∧ W.cell? ⟨h, 1, none⟩ = some (.string x) ∧ W.cell? ⟨h, 2, none⟩ = some (.string y) ∧ W.cell? ⟨h, 3, none⟩ = some (.int .i64 F) ∧ W.cell? ⟨h, 4, none⟩ = some (.int .i64 T) ∧ W.cell? ⟨h, 5, none⟩ = some (.int .i64 p)) (hb : Below W.heap.size W W') :
    Below w.heap.size w W' ∧ Keyed W' h V x y F T p ∧ W'.cell? ⟨h, 0, none⟩ = some (.int .i64 V) ∧ W'.cell? ⟨h, 1, none⟩ = some (.string x) ∧ W'.cell? ⟨h, 2, none⟩ = some (.string y) ∧ W'.cell? ⟨h, 3, none⟩ = some (.int .i64 F) ∧ W'.cell? ⟨h, 4, none⟩ = some (.int .i64 T) ∧ W'.cell? ⟨h, 5, none⟩ = some (.int .i64 p) :=
  have h1 := hS.2.1.kept hb
  ⟨below2 hS.1 hb, h1, h1.cells.1, h1.cells.2.1, h1.cells.2.2.1, h1.cells.2.2.2.1, h1.cells.2.2.2.2.1, h1.cells.2.2.2.2.2⟩

set_option maxRecDepth 100000 in
set_option maxHeartbeats 2000000 in
theorem refBytes_no (V : Int) (x y : ByteArray) (F T p : Int) (h : ¬ right V x y F T p) : Tells 19 #[keyV V x y F T p] (.tuple #[.string ⟨#[]⟩, .bool false]) := by
  intro w
  have R := Lib.hid (Right_any V x y F T p false (by simp [h]))
  obtain ⟨k0, k1, k2, k3, k4, k5⟩ := (keyed_new w V x y F T p).cells
  clear h
  go_enter Try.func19, Try.ntmps19
  go_wp2_with fail
  refine (R.out _).mono ?_
  rintro e w1 ⟨rfl, hb1⟩
  have B1 := Lib.hid (below2 (below_alloc w _) hb1)
  clear hb1 k0 k1 k2 k3 k4 k5 R
  go_wp2_with fail
  exact bodyPost_ret (v := .tuple #[.string ⟨#[]⟩, .bool false]) (by simp [results, Try.results19, go_sem]) rfl ⟨rfl, B1.out⟩

set_option maxRecDepth 100000 in
set_option maxHeartbeats 2000000 in
theorem refBytes_yes (V : Int) (x y : ByteArray) (F T p : Int) (h : right V x y F T p) : Tells 19 #[keyV V x y F T p] (.tuple #[.string (recS V x y F T p), .bool true]) := by
  intro w
  have R := Lib.hid (Right_any V x y F T p true (by simp [h]))
  have sz := right_size h
  have hx : x.size ≤ 16 := by omega
  have hy : y.size ≤ 16 := by omega
  have HN := Lib.hid (show recS V x y F T p = Oct.str (Oct.bytes (low V) 1) ++ Oct.str (Oct.bytes (low p) 1) ++ (Oct.str (Oct.bytes (low F) 2) ++ Oct.str (Oct.bytes (low T) 2)) ++ wid x (16 - x.size) ++ wid y (16 - y.size) from ba_ext (by
    rw [recS_list, app_list, app_list, app_list, app_list, app_list]
    unfold recL nums
    rw [pad_short _ _ (by rw [len_list]; omega), pad_short _ _ (by rw [len_list]; omega), len_list, len_list]
    simp [wid, Oct.str]))
  have K0 := keyed_new w V x y F T p
  obtain ⟨k0, k1, k2, k3, k4, k5⟩ := K0.cells
  have HK := Lib.hid K0
  have q0 := low_wrap V
  have q1 := low_wrap p
  have q2 := low_wrap F
  have q3 := low_wrap T
  have l0 := low_lt V
  have l1 := low_lt p
  have l2 := low_lt F
  have l3 := low_lt T
  generalize low V = nV at *
  generalize low p = np at *
  generalize low F = nF at *
  generalize low T = nT at *
  clear h K0
  go_enter Try.func19, Try.ntmps19
  go_wp2_with fail
  refine (R.out _).mono ?_
  rintro e w1 ⟨rfl, hb1⟩
  have B1 := Lib.hid (below2 (below_alloc w _) hb1)
  have K1 := Lib.hid (HK.out.kept hb1)
  clear hb1 k0 k1 k2 k3 k4 k5 R HK
  obtain ⟨k0, k1, k2, k3, k4, k5⟩ := K1.out.cells
  have A1 : ∀ (S T : ByteArray) (u : World), S.size ≤ 2 → T.size ≤ 2 → (Op.stringOp .add S T).run Try.prog u = .ok (.string (S ++ T)) u := fun S T u hS hT => run_string_add_sum u _ _ (by omega)
  go_wp2_with fail
  go_region_held3 (fun W => Below w.heap.size w W ∧ Keyed W w.heap.size V x y F T p ∧ W.cell? ⟨w.heap.size, 0, none⟩ = some (.int .i64 V) ∧ W.cell? ⟨w.heap.size, 1, none⟩ = some (.string x) ∧ W.cell? ⟨w.heap.size, 2, none⟩ = some (.string y) ∧ W.cell? ⟨w.heap.size, 3, none⟩ = some (.int .i64 F) ∧ W.cell? ⟨w.heap.size, 4, none⟩ = some (.int .i64 T) ∧ W.cell? ⟨w.heap.size, 5, none⟩ = some (.int .i64 p))
      (first | exact ⟨B1.out.drew, K1.out, k0, k1, k2, k3, k4, k5⟩ | exact kb_keep (by assumption) hb3)
      (first | (go_at_call 39; (with_reducible refine (refOct_some _ _ _ ?_ ?_ ?_).mono ?_); omega; omega; omega; rintro e w3 ⟨S, rfl, hS, HS, hb3⟩))
  rename_i S1 hS1 HS1 hx1 hHeld
  obtain ⟨hB3, hK3, c0, c1, c2, c3, c4, c5⟩ := hHeld
  have B3 := Lib.hid hB3
  have K3 := Lib.hid hK3
  clear hx1 hb3 hB3 hK3 k0 k1 k2 k3 k4 k5 K1 B1
  have zA : (S1 ++ S).size ≤ 4 := by rw [ByteArray.size_append]; omega
  have HA : Hid (S1 ++ S = Oct.str (Oct.bytes nV 1) ++ Oct.str (Oct.bytes np 1)) := by rw [HS1.out, HS.out]; exact Lib.hid rfl
  clear HS HS1 hS hS1
  generalize S1 ++ S = A at *
  go_wp2_with fail
  go_region_held3 (fun W => Below w.heap.size w W ∧ Keyed W w.heap.size V x y F T p ∧ W.cell? ⟨w.heap.size, 0, none⟩ = some (.int .i64 V) ∧ W.cell? ⟨w.heap.size, 1, none⟩ = some (.string x) ∧ W.cell? ⟨w.heap.size, 2, none⟩ = some (.string y) ∧ W.cell? ⟨w.heap.size, 3, none⟩ = some (.int .i64 F) ∧ W.cell? ⟨w.heap.size, 4, none⟩ = some (.int .i64 T) ∧ W.cell? ⟨w.heap.size, 5, none⟩ = some (.int .i64 p))
      (first | exact ⟨B3.out.drew, K3.out, c0, c1, c2, c3, c4, c5⟩ | exact kb_keep (by assumption) hb4)
      (first | (go_at_call 39; (with_reducible refine (refOct_some _ _ _ ?_ ?_ ?_).mono ?_); omega; omega; omega; rintro e w4 ⟨S, rfl, hS, HS, hb4⟩))
  rename_i S2 hS2 HS2 hx2 hHeld
  obtain ⟨hB4, hK4, d0, d1, d2, d3, d4, d5⟩ := hHeld
  have B4 := Lib.hid hB4
  have K4 := Lib.hid hK4
  clear hx2 hb4 hB4 hK4 c0 c1 c2 c3 c4 c5 K3 B3 A1
  have zB : (S2 ++ S).size ≤ 4 := by rw [ByteArray.size_append]; omega
  have HB : Hid (S2 ++ S = Oct.str (Oct.bytes nF 2) ++ Oct.str (Oct.bytes nT 2)) := by rw [HS2.out, HS.out]; exact Lib.hid rfl
  clear HS HS2 hS hS2
  generalize S2 ++ S = B at *
  have A1 : ∀ (u : World), (Op.stringOp .add A B).run Try.prog u = .ok (.string (A ++ B)) u := fun u => run_string_add_sum u _ _ (by omega)
  have A2 : ∀ (S : ByteArray) (u : World), S.size = 16 → (Op.stringOp .add (A ++ B) S).run Try.prog u = .ok (.string (A ++ B ++ S)) u := fun S u hS => run_string_add_sum u _ _ (by rw [ByteArray.size_append]; omega)
  have A3 : ∀ (S R : ByteArray) (u : World), S.size = 16 → R.size = 16 → (Op.stringOp .add (A ++ B ++ S) R).run Try.prog u = .ok (.string (A ++ B ++ S ++ R)) u := fun S R u hS hR => run_string_add_sum u _ _ (by rw [ByteArray.size_append, ByteArray.size_append]; omega)
  go_wp2_with fail
  go_region_held3 (fun W => Below w.heap.size w W ∧ Keyed W w.heap.size V x y F T p ∧ W.cell? ⟨w.heap.size, 0, none⟩ = some (.int .i64 V) ∧ W.cell? ⟨w.heap.size, 1, none⟩ = some (.string x) ∧ W.cell? ⟨w.heap.size, 2, none⟩ = some (.string y) ∧ W.cell? ⟨w.heap.size, 3, none⟩ = some (.int .i64 F) ∧ W.cell? ⟨w.heap.size, 4, none⟩ = some (.int .i64 T) ∧ W.cell? ⟨w.heap.size, 5, none⟩ = some (.int .i64 p))
      (first | exact ⟨B4.out.drew, K4.out, d0, d1, d2, d3, d4, d5⟩ | exact kb_keep (by assumption) hb5)
      (first | (go_at_call 40; (with_reducible refine (wide_some _ ?_ _).mono ?_); omega; rintro e w5 ⟨S, rfl, hS, HS, hb5⟩))
  rename_i S3 hS3 HS3 hx3 hHeld
  have E := Lib.hid (show recS V x y F T p = A ++ B ++ S3 ++ S by rw [HN.out, HA.out, HB.out, HS3.out, HS.out])
  have B5 := Lib.hid hHeld.1
  clear hHeld hx3 hb5 A1 A2 A3 d0 d1 d2 d3 d4 d5 B4 K4
  go_wp2_with fail
  exact bodyPost_ret (v := .tuple #[.string (A ++ B ++ S3 ++ S), .bool true]) (by simp [results, Try.results19, go_sem]) rfl ⟨by rw [E.out], B5.out⟩
end Go.Proofs.Ytcdgcjpdlhknoaa.Pkt
