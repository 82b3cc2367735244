/-
  The document's answer for ip6 (package gangplankref05): its Put tells what ip6's tells.
-/
import Derived.Test.YtcdgcjpdlhknoaaIp6E
import Derived.Test.YtcdgcjpdlhknoaaOctD
import Derived.Deep.RegionHeld3
namespace Go.Proofs.Ytcdgcjpdlhknoaa.Ip6
open Go.RowKit Go.Shelf Txt

/-- What the document's Put of octet answers, under a name of its own. -/
theorem refPut_some (v n : Int) (w : World) (hv0 : 0 ≤ v) (hv : v ≤ 18446744073709551615) (h : 1 ≤ n ∧ n ≤ 2) :
    Calls Try.prog 39 #[.int .u64 v, .int .i64 n] w fun e W' => ∃ S : ByteArray, e = .returned (.string S) ∧ S.size ≤ 2 ∧ Hid (S = Oct.str (Oct.bytes v.toNat n.toNat)) ∧ Below w.heap.size w W' :=
  (Oct.refPut_yes v n w hv0 hv (by omega)).mono fun _ _ ⟨he, hb⟩ => ⟨_, he, by rw [str_size, Oct.bytes_length]; omega, Lib.hid rfl, hb⟩

theorem st_keep3 {w W W' : World} {h : Nat} {x y : ByteArray} {p : Int} (hS : Below w.heap.size w W ∧ W.cell? ⟨h, 0, none⟩ = some (.string x) ∧ W.cell? ⟨h, 1, none⟩ = some (.string y) ∧ W.cell? ⟨h, 2, none⟩ = some (.int .i64 p)) (hb : Below W.heap.size W W') :
    Below w.heap.size w W' ∧ W'.cell? ⟨h, 0, none⟩ = some (.string x) ∧ W'.cell? ⟨h, 1, none⟩ = some (.string y) ∧ W'.cell? ⟨h, 2, none⟩ = some (.int .i64 p) :=
  ⟨below2 hS.1 hb, (hb.cell (World.block_lt_of_cell? W _ hS.2.1)).trans hS.2.1, (hb.cell (World.block_lt_of_cell? W _ hS.2.2.1)).trans hS.2.2.1, (hb.cell (World.block_lt_of_cell? W _ hS.2.2.2)).trans hS.2.2.2⟩

set_option maxRecDepth 100000 in
set_option maxHeartbeats 3200000 in
theorem refPut_good (x y : ByteArray) (p : Int) (r : ByteArray) (hx4 : x.size = 16) (hy4 : y.size = 16) (hp : 0 ≤ p ∧ p ≤ 255) (hr5 : r.size ≤ 65535) (w : World) :
    Calls Try.prog 35 #[.agg #[.string x, .string y, .int .i64 p], .string r] w fun e W' => e = .returned (.tuple #[.string (putS x y p.toNat r), .int .i64 0]) ∧ Below w.heap.size w W' := by
  have n1 : ((x.size : Int) != 16) = false := by rw [hx4]; rfl
  have n2 : ((y.size : Int) != 16) = false := by rw [hy4]; rfl
  have n3 : decide (p < 0) = false := decide_eq_false (by omega)
  have n4 : decide (255 < p) = false := decide_eq_false (by omega)
  have n5 : decide ((65535 : Int) < (r.size : Int)) = false := decide_eq_false (by omega)
  have hh := Lib.hid (World.alloc_heap_new w (.cells #[.string x, .string y, .int .i64 p] 69))
  obtain ⟨c0, c1, c2, _⟩ := head_cells hh.out
  have B0 := below_alloc w (.cells #[.string x, .string y, .int .i64 p] 69)
  have s1 : (ByteArray.mk #[96, 0, 0, 0]).size = 4 := rfl
  have s2 : (ByteArray.mk #[64]).size = 1 := rfl
  have q2 : IntKind.u64.wrap (r.size : Int) = (r.size : Int) := IntWalk.u64_in _ (by omega)
  have q3 : IntKind.u64.wrap p = p := IntWalk.u64_in _ (by omega)
  have A1 : ∀ (S : ByteArray) (u : World), S.size ≤ 2 → (Op.stringOp .add ⟨#[96, 0, 0, 0]⟩ S).run Try.prog u = .ok (.string (⟨#[96, 0, 0, 0]⟩ ++ S)) u := fun S u hS => run_string_add_sum u _ S (by omega)
  have A2 : ∀ (S T : ByteArray) (u : World), S.size ≤ 2 → T.size ≤ 2 → (Op.stringOp .add (⟨#[96, 0, 0, 0]⟩ ++ S) T).run Try.prog u = .ok (.string (⟨#[96, 0, 0, 0]⟩ ++ S ++ T)) u := fun S T u hS hT => run_string_add_sum u _ _ (by rw [ByteArray.size_append]; omega)
  have A3 : ∀ (S T : ByteArray) (u : World), S.size ≤ 2 → T.size ≤ 2 → (Op.stringOp .add (⟨#[96, 0, 0, 0]⟩ ++ S ++ T) ⟨#[64]⟩).run Try.prog u = .ok (.string (⟨#[96, 0, 0, 0]⟩ ++ S ++ T ++ ⟨#[64]⟩)) u := fun S T u hS hT => run_string_add_sum u _ _ (by rw [ByteArray.size_append, ByteArray.size_append]; omega)
  have A4 : ∀ (S T : ByteArray) (u : World), S.size ≤ 2 → T.size ≤ 2 → (Op.stringOp .add (⟨#[96, 0, 0, 0]⟩ ++ S ++ T ++ ⟨#[64]⟩) x).run Try.prog u = .ok (.string (⟨#[96, 0, 0, 0]⟩ ++ S ++ T ++ ⟨#[64]⟩ ++ x)) u := fun S T u hS hT => run_string_add_sum u _ _ (by rw [ByteArray.size_append, ByteArray.size_append, ByteArray.size_append]; omega)
  have A5 : ∀ (S T : ByteArray) (u : World), S.size ≤ 2 → T.size ≤ 2 → (Op.stringOp .add (⟨#[96, 0, 0, 0]⟩ ++ S ++ T ++ ⟨#[64]⟩ ++ x) y).run Try.prog u = .ok (.string (⟨#[96, 0, 0, 0]⟩ ++ S ++ T ++ ⟨#[64]⟩ ++ x ++ y)) u := fun S T u hS hT => run_string_add_sum u _ _ (by rw [ByteArray.size_append, ByteArray.size_append, ByteArray.size_append, ByteArray.size_append]; omega)
  have A6 : ∀ (S T : ByteArray) (u : World), S.size ≤ 2 → T.size ≤ 2 → (Op.stringOp .add (⟨#[96, 0, 0, 0]⟩ ++ S ++ T ++ ⟨#[64]⟩ ++ x ++ y) r).run Try.prog u = .ok (.string (⟨#[96, 0, 0, 0]⟩ ++ S ++ T ++ ⟨#[64]⟩ ++ x ++ y ++ r)) u := fun S T u hS hT => run_string_add_sum u _ _ (by rw [ByteArray.size_append, ByteArray.size_append, ByteArray.size_append, ByteArray.size_append, ByteArray.size_append]; omega)
  go_enter Try.func35, Try.ntmps35
  go_wp2_with fail
  clear n1 n2 n3 n4 n5 hh
  generalize (w.alloc (.cells #[.string x, .string y, .int .i64 p] 69)) = w2 at *
  go_region_held3 (fun W => Below w.heap.size w W ∧ W.cell? ⟨w.heap.size, 0, none⟩ = some (.string x) ∧ W.cell? ⟨w.heap.size, 1, none⟩ = some (.string y) ∧ W.cell? ⟨w.heap.size, 2, none⟩ = some (.int .i64 p))
    (first | exact ⟨B0.drew, c0, c1, c2⟩ | exact st_keep3 (by assumption) hb3)
    (first | (go_at_call 39; (with_reducible refine (refPut_some _ _ _ ?_ ?_ ?_).mono ?_); omega; omega; omega; rintro e w3 ⟨S, rfl, hS, HS, hb3⟩))
  rename_i u1 S1 hS1 HS1 hc1 hHeld
  go_wp2
  have hF : (ByteArray.mk #[96, 0, 0, 0]) ++ S1 ++ S ++ ⟨#[64]⟩ ++ x ++ y ++ r = putS x y p.toNat r := by
    rw [HS1.out, HS.out, show ((r.size : Int)).toNat = r.size by omega]
    apply ba_ext
    rw [putS_list]
    simp only [app_list, List.append_assoc]
    rfl
  exact bodyPost_ret (v := .tuple #[.string (⟨#[96, 0, 0, 0]⟩ ++ S1 ++ S ++ ⟨#[64]⟩ ++ x ++ y ++ r), .int .i64 0]) (by simp [results, Try.results35, go_sem]) rfl ⟨by rw [hF], hHeld.1⟩

set_option maxRecDepth 100000 in
set_option maxHeartbeats 3200000 in
theorem refPut_arg (x y : ByteArray) (p : Int) (r : ByteArray) (h : x.size ≠ 16 ∨ y.size ≠ 16 ∨ p < 0 ∨ 255 < p) (w : World) :
    Calls Try.prog 35 #[.agg #[.string x, .string y, .int .i64 p], .string r] w fun e W' => e = .returned (.tuple #[.string ⟨#[]⟩, .int .i64 1]) ∧ Below w.heap.size w W' := by
  have hB := Lib.hid (below_alloc w (.cells #[.string x, .string y, .int .i64 p] 69))
  by_cases hx6 : x.size = 16
  · by_cases hy6 : y.size = 16
    · by_cases hp : p < 0
      · have d1 : decide (p < 0) = true := decide_eq_true hp
        go_enter Try.func35, Try.ntmps35
        go_wp2
        go_ret2
        exact ⟨rfl, hB.out⟩
      · have d1 : decide (p < 0) = false := decide_eq_false hp
        have d2 : decide (255 < p) = true := decide_eq_true (by omega)
        go_enter Try.func35, Try.ntmps35
        go_wp2
        go_ret2
        exact ⟨rfl, hB.out⟩
    · have e2 : ((y.size : Int) != 16) = true := by simp; omega
      go_enter Try.func35, Try.ntmps35
      go_wp2
      go_ret2
      exact ⟨rfl, hB.out⟩
  · have e1 : ((x.size : Int) != 16) = true := by simp; omega
    go_enter Try.func35, Try.ntmps35
    go_wp2
    go_ret2
    exact ⟨rfl, hB.out⟩
end Go.Proofs.Ytcdgcjpdlhknoaa.Ip6
