/-
  The document's answer for ip4 (package gangplankref04): its Put tells what ip4's tells.
-/
import Derived.Test.YtcdgcjpdlhknoaaIp4E
import Derived.Test.YtcdgcjpdlhknoaaOctD
import Derived.Test.YtcdgcjpdlhknoaaSumC
import Derived.Deep.RegionHeld3
namespace Go.Proofs.Ytcdgcjpdlhknoaa.Ip4
open Go.RowKit Go.Shelf

/-- What the document's Put of octet answers, under a name of its own. -/
theorem refPut_some (v n : Int) (w : World) (hv0 : 0 ≤ v) (hv : v ≤ 18446744073709551615) (h : 1 ≤ n ∧ n ≤ 2) :
    Calls Try.prog 39 #[.int .u64 v, .int .i64 n] w fun e W' => ∃ S : ByteArray, e = .returned (.string S) ∧ S.size ≤ 2 ∧ Hid (S = Oct.str (Oct.bytes v.toNat n.toNat)) ∧ Below w.heap.size w W' :=
  (Oct.refPut_yes v n w hv0 hv (by omega)).mono fun _ _ ⟨he, hb⟩ => ⟨_, he, by rw [str_size, Oct.bytes_length]; omega, Lib.hid rfl, hb⟩

theorem st_keep3 {w W W' : World} {h : Nat} {x y : ByteArray} {p : Int} (hS : Below w.heap.size w W ∧ W.cell? ⟨h, 0, none⟩ = some (.string x) ∧ W.cell? ⟨h, 1, none⟩ = some (.string y) ∧ W.cell? ⟨h, 2, none⟩ = some (.int .i64 p)) (hb : Below W.heap.size W W') :
    Below w.heap.size w W' ∧ W'.cell? ⟨h, 0, none⟩ = some (.string x) ∧ W'.cell? ⟨h, 1, none⟩ = some (.string y) ∧ W'.cell? ⟨h, 2, none⟩ = some (.int .i64 p) :=
  ⟨below2 hS.1 hb, (hb.cell (World.block_lt_of_cell? W _ hS.2.1)).trans hS.2.1, (hb.cell (World.block_lt_of_cell? W _ hS.2.2.1)).trans hS.2.2.1, (hb.cell (World.block_lt_of_cell? W _ hS.2.2.2)).trans hS.2.2.2⟩

set_option maxRecDepth 100000 in
set_option maxHeartbeats 3200000 in
theorem refPut_good (x y : ByteArray) (p : Int) (r : ByteArray) (hx4 : x.size = 4) (hy4 : y.size = 4) (hp : 0 ≤ p ∧ p ≤ 255) (hr5 : r.size ≤ 65515) (w : World) :
    Calls Try.prog 34 #[.agg #[.string x, .string y, .int .i64 p], .string r] w fun e W' => e = .returned (.tuple #[.string (putS x y p.toNat r), .int .i64 0]) ∧ Below w.heap.size w W' := by
  have n1 : ((x.size : Int) != 4) = false := by rw [hx4]; rfl
  have n2 : ((y.size : Int) != 4) = false := by rw [hy4]; rfl
  have n3 : decide (p < 0) = false := decide_eq_false (by omega)
  have n4 : decide (255 < p) = false := decide_eq_false (by omega)
  have n5 : decide ((65515 : Int) < (r.size : Int)) = false := decide_eq_false (by omega)
  have hh := Lib.hid (World.alloc_heap_new w (.cells #[.string x, .string y, .int .i64 p] 67))
  have c0 := head_cell0 hh.out
  have c1 := head_cell1 hh.out
  have c2 := head_cell2 hh.out
  have B0 := below_alloc w (.cells #[.string x, .string y, .int .i64 p] 67)
  have s1 : (ByteArray.mk #[69, 0]).size = 2 := rfl
  have s2 : (ByteArray.mk #[0, 0, 64, 0, 64]).size = 5 := rfl
  have q1 : IntKind.i64.wrap (20 + (r.size : Int)) = 20 + (r.size : Int) := IntWalk.i64_in _ (by omega)
  have q2 : IntKind.u64.wrap (20 + (r.size : Int)) = 20 + (r.size : Int) := IntWalk.u64_in _ (by omega)
  have q3 : IntKind.u64.wrap p = p := IntWalk.u64_in _ (by omega)
  have A1 : ∀ (S : ByteArray) (u : World), S.size ≤ 2 → (Op.stringOp .add ⟨#[69, 0]⟩ S).run Try.prog u = .ok (.string (⟨#[69, 0]⟩ ++ S)) u := fun S u hS => run_string_add_sum u _ S (by omega)
  have A2 : ∀ (S : ByteArray) (u : World), S.size ≤ 2 → (Op.stringOp .add (⟨#[69, 0]⟩ ++ S) ⟨#[0, 0, 64, 0, 64]⟩).run Try.prog u = .ok (.string (⟨#[69, 0]⟩ ++ S ++ ⟨#[0, 0, 64, 0, 64]⟩)) u := fun S u hS => run_string_add_sum u _ _ (by rw [ByteArray.size_append]; omega)
  have A3 : ∀ (S T : ByteArray) (u : World), S.size ≤ 2 → T.size ≤ 2 → (Op.stringOp .add (⟨#[69, 0]⟩ ++ S ++ ⟨#[0, 0, 64, 0, 64]⟩) T).run Try.prog u = .ok (.string (⟨#[69, 0]⟩ ++ S ++ ⟨#[0, 0, 64, 0, 64]⟩ ++ T)) u := fun S T u hS hT => run_string_add_sum u _ _ (by rw [ByteArray.size_append, ByteArray.size_append]; omega)
  go_enter Try.func34, Try.ntmps34
  go_wp2_with fail
  clear n1 n2 n3 n4 n5 hh
  generalize (w.alloc (.cells #[.string x, .string y, .int .i64 p] 67)) = w2 at *
  go_region_held3 (fun W => Below w.heap.size w W ∧ W.cell? ⟨w.heap.size, 0, none⟩ = some (.string x) ∧ W.cell? ⟨w.heap.size, 1, none⟩ = some (.string y) ∧ W.cell? ⟨w.heap.size, 2, none⟩ = some (.int .i64 p))
    (first | exact ⟨B0.drew, c0, c1, c2⟩ | exact st_keep3 (by assumption) hb3)
    (first | (go_at_call 39; (with_reducible refine (refPut_some _ _ _ ?_ ?_ ?_).mono ?_); omega; omega; omega; rintro e w3 ⟨S, rfl, hS, HS, hb3⟩))
  rename_i u1 S1 hS1 HS1 hc1 hHeld
  obtain ⟨hB3, f0, f1, f2⟩ := hHeld
  have hF : (ByteArray.mk #[69, 0]) ++ S1 ++ ⟨#[0, 0, 64, 0, 64]⟩ ++ S = front r.size p.toNat := by
    rw [HS1.out, HS.out, show (20 + (r.size : Int)).toNat = 20 + r.size by omega]; rfl
  have hFs : (front r.size p.toNat).size ≤ 11 := by
    rw [← hF, ByteArray.size_append, ByteArray.size_append, ByteArray.size_append]; omega
  rw [hF]
  clear A1 A2 A3 hF HS1 HS hS hS1 s1 s2 q1 q2 q3
  have hO : (65535 - (Cks.fc (Cks.tot (front r.size p.toNat ++ ⟨#[0, 0]⟩ ++ (x ++ y)).data.toList) : Nat) : Int) = (own x y r.size p.toNat : Nat) := by
    unfold own
    have := Cks.fc_le (Cks.tot (front r.size p.toNat ++ ⟨#[0, 0]⟩ ++ (x ++ y)).data.toList)
    omega
  have hOl : own x y r.size p.toNat ≤ 65535 := by unfold own; omega
  have HP := Lib.hid (show putS x y p.toNat r = front r.size p.toNat ++ Oct.str (Oct.bytes (own x y r.size p.toNat) 2) ++ (x ++ y) ++ r from rfl)
  have HO := Lib.hid hO
  clear hO
  generalize front r.size p.toNat = F at *
  generalize own x y r.size p.toNat = o at *
  have s0 : (ByteArray.mk #[0, 0]).size = 2 := rfl
  have zS := Lib.hid (show (F ++ ⟨#[0, 0]⟩ ++ (x ++ y)).size ≤ 1099511627776 by rw [ByteArray.size_append, ByteArray.size_append, ByteArray.size_append]; omega)
  go_wp2_with fail
  refine (Cks.refSum_any _ zS.out _).mono ?_
  rintro e w4 ⟨rfl, rfl⟩
  rw [HO.out]
  clear HO zS
  have q4 : IntKind.u64.wrap (o : Int) = o := IntWalk.u64_in _ (by omega)
  have A4 : ∀ (S : ByteArray) (u : World), S.size ≤ 2 → (Op.stringOp .add F S).run Try.prog u = .ok (.string (F ++ S)) u := fun S u hS => run_string_add_sum u _ S (by omega)
  have A5 : ∀ (S : ByteArray) (u : World), S.size ≤ 2 → (Op.stringOp .add (F ++ S) (x ++ y)).run Try.prog u = .ok (.string (F ++ S ++ (x ++ y))) u := fun S u hS => run_string_add_sum u _ _ (by rw [ByteArray.size_append, ByteArray.size_append]; omega)
  have A6 : ∀ (S : ByteArray) (u : World), S.size ≤ 2 → (Op.stringOp .add (F ++ S ++ (x ++ y)) r).run Try.prog u = .ok (.string (F ++ S ++ (x ++ y) ++ r)) u := fun S u hS => run_string_add_sum u _ _ (by rw [ByteArray.size_append, ByteArray.size_append, ByteArray.size_append]; omega)
  go_wp2_with fail
  refine (refPut_some _ _ _ (by omega) (by omega) (by omega)).mono ?_
  rintro e w5 ⟨S, rfl, hS, HS, hb5⟩
  go_wp2_with fail
  exact bodyPost_ret (v := .tuple #[.string (F ++ S ++ (x ++ y) ++ r), .int .i64 0]) (by simp [results, Try.results34, go_sem]) rfl ⟨by rw [HP.out, HS.out]; rfl, below2 hB3 hb5⟩

theorem of_bad (x y : ByteArray) (p : Int) (h : x.size ≠ 4 ∨ y.size ≠ 4 ∨ p < 0 ∨ 255 < p) :
    x.size ≠ 4 ∨ (x.size = 4 ∧ y.size ≠ 4) ∨ (x.size = 4 ∧ y.size = 4 ∧ p < 0) ∨ (x.size = 4 ∧ y.size = 4 ∧ ¬ p < 0 ∧ 255 < p) := by omega
set_option maxRecDepth 100000 in
set_option maxHeartbeats 3200000 in
theorem refPut_arg (x y : ByteArray) (p : Int) (r : ByteArray) (h : x.size ≠ 4 ∨ y.size ≠ 4 ∨ p < 0 ∨ 255 < p) (w : World) :
    Calls Try.prog 34 #[.agg #[.string x, .string y, .int .i64 p], .string r] w fun e W' => e = .returned (.tuple #[.string ⟨#[]⟩, .int .i64 1]) ∧ Below w.heap.size w W' := by
  rcases of_bad x y p h with h | ⟨hx, h⟩ | ⟨hx, hy, h⟩ | ⟨hx, hy, hp, h⟩
  · have n1 : ((x.size : Int) != 4) = true := bne_iff_ne.2 (by omega)
    go_enter Try.func34, Try.ntmps34
    go_wp2_with fail
    exact bodyPost_ret (v := .tuple #[.string ⟨#[]⟩, .int .i64 1]) (by simp [results, Try.results34, go_sem]) rfl ⟨rfl, below_alloc w _⟩
  · have n1 : ((x.size : Int) != 4) = false := by rw [hx]; rfl
    have n2 : ((y.size : Int) != 4) = true := bne_iff_ne.2 (by omega)
    go_enter Try.func34, Try.ntmps34
    go_wp2_with fail
    exact bodyPost_ret (v := .tuple #[.string ⟨#[]⟩, .int .i64 1]) (by simp [results, Try.results34, go_sem]) rfl ⟨rfl, below_alloc w _⟩
  · have n1 : ((x.size : Int) != 4) = false := by rw [hx]; rfl
    have n2 : ((y.size : Int) != 4) = false := by rw [hy]; rfl
    have n3 : decide (p < 0) = true := decide_eq_true h
    go_enter Try.func34, Try.ntmps34
    go_wp2_with fail
    exact bodyPost_ret (v := .tuple #[.string ⟨#[]⟩, .int .i64 1]) (by simp [results, Try.results34, go_sem]) rfl ⟨rfl, below_alloc w _⟩
  · have n1 : ((x.size : Int) != 4) = false := by rw [hx]; rfl
    have n2 : ((y.size : Int) != 4) = false := by rw [hy]; rfl
    have n3 : decide (p < 0) = false := decide_eq_false hp
    have n4 : decide (255 < p) = true := decide_eq_true h
    go_enter Try.func34, Try.ntmps34
    go_wp2_with fail
    exact bodyPost_ret (v := .tuple #[.string ⟨#[]⟩, .int .i64 1]) (by simp [results, Try.results34, go_sem]) rfl ⟨rfl, below_alloc w _⟩

end Go.Proofs.Ytcdgcjpdlhknoaa.Ip4
