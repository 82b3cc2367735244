/-
  Package ip4: Put.
-/
import Derived.Test.YtcdgcjpdlhknoaaIp4P
import Derived.Deep.RegionHeld3
namespace Go.Proofs.Ytcdgcjpdlhknoaa.Ip4
open Go.RowKit Go.Shelf Rgn

/-- The ten bytes ahead of the sum. -/
def front (n p : Nat) : ByteArray := ⟨#[69, 0]⟩ ++ Oct.str (Oct.bytes (20 + n) 2) ++ ⟨#[0, 0, 64, 0, 64]⟩ ++ Oct.str (Oct.bytes p 1)
/-- The sum of a head. -/
def own (x y : ByteArray) (n p : Nat) : Nat := 65535 - Cks.fc (Cks.tot (front n p ++ ⟨#[0, 0]⟩ ++ (x ++ y)).data.toList)
/-- A head, and what it holds. -/
def putS (x y : ByteArray) (p : Nat) (r : ByteArray) : ByteArray := front r.size p ++ Oct.str (Oct.bytes (own x y r.size p) 2) ++ (x ++ y) ++ r
/-- What Put answers where fault number c is the first (3: none is so). -/
def putV (x y : ByteArray) (p : Int) (r : ByteArray) (c : Nat) : Value :=
  if c < 3 then .tuple #[.string ⟨#[]⟩, .int .i64 (codeP c)] else .tuple #[.string (putS x y p.toNat r), .int .i64 0]
theorem codeP_ne (c : Nat) : (codeP c != 0) = true := by
  unfold codeP; split <;> rfl

theorem str_size (l : List UInt8) : (Oct.str l).size = l.length := by simp [ByteArray.size]
/-- What Put of octet answers, under a name of its own. -/
theorem Put_some (v n : Int) (w : World) (hv0 : 0 ≤ v) (hv : v ≤ 18446744073709551615) (h : 1 ≤ n ∧ n ≤ 2) :
    Calls Try.prog 62 #[.int .u64 v, .int .i64 n] w fun e W' => ∃ S : ByteArray, e = .returned (.string S) ∧ S.size ≤ 2 ∧ Hid (S = Oct.str (Oct.bytes v.toNat n.toNat)) ∧ Below w.heap.size w W' :=
  (Oct.Put_yes v n w hv0 hv (by omega)).mono fun _ _ ⟨he, hb⟩ => ⟨_, he, by rw [str_size, Oct.bytes_length]; omega, Lib.hid rfl, hb⟩

/-- What is known of the boxes while a head is put. -/
theorem st_keep {w W W' : World} {h : Nat} {x y r : ByteArray} {p : Int} (hS : Below w.heap.size w W ∧ W.cell? ⟨h + 1, 0, none⟩ = some (.string r) ∧ W.cell? ⟨h, 0, none⟩ = some (.string x) ∧ W.cell? ⟨h, 1, none⟩ = some (.string y) ∧ W.cell? ⟨h, 2, none⟩ = some (.int .i64 p)) (hb : Below W.heap.size W W') :
    Below w.heap.size w W' ∧ W'.cell? ⟨h + 1, 0, none⟩ = some (.string r) ∧ W'.cell? ⟨h, 0, none⟩ = some (.string x) ∧ W'.cell? ⟨h, 1, none⟩ = some (.string y) ∧ W'.cell? ⟨h, 2, none⟩ = some (.int .i64 p) :=
  ⟨below2 hS.1 hb, (hb.cell (World.block_lt_of_cell? W _ hS.2.1)).trans hS.2.1, (hb.cell (World.block_lt_of_cell? W _ hS.2.2.1)).trans hS.2.2.1, (hb.cell (World.block_lt_of_cell? W _ hS.2.2.2.1)).trans hS.2.2.2.1, (hb.cell (World.block_lt_of_cell? W _ hS.2.2.2.2)).trans hS.2.2.2.2⟩

set_option maxRecDepth 100000 in
set_option maxHeartbeats 2000000 in
theorem Put_any (x y : ByteArray) (p : Int) (r : ByteArray) (hr : r.size ≤ 1099511627776) (c : Nat) (hc : c ≤ 3) (hno : ∀ i, i < c → soP x y p r i = false) (hyes : c < 3 → soP x y p r c = true) (w : World) :
    Calls Try.prog 30 #[.agg #[.string x, .string y, .int .i64 p], .string r] w fun e W' => e = .returned (putV x y p r c) ∧ Below w.heap.size w W' := by
  have bh : ((w.alloc (.cells #[.string x, .string y, .int .i64 p] 49)).alloc (.cells #[.string r] 9)).heap[w.heap.size]? = some (.cells #[.string x, .string y, .int .i64 p] 49 (0, 0)) := by
    rw [Below.heap_alloc _ _ _ (by simp)]
    exact World.alloc_heap_new w _
  have b1 := Boxed.new (w.alloc (.cells #[.string x, .string y, .int .i64 p] 49)) 9 (.string r)
  simp only [World.size_alloc] at b1
  have hB0 : Below w.heap.size w ((w.alloc (.cells #[.string x, .string y, .int .i64 p] 49)).alloc (.cells #[.string r] 9)) := ((Below.refl _ w).alloc (Nat.le_refl _) _).alloc (by simp) _
  have cF := first_put x y p r w.heap.size ((w.alloc (.cells #[.string x, .string y, .int .i64 p] 49)).alloc (.cells #[.string r] 9)) bh b1 c hc hno hyes
  simp only [World.size_alloc] at cF
  have CF := Lib.hid cF
  clear cF
  go_enter Try.func30, Try.ntmps30
  go_wp2_with fail
  refine CF.out.mono ?_
  clear CF
  rintro e w2 ⟨rfl, hb2⟩
  have hB2 : Below w.heap.size w w2 := hB0.trans (hb2.mono (by omega))
  by_cases hc3 : c < 3
  · rw [if_pos hc3]
    have PV := Lib.hid (show putV x y p r c = .tuple #[.string ⟨#[]⟩, .int .i64 (codeP c)] from if_pos hc3)
    have hn : (codeP c != 0) = true := codeP_ne c
    clear hno hyes bh b1
    go_wp2_with fail
    exact bodyPost_ret (v := .tuple #[.string ⟨#[]⟩, .int .i64 (codeP c)]) (by simp [results, Try.results30, go_sem]) rfl ⟨by rw [PV.out], hB2⟩
  · obtain rfl : c = 3 := by omega
    rw [if_neg hc3]
    have PV := Lib.hid (show putV x y p r 3 = .tuple #[.string (putS x y p.toNat r), .int .i64 0] from if_neg hc3)
    have n0 := of_decide_eq_false (hno 0 (by omega))
    have n1 := of_decide_eq_false (hno 1 (by omega))
    have n2 := of_decide_eq_false (hno 2 (by omega))
    have bW := (hb2.block w.heap.size (by omega)).trans bh
    have z0 := head_cell0 bW
    have z1 := head_cell1 bW
    have z2 := head_cell2 bW
    have z3 : w2.cell? ⟨w.heap.size + 1, 0, none⟩ = some (.string r) := (hb2.cell (p := ⟨w.heap.size + 1, 0, none⟩) (by simp)).trans b1.cell
    have hx4 : x.size = 4 := by omega
    have hy4 : y.size = 4 := by omega
    have hr5 : r.size ≤ 65515 := by omega
    clear hno hyes bh b1 bW hB0 hb2 n0 n2 hr
    have s1 : (ByteArray.mk #[69, 0]).size = 2 := rfl
    have s2 : (ByteArray.mk #[0, 0, 64, 0, 64]).size = 5 := rfl
    have q1 : IntKind.i64.wrap (20 + (r.size : Int)) = 20 + (r.size : Int) := IntWalk.i64_in _ (by omega)
    have q2 : IntKind.u64.wrap (20 + (r.size : Int)) = 20 + (r.size : Int) := IntWalk.u64_in _ (by omega)
    have q3 : IntKind.u64.wrap p = p := IntWalk.u64_in _ (by omega)
    have A1 : ∀ (S : ByteArray) (u : World), S.size ≤ 2 → (Op.stringOp .add ⟨#[69, 0]⟩ S).run Try.prog u = .ok (.string (⟨#[69, 0]⟩ ++ S)) u := fun S u hS => run_string_add_sum u _ S (by omega)
    have A2 : ∀ (S : ByteArray) (u : World), S.size ≤ 2 → (Op.stringOp .add (⟨#[69, 0]⟩ ++ S) ⟨#[0, 0, 64, 0, 64]⟩).run Try.prog u = .ok (.string (⟨#[69, 0]⟩ ++ S ++ ⟨#[0, 0, 64, 0, 64]⟩)) u := fun S u hS => run_string_add_sum u _ _ (by rw [ByteArray.size_append]; omega)
    have A3 : ∀ (S T : ByteArray) (u : World), S.size ≤ 2 → T.size ≤ 2 → (Op.stringOp .add (⟨#[69, 0]⟩ ++ S ++ ⟨#[0, 0, 64, 0, 64]⟩) T).run Try.prog u = .ok (.string (⟨#[69, 0]⟩ ++ S ++ ⟨#[0, 0, 64, 0, 64]⟩ ++ T)) u := fun S T u hS hT => run_string_add_sum u _ _ (by rw [ByteArray.size_append, ByteArray.size_append]; omega)
    go_wp2_with fail
    go_region_held3 (fun W => Below w.heap.size w W ∧ W.cell? ⟨w.heap.size + 1, 0, none⟩ = some (.string r) ∧ W.cell? ⟨w.heap.size, 0, none⟩ = some (.string x) ∧ W.cell? ⟨w.heap.size, 1, none⟩ = some (.string y) ∧ W.cell? ⟨w.heap.size, 2, none⟩ = some (.int .i64 p))
      (first | exact ⟨hB2.drew, z3, z0, z1, z2⟩ | exact st_keep (by assumption) hb3)
      (first | (go_at_call 62; (with_reducible refine (Put_some _ _ _ ?_ ?_ ?_).mono ?_); omega; omega; omega; rintro e w3 ⟨S, rfl, hS, HS, hb3⟩))
    rename_i u1 S1 hS1 HS1 hc1 hHeld
    obtain ⟨hB3, c3, c0, c1, c2⟩ := hHeld
    have hF : (ByteArray.mk #[69, 0]) ++ S1 ++ ⟨#[0, 0, 64, 0, 64]⟩ ++ S = front r.size p.toNat := by
      rw [HS1.out, HS.out, show (20 + (r.size : Int)).toNat = 20 + r.size by omega]; rfl
    have hFs : (front r.size p.toNat).size ≤ 11 := by
      rw [← hF, ByteArray.size_append, ByteArray.size_append, ByteArray.size_append]; omega
    rw [hF]
    clear A1 A2 A3 hF HS1 HS hS hS1 s1 s2 q1 q2 q3
    have hO : (65535 - (Cks.fc (Cks.tot (front r.size p.toNat ++ ⟨#[0, 0]⟩ ++ (x ++ y)).data.toList) : Nat) : Int) = (own x y r.size p.toNat : Nat) := by
      unfold own
      have := Cks.fc_le (Cks.tot (front r.size p.toNat ++ ⟨#[0, 0]⟩ ++ (x ++ y)).data.toList)
      omega
    have hOl : own x y r.size p.toNat ≤ 65535 := by unfold own; omega
    have HP := Lib.hid (show putS x y p.toNat r = front r.size p.toNat ++ Oct.str (Oct.bytes (own x y r.size p.toNat) 2) ++ (x ++ y) ++ r from rfl)
    have HO := Lib.hid hO
    clear hO
    generalize front r.size p.toNat = F at *
    generalize own x y r.size p.toNat = o at *
    have s0 : (ByteArray.mk #[0, 0]).size = 2 := rfl
    have zS := Lib.hid (show (F ++ ⟨#[0, 0]⟩ ++ (x ++ y)).size ≤ 1099511627776 by rw [ByteArray.size_append, ByteArray.size_append, ByteArray.size_append]; omega)
    go_wp2_with fail
    refine (Cks.Sum_any _ zS.out _).mono ?_
    rintro e w4 ⟨rfl, hb4⟩
    rw [HO.out]
    have T4 := st_keep ⟨hB3, c3, c0, c1, c2⟩ hb4
    obtain ⟨hB4, f3, f0, f1, f2⟩ := T4
    clear HO zS c0 c1 c2 c3 hb4 hB3
    have q4 : IntKind.u64.wrap (o : Int) = o := IntWalk.u64_in _ (by omega)
    have A4 : ∀ (S : ByteArray) (u : World), S.size ≤ 2 → (Op.stringOp .add F S).run Try.prog u = .ok (.string (F ++ S)) u := fun S u hS => run_string_add_sum u _ S (by omega)
    have A5 : ∀ (S : ByteArray) (u : World), S.size ≤ 2 → (Op.stringOp .add (F ++ S) (x ++ y)).run Try.prog u = .ok (.string (F ++ S ++ (x ++ y))) u := fun S u hS => run_string_add_sum u _ _ (by rw [ByteArray.size_append, ByteArray.size_append]; omega)
    have A6 : ∀ (S : ByteArray) (u : World), S.size ≤ 2 → (Op.stringOp .add (F ++ S ++ (x ++ y)) r).run Try.prog u = .ok (.string (F ++ S ++ (x ++ y) ++ r)) u := fun S u hS => run_string_add_sum u _ _ (by rw [ByteArray.size_append, ByteArray.size_append, ByteArray.size_append]; omega)
    go_wp2_with fail
    go_region_held3 (fun W => Below w.heap.size w W ∧ W.cell? ⟨w.heap.size + 1, 0, none⟩ = some (.string r) ∧ W.cell? ⟨w.heap.size, 0, none⟩ = some (.string x) ∧ W.cell? ⟨w.heap.size, 1, none⟩ = some (.string y) ∧ W.cell? ⟨w.heap.size, 2, none⟩ = some (.int .i64 p))
      (first | exact ⟨hB4.drew, f3, f0, f1, f2⟩ | exact st_keep (by assumption) hb5)
      (first | (go_at_call 62; (with_reducible refine (Put_some _ _ _ ?_ ?_ ?_).mono ?_); omega; omega; omega; rintro e w5 ⟨S, rfl, hS, HS, hb5⟩))
    rename_i hHeld
    go_wp2
    exact bodyPost_ret (v := .tuple #[.string (F ++ S ++ (x ++ y) ++ r), .int .i64 0]) (by simp [results, Try.results30, go_sem]) rfl ⟨by rw [PV.out, HP.out, HS.out]; rfl, hHeld.1⟩
end Go.Proofs.Ytcdgcjpdlhknoaa.Ip4
