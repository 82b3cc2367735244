/-
  Points: a pool's points (package slices: SortedFunc; package points: Of).
-/
import Derived.Test.YtfjpdoamalbpjaaPtsO
namespace Go.Proofs.Ytfjpdoamalbpjaa.Pts
open Go.RowKit Go.Shelf Rgn
open Pol (below2 below_alloc Bk polV)

theorem pts_short (z : List Bk) : (pts hsh z).length ≤ z.length * 128 := by
  induction z with
  | nil => simp [pts]
  | cons x l ih =>
    have e1 : pts hsh (x :: l) = own hsh x ++ pts hsh l := by simp [pts]
    rw [e1, List.length_append, own_length, List.length_cons]
    have := cnt_le x.2
    omega

set_option maxHeartbeats 400000 in
theorem SortedFunc_told (A w : World) (Bp : Nat) (a : Option Addr) (cap : Nat) (z : List Bk) (hp : Pol.Lies A a cap z) (hA : Below A.heap.size A w) (hB : w.cell? ⟨Bp, 0, none⟩ = some (polV a cap z)) (hz : z.length ≤ 1000000000) :
    Calls Try.prog 24 #[.func (.func 45) #[] #[.pointer (some ⟨Bp, 0, none⟩)], .func (.func 26) #[] #[]] w fun e W' => ∃ a' cap', e = .returned (ptsV a' cap' (ofL hsh z)) ∧ Lies W' a' cap' (ofL hsh z) ∧ Below w.heap.size w W' := by
  have C := Lib.hid (Collect_told A w Bp a cap z hp hA hB hz)
  have hs := pts_short z
  clear hp hA hB
  go_enter Try.func24, Try.ntmps24
  go_wp2_with fail
  refine C.out.mono ?_
  rintro e w1 ⟨v, rfl, ho, hb⟩
  have HB := Lib.hid hb
  clear hb
  rcases ho.2 with ⟨rfl, h0⟩ | ⟨g, cap', cur, rfl, _⟩
  · have hn : ofL hsh z = [] := by
      have := psort_length (pts hsh z)
      exact List.eq_nil_of_length_eq_zero (by unfold ofL; omega)
    have HN := Lib.hid hn
    have S0 := fun W => Lib.hid (AnyF.slices_SortFunc_none Try.sortPl none 0 (.func (.func 26) #[] #[]) W)
    clear ho h0 hn
    go_wp2_with fail
    refine (S0 _).out.mono ?_
    rintro e w2 ⟨rfl, rfl⟩
    clear S0
    go_wp2_with fail
    go_ret
    refine ⟨none, 0, by rw [HN.out]; rfl, by rw [HN.out]; exact lies_nil _, HB.out⟩
  · have S0 := Lib.hid (SortFunc_told w.heap.size g cap' (pts hsh z) w1 (by omega) HB.out.size ho)
    have HL := Lib.hid (psort_length (pts hsh z))
    clear ho
    go_wp2_with fail
    refine S0.out.mono ?_
    rintro e w2 ⟨rfl, hl, hb2⟩
    have HL2 := Lib.hid hl
    have HB2 := Lib.hid hb2
    clear S0 hl hb2
    go_wp2_with fail
    go_ret
    exact ⟨some ⟨g, 0, none⟩, cap', by show _ = Ending.returned (Value.slice (some ⟨g, 0, none⟩) (psort (pts hsh z)).length cap'); rw [HL.out]; rfl, HL2.out, HB.out.trans HB2.out⟩

theorem made_flat (n : Nat) : (madeCells #[.int .u64 0, .int .i64 0] (n * 2)).toList = flat (List.replicate n (0, 0)) := by
  apply List.ext_getElem?
  intro j
  by_cases hj : j < n * 2
  · have hk : j / 2 < n := by omega
    obtain ⟨f0, f1⟩ := flat_get (List.replicate n (0, 0)) (j / 2) (0, 0) (by simp [hk])
    have hm : (madeCells #[Value.int .u64 0, .int .i64 0] (n * 2)).toList[j]? = some ((#[Value.int .u64 0, .int .i64 0] : Array Value)[j % 2]!) := by simp [madeCells, hj]
    rcases Nat.mod_two_eq_zero_or_one j with h0 | h0
    · rw [show j / 2 * 2 = j by omega] at f0
      rw [f0, hm, h0]; rfl
    · rw [show j / 2 * 2 + 1 = j by omega] at f1
      rw [f1, hm, h0]; rfl
  · rw [List.getElem?_eq_none (by simp [madeCells]; omega), List.getElem?_eq_none (by rw [flat_length]; simp; omega)]
theorem row_made (w : World) (n : Nat) (h : n ≤ maxLen) : Row (w.alloc (.cells (madeCells #[.int .u64 0, .int .i64 0] (n * 2)) 30)) w.heap.size n (List.replicate n (0, 0)) :=
  ⟨_, World.alloc_heap_new w _, by simp, h, by simp [madeCells], by rw [made_flat, List.take_of_length_le (by rw [flat_length]; simp)]⟩
theorem fill_set (L : List Pt) (k : Nat) (h : k < L.length) : (L.take k ++ List.replicate (L.length - k) (0, 0)).set k L[k] = L.take (k + 1) ++ List.replicate (L.length - (k + 1)) (0, 0) := by
  rw [List.set_append, if_neg (by simp; omega)]
  rw [show k - (L.take k).length = 0 by simp; omega, show L.length - k = (L.length - (k + 1)) + 1 by omega, List.replicate_succ, List.set_cons_zero, List.take_succ_eq_append_getElem h, List.append_assoc]
  rfl

set_option maxRecDepth 100000 in
set_option maxHeartbeats 1000000 in
theorem Of_told (a : Option Addr) (cap : Nat) (z : List Bk) (w : World) (h : Pol.Lies w a cap z) (hz : z.length ≤ 1000000000) :
    Calls Try.prog 11 #[polV a cap z] w fun e W' => ∃ v, e = .returned v ∧ Gives W' v (ofL hsh z) ∧ Below w.heap.size w W' := by
  have hb0 := below_alloc w (.cells #[polV a cap z] 22)
  have C := Lib.hid (SortedFunc_told w (w.alloc (.cells #[polV a cap z] 22)) w.heap.size a cap z h hb0 (by simp) hz)
  have hs := pts_short z
  have hl : (ofL hsh z).length ≤ 128000000000 := by unfold ofL; rw [psort_length]; omega
  have HB0 := Lib.hid hb0
  clear h hb0 hs
  generalize ofL hsh z = L at *
  obtain ⟨i0, hi, hz0, hz1, hz2⟩ := info_parts info_bk
  have hmk : ∀ W, (Instr.makeSlice 24 (.int .i64 (L.length : Int)) (.int .i64 (L.length : Int))).run Try.prog W = .ok (.slice (some ⟨W.heap.size, 0, none⟩) L.length L.length) (W.alloc (.cells (madeCells #[.int .u64 0, .int .i64 0] (L.length * 2)) 30)) := fun W => by
    have := run_make (P := Try.prog) W 24 30 i0 (.agg #[.int .u64 0, .int .i64 0]) Try.underlying24 hi hz0 .i64 .i64 L.length L.length (by omega) (Int.le_refl _) (by rw [hz2]; omega) (by omega)
    rw [hz1, show (Value.agg #[Value.int IntKind.u64 0, Value.int IntKind.i64 0]).cells = #[Value.int IntKind.u64 0, Value.int IntKind.i64 0] from rfl] at this
    simpa using this
  clear hi hz0 hz1 hz2
  go_enter Try.func11, Try.ntmps11
  go_wp2_with (go_at_call 25; refine (places_told _ _ rfl).mono ?_; rintro e w' ⟨rfl, rfl⟩)
  refine C.out.mono ?_
  rintro e w1 ⟨a', cap', rfl, hL, hb⟩
  have HL := Lib.hid hL
  have HB := Lib.hid (below2 HB0.out hb)
  have hlen := hL.len
  have hmax := hL.max
  unfold maxLen at hmax
  clear hL hb C
  go_wp2_with fail
  have hR0 := row_made w1 L.length (by unfold maxLen; omega)
  have hb1 := below_alloc w1 (.cells (madeCells #[.int .u64 0, .int .i64 0] (L.length * 2)) 30)
  have HR0 := Lib.hid hR0
  have HB1 := Lib.hid hb1
  clear hR0 hb1 hmk
  generalize (w1.alloc (.cells (madeCells #[.int .u64 0, .int .i64 0] (L.length * 2)) 30)) = W1 at *
  go_loopw [15] (fun i W => ∃ k : Nat, k ≤ L.length ∧ i = .int .i64 k ∧ Row W w1.heap.size L.length (L.take k ++ List.replicate (L.length - k) (0, 0)) ∧ Below w1.heap.size w1 W) (fun i _ => L.length - (intOf i).toNat)
  case atStart => exact ⟨0, Nat.zero_le _, rfl, by simpa using HR0.out, HB1.out⟩
  case round =>
    obtain ⟨k, hk, rfl, hR, hB⟩ := hrel
    have HR := Lib.hid hR
    have HBl := Lib.hid hB
    clear hR hB
    by_cases hlt : k < L.length
    · obtain ⟨b, off, rfl, c0, c1⟩ := (HL.out.kept HBl.out).at hlt
      have HF := Lib.hid (fill_set L k hlt)
      have hka : k < (L.take k ++ List.replicate (L.length - k) (0, 0)).length := by simp; omega
      obtain ⟨r0, r1, f0, f1⟩ := (HR.out.kept (below_alloc wr (.cells #[.int .u64 L[k].1, .int .i64 L[k].2] 48))).cell hka
      have hw1 : w1.heap.size ≤ wr.heap.size := HBl.out.size
      generalize (L.take k ++ List.replicate (L.length - k) (0, 0))[k] = q at *
      generalize L[k] = x at *
      clear hka
      go_wp2_with fail
      have HR2 := Lib.hid ((HR.out.kept (below_alloc wr (.cells #[.int .u64 x.1, .int .i64 x.2] 48))).put k x)
      go_roundw
      case rel => exact ⟨k + 1, by omega, by go_num, by rw [← HF.out]; exact HR2.out, below_put (HBl.out.alloc hw1 _) (Nat.le_refl _) k x⟩
      case measure => simp [intOf]; omega
    · obtain rfl : k = L.length := by omega
      have HR2 := HR.out
      rw [Nat.sub_self, List.replicate_zero, List.append_nil, List.take_length] at HR2
      have HR3 := Lib.hid HR2.lies
      clear HR2
      go_wp2_with fail
      go_ret
      exact ⟨_, rfl, ⟨_, _, rfl, HR3.out⟩, below2 HB.out HBl.out⟩
end Go.Proofs.Ytfjpdoamalbpjaa.Pts
