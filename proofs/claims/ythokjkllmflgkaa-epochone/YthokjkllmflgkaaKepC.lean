/-
  Package epoch: each, and the function that each hands back, as contracts.
-/
import Derived.Test.YthokjkllmflgkaaKepB
import Derived.WalkMore
import Derived.RangeFuncNested
import Derived.RangeFuncBound
import Derived.RangeFuncCalls
import Derived.RangeFuncLeaves
import Derived.OwnWalkIn
import Derived.TacticsInMore
import Derived.LoopNIn
import Derived.LoopIn
import Derived.BigRegionIn
namespace Go.Proofs.Ythokjkllmflgkaa.Kep
open Go.RowKit Go.Shelf RowG Trn Epo

attribute [local go_sem] Oper.semAt_some

set_option maxHeartbeats 400000 in
theorem each_told (p : Nat) (w : World) :
    Calls Try.prog 26 #[.pointer (some ⟨p, 0, none⟩)] w fun e w' =>
      e = .returned (.func (.func 30) #[] #[.pointer (some ⟨w.heap.size, 0, none⟩)]) ∧ w' = w.alloc (.cells #[.pointer (some ⟨p, 0, none⟩)] 25) := by
  go_enter Try.func26, Try.ntmps26
  go_wp2
  go_ret
  exact ⟨rfl, rfl⟩

/-- What a round must keep: all cells. -/
def KeepsAll (W W' : World) : Prop := ∀ (a : Addr) (v : Value), W.cell? a = some v → W'.cell? a = some v
theorem keepsAll_t {A B C : World} (h : KeepsAll A B) (k : KeepsAll B C) : KeepsAll A C := fun a v hv => k a v (h a v hv)
theorem keepsAll_b {w : World} (W : World) (l : Nat) (o o' : Obj) (_ : w.heap.size ≤ l) (h : W.heap[l]? = some o) (hc : o.isCells = false) (_ : o.isWalk = false) : KeepsAll W (W.putObj l o') :=
  fun _ _ hv => cell_kept hv (grownBy_putObj' W l o') (fun r e => by cases e; exact ⟨o, h, hc⟩)
theorem keepsAll_below {W W' : World} (h : Below W.heap.size W W') : KeepsAll W W' := fun _ _ hv => keep_b hv h
theorem finTake_succ {n k : Nat} (h : k < n) : (List.finRange n).take (k + 1) = (List.finRange n).take k ++ [⟨k, h⟩] := by
  rw [List.take_succ_eq_append_getElem (by simpa using h)]; simp
theorem finTake_length {n k : Nat} (h : k ≤ n) : ((List.finRange n).take k).length = k := by simp [h]
/-- A keeper's cells. -/
structure CellsOf (W : World) (p : Nat) (L : List Slot) : Prop where
  n : W.cell? ⟨p, 16, none⟩ = some (.int .i64 (L.length : Nat))
  st : ∀ i (hi : i < L.length), W.cell? ⟨p, i * 2, none⟩ = some (.int .i64 L[i].st)
  at' : ∀ i (hi : i < L.length), W.cell? ⟨p, i * 2 + 1, none⟩ = some (.int .i64 L[i].at')
theorem Held.cells {W : World} {p : Nat} {L : List Slot} (h : Held W p L) : CellsOf W p L := ⟨h.n, fun _ hi => h.st hi, fun _ hi => h.at' hi⟩
theorem CellsOf.kept {W W' : World} {p : Nat} {L : List Slot} (h : CellsOf W p L) (hk : KeepsAll W W') : CellsOf W' p L := ⟨hk _ _ h.n, fun i hi => hk _ _ (h.st i hi), fun i hi => hk _ _ (h.at' i hi)⟩
/-- What is told of a slot: it, and what it is. -/
def eachV (L : List Slot) (i : Fin L.length) : Array Value := #[.int .i64 (i.1 : Nat), slotV L[i.1]]

set_option maxRecDepth 100000 in
set_option maxHeartbeats 1000000 in
theorem each1_in (m : Nat) (hm : 1 ≤ m) (l Bk p : Nat) (L : List Slot) (hL : L.length ≤ 8)
    (J Jx : List (Fin L.length) → World → Prop) (W : World)
    (hY : ∀ pre x W, J pre W → pre.length < L.length → YieldAt Fence.wide (m - 1) Try.prog l (eachV L x) W fun e W' =>
      (e = .returned (.bool true) ∧ J (pre ++ [x]) W' ∧ KeepsAll W W') ∨ (e = .returned (.bool false) ∧ Jx (pre ++ [x]) W'))
    (hck : W.cell? ⟨Bk, 0, none⟩ = some (.pointer (some ⟨p, 0, none⟩))) (hC : CellsOf W p L) (h0 : J [] W) :
    CallsIn Fence.wide m Try.prog 30 #[.func (.yield l) #[] #[], .pointer (some ⟨Bk, 0, none⟩)] W fun e W' => (∃ v, e = .returned v) ∧
      ((∃ ys, ys = List.finRange L.length ∧ J ys W') ∨ (∃ pre : List (Fin L.length), (∃ l, pre ++ l = List.finRange L.length) ∧ Jx pre W')) := by
  have h1 : 1 ≤ m := hm
  have c16 := hC.n
  refine callsIn_of_wp Try.func30 rfl trivial ?_ rfl
  simp only [Try.ntmps30, List.size_toArray, List.length_cons, List.length_nil, Nat.reduceAdd, Nat.reduceSub, Array.replicate_succ, Array.replicate_zero, List.push_toArray, List.append_toArray, List.nil_append, List.cons_append]
  gi_wp2
  clear c16
  gi_loopw [8] (fun i wr => ∃ j : Nat, j ≤ L.length ∧ i = .int .i64 j ∧ J ((List.finRange L.length).take j) wr ∧ wr.cell? ⟨Bk, 0, none⟩ = some (.pointer (some ⟨p, 0, none⟩)) ∧ CellsOf wr p L)
    (fun i _ => L.length - (intOf i).toNat)
  case atStart => exact ⟨0, Nat.zero_le _, rfl, h0, hck, hC⟩
  case round =>
    obtain ⟨j, hj, rfl, hJs, hcx, hCx⟩ := hrel
    by_cases hlt : j < L.length
    · have c0 := hCx.st j hlt
      have c1 := hCx.at' j hlt
      obtain ⟨fn, tmps, assign, body, hy, hR⟩ := hY _ ⟨j, hlt⟩ wr hJs (by rw [finTake_length hj]; exact hlt)
      unfold eachV at hy
      dsimp only at hy
      have HC := Lib.hid hCx
      have b8 : (j : Int) < 8 := by omega
      clear hCx hck hC h0
      generalize L[j] = s at *
      gi_wp2
      refine hR.mono ?_
      clear hY hy hR c0 c1
      rintro e W3 (⟨rfl, hJ3, hk3⟩ | ⟨rfl, hJx3⟩)
      · have hc3 := hk3 _ _ hcx
        have hC3 := Lib.hid (HC.out.kept hk3)
        clear hk3 hcx
        gi_wp2
        go_roundw
        case rel => exact ⟨j + 1, by omega, by simp, by rw [finTake_succ hlt]; exact hJ3, hc3, hC3.out⟩
        case measure => simp [intOf]; omega
      · gi_wp2
        refine bodyPost_ret (results_none rfl _ _ _) rfl ?_
        exact ⟨⟨_, rfl⟩, .inr ⟨_, ⟨_, by rw [← finTake_succ hlt]; exact List.take_append_drop _ _⟩, hJx3⟩⟩
    · obtain rfl : j = L.length := by omega
      gi_wp2
      go_end0
      exact ⟨⟨_, rfl⟩, .inl ⟨_, by rw [List.take_of_length_le (by simp)], hJs⟩⟩

theorem each_stops (m : Nat) (hm : 1 ≤ m) (Bk p : Nat) (L : List Slot) (hL : L.length ≤ 8) (w : World)
    (hBk : Bk < w.heap.size) (hck : w.cell? ⟨Bk, 0, none⟩ = some (.pointer (some ⟨p, 0, none⟩))) (hp : Held w p L) :
    SeqStopsK Fence.wide m Try.prog 30 #[.pointer (some ⟨Bk, 0, none⟩)] (eachV L) KeepsAll (fun ys => ys = List.finRange L.length) (fun pre => ∃ l, pre ++ l = List.finRange L.length) L.length w := fun l J Jx W hW _ _ hY h0 =>
  each1_in m hm l Bk p L hL J Jx W hY ((hW.cell (p := ⟨Bk, 0, none⟩) hBk).trans hck) (hp.kept hW).cells h0
end Go.Proofs.Ythokjkllmflgkaa.Kep
