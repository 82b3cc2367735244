/-
  Package fnv: contracts of Next, Join and Sum, and of what they call.
-/
import Derived.RangeFuncNested
import Derived.RangeFuncBound
import Derived.RangeFuncCalls
import Derived.RangeFuncLeaves
import Derived.Shelf.Abstract
import Derived.Shelf.RegionOpen
import Derived.WalkKit
import Derived.OwnWalkIn
import Derived.TacticsInMore
import Derived.LoopNIn
import Derived.LoopIn
import Derived.Lib.Hide
import Derived.BigRegionIn
import Derived.Laws.BitsAllLaws
import Derived.Test.YtfjpdoamalbpjaaProg
import Derived.Test.YtfjpdoamalbpjaaFnv0
namespace Go.Proofs.Ytfjpdoamalbpjaa.Fnv
open Go.RowKit Go.Shelf

attribute [local go_sem] Oper.semAt_some

theorem u64_mod (x : Nat) : IntKind.u64.wrap (x : Int) = ((x % 18446744073709551616 : Nat) : Int) := by
  simp [IntKind.wrap, IntKind.signed, IntKind.bits]

theorem step_nx (h : Nat) (b : UInt8) (hh : h < 18446744073709551616) :
    IntKind.u64.wrap (bits .xor .u64 (h : Int) (IntKind.u64.wrap (b.toNat : Int)) * 1099511628211) = ((nx h b : Nat) : Int) := by
  have hb := b.toNat_lt
  rw [u64_mod b.toNat, Nat.mod_eq_of_lt (by omega), u64_xor_nat _ _ hh (by omega)]
  exact u64_mod ((h ^^^ b.toNat) * 1099511628211)

set_option maxHeartbeats 400000 in
theorem next_in (F : Fence) (m : Nat) (hf : F.fn 66) (hro : F.round = none) (h : Nat) (b : UInt8) (hh : h < 18446744073709551616) (w : World) :
    CallsIn F m Try.prog 66 #[.int .u64 (h : Int), .int .u8 (b.toNat : Int)] w fun e w' => e = .returned (.int .u64 (nx h b : Nat)) ∧ w = w' := by
  refine callsIn_of_wp Try.func66 rfl hf ?_ hro
  simp only [Try.ntmps66, List.size_toArray, List.length_cons, List.length_nil, Nat.reduceAdd, Nat.reduceSub, Array.replicate_succ, Array.replicate_zero, List.push_toArray, List.append_toArray, List.nil_append, List.cons_append]
  gi_wp2
  go_ret
  exact ⟨by rw [step_nx h b hh]; rfl, rfl⟩

set_option maxHeartbeats 400000 in
theorem octets_in (F : Fence) (m : Nat) (hf : F.fn 65) (hro : F.round = none) (s : ByteArray) (w : World) :
    CallsIn F m Try.prog 65 #[.string s] w fun e w' =>
      e = .returned (.func (.func 81) #[] #[.pointer (some ⟨w.heap.size, 0, none⟩)]) ∧ w' = w.alloc (.cells #[.string s] 9) := by
  refine callsIn_of_wp Try.func65 rfl hf ?_ hro
  simp only [Try.ntmps65, List.size_toArray, List.length_cons, List.length_nil, Nat.reduceAdd, Nat.reduceSub, Array.replicate_succ, Array.replicate_zero, List.push_toArray, List.append_toArray, List.nil_append, List.cons_append]
  gi_wp2
  go_ret
  exact ⟨rfl, rfl⟩

/-- What a round must keep for the function that tells bytes: the box of the text. -/
def KeepsCell (b : Nat) (W W' : World) : Prop := ∀ v, W.cell? ⟨b, 0, none⟩ = some v → W'.cell? ⟨b, 0, none⟩ = some v
theorem keepsCell_t {b : Nat} {A B C : World} (h : KeepsCell b A B) (k : KeepsCell b B C) : KeepsCell b A C := fun v hv => k v (h v hv)
theorem keepsCell_b {b : Nat} {w : World} (W : World) (l : Nat) (o o' : Obj) (_ : w.heap.size ≤ l) (h : W.heap[l]? = some o) (hc : o.isCells = false) (_ : o.isWalk = false) : KeepsCell b W (W.putObj l o') :=
  fun _ hv => cell_kept hv (grownBy_putObj' W l o') (fun r e => by cases e; exact ⟨o, h, hc⟩)

theorem take_snoc (s : ByteArray) (k : Nat) (h : k < s.size) : s.data.toList.take (k + 1) = s.data.toList.take k ++ [s[k]] := by
  have h4 : k < s.data.toList.length := by rw [Array.length_toList]; exact h
  rw [List.take_succ_eq_append_getElem h4]; rfl
theorem take_len (s : ByteArray) (k : Nat) (h : k ≤ s.size) : (s.data.toList.take k).length = k := by
  rw [List.length_take, Array.length_toList]; exact Nat.min_eq_left h

set_option maxRecDepth 100000 in
set_option maxHeartbeats 2000000 in
theorem octets1_in (F : Fence) (m : Nat) (hf : F.fn 81) (hro : F.round = none) (hm : 1 ≤ m) (l B : Nat) (s : ByteArray) (hs : s.size ≤ 4611686018427387904)
    (J Jx : List UInt8 → World → Prop)
    (hY : ∀ pre x W, J pre W → pre.length < s.size → YieldAt F (m - 1) Try.prog l #[.int .u8 (x.toNat : Int)] W fun e W' =>
      (e = .returned (.bool true) ∧ J (pre ++ [x]) W' ∧ KeepsCell B W W') ∨ (e = .returned (.bool false) ∧ Jx (pre ++ [x]) W'))
    (W : World) (hc : W.cell? ⟨B, 0, none⟩ = some (.string s)) (h0 : J [] W) :
    CallsIn F m Try.prog 81 #[.func (.yield l) #[] #[], .pointer (some ⟨B, 0, none⟩)] W fun e W' => (∃ v, e = .returned v) ∧
      ((∃ ys, ys = s.data.toList ∧ J ys W') ∨ (∃ pre : List UInt8, pre.length ≤ s.size ∧ Jx pre W')) := by
  refine callsIn_of_wp Try.func81 rfl hf ?_ hro
  simp only [Try.ntmps81, List.size_toArray, List.length_cons, List.length_nil, Nat.reduceAdd, Nat.reduceSub, Array.replicate_succ, Array.replicate_zero, List.push_toArray, List.append_toArray, List.nil_append, List.cons_append]
  gi_wp2
  gi_loopw [6] (fun i wr => ∃ k : Nat, k ≤ s.size ∧ i = .int .i64 k ∧ J (s.data.toList.take k) wr ∧ wr.cell? ⟨B, 0, none⟩ = some (.string s))
    (fun i _ => s.size - (intOf i).toNat)
  case atStart => exact ⟨0, Nat.zero_le _, rfl, h0, hc⟩
  case round =>
    obtain ⟨k, hk, rfl, hJs, hcx⟩ := hrel
    by_cases hlt : k < s.size
    · obtain ⟨fn, tmps, assign, body, hy, hR⟩ := hY _ s[k] wr hJs (by rw [take_len s k hk]; exact hlt)
      gi_wp2
      refine hR.mono ?_
      rintro e W3 (⟨rfl, hJ3, hk3⟩ | ⟨rfl, hJx3⟩)
      · have hc3 := hk3 _ hcx
        gi_wp2
        go_roundw
        case rel => exact ⟨k + 1, by omega, by simp, by rw [take_snoc s k hlt]; exact hJ3, hc3⟩
        case measure => simp [intOf]; omega
      · gi_wp2
        refine bodyPost_ret (results_none rfl _ _ _) rfl ?_
        exact ⟨⟨_, rfl⟩, .inr ⟨_, by rw [List.length_append, take_len s k hk, List.length_singleton]; omega, hJx3⟩⟩
    · obtain rfl : k = s.size := by omega
      gi_wp2
      go_end0
      exact ⟨⟨_, rfl⟩, .inl ⟨_, by rw [List.take_of_length_le (by rw [Array.length_toList]; exact Nat.le_refl _)], hJs⟩⟩

theorem octets_stops (F : Fence) (m : Nat) (hf : F.fn 81) (hro : F.round = none) (hm : 1 ≤ m) (B : Nat) (s : ByteArray) (hs : s.size ≤ 4611686018427387904) (w : World) (hB : B < w.heap.size)
    (hc : w.cell? ⟨B, 0, none⟩ = some (.string s)) :
    SeqStopsK F m Try.prog 81 #[.pointer (some ⟨B, 0, none⟩)] (fun x : UInt8 => #[Value.int .u8 (x.toNat : Int)]) (KeepsCell B) (fun ys => ys = s.data.toList) (fun pre => pre.length ≤ s.size) s.size w := fun l J Jx W hW _ _ hY h0 =>
  octets1_in F m hf hro hm l B s hs J Jx hY W ((hW.cell (p := ⟨B, 0, none⟩) hB).trans hc) h0

theorem cell_new_o (W : World) (v : Value) (t : TypeId) : (W.alloc (.cells #[v] t)).cell? ⟨W.heap.size, 0, none⟩ = some v ∧ (W.alloc (.cells #[v] t)).frozen? ⟨W.heap.size, 0, none⟩ = false :=
  ⟨(Boxed.new W t v).cell, (Boxed.new W t v).frozen⟩
theorem cell_alloc_o {W : World} {a : Addr} {v : Value} (o : Obj) (h : W.cell? a = some v) : (W.alloc o).cell? a = some v := cell_kept h (World.grownBy_alloc W o none) (fun r e => by cases e)
theorem frozen_alloc_o {W : World} {a : Addr} {v : Value} (o : Obj) (h : W.cell? a = some v) (hf : W.frozen? a = false) : (W.alloc o).frozen? a = false := (frozen_kept h (World.grownBy_alloc W o none) (fun r e => by cases e)).trans hf

end Go.Proofs.Ytfjpdoamalbpjaa.Fnv
