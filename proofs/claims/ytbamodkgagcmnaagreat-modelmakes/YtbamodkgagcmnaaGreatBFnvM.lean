/-
  Plain facts on the hash (no program): one byte on, some bytes on; what hashes keep apart.
-/
import Derived.Lib.Hide
import Derived.RangeFuncNested
import Derived.RangeFuncBound
import Derived.RangeFuncCalls
import Derived.RangeFuncLeaves
import Derived.Shelf.Abstract
import Derived.Shelf.RegionOpen
import Derived.WalkKit
import Derived.OwnWalkIn
import Derived.TacticsInMore
import Derived.LoopNIn
import Derived.LoopIn
import Derived.BigRegionIn
import Derived.Laws.BitsAllLaws
import Derived.Test.YtbamodkgagcmnaaGreatProg
set_option maxRecDepth 100000
namespace Go.Proofs.YtbamodkgagcmnaaGreat.Fnv

/-- A hash, one byte on. -/
def nx (h : Nat) (b : UInt8) : Nat := (h ^^^ b.toNat) * 1099511628211 % 18446744073709551616
/-- A hash, some bytes on. -/
def jn (h : Nat) (l : List UInt8) : Nat := l.foldl nx h

theorem nx_lt (h : Nat) (b : UInt8) : nx h b < 18446744073709551616 := Nat.mod_lt _ (by decide)
theorem fold_snoc (f : Nat → UInt8 → Nat) (h : Nat) (l : List UInt8) (b : UInt8) : (l ++ [b]).foldl f h = f (l.foldl f h) b := by simp
theorem jn_snoc (h : Nat) (l : List UInt8) (b : UInt8) : jn h (l ++ [b]) = nx (jn h l) b := fold_snoc nx h l b
theorem jn_lt (h : Nat) (l : List UInt8) (hh : h < 18446744073709551616) : jn h l < 18446744073709551616 := by
  induction l generalizing h with
  | nil => exact hh
  | cons b l ih => exact ih _ (nx_lt h b)

end Go.Proofs.YtbamodkgagcmnaaGreat.Fnv

namespace Go.Proofs.YtbamodkgagcmnaaGreat.Fnv
open Go.RowKit Go.Shelf

attribute [local go_sem] Oper.semAt_some

theorem u64_mod (x : Nat) : IntKind.u64.wrap (x : Int) = ((x % 18446744073709551616 : Nat) : Int) := by
  simp [IntKind.wrap, IntKind.signed, IntKind.bits]

theorem step_nx (h : Nat) (b : UInt8) (hh : h < 18446744073709551616) :
    IntKind.u64.wrap (bits .xor .u64 (h : Int) (IntKind.u64.wrap (b.toNat : Int)) * 1099511628211) = ((nx h b : Nat) : Int) := by
  have hb := b.toNat_lt
  rw [u64_mod b.toNat, Nat.mod_eq_of_lt (by omega), u64_xor_nat _ _ hh (by omega)]
  exact u64_mod ((h ^^^ b.toNat) * 1099511628211)

set_option maxHeartbeats 400000 in
theorem next_in (F : Fence) (m : Nat) (hf : F.fn 110) (hro : F.round = none) (h : Nat) (b : UInt8) (hh : h < 18446744073709551616) (w : World) :
    CallsIn F m Tryz.prog 110 #[.int .u64 (h : Int), .int .u8 (b.toNat : Int)] w fun e w' => e = .returned (.int .u64 (nx h b : Nat)) ∧ w = w' := by
  refine callsIn_of_wp Tryz.func110 rfl hf ?_ hro
  simp only [Tryz.ntmps110, List.size_toArray, List.length_cons, List.length_nil, Nat.reduceAdd, Nat.reduceSub, Array.replicate_succ, Array.replicate_zero, List.push_toArray, List.append_toArray, List.nil_append, List.cons_append]
  gi_wp2
  go_ret
  exact ⟨by rw [step_nx h b hh]; rfl, rfl⟩

set_option maxHeartbeats 400000 in
theorem octets_in (F : Fence) (m : Nat) (hf : F.fn 109) (hro : F.round = none) (s : ByteArray) (w : World) :
    CallsIn F m Tryz.prog 109 #[.string s] w fun e w' =>
      e = .returned (.func (.func 155) #[] #[.pointer (some ⟨w.heap.size, 0, none⟩)]) ∧ w' = w.alloc (.cells #[.string s] 9) := by
  refine callsIn_of_wp Tryz.func109 rfl hf ?_ hro
  simp only [Tryz.ntmps109, List.size_toArray, List.length_cons, List.length_nil, Nat.reduceAdd, Nat.reduceSub, Array.replicate_succ, Array.replicate_zero, List.push_toArray, List.append_toArray, List.nil_append, List.cons_append]
  gi_wp2
  go_ret
  exact ⟨rfl, rfl⟩

/-- What a round must keep for the function that tells bytes: the box of the text. -/
def KeepsCell (b : Nat) (W W' : World) : Prop := ∀ v, W.cell? ⟨b, 0, none⟩ = some v → W'.cell? ⟨b, 0, none⟩ = some v
theorem keepsCell_t {b : Nat} {A B C : World} (h : KeepsCell b A B) (k : KeepsCell b B C) : KeepsCell b A C := fun v hv => k v (h v hv)
theorem keepsCell_b {b : Nat} {w : World} (W : World) (l : Nat) (o o' : Obj) (_ : w.heap.size ≤ l) (h : W.heap[l]? = some o) (hc : o.isCells = false) (_ : o.isWalk = false) : KeepsCell b W (W.putObj l o') :=
  fun _ hv => cell_kept hv (grownBy_putObj' W l o') (fun r e => by cases e; exact ⟨o, h, hc⟩)

theorem take_snoc (s : ByteArray) (k : Nat) (h : k < s.size) : s.data.toList.take (k + 1) = s.data.toList.take k ++ [s[k]] := by
  have h4 : k < s.data.toList.length := by rw [Array.length_toList]; exact h
  rw [List.take_succ_eq_append_getElem h4]; rfl
theorem take_len (s : ByteArray) (k : Nat) (h : k ≤ s.size) : (s.data.toList.take k).length = k := by
  rw [List.length_take, Array.length_toList]; exact Nat.min_eq_left h

set_option maxRecDepth 100000 in
set_option maxHeartbeats 2000000 in
theorem octets1_in (F : Fence) (m : Nat) (hf : F.fn 155) (hro : F.round = none) (hm : 1 ≤ m) (l B : Nat) (s : ByteArray) (hs : s.size ≤ 4611686018427387904)
    (J Jx : List UInt8 → World → Prop)
    (hY : ∀ pre x W, J pre W → pre.length < s.size → YieldAt F (m - 1) Tryz.prog l #[.int .u8 (x.toNat : Int)] W fun e W' =>
      (e = .returned (.bool true) ∧ J (pre ++ [x]) W' ∧ KeepsCell B W W') ∨ (e = .returned (.bool false) ∧ Jx (pre ++ [x]) W'))
    (W : World) (hc : W.cell? ⟨B, 0, none⟩ = some (.string s)) (h0 : J [] W) :
    CallsIn F m Tryz.prog 155 #[.func (.yield l) #[] #[], .pointer (some ⟨B, 0, none⟩)] W fun e W' => (∃ v, e = .returned v) ∧
      ((∃ ys, ys = s.data.toList ∧ J ys W') ∨ (∃ pre : List UInt8, pre.length ≤ s.size ∧ Jx pre W')) := by
  refine callsIn_of_wp Tryz.func155 rfl hf ?_ hro
  simp only [Tryz.ntmps155, List.size_toArray, List.length_cons, List.length_nil, Nat.reduceAdd, Nat.reduceSub, Array.replicate_succ, Array.replicate_zero, List.push_toArray, List.append_toArray, List.nil_append, List.cons_append]
  gi_wp2
  gi_loopw [6] (fun i wr => ∃ k : Nat, k ≤ s.size ∧ i = .int .i64 k ∧ J (s.data.toList.take k) wr ∧ wr.cell? ⟨B, 0, none⟩ = some (.string s))
    (fun i _ => s.size - (intOf i).toNat)
  case atStart => exact ⟨0, Nat.zero_le _, rfl, h0, hc⟩
  case round =>
    obtain ⟨k, hk, rfl, hJs, hcx⟩ := hrel
    by_cases hlt : k < s.size
    · obtain ⟨fn, tmps, assign, body, hy, hR⟩ := hY _ s[k] wr hJs (by rw [take_len s k hk]; exact hlt)
      gi_wp2
      refine hR.mono ?_
      rintro e W3 (⟨rfl, hJ3, hk3⟩ | ⟨rfl, hJx3⟩)
      · have hc3 := hk3 _ hcx
        gi_wp2
        go_roundw
        case rel => exact ⟨k + 1, by omega, by simp, by rw [take_snoc s k hlt]; exact hJ3, hc3⟩
        case measure => simp [intOf]; omega
      · gi_wp2
        refine bodyPost_ret (results_none rfl _ _ _) rfl ?_
        exact ⟨⟨_, rfl⟩, .inr ⟨_, by rw [List.length_append, take_len s k hk, List.length_singleton]; omega, hJx3⟩⟩
    · obtain rfl : k = s.size := by omega
      gi_wp2
      go_end0
      exact ⟨⟨_, rfl⟩, .inl ⟨_, by rw [List.take_of_length_le (by rw [Array.length_toList]; exact Nat.le_refl _)], hJs⟩⟩

theorem octets_stops (F : Fence) (m : Nat) (hf : F.fn 155) (hro : F.round = none) (hm : 1 ≤ m) (B : Nat) (s : ByteArray) (hs : s.size ≤ 4611686018427387904) (w : World) (hB : B < w.heap.size)
    (hc : w.cell? ⟨B, 0, none⟩ = some (.string s)) :
    SeqStopsK F m Tryz.prog 155 #[.pointer (some ⟨B, 0, none⟩)] (fun x : UInt8 => #[Value.int .u8 (x.toNat : Int)]) (KeepsCell B) (fun ys => ys = s.data.toList) (fun pre => pre.length ≤ s.size) s.size w := fun l J Jx W hW _ _ hY h0 =>
  octets1_in F m hf hro hm l B s hs J Jx hY W ((hW.cell (p := ⟨B, 0, none⟩) hB).trans hc) h0

theorem cell_new_o (W : World) (v : Value) (t : TypeId) : (W.alloc (.cells #[v] t)).cell? ⟨W.heap.size, 0, none⟩ = some v ∧ (W.alloc (.cells #[v] t)).frozen? ⟨W.heap.size, 0, none⟩ = false :=
  ⟨(Boxed.new W t v).cell, (Boxed.new W t v).frozen⟩
theorem cell_alloc_o {W : World} {a : Addr} {v : Value} (o : Obj) (h : W.cell? a = some v) : (W.alloc o).cell? a = some v := cell_kept h (World.grownBy_alloc W o none) (fun r e => by cases e)
theorem frozen_alloc_o {W : World} {a : Addr} {v : Value} (o : Obj) (h : W.cell? a = some v) (hf : W.frozen? a = false) : (W.alloc o).frozen? a = false := (frozen_kept h (World.grownBy_alloc W o none) (fun r e => by cases e)).trans hf

end Go.Proofs.YtbamodkgagcmnaaGreat.Fnv

namespace Go.Proofs.YtbamodkgagcmnaaGreat.Fnv
open Go.RowKit Go.Shelf

attribute [local go_sem] Oper.semAt_some

set_option maxRecDepth 100000 in
set_option maxHeartbeats 2000000 in
theorem fold_in (F : Fence) (m : Nat) (h17 : F.fn 108) (h16 : F.fn 110) (h19 : F.fn 155) (hro : F.round = none) (hm : 3 ≤ m) (B : Nat) (s : ByteArray) (h : Nat) (hs : s.size ≤ 4611686018427387904) (hh : h < 18446744073709551616) (w : World) (hB : B < w.heap.size)
    (hc : w.cell? ⟨B, 0, none⟩ = some (.string s)) :
    CallsIn F m Tryz.prog 108 #[.int .u64 (h : Int), .func (.func 155) #[] #[.pointer (some ⟨B, 0, none⟩)], .func (.func 110) #[] #[]] w fun e W' =>
      e = .returned (.int .u64 (jn h s.data.toList : Nat)) ∧ Below w.heap.size w W' := by
  have h1 : 1 ≤ m := by omega
  refine callsIn_of_wp_marks Tryz.func108 rfl h17 ?_ hro
  simp only [Tryz.ntmps108, List.size_toArray, List.length_cons, List.length_nil, Nat.reduceAdd, Nat.reduceSub, Array.replicate_succ, Array.replicate_zero, List.push_toArray, List.append_toArray, List.nil_append, List.cons_append]
  gi_wp2
  have c0 := cell_new_o w (.int .u64 (h : Int)) 163
  have c1 := cell_new_o (w.alloc (.cells #[.int .u64 (h : Int)] 163)) (.func (.func 110) #[] #[]) 168
  simp only [World.size_alloc] at c1
  have k0 := cell_alloc_o (.cells #[.func (.func 110) #[] #[]] 168) c0.1
  have f0 := frozen_alloc_o (.cells #[.func (.func 110) #[] #[]] 168) c0.1 c0.2
  have k1 := c1.1
  have kB := cell_alloc_o (.cells #[.func (.func 110) #[] #[]] 168) (cell_alloc_o (.cells #[.int .u64 (h : Int)] 163) hc)
  have hB0 : Below w.heap.size w ((w.alloc (.cells #[.int .u64 (h : Int)] 163)).alloc (.cells #[.func (.func 110) #[] #[]] 168)) :=
    ((Below.refl _ w).alloc (Nat.le_refl _) _).alloc (by simp) _
  generalize hW0 : ((w.alloc (.cells #[.int .u64 (h : Int)] 163)).alloc (.cells #[.func (.func 110) #[] #[]] 168)) = W0 at *
  have hsz : W0.heap.size = w.heap.size + 2 := by rw [← hW0]; simp
  have HS := Lib.hid hsz
  have HW := Lib.hid hW0
  clear c0 c1 hW0
  refine wpIn_rangeFunc_ownF hro h1 (gf := 155) (lb := #[.pointer (some ⟨B, 0, none⟩)]) rfl h19 (enters_of Tryz.func155 (by kernel_rfl) rfl)
    (octets_stops F (m - 1) h19 hro (by omega) B s hs W0 (by omega) kB) keepsCell_t keepsCell_b (Below.refl _ _) (fun _ => rfl)
    (fun pre W => (W.cell? ⟨w.heap.size, 0, none⟩ = some (.int .u64 (jn h pre : Nat)) ∧ W.frozen? ⟨w.heap.size, 0, none⟩ = false ∧ W.cell? ⟨w.heap.size + 1, 0, none⟩ = some (.func (.func 110) #[] #[])) ∧ Below w.heap.size w W)
    (fun _ _ _ => False)
    (OwnFrom.and (Own.from (fun s A B row hs hg hr => ⟨cell_kept hs.1 hg hr, (frozen_kept hs.1 hg hr).trans hs.2.1, cell_kept hs.2.2 hg hr⟩) _) (ownFrom_below (Nat.le_refl _) (by omega)))
    (fun _ _ _ _ _ hs _ _ => hs)
    ⟨⟨k0, f0, k1⟩, hB0⟩
    (fun x => { tmps := #[.int .u64 (h : Int), .func (.func 155) #[] #[.pointer (some ⟨B, 0, none⟩)], .func (.func 110) #[] #[], .pointer (some ⟨w.heap.size, 0, none⟩), undef, .pointer (some ⟨w.heap.size + 1, 0, none⟩), .int .u64 0, .int .u8 (x.toNat : Int), .func (.func 155) #[] #[.pointer (some ⟨B, 0, none⟩)], .int .u8 (x.toNat : Int), undef, undef, undef, undef, undef], defers := [] }) ?assign ?body ?done ?stop
  case assign =>
    intro l x W K hK
    gi_wp2
    exact hK
  case body =>
    rintro l pre x W ⟨⟨hch, hfh, hcs⟩, hB⟩ hlen
    have hjl := jn_lt h pre hh
    have HJ := Lib.hid (jn_snoc h pre x)
    have h2 : 1 ≤ m - 1 - 1 := by omega
    clear k0 k1 f0 kB hB0 hc
    gi_wp2_with (gi_at_call 110; refine (CallsIn.inRound l (next_in F _ h16 hro _ _ hjl _)).mono ?_; rintro e w' ⟨rfl, rfl⟩)
    refine ⟨KeepsOthers.setCell _ _ _, fun v hv => ?_, ⟨?_, ?_, ?_⟩, ?_⟩
    · exact (World.cell?_setCell_other _ _ _ _ (by simp)).trans hv
    · rw [HJ.out]; exact World.cell?_setCell_same' _ _ _ (by rw [hch]; rfl)
    · rw [World.frozen?_setCell]; exact hfh
    · exact (World.cell?_setCell_other _ _ _ _ (by simp)).trans hcs
    · exact hB.setCell (p := ⟨w.heap.size, 0, none⟩) (by simp) _
  case done =>
    rintro D ys W hD rfl ⟨⟨hch, _, _⟩, hB⟩ hK
    gi_wp2
    refine ⟨by simp, .inl ⟨_, _, rfl, run_takeDeferred hK, ?_⟩⟩
    refine ⟨.int .u64 (jn h s.data.toList : Nat), by simp [results, Tryz.results108, go_sem], rfl, hB.trans (belowK_b (w := w) (Nat.le_refl _) W D _ _ (by omega) hK rfl rfl)⟩
  case stop =>
    rintro D c pre W _ _ h _
    exact h.elim

set_option maxHeartbeats 800000 in
theorem Join_in (F : Fence) (m : Nat) (h12 : F.fn 73) (h17 : F.fn 108) (h18 : F.fn 109) (h16 : F.fn 110) (h19 : F.fn 155) (hro : F.round = none) (hm : 4 ≤ m) (s : ByteArray) (h : Nat) (hs : s.size ≤ 4611686018427387904) (hh : h < 18446744073709551616) (w : World) :
    CallsIn F m Tryz.prog 73 #[.int .u64 (h : Int), .string s] w fun e W' =>
      e = .returned (.int .u64 (jn h s.data.toList : Nat)) ∧ Below w.heap.size w W' := by
  have h1 : 1 ≤ m := by omega
  refine callsIn_of_wp Tryz.func73 rfl h12 ?_ hro
  simp only [Tryz.ntmps73, List.size_toArray, List.length_cons, List.length_nil, Nat.reduceAdd, Nat.reduceSub, Array.replicate_succ, Array.replicate_zero, List.push_toArray, List.append_toArray, List.nil_append, List.cons_append]
  have hb0 : Below w.heap.size w (w.alloc (.cells #[.string s] 9)) := (Below.refl _ w).alloc (Nat.le_refl _) _
  have HB := Lib.hid hb0
  clear hb0
  gi_wp2_with (first | (gi_at_call 109; refine (octets_in F (m - 1) h18 hro _ _).mono ?_; rintro e w' ⟨rfl, rfl⟩) | (gi_at_call 108; refine (fold_in F (m - 1) h17 h16 h19 hro (by omega) w.heap.size s h hs hh _ (by simp) (cell_new_o w _ _).1).mono ?_; rintro e w' ⟨rfl, hb⟩))
  go_ret
  exact ⟨rfl, HB.out.trans (hb.mono HB.out.size)⟩

/-- Some bytes on. -/
theorem Join_any (h : Nat) (s : ByteArray) (w : World) (hs : s.size ≤ 4611686018427387904) (hh : h < 18446744073709551616) :
    Calls Tryz.prog 73 #[.int .u64 (h : Int), .string s] w fun e W' => e = .returned (.int .u64 (jn h s.data.toList : Nat)) ∧ Below w.heap.size w W' :=
  (callsIn_wide (n := 4)).1 (Join_in Fence.wide 4 trivial trivial trivial trivial trivial rfl (by omega) s h hs hh w)

set_option maxHeartbeats 800000 in
/-- The hash of bytes. -/
theorem Sum_any (s : ByteArray) (w : World) (hs : s.size ≤ 4611686018427387904) :
    Calls Tryz.prog 32 #[.string s] w fun e W' => e = .returned (.int .u64 (jn 14695981039346656037 s.data.toList : Nat)) ∧ Below w.heap.size w W' := by
  go_enter Tryz.func32, Tryz.ntmps32
  go_wp2_with fail
  refine (Join_any 14695981039346656037 s _ hs (by decide)).mono ?_
  rintro e w1 ⟨rfl, hb⟩
  go_wp2_with fail
  go_ret
  exact ⟨rfl, hb⟩

end Go.Proofs.YtbamodkgagcmnaaGreat.Fnv

namespace Go.Proofs.YtbamodkgagcmnaaGreat.Fnv
open Go.RowKit Go.Shelf


end Go.Proofs.YtbamodkgagcmnaaGreat.Fnv
