/-
  Package sum: carry, Fold, Sum and Good.
-/
import Derived.Test.YtcdgcjpdlhknoaaSumA
import Derived.WalkMore
namespace Go.Proofs.Ytcdgcjpdlhknoaa.Cks
open Go.RowKit Go.Shelf
open Oct (KeepsCell keepsCell_t keepsCell_b cell_new_o cell_alloc_o frozen_alloc_o)

attribute [local go_sem] Oper.semAt_some

set_option maxRecDepth 100000 in
set_option maxHeartbeats 2000000 in
theorem carry_any (n : Nat) (hn : n ≤ 4611686018427387904) (w : World) :
    Calls Try.prog 82 #[.int .i64 (n : Int)] w fun e w' => e = .returned (.int .i64 (fc n : Nat)) ∧ w = w' := by
  go_enter Try.func82, Try.ntmps82
  go_wp2
  go_step3
  go_wp2
  go_step3
  go_wp2
  go_loop [0] (fun i => ∃ k : Nat, k ≤ 4611686018427387904 ∧ i = .int .i64 (k : Int) ∧ fc k = fc n) (fun i => (intOf i).toNat)
  case atStart => exact ⟨n, hn, rfl, rfl⟩
  case round =>
    obtain ⟨k, hk, rfl, hfk⟩ := hrel
    have HF := Lib.hid hfk
    clear hfk
    by_cases hlt : k < 65536
    · have e1 : (k : Int).tdiv 65536 = 0 := by rw [Int.tdiv_eq_ediv_of_nonneg (by omega)]; omega
      go_wp2
      go_ret
      exact ⟨by rw [← HF.out, fc_small k hlt]; rfl, rfl⟩
    · have e1 : (k : Int).tdiv 65536 = ((k / 65536 : Nat) : Int) := by rw [Int.tdiv_eq_ediv_of_nonneg (by omega)]; omega
      have e2 : (k : Int).tmod 65536 = ((k % 65536 : Nat) : Int) := by rw [Int.tmod_eq_emod_of_nonneg (by omega)]; omega
      go_wp2
      exact ⟨⟨k / 65536 + k % 65536, by omega, by simp, by rw [← HF.out, fc_round]⟩, by simp [intOf]; omega⟩

set_option maxRecDepth 100000 in
set_option maxHeartbeats 2000000 in
theorem Fold_in (F : Fence) (m : Nat) (hf : F.fn 77) (h1w : F.fn 81) (h2w : F.fn 84) (h3w : F.fn 85) (hcf : F.fn 82) (h10 : F.fn 22) (h14 : F.fn 42) (h15 : F.fn 43) (h16 : F.fn 73) (hro : F.round = none) (hm : 6 ≤ m)
    (hcarry : ∀ (n : Nat) (w : World), n ≤ 4611686018427387904 → CallsIn F (m - 1) Try.prog 82 #[.int .i64 (n : Int)] w fun e w' => e = .returned (.int .i64 (fc n : Nat)) ∧ w = w') (s : ByteArray) (hs : s.size ≤ 1099511627776) (w : World) :
    CallsIn F m Try.prog 77 #[.string s] w fun e W' => e = .returned (.int .i64 (fc (tot s.data.toList) : Nat)) ∧ Below w.heap.size w W' := by
  have h1 : 1 ≤ m := by omega
  refine callsIn_of_wp_marks Try.func77 rfl hf ?_ hro
  simp only [Try.ntmps77, List.size_toArray, List.length_cons, List.length_nil, Nat.reduceAdd, Nat.reduceSub, Array.replicate_succ, Array.replicate_zero, List.push_toArray, List.append_toArray, List.nil_append, List.cons_append]
  gi_wp2_with (gi_at_call 81; refine (words_in F (m - 1) h1w hro _ _).mono ?_; rintro e w' ⟨rfl, rfl⟩)
  have c0 := cell_new_o w (.int .i64 0) 3
  have c1 := cell_new_o (w.alloc (.cells #[.int .i64 0] 3)) (.string s) 9
  simp only [World.size_alloc] at c1
  have k0 := cell_alloc_o (.cells #[.string s] 9) c0.1
  have f0 := frozen_alloc_o (.cells #[.string s] 9) c0.1 c0.2
  have k1 := c1.1
  have hB0 : Below w.heap.size w ((w.alloc (.cells #[.int .i64 0] 3)).alloc (.cells #[.string s] 9)) :=
    ((Below.refl _ w).alloc (Nat.le_refl _) _).alloc (by simp) _
  generalize hW0 : ((w.alloc (.cells #[.int .i64 0] 3)).alloc (.cells #[.string s] 9)) = W0 at *
  have hsz : W0.heap.size = w.heap.size + 2 := by rw [← hW0]; simp
  have HS := Lib.hid hsz
  have HW := Lib.hid hW0
  clear c0 c1 hW0
  refine wpIn_rangeFunc_ownF hro h1 (gf := 84) (lb := #[.pointer (some ⟨w.heap.size + 1, 0, none⟩)]) rfl h2w (enters_of Try.func84 (by kernel_rfl) rfl)
    (words_stops F (m - 1) h2w h3w h10 h14 h15 h16 hro (by omega) (w.heap.size + 1) s hs W0 (by omega) k1) keepsCell_t keepsCell_b (Below.refl _ _) (fun _ => rfl)
    (fun pre W => (W.cell? ⟨w.heap.size, 0, none⟩ = some (.int .i64 (tt pre : Nat)) ∧ W.frozen? ⟨w.heap.size, 0, none⟩ = false) ∧ Below w.heap.size w W)
    (fun _ _ _ => False)
    (OwnFrom.and (Own.from (fun s A B row hs hg hr => ⟨cell_kept hs.1 hg hr, (frozen_kept hs.1 hg hr).trans hs.2⟩) _) (ownFrom_below (Nat.le_refl _) (by omega)))
    (fun _ _ _ _ _ hs _ _ => hs)
    ⟨⟨k0, f0⟩, hB0⟩
    (fun x => { tmps := #[.string s, undef, .int .i64 0, .pointer (some ⟨w.heap.size, 0, none⟩), .int .i64 (x.1 : Int), .string s, .func (.func 84) #[] #[.pointer (some ⟨w.heap.size + 1, 0, none⟩)], .int .i64 (x.1 : Int), undef, undef, undef, undef, undef], defers := [] }) ?assign ?body ?done ?stop
  case assign =>
    intro l x W K hK
    gi_wp2
    exact hK
  case body =>
    rintro l pre x W ⟨⟨hch, hfh⟩, hB⟩ hlen
    have htl := tt_le pre
    have hx := x.2
    have HJ := Lib.hid (tt_snoc pre x)
    have e1 : IntKind.i64.wrap ((tt pre : Int) + (x.1 : Int)) = ((tt pre : Nat) : Int) + (x.1 : Int) := IntWalk.i64_in _ (by omega)
    clear k0 k1 f0 hB0
    gi_wp2
    refine ⟨KeepsOthers.setCell _ _ _, fun v hv => ?_, ⟨?_, ?_⟩, ?_⟩
    · exact (World.cell?_setCell_other _ _ _ _ (by simp)).trans hv
    · rw [HJ.out]; exact World.cell?_setCell_same' _ _ _ (by rw [hch]; rfl)
    · rw [World.frozen?_setCell]; exact hfh
    · exact hB.setCell (p := ⟨w.heap.size, 0, none⟩) (by simp) _
  case done =>
    rintro D ys W hD rfl ⟨⟨hch, _⟩, hB⟩ hK
    have hl := tot_le s.data.toList
    rw [Array.length_toList] at hl
    have hl2 : tot s.data.toList ≤ 65535 * s.size := hl
    have hc := hcarry (tot s.data.toList) W (by omega)
    rw [show tt (ws s) = tot s.data.toList from rfl] at hch
    generalize hq : tot s.data.toList = q at *
    have HQ := Lib.hid hq
    clear hq
    gi_wp2_with fail
    gi_at_call 82
    refine hc.mono ?_
    rintro e w2 ⟨rfl, rfl⟩
    gi_wp2_with fail
    refine ⟨by simp, .inl ⟨_, _, rfl, run_takeDeferred hK, ?_⟩⟩
    refine ⟨.int .i64 (fc q : Nat), by simp [results, Try.results77, go_sem], by rw [HQ.out], hB.trans (belowK_b (w := w) (Nat.le_refl _) W D _ _ (by omega) hK rfl rfl)⟩
  case stop =>
    rintro D c pre W _ _ h _
    exact h.elim

/-- All words together, what is above a word gone round. -/
theorem Fold_any (s : ByteArray) (hs : s.size ≤ 1099511627776) (w : World) :
    Calls Try.prog 77 #[.string s] w fun e W' => e = .returned (.int .i64 (fc (tot s.data.toList) : Nat)) ∧ Below w.heap.size w W' :=
  (callsIn_wide (n := 6)).1 (Fold_in Fence.wide 6 trivial trivial trivial trivial trivial trivial trivial trivial trivial rfl (by omega) (fun n w hn => callsIn_wide.2 (carry_any n hn w)) s hs w)

set_option maxHeartbeats 800000 in
/-- What is left. -/
theorem Sum_any (s : ByteArray) (hs : s.size ≤ 1099511627776) (w : World) :
    Calls Try.prog 63 #[.string s] w fun e W' => e = .returned (.int .i64 (65535 - (fc (tot s.data.toList) : Nat) : Int)) ∧ Below w.heap.size w W' := by
  have hf := fc_le (tot s.data.toList)
  go_enter Try.func63, Try.ntmps63
  go_wp2_with fail
  refine (Fold_any s hs _).mono ?_
  rintro e w1 ⟨rfl, hb⟩
  go_wp2_with fail
  go_ret
  exact ⟨rfl, hb⟩

set_option maxHeartbeats 800000 in
/-- Whether nothing is left. -/
theorem Good_any (s : ByteArray) (hs : s.size ≤ 1099511627776) (w : World) :
    Calls Try.prog 52 #[.string s] w fun e W' => e = .returned (.bool (decide (fc (tot s.data.toList) = 65535))) ∧ Below w.heap.size w W' := by
  have hf := fc_le (tot s.data.toList)
  by_cases h : fc (tot s.data.toList) = 65535
  · rw [decide_eq_true h]
    go_enter Try.func52, Try.ntmps52
    go_wp2_with fail
    refine (Fold_any s hs _).mono ?_
    rintro e w1 ⟨rfl, hb⟩
    rw [h]
    go_wp2_with fail
    go_ret
    exact ⟨rfl, hb⟩
  · rw [decide_eq_false h]
    have N1 := Lib.hid (show (((fc (tot s.data.toList) : Nat) : Int) == 65535) = false from beq_false_of_ne (by omega))
    go_enter Try.func52, Try.ntmps52
    go_wp2_with fail
    refine (Fold_any s hs _).mono ?_
    rintro e w1 ⟨rfl, hb⟩
    go_wp2_with fail
    go_ret
    exact ⟨by first | rfl | (rw [N1.out]; rfl), hb⟩

end Go.Proofs.Ytcdgcjpdlhknoaa.Cks
