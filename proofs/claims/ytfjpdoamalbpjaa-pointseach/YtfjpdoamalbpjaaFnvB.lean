/-
  Package fnv: fold, Join and Sum.
-/
import Derived.Test.YtfjpdoamalbpjaaFnvA
namespace Go.Proofs.Ytfjpdoamalbpjaa.Fnv
open Go.RowKit Go.Shelf

attribute [local go_sem] Oper.semAt_some

set_option maxRecDepth 100000 in
set_option maxHeartbeats 2000000 in
theorem fold_in (F : Fence) (m : Nat) (h17 : F.fn 64) (h16 : F.fn 66) (h19 : F.fn 81) (hro : F.round = none) (hm : 3 ≤ m) (B : Nat) (s : ByteArray) (h : Nat) (hs : s.size ≤ 4611686018427387904) (hh : h < 18446744073709551616) (w : World) (hB : B < w.heap.size)
    (hc : w.cell? ⟨B, 0, none⟩ = some (.string s)) :
    CallsIn F m Try.prog 64 #[.int .u64 (h : Int), .func (.func 81) #[] #[.pointer (some ⟨B, 0, none⟩)], .func (.func 66) #[] #[]] w fun e W' =>
      e = .returned (.int .u64 (jn h s.data.toList : Nat)) ∧ Below w.heap.size w W' := by
  have h1 : 1 ≤ m := by omega
  refine callsIn_of_wp_marks Try.func64 rfl h17 ?_ hro
  simp only [Try.ntmps64, List.size_toArray, List.length_cons, List.length_nil, Nat.reduceAdd, Nat.reduceSub, Array.replicate_succ, Array.replicate_zero, List.push_toArray, List.append_toArray, List.nil_append, List.cons_append]
  gi_wp2
  have c0 := cell_new_o w (.int .u64 (h : Int)) 90
  have c1 := cell_new_o (w.alloc (.cells #[.int .u64 (h : Int)] 90)) (.func (.func 66) #[] #[]) 95
  simp only [World.size_alloc] at c1
  have k0 := cell_alloc_o (.cells #[.func (.func 66) #[] #[]] 95) c0.1
  have f0 := frozen_alloc_o (.cells #[.func (.func 66) #[] #[]] 95) c0.1 c0.2
  have k1 := c1.1
  have kB := cell_alloc_o (.cells #[.func (.func 66) #[] #[]] 95) (cell_alloc_o (.cells #[.int .u64 (h : Int)] 90) hc)
  have hB0 : Below w.heap.size w ((w.alloc (.cells #[.int .u64 (h : Int)] 90)).alloc (.cells #[.func (.func 66) #[] #[]] 95)) :=
    ((Below.refl _ w).alloc (Nat.le_refl _) _).alloc (by simp) _
  generalize hW0 : ((w.alloc (.cells #[.int .u64 (h : Int)] 90)).alloc (.cells #[.func (.func 66) #[] #[]] 95)) = W0 at *
  have hsz : W0.heap.size = w.heap.size + 2 := by rw [← hW0]; simp
  have HS := Lib.hid hsz
  have HW := Lib.hid hW0
  clear c0 c1 hW0
  refine wpIn_rangeFunc_ownF hro h1 (gf := 81) (lb := #[.pointer (some ⟨B, 0, none⟩)]) rfl h19 (enters_of Try.func81 (by kernel_rfl) rfl)
    (octets_stops F (m - 1) h19 hro (by omega) B s hs W0 (by omega) kB) keepsCell_t keepsCell_b (Below.refl _ _) (fun _ => rfl)
    (fun pre W => (W.cell? ⟨w.heap.size, 0, none⟩ = some (.int .u64 (jn h pre : Nat)) ∧ W.frozen? ⟨w.heap.size, 0, none⟩ = false ∧ W.cell? ⟨w.heap.size + 1, 0, none⟩ = some (.func (.func 66) #[] #[])) ∧ Below w.heap.size w W)
    (fun _ _ _ => False)
    (OwnFrom.and (Own.from (fun s A B row hs hg hr => ⟨cell_kept hs.1 hg hr, (frozen_kept hs.1 hg hr).trans hs.2.1, cell_kept hs.2.2 hg hr⟩) _) (ownFrom_below (Nat.le_refl _) (by omega)))
    (fun _ _ _ _ _ hs _ _ => hs)
    ⟨⟨k0, f0, k1⟩, hB0⟩
    (fun x => { tmps := #[.int .u64 (h : Int), .func (.func 81) #[] #[.pointer (some ⟨B, 0, none⟩)], .func (.func 66) #[] #[], .pointer (some ⟨w.heap.size, 0, none⟩), undef, .pointer (some ⟨w.heap.size + 1, 0, none⟩), .int .u64 0, .int .u8 (x.toNat : Int), .func (.func 81) #[] #[.pointer (some ⟨B, 0, none⟩)], .int .u8 (x.toNat : Int), undef, undef, undef, undef, undef], defers := [] }) ?assign ?body ?done ?stop
  case assign =>
    intro l x W K hK
    gi_wp2
    exact hK
  case body =>
    rintro l pre x W ⟨⟨hch, hfh, hcs⟩, hB⟩ hlen
    have hjl := jn_lt h pre hh
    have HJ := Lib.hid (jn_snoc h pre x)
    have h2 : 1 ≤ m - 1 - 1 := by omega
    clear k0 k1 f0 kB hB0 hc
    gi_wp2_with (gi_at_call 66; refine (CallsIn.inRound l (next_in F _ h16 hro _ _ hjl _)).mono ?_; rintro e w' ⟨rfl, rfl⟩)
    refine ⟨KeepsOthers.setCell _ _ _, fun v hv => ?_, ⟨?_, ?_, ?_⟩, ?_⟩
    · exact (World.cell?_setCell_other _ _ _ _ (by simp)).trans hv
    · rw [HJ.out]; exact World.cell?_setCell_same' _ _ _ (by rw [hch]; rfl)
    · rw [World.frozen?_setCell]; exact hfh
    · exact (World.cell?_setCell_other _ _ _ _ (by simp)).trans hcs
    · exact hB.setCell (p := ⟨w.heap.size, 0, none⟩) (by simp) _
  case done =>
    rintro D ys W hD rfl ⟨⟨hch, _, _⟩, hB⟩ hK
    gi_wp2
    refine ⟨by simp, .inl ⟨_, _, rfl, run_takeDeferred hK, ?_⟩⟩
    refine ⟨.int .u64 (jn h s.data.toList : Nat), by simp [results, Try.results64, go_sem], rfl, hB.trans (belowK_b (w := w) (Nat.le_refl _) W D _ _ (by omega) hK rfl rfl)⟩
  case stop =>
    rintro D c pre W _ _ h _
    exact h.elim

set_option maxHeartbeats 800000 in
theorem Join_in (F : Fence) (m : Nat) (h12 : F.fn 50) (h17 : F.fn 64) (h18 : F.fn 65) (h16 : F.fn 66) (h19 : F.fn 81) (hro : F.round = none) (hm : 4 ≤ m) (s : ByteArray) (h : Nat) (hs : s.size ≤ 4611686018427387904) (hh : h < 18446744073709551616) (w : World) :
    CallsIn F m Try.prog 50 #[.int .u64 (h : Int), .string s] w fun e W' =>
      e = .returned (.int .u64 (jn h s.data.toList : Nat)) ∧ Below w.heap.size w W' := by
  have h1 : 1 ≤ m := by omega
  refine callsIn_of_wp Try.func50 rfl h12 ?_ hro
  simp only [Try.ntmps50, List.size_toArray, List.length_cons, List.length_nil, Nat.reduceAdd, Nat.reduceSub, Array.replicate_succ, Array.replicate_zero, List.push_toArray, List.append_toArray, List.nil_append, List.cons_append]
  have hb0 : Below w.heap.size w (w.alloc (.cells #[.string s] 9)) := (Below.refl _ w).alloc (Nat.le_refl _) _
  have HB := Lib.hid hb0
  clear hb0
  gi_wp2_with (first | (gi_at_call 65; refine (octets_in F (m - 1) h18 hro _ _).mono ?_; rintro e w' ⟨rfl, rfl⟩) | (gi_at_call 64; refine (fold_in F (m - 1) h17 h16 h19 hro (by omega) w.heap.size s h hs hh _ (by simp) (cell_new_o w _ _).1).mono ?_; rintro e w' ⟨rfl, hb⟩))
  go_ret
  exact ⟨rfl, HB.out.trans (hb.mono HB.out.size)⟩

/-- Some bytes on. -/
theorem Join_any (h : Nat) (s : ByteArray) (w : World) (hs : s.size ≤ 4611686018427387904) (hh : h < 18446744073709551616) :
    Calls Try.prog 50 #[.int .u64 (h : Int), .string s] w fun e W' => e = .returned (.int .u64 (jn h s.data.toList : Nat)) ∧ Below w.heap.size w W' :=
  (callsIn_wide (n := 4)).1 (Join_in Fence.wide 4 trivial trivial trivial trivial trivial rfl (by omega) s h hs hh w)

set_option maxHeartbeats 800000 in
/-- The hash of bytes. -/
theorem Sum_any (s : ByteArray) (w : World) (hs : s.size ≤ 4611686018427387904) :
    Calls Try.prog 28 #[.string s] w fun e W' => e = .returned (.int .u64 (jn 14695981039346656037 s.data.toList : Nat)) ∧ Below w.heap.size w W' := by
  go_enter Try.func28, Try.ntmps28
  go_wp2_with fail
  refine (Join_any 14695981039346656037 s _ hs (by decide)).mono ?_
  rintro e w1 ⟨rfl, hb⟩
  go_wp2_with fail
  go_ret
  exact ⟨rfl, hb⟩

end Go.Proofs.Ytfjpdoamalbpjaa.Fnv
