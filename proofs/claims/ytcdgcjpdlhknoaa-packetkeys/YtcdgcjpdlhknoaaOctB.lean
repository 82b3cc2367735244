/-
  Package octet: Get.
-/
import Derived.Test.YtcdgcjpdlhknoaaOctA
import Derived.Test.YtcdgcjpdlhknoaaOct0
import Derived.BigRegionIn
import Derived.Laws.BitsAllLaws
namespace Go.Proofs.Ytcdgcjpdlhknoaa.Oct
open Go.RowKit Go.Shelf

attribute [local go_sem] Oper.semAt_some

/-- The bytes of s at the places a + j. -/
def at_ (s : ByteArray) (a : Nat) {n : Nat} (pre : List (Fin n)) : List UInt8 := pre.map fun j => s.data.toList[a + j.1]?.getD 0

theorem at_snoc (s : ByteArray) (a : Nat) {n : Nat} (pre : List (Fin n)) (x : Fin n) : at_ s a (pre ++ [x]) = at_ s a pre ++ [s.data.toList[a + x.1]?.getD 0] := by simp [at_]
theorem at_length (s : ByteArray) (a : Nat) {n : Nat} (pre : List (Fin n)) : (at_ s a pre).length = pre.length := by simp [at_]
theorem at_all (s : ByteArray) (a n : Nat) (h : a + n ≤ s.size) : at_ s a (List.finRange n) = (s.data.toList.drop a).take n := by
  apply List.ext_getElem
  · simp [at_]; have : s.data.size = s.size := rfl; omega
  · intro i h1 h2
    have h3 : i < n := by simpa [at_] using h1
    have h4 : a + i < s.data.toList.length := by rw [Array.length_toList]; exact Nat.lt_of_lt_of_le (by omega) h
    simp only [at_, List.getElem_map, List.getElem_finRange, List.getElem_take, List.getElem_drop]
    rw [List.getElem?_eq_getElem (by simpa using h4)]; rfl
theorem byte_at (s : ByteArray) (i : Nat) (h : i < s.size) : s.data.toList[i]?.getD 0 = s[i] := by
  have h4 : i < s.data.toList.length := by rw [Array.length_toList]; exact h
  rw [List.getElem?_eq_getElem h4]; rfl
theorem pow_le7 {k : Nat} (h : k ≤ 7) : 256 ^ k ≤ 72057594037927936 := by
  have : 256 ^ k ≤ 256 ^ 7 := Nat.pow_le_pow_right (by omega) h
  simpa using this
theorem or_step (v b : Nat) (hv : v < 72057594037927936) (hb : b < 256) : bits .or .u64 (IntKind.u64.wrap ((v : Int) * 256)) (IntKind.u64.wrap (b : Int)) = ((v * 256 + b : Nat) : Int) := by
  have e1 : IntKind.u64.wrap ((v : Int) * 256) = ((v * 256 : Nat) : Int) := by
    simp only [IntKind.wrap, IntKind.signed, IntKind.bits]; simp; omega
  have e2 : IntKind.u64.wrap (b : Int) = ((b : Nat) : Int) := by
    simp only [IntKind.wrap, IntKind.signed, IntKind.bits]; simp; omega
  rw [e1, e2, u64_or_nat _ _ (by omega) (by omega)]
  congr 1
  rw [Nat.mul_comm, show (256 : Nat) = 2 ^ 8 from rfl, ← Nat.two_pow_add_eq_or_of_lt (by simpa using hb)]
theorem step_val (s : ByteArray) (a : Nat) {n : Nat} (pre : List (Fin n)) (x : Fin n) (i : Nat) (hi : i < s.size) (e : i = a + x.1) (hl : pre.length ≤ 7) :
    bits .or .u64 (IntKind.u64.wrap ((num (at_ s a pre) : Nat) * 256 : Int)) (IntKind.u64.wrap (s[i].toNat : Int)) = ((num (at_ s a (pre ++ [x])) : Nat) : Int) := by
  have h := num_lt (at_ s a pre)
  rw [at_length] at h
  have hp := pow_le7 hl
  rw [at_snoc, num_snoc, ← e, byte_at s i hi]
  exact or_step _ _ (by omega) (UInt8.toNat_lt _)

set_option maxRecDepth 100000 in
set_option maxHeartbeats 2000000 in
theorem Get_in (F : Fence) (m : Nat) (h10 : F.fn 22) (h14 : F.fn 42) (h15 : F.fn 43) (h16 : F.fn 73) (hro : F.round = none) (hm : 3 ≤ m) (s : ByteArray) (a n : Nat) (hs : s.size ≤ maxLen) (hn1 : 1 ≤ n) (hn8 : n ≤ 8) (ha : a + n ≤ s.size) (ha1 : a ≤ 4611686018427387904) (w : World) :
    CallsIn F m Try.prog 22 #[.string s, .int .i64 (a : Int), .int .i64 (n : Int)] w fun e W' =>
      e = .returned (.tuple #[.int .u64 (num ((s.data.toList.drop a).take n) : Nat), .bool true]) ∧ Below w.heap.size w W' := by
  unfold maxLen at hs
  have h1 : 1 ≤ m := by omega
  refine callsIn_of_wp_marks Try.func22 rfl h10 ?_ hro
  simp only [Try.ntmps22, List.size_toArray, List.length_cons, List.length_nil, Nat.reduceAdd, Nat.reduceSub, Array.replicate_succ, Array.replicate_zero, List.push_toArray, List.append_toArray, List.nil_append, List.cons_append]
  have hfit : fitsB (n : Int) = true := by simp [fitsB]; omega
  have d1 : decide ((a : Int) < 0) = false := by simp
  have d2 : decide ((s.size : Int) - (n : Int) < (a : Int)) = false := by simp; omega
  gi_wp2_with (first | (gi_at_call 42; refine (fits_in F (m - 1) h14 hro _ _).mono ?_; rintro e w' ⟨rfl, rfl⟩; rw [hfit]) | (gi_at_call 43; refine (places_in F (m - 1) h15 hro _ _ _).mono ?_; rintro e w' ⟨rfl, rfl⟩))
  have c0 := cell_new_o w (.string s) 9
  have c1 := cell_new_o (w.alloc (.cells #[.string s] 9)) (.int .u64 0) 43
  have c2 := cell_new_o ((w.alloc (.cells #[.string s] 9)).alloc (.cells #[.int .u64 0] 43)) (.int .i64 a) 3
  have c3 := cell_new_o (((w.alloc (.cells #[.string s] 9)).alloc (.cells #[.int .u64 0] 43)).alloc (.cells #[.int .i64 a] 3)) (.int .i64 n) 3
  simp only [World.size_alloc] at c1 c2 c3
  have hB0 : Below w.heap.size w ((((w.alloc (.cells #[.string s] 9)).alloc (.cells #[.int .u64 0] 43)).alloc (.cells #[.int .i64 a] 3)).alloc (.cells #[.int .i64 n] 3)) :=
    ((((Below.refl _ w).alloc (Nat.le_refl _) _).alloc (by simp) _).alloc (by simp; omega) _).alloc (by simp; omega) _
  have k0 := cell_alloc_o (.cells #[.int .i64 n] 3) (cell_alloc_o (.cells #[.int .i64 a] 3) (cell_alloc_o (.cells #[.int .u64 0] 43) c0.1))
  have k1 := cell_alloc_o (.cells #[.int .i64 n] 3) (cell_alloc_o (.cells #[.int .i64 a] 3) c1.1)
  have f1 := frozen_alloc_o (.cells #[.int .i64 n] 3) (cell_alloc_o (.cells #[.int .i64 a] 3) c1.1) (frozen_alloc_o (.cells #[.int .i64 a] 3) c1.1 c1.2)
  have k2 := cell_alloc_o (.cells #[.int .i64 n] 3) c2.1
  have k3 := c3.1
  generalize hW0 : ((((w.alloc (.cells #[.string s] 9)).alloc (.cells #[.int .u64 0] 43)).alloc (.cells #[.int .i64 a] 3)).alloc (.cells #[.int .i64 n] 3)) = W0 at *
  have hsz : W0.heap.size = w.heap.size + 4 := by rw [← hW0]; simp
  have HS := Lib.hid hsz
  have HW := Lib.hid hW0
  clear c0 c1 c2 c3 hW0
  refine wpIn_rangeFunc_ownF hro h1 (gf := 73) (lb := #[.pointer (some ⟨w.heap.size + 1 + 1 + 1, 0, none⟩), .pointer (some ⟨w.heap.size + 1 + 1, 0, none⟩)]) rfl h16 (enters_of Try.func73 (by kernel_rfl) rfl)
    (places_stops F (m - 1) h16 hro (by omega) (w.heap.size + 1 + 1) (w.heap.size + 1 + 1 + 1) a n (by omega) (by omega) hn8 W0 (by omega) (by omega) k3 k2) keepsCell_t keepsCell_b (Below.refl _ _) (fun _ => rfl)
    (fun pre W => (W.cell? ⟨w.heap.size, 0, none⟩ = some (.string s) ∧ W.cell? ⟨w.heap.size + 1, 0, none⟩ = some (.int .u64 (num (at_ s a pre) : Nat)) ∧ W.frozen? ⟨w.heap.size + 1, 0, none⟩ = false) ∧ Below w.heap.size w W)
    (fun _ _ _ => False)
    (OwnFrom.and (Own.from (fun s A B row hs hg hr => ⟨cell_kept hs.1 hg hr, cell_kept hs.2.1 hg hr, (frozen_kept hs.2.1 hg hr).trans hs.2.2⟩) _) (ownFrom_below (Nat.le_refl _) (by omega)))
    (fun _ _ _ _ _ hs _ _ => hs)
    ⟨⟨k0, k1, f1⟩, hB0⟩
    (fun x => { tmps := #[.string s, .int .i64 a, .int .i64 n, .pointer (some ⟨w.heap.size, 0, none⟩), undef, undef, .int .u64 0, .bool false, .pointer (some ⟨w.heap.size + 1, 0, none⟩), .int .i64 (a + (x.1 : Int)), .int .i64 n, .bool true, .bool false, .bool false, .int .i64 a, .bool false, .bool false, .bool false, .int .i64 a, .string s, .int .i64 s.size, .int .i64 n, .int .i64 (s.size - n), .bool false, .bool false, .int .i64 a, .int .i64 n, .func (.func 73) #[] #[.pointer (some ⟨w.heap.size + 1 + 1 + 1, 0, none⟩), .pointer (some ⟨w.heap.size + 1 + 1, 0, none⟩)], .int .i64 (a + (x.1 : Int)), undef, undef, undef, undef, undef, undef, undef, undef], defers := [] }) ?assign ?body ?done ?stop
  case assign =>
    intro l x W K hK
    gi_wp2
    exact hK
  case body =>
    rintro l pre x W ⟨⟨hcs, hcv, hfv⟩, hB⟩ hlen
    have hmx : Try.prog.follows .mixedOrders = true := by kernel_rfl
    clear k0 k1 f1 k2 k3 hB0
    gi_wp2
    gi_region_with_o (fail)
    all_goals gi_wp2
    all_goals
      refine ⟨(KeepsOthers.setCell _ _ _).trans (KeepsOthers.drew _), fun v hv => ?_, ⟨?_, ?_, ?_⟩, ?_⟩
      · exact (World.cell?_setCell_other _ _ _ _ (by simp)).trans hv
      · exact (World.cell?_setCell_other _ _ _ _ (by simp)).trans hcs
      · rw [cell_drew_own, step_val s a pre x _ (by omega) (by omega) (by omega)]; exact World.cell?_setCell_same' _ _ _ (by rw [hcv]; rfl)
      · rw [frozen_drew_own, World.frozen?_setCell]; exact hfv
      · exact (hB.setCell (p := ⟨w.heap.size + 1, 0, none⟩) (by simp) _).drew
  case done =>
    rintro D ys W hD rfl ⟨⟨_, hcv, _⟩, hB⟩ hK
    gi_wp2
    refine ⟨by simp, .inl ⟨_, _, rfl, run_takeDeferred hK, ?_⟩⟩
    refine ⟨.tuple #[.int .u64 (num (at_ s a (List.finRange n)) : Nat), .bool true], by simp [results, Try.results22, go_sem], by rw [at_all s a n ha], hB.trans (belowK_b (w := w) (Nat.le_refl _) W D _ _ (by omega) hK rfl rfl)⟩
  case stop =>
    rintro D c pre W _ _ h _
    exact h.elim

set_option maxRecDepth 100000 in
set_option maxHeartbeats 2000000 in
theorem Get_not_in (F : Fence) (m : Nat) (h10 : F.fn 22) (h14 : F.fn 42) (hro : F.round = none) (hm : 3 ≤ m) (s : ByteArray) (a n : Int) (hs : s.size ≤ maxLen) (ha : -9223372036854775808 ≤ a ∧ a ≤ 9223372036854775807) (h : ¬ (1 ≤ n ∧ n ≤ 8 ∧ 0 ≤ a ∧ a + n ≤ s.size)) (w : World) :
    CallsIn F m Try.prog 22 #[.string s, .int .i64 a, .int .i64 n] w fun e W' =>
      e = .returned (.tuple #[.int .u64 0, .bool false]) ∧ Below w.heap.size w W' := by
  unfold maxLen at hs
  have h1 : 1 ≤ m := by omega
  refine callsIn_of_wp_marks Try.func22 rfl h10 ?_ hro
  simp only [Try.ntmps22, List.size_toArray, List.length_cons, List.length_nil, Nat.reduceAdd, Nat.reduceSub, Array.replicate_succ, Array.replicate_zero, List.push_toArray, List.append_toArray, List.nil_append, List.cons_append]
  by_cases hf : 1 ≤ n ∧ n ≤ 8
  · have hfit : fitsB n = true := by simp [fitsB]; omega
    by_cases h0 : a < 0
    · have d1 : decide (a < 0) = true := by simpa using h0
      gi_wp2_with (gi_at_call 42; refine (fits_in F (m - 1) h14 hro _ _).mono ?_; rintro e w' ⟨rfl, rfl⟩; rw [hfit])
      all_goals refine ⟨_, by simp [results, Try.results22, go_sem], rfl, (Below.refl _ w).alloc (Nat.le_refl _) _⟩
    · have d1 : decide (a < 0) = false := by simpa using h0
      have d2 : decide ((s.size : Int) - n < a) = true := by simp; omega
      gi_wp2_with (gi_at_call 42; refine (fits_in F (m - 1) h14 hro _ _).mono ?_; rintro e w' ⟨rfl, rfl⟩; rw [hfit])
      all_goals refine ⟨_, by simp [results, Try.results22, go_sem], rfl, (Below.refl _ w).alloc (Nat.le_refl _) _⟩
  · have hfit : fitsB n = false := by unfold fitsB; rw [Bool.and_eq_false_iff]; simp; omega
    gi_wp2_with (gi_at_call 42; refine (fits_in F (m - 1) h14 hro _ _).mono ?_; rintro e w' ⟨rfl, rfl⟩; rw [hfit])
    all_goals refine ⟨_, by simp [results, Try.results22, go_sem], rfl, (Below.refl _ w).alloc (Nat.le_refl _) _⟩

/-- The number that Get tells where it tells one. -/
def getV (s : ByteArray) (a n : Int) : Nat := num ((s.data.toList.drop a.toNat).take n.toNat)

theorem Get_yes (s : ByteArray) (a n : Int) (w : World) (hs : s.size ≤ 4611686018427387904) (h : 1 ≤ n ∧ n ≤ 8 ∧ 0 ≤ a ∧ a + n ≤ s.size) :
    Calls Try.prog 22 #[.string s, .int .i64 a, .int .i64 n] w fun e W' =>
      e = .returned (.tuple #[.int .u64 (getV s a n : Nat), .bool true]) ∧ Below w.heap.size w W' := by
  obtain ⟨h1, h2, h3, h4⟩ := h
  obtain ⟨a, rfl⟩ := Int.eq_ofNat_of_zero_le h3
  obtain ⟨n, rfl⟩ := Int.eq_ofNat_of_zero_le (show 0 ≤ n by omega)
  exact (callsIn_wide (n := 3)).1 (Get_in Fence.wide 3 trivial trivial trivial trivial rfl (by omega) s a n (by unfold maxLen; omega) (by omega) (by omega) (by omega) (by omega) w)

theorem Get_no (s : ByteArray) (a n : Int) (w : World) (hs : s.size ≤ 4611686018427387904) (ha : -9223372036854775808 ≤ a ∧ a ≤ 9223372036854775807) (h : ¬ (1 ≤ n ∧ n ≤ 8 ∧ 0 ≤ a ∧ a + n ≤ s.size)) :
    Calls Try.prog 22 #[.string s, .int .i64 a, .int .i64 n] w fun e W' =>
      e = .returned (.tuple #[.int .u64 0, .bool false]) ∧ Below w.heap.size w W' :=
  (callsIn_wide (n := 3)).1 (Get_not_in Fence.wide 3 trivial trivial rfl (by omega) s a n (by unfold maxLen; omega) ha h w)
end Go.Proofs.Ytcdgcjpdlhknoaa.Oct
