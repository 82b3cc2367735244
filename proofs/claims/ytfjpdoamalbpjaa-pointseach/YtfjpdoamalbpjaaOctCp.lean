/-
  Package octet: Put.
-/
import Derived.Test.YtfjpdoamalbpjaaOctBp
import Derived.Deep.OwnRows
import Derived.Laws.BytesArg
namespace Go.Proofs.Ytfjpdoamalbpjaa.Oct
open Go.RowKit Go.Shelf

attribute [local go_sem] Oper.semAt_some

theorem info_u8 : (Try.prog.info? 5).map (fun i => (i.zero, i.size, i.bytes)) = some (some (.int .u8 0), 1, 1) := by kernel_rfl

/-- What the bytes are behind some rounds: the round at place x lays its byte at n - 1 - x. -/
def putF (v n : Nat) (pre : List (Fin n)) : Nat → Nat :=
  pre.zipIdx.foldl (fun f xj => fun i => if i = n - 1 - xj.1.1 then v / 256 ^ xj.2 % 256 else f i) (fun _ => 0)
theorem putF_snoc (v n : Nat) (pre : List (Fin n)) (x : Fin n) : putF v n (pre ++ [x]) = fun i => if i = n - 1 - x.1 then v / 256 ^ pre.length % 256 else putF v n pre i := by
  simp [putF, List.zipIdx_append]
theorem putF_take (v n k : Nat) (hk : k ≤ n) (i : Nat) (hi : i < n) : putF v n ((List.finRange n).take k) i = if n - k ≤ i then v / 256 ^ (n - 1 - i) % 256 else 0 := by
  induction k with
  | zero => rw [if_neg (by omega)]; simp [putF]
  | succ k ih =>
    have hk' : k < n := by omega
    rw [finTake_succ hk', putF_snoc]
    simp only [finTake_length (Nat.le_of_lt hk')]
    by_cases e : i = n - 1 - k
    · rw [if_pos e, if_pos (by omega), show n - 1 - i = k by omega]
    · rw [if_neg e, ih (by omega)]
      by_cases e2 : n - k ≤ i
      · rw [if_pos e2, if_pos (by omega)]
      · rw [if_neg e2, if_neg (by omega)]
theorem bytes_get (v n i : Nat) (hi : i < n) : ((bytes v n)[i]?.getD 0).toNat = v / 256 ^ (n - 1 - i) % 256 := by
  induction n generalizing v with
  | zero => omega
  | succ n ih =>
    rw [bytes, List.getElem?_append, bytes_length]
    by_cases e : i < n
    · rw [if_pos e, ih _ e, Nat.div_div_eq_div_mul, show n + 1 - 1 - i = (n - 1 - i) + 1 by omega, Nat.pow_succ, Nat.mul_comm 256]
    · obtain rfl : i = n := by omega
      simp
theorem putF_all (v n i : Nat) (hi : i < n) : putF v n (List.finRange n) i = ((bytes v n)[i]?.getD 0).toNat := by
  have h := putF_take v n n (Nat.le_refl _) i hi
  rw [List.take_of_length_le (by simp)] at h
  rw [h, if_pos (by omega), bytes_get v n i hi]

/-- The text that has just these bytes. -/
abbrev str (l : List UInt8) : ByteArray := ⟨l.toArray⟩
theorem strOfNums_bytes (l : List UInt8) : strOfNums (l.map fun b => (b.toNat : Int)) = str l := by
  have h : (List.map ((fun n : Int => UInt8.ofNat n.toNat) ∘ fun b : UInt8 => (b.toNat : Int)) l) = l := by
    rw [show ((fun n : Int => UInt8.ofNat n.toNat) ∘ fun b : UInt8 => (b.toNat : Int)) = id from funext fun b => by simp]; simp
  simp [strOfNums, str, h]

theorem row_own {β : Type} (b t n : Nat) (f : β → Nat → Value) : Own (fun s W => W.rowIs b t n (f s)) := fun s W W' row h hg hr => by
  have hlt := h.lt
  obtain ⟨c, hb, hn, hc⟩ := h
  exact ⟨c, (hg.block b hlt (fun e => by obtain ⟨o, ho, hc⟩ := hr b e.symm; rw [hb] at ho; cases ho; cases hc)).trans hb, hn, hc⟩
theorem box_own {β : Type} (b t : Nat) (f : β → Value) : Own (fun s W => Boxed W b t (f s)) := fun s W W' row h hg hr =>
  h.kept hg (fun e => by obtain ⟨o, ho, hc⟩ := hr b e.symm; rw [show W.heap[b]? = _ from h] at ho; cases ho; cases hc)
theorem own_and {β : Type} {I I' : β → World → Prop} (h : Own I) (h' : Own I') : Own (fun s W => I s W ∧ I' s W) := fun s W W' row hs hg hr => ⟨h s W W' row hs.1 hg hr, h' s W W' row hs.2 hg hr⟩
theorem box_other {W : World} {b t : Nat} {v : Value} (h : Boxed W b t v) {a : Addr} (ha : b ≠ a.block) (u : Value) : Boxed (W.setCell a u) b t v := (Below.heap_setCell W a u b ha).trans h

set_option maxRecDepth 100000 in
set_option maxHeartbeats 2000000 in
theorem Put_in (F : Fence) (m : Nat) (h12 : F.fn 29) (h14 : F.fn 51) (h15 : F.fn 52) (h16 : F.fn 67) (hro : F.round = none) (hm : 3 ≤ m) (v n : Nat) (hv : v < 18446744073709551616) (hn1 : 1 ≤ n) (hn8 : n ≤ 8) (w : World) :
    CallsIn F m Try.prog 29 #[.int .u64 (v : Int), .int .i64 (n : Int)] w fun e W' =>
      e = .returned (.string (str (bytes v n))) ∧ Below w.heap.size w W' := by
  have h1 : 1 ≤ m := by omega
  have hmk := run_make_row' (P := Try.prog) 76 5 (.int .u8 0) 1 Try.underlying76 info_u8 rfl .i64 .i64 n (by omega) (by omega)
  refine callsIn_of_wp_marks Try.func29 rfl h12 ?_ hro
  simp only [Try.ntmps29, List.size_toArray, List.length_cons, List.length_nil, Nat.reduceAdd, Nat.reduceSub, Array.replicate_succ, Array.replicate_zero, List.push_toArray, List.append_toArray, List.nil_append, List.cons_append]
  have hfit : fitsB (n : Int) = true := by simp [fitsB]; omega
  gi_wp2_with (first | (gi_at_call 51; refine (fits_in F (m - 1) h14 hro _ _).mono ?_; rintro e w' ⟨rfl, rfl⟩; rw [hfit]) | (gi_at_call 52; refine (places_in F (m - 1) h15 hro _ _ _).mono ?_; rintro e w' ⟨rfl, rfl⟩))
  have b0 := ((((Boxed.new w 28 (.int .u64 (v : Int))).alloc (.cells #[.int .i64 n] 3)).alloc (.cells (madeCells #[.int .u8 0] n) 5)).alloc (.cells #[.slice (some ⟨w.heap.size + 1 + 1, 0, none⟩) n n] 76)).alloc (.cells #[.int .i64 0] 3) |>.alloc (.cells #[.int .i64 n] 3)
  have b1 := (((Boxed.new (w.alloc (.cells #[.int .u64 (v : Int)] 28)) 3 (.int .i64 (n : Int))).alloc (.cells (madeCells #[.int .u8 0] n) 5)).alloc (.cells #[.slice (some ⟨w.heap.size + 1 + 1, 0, none⟩) n n] 76)).alloc (.cells #[.int .i64 0] 3) |>.alloc (.cells #[.int .i64 n] 3)
  have b2 := ((World.rowIs_made ((w.alloc (.cells #[.int .u64 (v : Int)] 28)).alloc (.cells #[.int .i64 n] 3)) (.int .u8 0) n 5).alloc (.cells #[.slice (some ⟨w.heap.size + 1 + 1, 0, none⟩) n n] 76)).alloc (.cells #[.int .i64 0] 3) |>.alloc (.cells #[.int .i64 n] 3)
  have b3 := ((Boxed.new (((w.alloc (.cells #[.int .u64 (v : Int)] 28)).alloc (.cells #[.int .i64 n] 3)).alloc (.cells (madeCells #[.int .u8 0] n) 5)) 76 (.slice (some ⟨w.heap.size + 1 + 1, 0, none⟩) n n)).alloc (.cells #[.int .i64 0] 3)).alloc (.cells #[.int .i64 n] 3)
  have b4 := (Boxed.new ((((w.alloc (.cells #[.int .u64 (v : Int)] 28)).alloc (.cells #[.int .i64 n] 3)).alloc (.cells (madeCells #[.int .u8 0] n) 5)).alloc (.cells #[.slice (some ⟨w.heap.size + 1 + 1, 0, none⟩) n n] 76)) 3 (.int .i64 0)).alloc (.cells #[.int .i64 n] 3)
  have b5 := Boxed.new (((((w.alloc (.cells #[.int .u64 (v : Int)] 28)).alloc (.cells #[.int .i64 n] 3)).alloc (.cells (madeCells #[.int .u8 0] n) 5)).alloc (.cells #[.slice (some ⟨w.heap.size + 1 + 1, 0, none⟩) n n] 76)).alloc (.cells #[.int .i64 0] 3)) 3 (.int .i64 (n : Int))
  simp only [World.size_alloc] at b0 b1 b2 b3 b4 b5
  have hB0 : Below w.heap.size w ((((((w.alloc (.cells #[.int .u64 (v : Int)] 28)).alloc (.cells #[.int .i64 n] 3)).alloc (.cells (madeCells #[.int .u8 0] n) 5)).alloc (.cells #[.slice (some ⟨w.heap.size + 1 + 1, 0, none⟩) n n] 76)).alloc (.cells #[.int .i64 0] 3)).alloc (.cells #[.int .i64 n] 3)) :=
    ((((((Below.refl _ w).alloc (Nat.le_refl _) _).alloc (by simp) _).alloc (by simp; omega) _).alloc (by simp; omega) _).alloc (by simp; omega) _).alloc (by simp; omega) _
  generalize hW0 : ((((((w.alloc (.cells #[.int .u64 (v : Int)] 28)).alloc (.cells #[.int .i64 n] 3)).alloc (.cells (madeCells #[.int .u8 0] n) 5)).alloc (.cells #[.slice (some ⟨w.heap.size + 1 + 1, 0, none⟩) n n] 76)).alloc (.cells #[.int .i64 0] 3)).alloc (.cells #[.int .i64 n] 3)) = W0 at *
  have hsz : W0.heap.size = w.heap.size + 6 := by rw [← hW0]; simp
  have HS := Lib.hid hsz
  have HW := Lib.hid hW0
  clear hW0 hmk
  have hseq := places_stops F (m - 1) h16 hro (by omega) (w.heap.size + 1 + 1 + 1 + 1) (w.heap.size + 1 + 1 + 1 + 1 + 1) 0 n (by omega) (by omega) hn8 W0 (by omega) (by omega) b5.cell b4.cell
  simp only [Int.zero_add] at hseq
  refine wpIn_rangeFunc_ownF hro h1 (gf := 67) (lb := #[.pointer (some ⟨w.heap.size + 1 + 1 + 1 + 1 + 1, 0, none⟩), .pointer (some ⟨w.heap.size + 1 + 1 + 1 + 1, 0, none⟩)]) rfl h16 (enters_of Try.func67 (by kernel_rfl) rfl)
    hseq keepsCell_t keepsCell_b (Below.refl _ _) (fun _ => rfl)
    (fun pre W => (Boxed W w.heap.size 28 (.int .u64 ((v / 256 ^ pre.length : Nat) : Int)) ∧ Boxed W (w.heap.size + 1) 3 (.int .i64 n) ∧ W.rowIs (w.heap.size + 1 + 1) 5 n (fun i => .int .u8 (putF v n pre i : Nat)) ∧ Boxed W (w.heap.size + 1 + 1 + 1) 76 (.slice (some ⟨w.heap.size + 1 + 1, 0, none⟩) n n)) ∧ Below w.heap.size w W)
    (fun _ _ _ => False)
    (OwnFrom.and (Own.from (own_and (box_own _ _ _) (own_and (box_own _ _ _) (own_and (row_own _ _ _ _) (box_own _ _ _)))) _) (ownFrom_below (Nat.le_refl _) (by omega)))
    (fun _ _ _ _ _ hs _ _ => hs)
    ⟨⟨by simpa using b0, b1, by simpa [putF] using b2, b3⟩, hB0⟩
    (fun x => { tmps := #[.int .u64 v, .int .i64 n, .pointer (some ⟨w.heap.size, 0, none⟩), .pointer (some ⟨w.heap.size + 1, 0, none⟩), .string ⟨#[]⟩, .pointer (some ⟨w.heap.size + 1 + 1 + 1, 0, none⟩), .int .i64 (x.1 : Int), .int .i64 n, .bool true, .bool false, .int .i64 n, .slice (some ⟨w.heap.size + 1 + 1, 0, none⟩) n n, .int .i64 n, .func (.func 67) #[] #[.pointer (some ⟨w.heap.size + 1 + 1 + 1 + 1 + 1, 0, none⟩), .pointer (some ⟨w.heap.size + 1 + 1 + 1 + 1, 0, none⟩)], .int .i64 (x.1 : Int), undef, undef, undef, undef, undef, undef, undef, undef, undef, undef, undef, undef], defers := [] }) ?assign ?body ?done ?stop
  case assign =>
    intro l x W K hK
    gi_wp2
    exact hK
  case body =>
    rintro l pre x W ⟨⟨hb0, hb1, hb2, hb3⟩, hB⟩ hlen
    clear b0 b1 b2 b3 b4 b5 hB0 hseq
    have hx := x.2
    have c0 := hb0.cell
    have f0 := hb0.frozen
    have c1 := hb1.cell
    have c3 := hb3.cell
    have c2 := hb2.cell (i := n - 1 - x.1) (by omega)
    have f2 := hb2.frozen (n - 1 - x.1)
    generalize putF v n pre (n - 1 - x.1) = old at c2
    generalize hq : v / 256 ^ pre.length = q at *
    have HQ := Lib.hid hq
    have hq64 : q < 18446744073709551616 := by rw [← hq]; exact Nat.lt_of_le_of_lt (Nat.div_le_self _ _) hv
    clear hq
    have H0 := Lib.hid hb0
    have H1 := Lib.hid hb1
    have H3 := Lib.hid hb3
    have H2 := Lib.hid hb2
    clear hb0 hb1 hb2 hb3
    gi_wp2
    have e1 : ((v / 256 ^ (pre ++ [x]).length : Nat) : Int) = (q : Int) / 256 := by
      rw [List.length_append, List.length_singleton, Nat.pow_succ, ← Nat.div_div_eq_div_mul, HQ.out]; omega
    refine ⟨(KeepsOthers.setCell _ _ _).trans (KeepsOthers.setCell _ _ _), fun u hu => ?_, ⟨?_, ?_, ?_, ?_⟩, ?_⟩
    · exact (World.cell?_setCell_other _ _ _ _ (by simp <;> omega)).trans ((World.cell?_setCell_other _ _ _ _ (by simp)).trans hu)
    · rw [e1]; exact (box_other H0.out (by simp <;> omega) _).set _
    · exact box_other (box_other H1.out (by simp) _) (by simp) _
    · refine ((H2.out.set (n - 1 - x.1) _).setOther (by simp <;> omega) _).congr (fun i hi => ?_)
      rw [putF_snoc, HQ.out]
      by_cases e : i = n - 1 - x.1
      · simp only [if_pos e]; rfl
      · simp only [if_neg e]
    · exact box_other (box_other H3.out (by simp) _) (by simp <;> omega) _
    · exact (hB.setCell (p := ⟨w.heap.size + 1 + 1, n - 1 - x.1, none⟩) (by simp <;> omega) _).setCell (p := ⟨w.heap.size, 0, none⟩) (by simp) _
  case done =>
    rintro D ys W hD rfl ⟨⟨hb0, hb1, hb2, hb3⟩, hB⟩ hK
    have hcv := run_convert_bytes_arg (P := Try.prog) W 76 5 Try.underlying76 Try.underlying5 (w.heap.size + 1 + 1) 0 n n ((bytes v n).map fun b => (b.toNat : Int)) (by simp [bytes_length])
      (fun i hi => by rw [Nat.zero_add, hb2.cell hi, putF_all v n i hi]; simp [List.getD, bytes_length, hi]) 9 Try.underlying9
    rw [strOfNums_bytes] at hcv
    have c3 := hb3.cell
    gi_wp2
    refine ⟨by simp, .inl ⟨_, _, rfl, run_takeDeferred hK, ?_⟩⟩
    refine ⟨_, results_tmp rfl _ _ _, rfl, hB.trans (belowK_b (w := w) (Nat.le_refl _) W D _ _ (by omega) hK rfl rfl)⟩
  case stop =>
    rintro D c pre W _ _ h _
    exact h.elim

set_option maxRecDepth 100000 in
set_option maxHeartbeats 2000000 in
theorem Put_not_in (F : Fence) (m : Nat) (h12 : F.fn 29) (h14 : F.fn 51) (hro : F.round = none) (hm : 3 ≤ m) (v n : Int) (h : ¬ (1 ≤ n ∧ n ≤ 8)) (w : World) :
    CallsIn F m Try.prog 29 #[.int .u64 v, .int .i64 n] w fun e W' =>
      e = .returned (.string ⟨#[]⟩) ∧ Below w.heap.size w W' := by
  have h1 : 1 ≤ m := by omega
  refine callsIn_of_wp_marks Try.func29 rfl h12 ?_ hro
  simp only [Try.ntmps29, List.size_toArray, List.length_cons, List.length_nil, Nat.reduceAdd, Nat.reduceSub, Array.replicate_succ, Array.replicate_zero, List.push_toArray, List.append_toArray, List.nil_append, List.cons_append]
  have hfit : fitsB n = false := by unfold fitsB; rw [Bool.and_eq_false_iff]; simp; omega
  gi_wp2_with (gi_at_call 51; refine (fits_in F (m - 1) h14 hro _ _).mono ?_; rintro e w' ⟨rfl, rfl⟩; rw [hfit])
  all_goals refine ⟨_, results_tmp rfl _ _ _, rfl, ((Below.refl _ w).alloc (Nat.le_refl _) _).alloc (by simp) _⟩

theorem Put_yes (v n : Int) (w : World) (hv0 : 0 ≤ v) (hv : v ≤ 18446744073709551615) (h : 1 ≤ n ∧ n ≤ 8) :
    Calls Try.prog 29 #[.int .u64 v, .int .i64 n] w fun e W' => e = .returned (.string (str (bytes v.toNat n.toNat))) ∧ Below w.heap.size w W' := by
  obtain ⟨v, rfl⟩ := Int.eq_ofNat_of_zero_le hv0
  obtain ⟨n, rfl⟩ := Int.eq_ofNat_of_zero_le (show 0 ≤ n by omega)
  exact (callsIn_wide (n := 3)).1 (Put_in Fence.wide 3 trivial trivial trivial trivial rfl (by omega) v n (by omega) (by omega) (by omega) w)

theorem Put_no (v n : Int) (w : World) (h : ¬ (1 ≤ n ∧ n ≤ 8)) :
    Calls Try.prog 29 #[.int .u64 v, .int .i64 n] w fun e W' => e = .returned (.string ⟨#[]⟩) ∧ Below w.heap.size w W' :=
  (callsIn_wide (n := 3)).1 (Put_not_in Fence.wide 3 trivial trivial rfl (by omega) v n h w)
end Go.Proofs.Ytfjpdoamalbpjaa.Oct
