/-
  Package sum: contracts of word, words, the function that words hands back, and carry.
-/
import Derived.Test.YtcdgcjpdlhknoaaOctB
import Derived.Test.YtcdgcjpdlhknoaaSum0
namespace Go.Proofs.Ytcdgcjpdlhknoaa.Cks
open Go.RowKit Go.Shelf
open Oct (KeepsCell keepsCell_t keepsCell_b cell_new_o cell_alloc_o frozen_alloc_o num num_lt)

attribute [local go_sem] Oper.semAt_some

/-- A byte of a text, or 0 behind its end. -/
def by_ (s : ByteArray) (i : Nat) : UInt8 := s.data.toList[i]?.getD 0

theorem num_two (s : ByteArray) (a : Nat) (h : a + 2 ≤ s.size) : num ((s.data.toList.drop a).take 2) = (wd (by_ s a) (by_ s (a + 1))).1 := by
  have h4 : a + 1 < s.data.toList.length := by rw [Array.length_toList]; exact Nat.lt_of_lt_of_le (by omega) h
  have e : (s.data.toList.drop a).take 2 = [by_ s a, by_ s (a + 1)] := by
    unfold by_
    rw [List.drop_eq_getElem_cons (by omega), List.drop_eq_getElem_cons h4, List.getElem?_eq_getElem (by omega), List.getElem?_eq_getElem h4]; rfl
  rw [e]; simp [num, wd]
theorem num_one (s : ByteArray) (a : Nat) (h : a + 1 = s.size) : num ((s.data.toList.drop a).take 1) * 256 = (wd (by_ s a) (by_ s (a + 1))).1 := by
  have h4 : a < s.data.toList.length := by rw [Array.length_toList]; exact Nat.lt_of_lt_of_le (Nat.lt_succ_self a) (Nat.le_of_eq h)
  have h5 : s.data.toList.length ≤ a + 1 := by rw [Array.length_toList]; exact Nat.le_of_eq h.symm
  have e : (s.data.toList.drop a).take 1 = [by_ s a] := by
    unfold by_
    rw [List.drop_eq_getElem_cons h4, List.getElem?_eq_getElem h4]; rfl
  have e2 : by_ s (a + 1) = 0 := by unfold by_; rw [List.getElem?_eq_none h5]; rfl
  rw [e, e2]; simp [num, wd]

set_option maxRecDepth 100000 in
set_option maxHeartbeats 800000 in
theorem word_in (F : Fence) (m : Nat) (hf : F.fn 85) (h10 : F.fn 22) (h14 : F.fn 42) (h15 : F.fn 43) (h16 : F.fn 73) (hro : F.round = none) (hm : 4 ≤ m) (s : ByteArray) (a : Nat) (hs : s.size ≤ 1099511627776) (ha : a < s.size) (w : World) :
    CallsIn F m Try.prog 85 #[.string s, .int .i64 (a : Int)] w fun e W' => e = .returned (.int .i64 ((wd (by_ s a) (by_ s (a + 1))).1 : Nat)) ∧ Below w.heap.size w W' := by
  have h1 : 1 ≤ m := by omega
  refine callsIn_of_wp Try.func85 rfl hf ?_ hro
  simp only [Try.ntmps85, List.size_toArray, List.length_cons, List.length_nil, Nat.reduceAdd, Nat.reduceSub, Array.replicate_succ, Array.replicate_zero, List.push_toArray, List.append_toArray, List.nil_append, List.cons_append]
  have hq := (wd (by_ s a) (by_ s (a + 1))).2
  by_cases h2 : a + 2 ≤ s.size
  · have e2 := num_two s a h2
    have c := (Oct.Get_in F (m - 1) h10 h14 h15 h16 hro (by omega) s a 2 (by unfold maxLen; omega) (by omega) (by omega) h2 (by omega) w)
    rw [e2] at c
    generalize (wd (by_ s a) (by_ s (a + 1))).1 = q at *
    clear e2
    gi_wp2_with (gi_at_call 22; refine c.mono ?_; rintro e w' ⟨rfl, hb⟩)
    go_ret
    exact ⟨rfl, hb⟩
  · have e2 := num_one s a (by omega)
    have c := (Oct.Get_not_in F (m - 1) h10 h14 hro (by omega) s (a : Int) 2 (by unfold maxLen; omega) (by omega) (by omega) w)
    have c1 := fun w => (Oct.Get_in F (m - 1) h10 h14 h15 h16 hro (by omega) s a 1 (by unfold maxLen; omega) (by omega) (by omega) (by omega) (by omega) w)
    rw [← e2] at hq ⊢
    generalize num ((s.data.toList.drop a).take 1) = q at *
    clear e2
    have C1 := Lib.hid c1
    clear c1
    gi_wp2_with fail
    gi_at_call 22
    refine c.mono ?_
    rintro e w' ⟨rfl, hb⟩
    clear c
    gi_wp2_with fail
    gi_at_call 22
    refine (C1.out _).mono ?_
    rintro e w'' ⟨rfl, hb'⟩
    gi_wp2_with fail
    go_ret
    exact ⟨rfl, hb.trans (hb'.mono hb.size)⟩

set_option maxHeartbeats 400000 in
theorem words_in (F : Fence) (m : Nat) (hf : F.fn 81) (hro : F.round = none) (s : ByteArray) (w : World) :
    CallsIn F m Try.prog 81 #[.string s] w fun e w' =>
      e = .returned (.func (.func 84) #[] #[.pointer (some ⟨w.heap.size, 0, none⟩)]) ∧ w' = w.alloc (.cells #[.string s] 9) := by
  refine callsIn_of_wp Try.func81 rfl hf ?_ hro
  simp only [Try.ntmps81, List.size_toArray, List.length_cons, List.length_nil, Nat.reduceAdd, Nat.reduceSub, Array.replicate_succ, Array.replicate_zero, List.push_toArray, List.append_toArray, List.nil_append, List.cons_append]
  gi_wp2
  go_ret
  exact ⟨rfl, rfl⟩

/-- The words of a text. -/
def ws (s : ByteArray) : List (Fin 65536) := wl s.data.toList
theorem ws_length (s : ByteArray) : (ws s).length = (s.size + 1) / 2 := by unfold ws; rw [wl_length, Array.length_toList]; rfl
theorem ws_take (s : ByteArray) (k : Nat) (h : 2 * k < s.size) : (ws s).take (k + 1) = (ws s).take k ++ [wd (by_ s (2 * k)) (by_ s (2 * k + 1))] :=
  wl_take s.data.toList k (by rw [Array.length_toList]; exact h)
theorem ws_take_len (s : ByteArray) (k : Nat) (h : k ≤ (s.size + 1) / 2) : ((ws s).take k).length = k := by
  rw [List.length_take, ws_length]; omega
theorem grown_below {w w' : World} (h : Below w.heap.size w w') (row : Option Nat) : w.grownBy w' row := ⟨h.os, h.tape, h.output, h.size, fun k hk _ => h.block k hk⟩

set_option maxRecDepth 100000 in
set_option maxHeartbeats 2000000 in
theorem words1_in (F : Fence) (m : Nat) (hf : F.fn 84) (hw : F.fn 85) (h10 : F.fn 22) (h14 : F.fn 42) (h15 : F.fn 43) (h16 : F.fn 73) (hro : F.round = none) (hm : 5 ≤ m) (l B : Nat) (s : ByteArray) (hs : s.size ≤ 1099511627776)
    (J Jx : List (Fin 65536) → World → Prop) (W : World) (hJ : AbidesFrom W.heap.size J)
    (hY : ∀ pre x W, J pre W → pre.length < (s.size + 1) / 2 → YieldAt F (m - 1) Try.prog l #[.int .i64 (x.1 : Int)] W fun e W' =>
      (e = .returned (.bool true) ∧ J (pre ++ [x]) W' ∧ KeepsCell B W W') ∨ (e = .returned (.bool false) ∧ Jx (pre ++ [x]) W'))
    (hc : W.cell? ⟨B, 0, none⟩ = some (.string s)) (h0 : J [] W) :
    CallsIn F m Try.prog 84 #[.func (.yield l) #[] #[], .pointer (some ⟨B, 0, none⟩)] W fun e W' => (∃ v, e = .returned v) ∧
      ((∃ ys, ys = ws s ∧ J ys W') ∨ (∃ pre : List (Fin 65536), pre.length ≤ (s.size + 1) / 2 ∧ Jx pre W')) := by
  have h1 : 1 ≤ m := by omega
  refine callsIn_of_wp Try.func84 rfl hf ?_ hro
  simp only [Try.ntmps84, List.size_toArray, List.length_cons, List.length_nil, Nat.reduceAdd, Nat.reduceSub, Array.replicate_succ, Array.replicate_zero, List.push_toArray, List.append_toArray, List.nil_append, List.cons_append]
  gi_wp2
  gi_loopw [3] (fun i wr => ∃ k : Nat, k ≤ (s.size + 1) / 2 ∧ i = .int .i64 ((2 * k : Nat) : Int) ∧ J ((ws s).take k) wr ∧ wr.cell? ⟨B, 0, none⟩ = some (.string s))
    (fun i _ => s.size + 1 - (intOf i).toNat)
  case atStart => exact ⟨0, Nat.zero_le _, rfl, h0, hc⟩
  case round =>
    obtain ⟨k, hk, rfl, hJs, hcx⟩ := hrel
    by_cases hlt : 2 * k < s.size
    · have d1 : decide (((2 * k : Nat) : Int) < (s.size : Int)) = true := by simpa using by omega
      have c := word_in F (m - 1) hw h10 h14 h15 h16 hro (by omega) s (2 * k) hs hlt wr
      have ht := Lib.hid (ws_take s k hlt)
      gi_wp2_with fail
      gi_at_call 85
      refine c.mono ?_
      rintro e w2 ⟨rfl, hb2⟩
      clear c
      have hJ2 : J ((ws s).take k) w2 := hJ _ _ _ none hJs (grown_below hb2 none) (fun r e => by cases e)
      have hc2 : w2.cell? ⟨B, 0, none⟩ = some (.string s) := cell_kept hcx (grown_below hb2 none) (fun r e => by cases e)
      obtain ⟨fn, tmps, assign, body, hy, hR⟩ := hY _ (wd (by_ s (2 * k)) (by_ s (2 * k + 1))) w2 hJ2 (by rw [ws_take_len s k hk]; omega)
      gi_wp2
      refine hR.mono ?_
      rintro e W3 (⟨rfl, hJ3, hk3⟩ | ⟨rfl, hJx3⟩)
      · have hc3 := hk3 _ hc2
        gi_wp2
        go_roundw
        case rel => exact ⟨k + 1, by omega, by simp; omega, by rw [ht.out]; exact hJ3, hc3⟩
        case measure => simp [intOf]; omega
      · gi_wp2
        refine bodyPost_ret (results_none rfl _ _ _) rfl ?_
        exact ⟨⟨_, rfl⟩, .inr ⟨_, by rw [List.length_append, ws_take_len s k hk, List.length_singleton]; omega, hJx3⟩⟩
    · have d1 : decide (((2 * k : Nat) : Int) < (s.size : Int)) = false := by simpa using by omega
      gi_wp2
      go_end0
      exact ⟨⟨_, rfl⟩, .inl ⟨_, by rw [List.take_of_length_le (by rw [ws_length]; omega)], hJs⟩⟩

theorem words_stops (F : Fence) (m : Nat) (hf : F.fn 84) (hw : F.fn 85) (h10 : F.fn 22) (h14 : F.fn 42) (h15 : F.fn 43) (h16 : F.fn 73) (hro : F.round = none) (hm : 5 ≤ m) (B : Nat) (s : ByteArray) (hs : s.size ≤ 1099511627776) (w : World) (hB : B < w.heap.size)
    (hc : w.cell? ⟨B, 0, none⟩ = some (.string s)) :
    SeqStopsK F m Try.prog 84 #[.pointer (some ⟨B, 0, none⟩)] (fun x : Fin 65536 => #[Value.int .i64 (x.1 : Int)]) (KeepsCell B) (fun ys => ys = ws s) (fun pre => pre.length ≤ (s.size + 1) / 2) ((s.size + 1) / 2) w := fun l J Jx W hW hJ _ hY h0 =>
  words1_in F m hf hw h10 h14 h15 h16 hro hm l B s hs J Jx W hJ hY ((hW.cell (p := ⟨B, 0, none⟩) hB).trans hc) h0

end Go.Proofs.Ytcdgcjpdlhknoaa.Cks
