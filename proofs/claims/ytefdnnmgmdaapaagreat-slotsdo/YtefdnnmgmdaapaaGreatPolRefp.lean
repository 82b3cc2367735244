/-
  Pools: the document's Find and Check (package gangplankref08).
-/
import Derived.Test.YtefdnnmgmdaapaaGreatBPol
import Derived.BigQuiet
import Derived.WalkSmall
namespace Go.Proofs.YtefdnnmgmdaapaaGreat.Pol
open Go.RowKit Go.Shelf Rgn

set_option maxRecDepth 100000 in
set_option maxHeartbeats 2000000 in
theorem refFind_any (a : Option Addr) (cap : Nat) (bs : List Bk) (id : Int) (w : World) (h : Lies w a cap bs) :
    Calls Tryz.prog 32 #[polV a cap bs, .int .i64 id] w fun e W' => e = .returned (.int .i64 (find bs id 0)) ∧ w = W' := by
  have H := Lib.hid h
  clear h
  go_enter Tryz.func32, Tryz.ntmps32
  go_wp2
  go_loop [5] (fun i => ∃ k : Nat, k ≤ bs.length ∧ i = .int .i64 k ∧ ∀ j x, j < k → bs[j]? = some x → x.1 ≠ id) (fun i => bs.length - (intOf i).toNat)
  case atStart => exact ⟨0, Nat.zero_le _, rfl, fun j x hj => absurd hj (by omega)⟩
  case round =>
    obtain ⟨k, hk, rfl, hno⟩ := hrel
    have HN := Lib.hid hno
    clear hno
    by_cases hlt : k < bs.length
    · obtain ⟨b, off, rfl, c0, c1⟩ := H.out.at hlt
      have hC := H.out.len
      have hM := H.out.max
      unfold maxLen at hM
      have HH := Lib.hid (find_hit bs id k hlt HN.out)
      have HI := Lib.hid (show bs[k]? = some bs[k] from List.getElem?_eq_getElem hlt)
      generalize bs[k] = x at *
      by_cases he : x.1 = id
      · have e1 : (x.1 == id) = true := beq_iff_eq.2 he
        go_wp2
        go_ret
        exact ⟨by rw [HH.out he]; rfl, rfl⟩
      · have e1 : (x.1 == id) = false := beq_false_of_ne he
        go_wp2
        refine ⟨⟨k + 1, by omega, by go_num, fun j y hj hy => ?_⟩, by simp [intOf]; omega⟩
        by_cases e : j = k
        · rw [e, HI.out] at hy
          cases hy; exact he
        · exact HN.out j y (by omega) hy
    · go_wp2
      go_ret
      rw [find_none bs id (fun j x hj => HN.out j x (by omega))]
      exact ⟨rfl, rfl⟩
set_option maxRecDepth 100000 in
set_option maxHeartbeats 4000000 in
theorem refCheck_any (a : Option Addr) (cap : Nat) (bs : List Bk) (c : Bool) (hc : chk bs ↔ c = true) (w : World) (h : Lies w a cap bs) :
    Calls Tryz.prog 39 #[polV a cap bs] w fun e W' => e = .returned (chkV c) ∧ Below w.heap.size w W' := by
  have H := Lib.hid h
  have HC := Lib.hid hc
  have hlen := h.len
  have hmax := h.max
  unfold maxLen at hmax
  clear h hc
  by_cases h32 : 32 < bs.length
  · have d0 : decide ((32 : Int) < (bs.length : Int)) = true := decide_eq_true (by omega)
    have d1 : decide (32 < bs.length) = true := decide_eq_true h32
    have HV := Lib.hid (show c = false by
      cases c with
      | false => rfl
      | true => have := (HC.out.2 rfl).1; omega)
    go_enter Tryz.func39, Tryz.ntmps39
    go_wp2
    go_ret
    exact ⟨by rw [HV.out]; rfl, Below.refl _ _⟩
  · have d0 : decide ((32 : Int) < (bs.length : Int)) = false := decide_eq_false (by omega)
    have d1 : decide (32 < bs.length) = false := decide_eq_false h32
    go_enter Tryz.func39, Tryz.ntmps39
    go_wp2
    go_loopw [3] (fun i W => ∃ k : Nat, k ≤ bs.length ∧ i = .int .i64 k ∧ (∀ j x, j < k → bs[j]? = some x → fine bs j x) ∧ Below w.heap.size w W) (fun i _ => bs.length - (intOf i).toNat)
    case atStart => exact ⟨0, Nat.zero_le _, rfl, fun j x hj => absurd hj (by omega), Below.refl _ _⟩
    case round =>
      obtain ⟨k, hk, rfl, hno, hB⟩ := hrel
      have HN := Lib.hid hno
      have HB := Lib.hid hB
      clear hno hB
      by_cases hlt : k < bs.length
      · obtain ⟨b, off, rfl, c0, c1⟩ := (H.out.kept HB.out).at hlt
        have HI := Lib.hid (show bs[k]? = some bs[k] from List.getElem?_eq_getElem hlt)
        generalize bs[k] = x at *
        have HV : Hid (¬ fine bs k x → c = false) := Lib.hid (fun hn => by
          cases c with
          | false => rfl
          | true => exact absurd ((HC.out.2 rfl).2 k x HI.out) hn)
        by_cases g0 : x.1 < 1
        · have e0 : decide (x.1 < 1) = true := decide_eq_true g0
          have HF := Lib.hid (HV.out (fun h => absurd h.1 (by omega)))
          go_wp2
          go_ret
          exact ⟨by rw [HF.out]; rfl, HB.out.alloc HB.out.size _⟩
        have e0 : decide (x.1 < 1) = false := decide_eq_false g0
        by_cases g1 : 65535 < x.1
        · have e1 : decide (65535 < x.1) = true := decide_eq_true g1
          have HF := Lib.hid (HV.out (fun h => absurd h.2.1 (by omega)))
          go_wp2
          go_ret
          exact ⟨by rw [HF.out]; rfl, HB.out.alloc HB.out.size _⟩
        have e1 : decide (65535 < x.1) = false := decide_eq_false g1
        by_cases g2 : x.2 < 1
        · have e2 : decide (x.2 < 1) = true := decide_eq_true g2
          have HF := Lib.hid (HV.out (fun h => absurd h.2.2.1 (by omega)))
          go_wp2
          go_ret
          exact ⟨by rw [HF.out]; rfl, HB.out.alloc HB.out.size _⟩
        have e2 : decide (x.2 < 1) = false := decide_eq_false g2
        by_cases g3 : 16 < x.2
        · have e3 : decide (16 < x.2) = true := decide_eq_true g3
          have HF := Lib.hid (HV.out (fun h => absurd h.2.2.2.1 (by omega)))
          go_wp2
          go_ret
          exact ⟨by rw [HF.out]; rfl, HB.out.alloc HB.out.size _⟩
        have e3 : decide (16 < x.2) = false := decide_eq_false g3
        have hm := Lib.hid (HB.out.alloc HB.out.size (.cells #[.int .i64 x.1, .int .i64 x.2] 46))
        have FI := Lib.hid (refFind_any (some ⟨b, off, none⟩) cap bs x.1 (wr.alloc (.cells #[.int .i64 x.1, .int .i64 x.2] 46)) (H.out.kept hm.out))
        go_wp2_with fail
        refine FI.out.mono ?_
        rintro e w2 ⟨rfl, rfl⟩
        by_cases hf : find bs x.1 0 = k
        · have e5 : (find bs x.1 0 != (k : Int)) = false := by simp [hf]
          have FF := Lib.hid (show fine bs k x from ⟨by omega, by omega, by omega, by omega, hf⟩)
          clear hf FI
          generalize find bs x.1 0 = q at *
          go_wp2
          refine ⟨⟨k + 1, by omega, by go_num, fun j y hj hy => ?_, hm.out⟩, by simp [intOf]; omega⟩
          by_cases e : j = k
          · subst e; rw [HI.out] at hy; cases hy; exact FF.out
          · exact HN.out j y (by omega) hy
        · have e5 : (find bs x.1 0 != (k : Int)) = true := bne_iff_ne.2 hf
          have HF := Lib.hid (HV.out (fun h => absurd h.2.2.2.2 hf))
          clear hf FI
          generalize find bs x.1 0 = q at *
          go_wp2
          go_ret
          exact ⟨by rw [HF.out]; rfl, hm.out⟩
      · have HF := Lib.hid (HC.out.1 ⟨by omega, fun j x hx => HN.out j x (by have := (List.getElem?_eq_some_iff.1 hx).1; omega) hx⟩)
        go_wp2
        go_ret
        exact ⟨by rw [HF.out]; rfl, HB.out⟩
theorem refCheck_yes (a : Option Addr) (cap : Nat) (bs : List Bk) (hc : chk bs) (w : World) (h : Lies w a cap bs) :
    Calls Tryz.prog 39 #[polV a cap bs] w fun e W' => e = .returned (.int .i64 0) ∧ Below w.heap.size w W' := refCheck_any a cap bs true (by simp [hc]) w h
theorem refCheck_no (a : Option Addr) (cap : Nat) (bs : List Bk) (hc : ¬ chk bs) (w : World) (h : Lies w a cap bs) :
    Calls Tryz.prog 39 #[polV a cap bs] w fun e W' => e = .returned (.int .i64 10) ∧ Below w.heap.size w W' := refCheck_any a cap bs false (by simp [hc]) w h
end Go.Proofs.YtefdnnmgmdaapaaGreat.Pol
