/-
  Pools: the document's Check (package gangplankref08).
-/
import Derived.Test.YtbejhkodfkcbpaaPolB
namespace Go.Proofs.Ytbejhkodfkcbpaa.Pol
open Go.RowKit Go.Shelf Rgn

/-- A backend that may stand at a place of a pool. -/
def fine (bs : List Bk) (i : Nat) (x : Bk) : Prop := 1 ≤ x.1 ∧ x.1 ≤ 65535 ∧ 1 ≤ x.2 ∧ x.2 ≤ 16 ∧ find bs x.1 0 = i
/-- A pool that may be. -/
def chk (bs : List Bk) : Prop := bs.length ≤ 32 ∧ ∀ i x, bs[i]? = some x → fine bs i x
/-- What Check tells. -/
def chkV (c : Bool) : Value := match c with
  | true => .int .i64 0
  | false => .int .i64 10

set_option maxRecDepth 100000 in
set_option maxHeartbeats 4000000 in
theorem refCheck_any (a : Option Addr) (cap : Nat) (bs : List Bk) (c : Bool) (hc : chk bs ↔ c = true) (w : World) (h : Lies w a cap bs) :
    Calls Try.prog 21 #[polV a cap bs] w fun e W' => e = .returned (chkV c) ∧ Below w.heap.size w W' := by
  have H := Lib.hid h
  have HC := Lib.hid hc
  have hlen := h.len
  have hmax := h.max
  unfold maxLen at hmax
  clear h hc
  by_cases h32 : 32 < bs.length
  · have d0 : decide ((32 : Int) < (bs.length : Int)) = true := decide_eq_true (by omega)
    have d1 : decide (32 < bs.length) = true := decide_eq_true h32
    have HV := Lib.hid (show c = false by
      cases c with
      | false => rfl
      | true => have := (HC.out.2 rfl).1; omega)
    go_enter Try.func21, Try.ntmps21
    go_wp2
    go_ret
    exact ⟨by rw [HV.out]; rfl, Below.refl _ _⟩
  · have d0 : decide ((32 : Int) < (bs.length : Int)) = false := decide_eq_false (by omega)
    have d1 : decide (32 < bs.length) = false := decide_eq_false h32
    go_enter Try.func21, Try.ntmps21
    go_wp2
    go_loopw [3] (fun i W => ∃ k : Nat, k ≤ bs.length ∧ i = .int .i64 k ∧ (∀ j x, j < k → bs[j]? = some x → fine bs j x) ∧ Below w.heap.size w W) (fun i _ => bs.length - (intOf i).toNat)
    case atStart => exact ⟨0, Nat.zero_le _, rfl, fun j x hj => absurd hj (by omega), Below.refl _ _⟩
    case round =>
      obtain ⟨k, hk, rfl, hno, hB⟩ := hrel
      have HN := Lib.hid hno
      have HB := Lib.hid hB
      clear hno hB
      by_cases hlt : k < bs.length
      · obtain ⟨b, off, rfl, c0, c1⟩ := (H.out.kept HB.out).at hlt
        have HI := Lib.hid (show bs[k]? = some bs[k] from List.getElem?_eq_getElem hlt)
        generalize bs[k] = x at *
        have HV : Hid (¬ fine bs k x → c = false) := Lib.hid (fun hn => by
          cases c with
          | false => rfl
          | true => exact absurd ((HC.out.2 rfl).2 k x HI.out) hn)
        by_cases g0 : x.1 < 1
        · have e0 : decide (x.1 < 1) = true := decide_eq_true g0
          have HF := Lib.hid (HV.out (fun h => absurd h.1 (by omega)))
          go_wp2
          go_ret
          exact ⟨by rw [HF.out]; rfl, HB.out.alloc HB.out.size _⟩
        have e0 : decide (x.1 < 1) = false := decide_eq_false g0
        by_cases g1 : 65535 < x.1
        · have e1 : decide (65535 < x.1) = true := decide_eq_true g1
          have HF := Lib.hid (HV.out (fun h => absurd h.2.1 (by omega)))
          go_wp2
          go_ret
          exact ⟨by rw [HF.out]; rfl, HB.out.alloc HB.out.size _⟩
        have e1 : decide (65535 < x.1) = false := decide_eq_false g1
        by_cases g2 : x.2 < 1
        · have e2 : decide (x.2 < 1) = true := decide_eq_true g2
          have HF := Lib.hid (HV.out (fun h => absurd h.2.2.1 (by omega)))
          go_wp2
          go_ret
          exact ⟨by rw [HF.out]; rfl, HB.out.alloc HB.out.size _⟩
        have e2 : decide (x.2 < 1) = false := decide_eq_false g2
        by_cases g3 : 16 < x.2
        · have e3 : decide (16 < x.2) = true := decide_eq_true g3
          have HF := Lib.hid (HV.out (fun h => absurd h.2.2.2.1 (by omega)))
          go_wp2
          go_ret
          exact ⟨by rw [HF.out]; rfl, HB.out.alloc HB.out.size _⟩
        have e3 : decide (16 < x.2) = false := decide_eq_false g3
        have hm := Lib.hid (HB.out.alloc HB.out.size (.cells #[.int .i64 x.1, .int .i64 x.2] 24))
        have FI := Lib.hid (refFind_any (some ⟨b, off, none⟩) cap bs x.1 (wr.alloc (.cells #[.int .i64 x.1, .int .i64 x.2] 24)) (H.out.kept hm.out))
        go_wp2_with fail
        refine FI.out.mono ?_
        rintro e w2 ⟨rfl, rfl⟩
        by_cases hf : find bs x.1 0 = k
        · have e5 : (find bs x.1 0 != (k : Int)) = false := by simp [hf]
          have FF := Lib.hid (show fine bs k x from ⟨by omega, by omega, by omega, by omega, hf⟩)
          clear hf FI
          generalize find bs x.1 0 = q at *
          go_wp2
          refine ⟨⟨k + 1, by omega, by go_num, fun j y hj hy => ?_, hm.out⟩, by simp [intOf]; omega⟩
          by_cases e : j = k
          · subst e; rw [HI.out] at hy; cases hy; exact FF.out
          · exact HN.out j y (by omega) hy
        · have e5 : (find bs x.1 0 != (k : Int)) = true := bne_iff_ne.2 hf
          have HF := Lib.hid (HV.out (fun h => absurd h.2.2.2.2 hf))
          clear hf FI
          generalize find bs x.1 0 = q at *
          go_wp2
          go_ret
          exact ⟨by rw [HF.out]; rfl, hm.out⟩
      · have HF := Lib.hid (HC.out.1 ⟨by omega, fun j x hx => HN.out j x (by have := (List.getElem?_eq_some_iff.1 hx).1; omega) hx⟩)
        go_wp2
        go_ret
        exact ⟨by rw [HF.out]; rfl, HB.out⟩
end Go.Proofs.Ytbejhkodfkcbpaa.Pol
