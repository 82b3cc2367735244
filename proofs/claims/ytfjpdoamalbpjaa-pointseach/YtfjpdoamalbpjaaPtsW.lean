/-
  Points: the document's example.
-/
import Derived.Test.YtfjpdoamalbpjaaPtsP
import Derived.Test.YtfjpdoamalbpjaaPtsR
namespace Go.Proofs.Ytfjpdoamalbpjaa.Pts
open Go.RowKit Go.Shelf Rgn
open Pol (below2 below_alloc Bk polV)

theorem ofL_id (z : List Bk) (id : Int) (h : ∀ x ∈ z, x.1 = id) : ∀ p ∈ ofL hsh z, p.2 = id := by
  intro p hp
  obtain ⟨x, hx, hpx⟩ := List.mem_flatMap.1 ((psort_perm (pts hsh z)).mem_iff.1 hp)
  rw [own_id hsh x p hpx, h x hx]
theorem rise_at {L : List Pt} (h : Rise L) (j : Nat) (hj : j + 1 < L.length) : less L[j + 1] L[j] = false := by
  have := List.pairwise_iff_getElem.1 h j (j + 1) (by omega) hj (by omega)
  unfold le at this
  simpa using this
theorem less_zero : less (1, 0) (1, 1) = true ∧ less (0, 0) (0, 0) = false := by decide

set_option maxRecDepth 100000 in
set_option maxHeartbeats 2000000 in
theorem works_any (w : World) : Calls Try.prog 10 #[] w fun e W' => e = .returned (.bool true) ∧ Below w.heap.size w W' := by
  have hb0 := below_alloc w (.cells #[.int .i64 7, .int .i64 2] 35)
  have hl0 : Pol.Lies (w.alloc (.cells #[.int .i64 7, .int .i64 2] 35)) (some ⟨w.heap.size, 0, none⟩) 1 [(7, 2)] := ⟨by unfold maxLen; omega, by simp, fun _ => ⟨_, _, rfl, fun i x hi => by
    match i, hi with
    | 0, hi => simp at hi; subst hi; exact ⟨by simp, by simp⟩⟩⟩
  have C1 := Lib.hid (Of_told (some ⟨w.heap.size, 0, none⟩) 1 [(7, 2)] _ hl0 (by simp))
  have hL1 : (ofL hsh [(7, 2)]).length = 16 := by rw [ofL_length]; rfl
  have hid := ofL_id [(7, 2)] 7 (by simp)
  have hri := ofL_rise hsh [(7, 2)]
  have HB0 := Lib.hid hb0
  clear hb0 hl0
  generalize ofL hsh [(7, 2)] = L at *
  have HI := Lib.hid hid
  have HR := Lib.hid hri
  clear hid hri
  go_enter Try.func10, Try.ntmps10
  go_wp2_with fail
  refine C1.out.mono ?_
  rintro e w1 ⟨v, rfl, ⟨a, cap, rfl, hl⟩, hb⟩
  have HL := Lib.hid hl
  have HB := Lib.hid (below2 HB0.out hb)
  have hlen := hl.len
  have hmax := hl.max
  unfold maxLen at hmax
  clear C1 hl hb
  go_wp2_with fail
  have HL1 := Lib.hid hL1
  clear hL1
  go_loopw [2] (fun i W => ∃ k : Nat, k ≤ L.length ∧ i = .int .i64 k ∧ Below w1.heap.size w1 W) (fun i _ => L.length - (intOf i).toNat)
  case atStart => exact ⟨0, Nat.zero_le _, rfl, Below.refl _ _⟩
  case round =>
    obtain ⟨k, hk, rfl, hB⟩ := hrel
    have HBl := Lib.hid hB
    clear hB
    by_cases hlt : k < L.length
    · have dlt : decide (k < L.length) = true := decide_eq_true hlt
      obtain ⟨b, off, rfl, c0, c1⟩ := (HL.out.kept HBl.out).at hlt
      have d7 : (L[k].2 != 7) = false := by rw [HI.out L[k] (List.getElem_mem hlt)]; rfl
      by_cases hk0 : k = 0
      · subst hk0
        generalize L[0] = x at *
        go_wp2_with fail
        go_quiet (fail)
        have HB2 := Lib.hid (below_drewN HBl.out nq)
        go_wp2
        go_roundw
        case rel => exact ⟨1, by omega, by go_num, HB2.out⟩
        case measure => simp [intOf]; omega
      · obtain ⟨j, hj⟩ : ∃ j, k = j + 1 := ⟨k - 1, by omega⟩
        have hjl : j < L.length := by omega
        obtain ⟨b', off', e', y0, y1⟩ := (HL.out.kept HBl.out).at hjl
        cases e'
        have hless : less L[k] L[j] = false := by subst hj; exact rise_at HR.out j hlt
        have hk1 : IntKind.i64.wrap ((k : Int) - 1) = (j : Int) := by simp only [IntKind.wrap, IntKind.signed, IntKind.bits]; simp; omega
        have dk : decide (0 < k) = true := decide_eq_true (by omega)
        generalize L[k] = x at *
        generalize L[j] = y at *
        have C := fun W => Less_told x y W
        rw [hless] at C
        have HJ := Lib.hid hj
        clear hj hless
        go_wp2_with fail
        go_region_held3 (fun W => Below wr.heap.size wr W ∧ W.cell? ⟨b, off + k * 2, none⟩ = some (.int .u64 x.1) ∧ W.cell? ⟨b, off + k * 2 + 1, none⟩ = some (.int .i64 x.2) ∧ W.cell? ⟨b, off + j * 2, none⟩ = some (.int .u64 y.1) ∧ W.cell? ⟨b, off + j * 2 + 1, none⟩ = some (.int .i64 y.2)) (first | exact ⟨(Below.refl _ wr).drew, c0, c1, y0, y1⟩ | exact two_keep (by assumption) hb)
          (first | (go_at_call 16; (with_reducible refine (C _).mono ?_); rintro e w3 ⟨rfl, hb⟩))
        rename_i hHeld
        have HB2 := Lib.hid (HBl.out.trans (hHeld.1.mono HBl.out.size))
        clear hHeld
        go_wp2
        go_roundw
        case rel => exact ⟨k + 1, by omega, by go_num, HB2.out⟩
        case measure => simp [intOf]; omega
    · have dlt : decide (k < L.length) = false := decide_eq_false hlt
      have C2 := Lib.hid (Of_told none 0 [] wr (Pol.lies_nil wr) (by simp))
      have C3 := fun W => Less_told (1, 0) (1, 1) W
      have C4 := fun W => Less_told (0, 0) (0, 0) W
      rw [less_zero.1] at C3
      rw [less_zero.2] at C4
      have HN := Lib.hid (show ofL hsh [] = [] by simp [ofL, pts, psort])
      go_wp2_with fail
      refine C2.out.mono ?_
      rintro e w2 ⟨v2, rfl, ⟨a2, cap2, rfl, hl2⟩, hb2⟩
      have hB2 := Lib.hid (below2 HBl.out hb2)
      clear hb2 C2 hl2
      rw [HN.out]
      go_wp2_with fail
      refine (C3 _).mono ?_
      rintro e w3 ⟨rfl, hb3⟩
      have hB3 := Lib.hid (below2 hB2.out hb3)
      clear hb3 C3 hB2
      go_wp2_with fail
      refine (C4 _).mono ?_
      rintro e w4 ⟨rfl, hb4⟩
      have hB4 := Lib.hid (below2 hB3.out hb4)
      have hl4 := HL.out.kept hB4.out
      have C5 := Lib.hid (Same_told a cap L a cap L true (by simp) w4 hl4 hl4)
      clear hb4 C4 hB3 hl4
      go_wp2_with fail
      refine C5.out.mono ?_
      rintro e w5 ⟨rfl, hb5⟩
      have hB5 := Lib.hid (below2 hB4.out hb5)
      have hl5 := HL.out.kept hB5.out
      have C6 := Lib.hid (Same_told a cap L none 0 [] false (by
        constructor
        · intro e; have := HL1.out; rw [e] at this; cases this
        · intro e; cases e) w5 hl5 (lies_nil w5))
      clear hb5 C5 hB4 hl5
      go_wp2_with fail
      refine C6.out.mono ?_
      rintro e w6 ⟨rfl, hb6⟩
      have hB6 := Lib.hid (below2 hB5.out hb6)
      clear hb6 C6 hB5
      go_wp2_with fail
      go_ret
      exact ⟨rfl, below2 HB.out hB6.out⟩
end Go.Proofs.Ytfjpdoamalbpjaa.Pts
