/-
  Points: where a point is (package points: Hash), how many a weight has, whether rows are alike.
-/
import Derived.Test.YtfjpdoamalbpjaaPtsH
import Derived.Test.YtfjpdoamalbpjaaPtsE
import Derived.Test.YtfjpdoamalbpjaaOctCp
import Derived.Test.YtfjpdoamalbpjaaFnvB
namespace Go.Proofs.Ytfjpdoamalbpjaa.Pts
open Go.RowKit Go.Shelf
open Pol (below2 below_alloc)

/-- What is read of Put: a text under a name of its own. -/
theorem Put_some (v : Int) (k : Nat) (w : World) (hv : 0 ≤ v ∧ v ≤ 18446744073709551615) (h : 1 ≤ k ∧ k ≤ 8) :
    Calls Try.prog 29 #[.int .u64 v, .int .i64 (k : Int)] w fun e W' => ∃ S : ByteArray, e = .returned (.string S) ∧ S.size ≤ 8 ∧ Hid (S = Oct.str (Oct.bytes v.toNat k)) ∧ Below w.heap.size w W' := by
  refine (Oct.Put_yes v k w hv.1 hv.2 (by omega)).mono ?_
  rintro e W' ⟨rfl, hb⟩
  refine ⟨_, rfl, ?_, Lib.hid rfl, hb⟩
  have : (Oct.str (Oct.bytes v.toNat ((k : Int)).toNat)).size = k := by simp [ByteArray.size, Oct.bytes_length]
  omega

set_option maxRecDepth 100000 in
set_option maxHeartbeats 2000000 in
theorem Hash_told (id n : Int) (w : World) :
    Calls Try.prog 14 #[.int .i64 id, .int .i64 n] w fun e W' => e = .returned (.int .u64 (hashV id n)) ∧ Below w.heap.size w W' := by
  have u1 := uw_in id
  have u2 := uw_in n
  have hp1 := Put_some (uw id) 4
  have hp2 := Put_some (uw n) 2
  unfold uw at hp1 hp2 u1 u2
  go_enter Try.func14, Try.ntmps14
  go_wp2_with fail
  refine (hp1 _ u1 (by omega)).mono ?_
  rintro e w1 ⟨S, rfl, hS, HS, hb1⟩
  go_wp2_with fail
  refine (hp2 _ u2 (by omega)).mono ?_
  rintro e w2 ⟨R, rfl, hR, HR, hb2⟩
  have a1 : ∀ u : World, (Op.stringOp .add S R).run Try.prog u = .ok (.string (S ++ R)) u := fun u => run_string_add_sum u S R (by omega)
  have a2 : ∀ u : World, (Op.stringOp .add (S ++ R) ⟨#[0, 0, 0, 0]⟩).run Try.prog u = .ok (.string (S ++ R ++ ⟨#[0, 0, 0, 0]⟩)) u := fun u => run_string_add_sum u _ _ (by
    have h4 : (⟨#[0, 0, 0, 0]⟩ : ByteArray).size = 4 := rfl
    rw [ByteArray.size_append, h4]; omega)
  have hz : (S ++ R ++ ⟨#[0, 0, 0, 0]⟩ : ByteArray).size ≤ 4611686018427387904 := by
    have h4 : (⟨#[0, 0, 0, 0]⟩ : ByteArray).size = 4 := rfl
    rw [ByteArray.size_append, ByteArray.size_append, h4]; omega
  have HZ := Lib.hid (show S ++ R ++ ⟨#[0, 0, 0, 0]⟩ = hashS id n by rw [HS.out, HR.out]; rfl)
  go_wp2_with fail
  refine (Fnv.Sum_any _ _ hz).mono ?_
  rintro e w3 ⟨he, hb3⟩
  have he : e = .returned (.int .u64 (hashV id n)) := by rw [he, HZ.out]; rfl
  subst he
  go_wp2_with fail
  go_ret
  exact ⟨rfl, below2 (below2 hb1 hb2) hb3⟩

theorem cnt_le (g : Int) : cnt g ≤ 128 := by unfold cnt; omega
set_option maxHeartbeats 400000 in
theorem count_told (g : Int) (w : World) : Calls Try.prog 62 #[.int .i64 g] w fun e W' => e = .returned (.int .i64 (cnt g : Nat)) ∧ W' = w := by
  by_cases h1 : 16 < g
  · have HV := Lib.hid (show ((cnt g : Nat) : Int) = 128 by unfold cnt; omega)
    go_enter Try.func62, Try.ntmps62
    go_wp2
    go_ret
    exact ⟨by rw [HV.out]; rfl, rfl⟩
  · by_cases h2 : 0 < g
    · have HV := Lib.hid (show ((cnt g : Nat) : Int) = 8 * g by unfold cnt; omega)
      go_enter Try.func62, Try.ntmps62
      go_wp2
      go_ret
      exact ⟨by rw [HV.out]; rfl, rfl⟩
    · have HV := Lib.hid (show ((cnt g : Nat) : Int) = 0 by unfold cnt; omega)
      go_enter Try.func62, Try.ntmps62
      go_wp2
      go_ret
      exact ⟨by rw [HV.out]; rfl, rfl⟩

set_option maxRecDepth 100000 in
set_option maxHeartbeats 4000000 in
theorem Equal_any (a : Option Addr) (cap : Nat) (bs : List Pt) (a' : Option Addr) (cap' : Nat) (bs' : List Pt) (c : Bool) (hc : bs = bs' ↔ c = true) (w : World) (h : Lies w a cap bs) (h' : Lies w a' cap' bs') :
    Calls Try.prog 32 #[ptsV a cap bs, ptsV a' cap' bs'] w fun e W' => e = .returned (.bool c) ∧ Below w.heap.size w W' := by
  have H := Lib.hid h
  have H' := Lib.hid h'
  have HC := Lib.hid hc
  have hlen := h.len
  have hmax := h.max
  have hlen' := h'.len
  have hmax' := h'.max
  unfold maxLen at hmax hmax'
  clear h h' hc
  by_cases hL : bs.length = bs'.length
  · have e0 : ((bs.length : Int) != (bs'.length : Int)) = false := by simp [hL]
    have HL := Lib.hid hL
    clear hL
    go_enter Try.func32, Try.ntmps32
    go_wp2
    go_loopw [13] (fun i W => ∃ k : Nat, k ≤ bs.length ∧ i = .int .i64 k ∧ (∀ j, j < k → bs[j]? = bs'[j]?) ∧ Below w.heap.size w W) (fun i _ => bs.length - (intOf i).toNat)
    case atStart => exact ⟨0, Nat.zero_le _, rfl, fun j hj => absurd hj (by omega), Below.refl _ _⟩
    case round =>
      obtain ⟨k, hk, rfl, hno, hB⟩ := hrel
      have HN := Lib.hid hno
      have HB := Lib.hid hB
      clear hno hB
      by_cases hlt : k < bs.length
      · obtain ⟨b, off, rfl, c0, c1⟩ := (H.out.kept HB.out).at hlt
        have hlt' : k < bs'.length := HL.out ▸ hlt
        obtain ⟨b', off', rfl, c0', c1'⟩ := (H'.out.kept HB.out).at hlt'
        have HI := Lib.hid (show bs[k]? = some bs[k] from List.getElem?_eq_getElem hlt)
        have HI' := Lib.hid (show bs'[k]? = some bs'[k] from List.getElem?_eq_getElem hlt')
        generalize bs[k] = x at *
        generalize bs'[k] = y at *
        by_cases hx : x = y
        · have CC := pt_cmp x y true (by simp [hx])
          have HE := Lib.hid (show bs[k]? = bs'[k]? by rw [HI.out, HI'.out, hx])
          clear hx
          go_wp2_with fail
          go_quiet (fail)
          have HB2 := Lib.hid (below_drewN HB.out nq)
          go_wp2
          refine ⟨⟨k + 1, by omega, by go_num, fun j hj => ?_, HB2.out⟩, by simp [intOf]; omega⟩
          by_cases e : j = k
          · subst e; exact HE.out
          · exact HN.out j (by omega)
        · have CC := pt_cmp x y false (by simp [hx])
          have HF := Lib.hid (show c = false by
            cases c with
            | false => rfl
            | true =>
              have e := HC.out.2 rfl
              have h1 := HI.out
              rw [e, HI'.out] at h1
              cases h1; exact absurd rfl hx)
          clear hx
          go_wp2_with fail
          go_quiet (fail)
          have HB2 := Lib.hid (below_drewN HB.out nq)
          go_wp2
          go_ret
          exact ⟨by rw [HF.out]; rfl, HB2.out⟩
      · have HF := Lib.hid (HC.out.1 (by
          apply List.ext_getElem?
          intro j
          by_cases hj : j < bs.length
          · exact HN.out j (by omega)
          · rw [List.getElem?_eq_none (by omega), List.getElem?_eq_none (by rw [← HL.out]; omega)]))
        go_wp2
        go_ret
        exact ⟨by rw [HF.out]; rfl, HB.out⟩
  · have e0 : ((bs.length : Int) != (bs'.length : Int)) = true := bne_iff_ne.2 (by omega)
    have HF := Lib.hid (show c = false by
      cases c with
      | false => rfl
      | true => exact absurd (congrArg List.length (HC.out.2 rfl)) hL)
    clear hL
    go_enter Try.func32, Try.ntmps32
    go_wp2
    go_ret
    exact ⟨by rw [HF.out]; rfl, Below.refl _ _⟩

set_option maxHeartbeats 2000000 in
theorem Same_told (a : Option Addr) (cap : Nat) (bs : List Pt) (a' : Option Addr) (cap' : Nat) (bs' : List Pt) (c : Bool) (hc : bs = bs' ↔ c = true) (w : World) (h : Lies w a cap bs) (h' : Lies w a' cap' bs') :
    Calls Try.prog 18 #[ptsV a cap bs, ptsV a' cap' bs'] w fun e W' => e = .returned (.bool c) ∧ Below w.heap.size w W' := by
  have C := Lib.hid (Equal_any a cap bs a' cap' bs' c hc w h h')
  clear h h' hc
  go_enter Try.func18, Try.ntmps18
  go_wp2_with fail
  refine C.out.mono ?_
  rintro e w1 ⟨rfl, hb⟩
  go_wp2_with fail
  go_ret
  exact ⟨rfl, hb⟩
end Go.Proofs.Ytfjpdoamalbpjaa.Pts
