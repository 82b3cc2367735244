/-
  Rings: which hashes go elsewhere, as the document tells it (package gangplankref10: Moved).
-/
import Derived.Test.YtppbbhijlkfioaaRinC
namespace Go.Proofs.Ytppbbhijlkfioaa.Rin
open Go.RowKit Go.Shelf
open Pts (Pt ptV ptsV Lies Rise less ofL hsh Of_told refOf_any ofL_rise)
open Pol (below2 below_alloc Bk polV OwnI ownI_nil)
open Num (LiesN numsV)

/-- Of the first k hashes those that go elsewhere. -/
def mvK (A B : List Pt) (hs : List Int) (k : Nat) : List Int := ((List.range k).filter fun i => succL A (hs.getD i 0) != succL B (hs.getD i 0)).map fun i : Nat => (i : Int)
theorem mvK_zero (A B : List Pt) (hs : List Int) : mvK A B hs 0 = [] := rfl
theorem mvK_all (A B : List Pt) (hs : List Int) : mvK A B hs hs.length = (movedL A B hs).map fun i : Nat => (i : Int) := rfl
theorem mvK_yes (A B : List Pt) (hs : List Int) (k : Nat) (hk : k < hs.length) (h : succL A hs[k] ≠ succL B hs[k]) : mvK A B hs (k + 1) = mvK A B hs k ++ [(k : Int)] := by
  unfold mvK
  rw [List.range_succ, List.filter_append, List.map_append]
  congr 1
  simp [hk, h]
theorem mvK_no (A B : List Pt) (hs : List Int) (k : Nat) (hk : k < hs.length) (h : succL A hs[k] = succL B hs[k]) : mvK A B hs (k + 1) = mvK A B hs k := by
  unfold mvK
  rw [List.range_succ, List.filter_append, List.map_append]
  simp [hk, h]
theorem mvK_length (A B : List Pt) (hs : List Int) (k : Nat) : (mvK A B hs k).length ≤ k := by
  unfold mvK
  rw [List.length_map]
  exact Nat.le_trans (List.length_filter_le _ _) (by simp)

set_option maxRecDepth 100000 in
set_option maxHeartbeats 400000 in
theorem refMoved_any (a : Option Addr) (cap : Nat) (z : List Bk) (a' : Option Addr) (cap' : Nat) (z' : List Bk) (aH : Option Addr) (cH : Nat) (hs : List Int) (w : World) (hz : Pol.Lies w a cap z) (hl : z.length ≤ 1000000) (hz' : Pol.Lies w a' cap' z') (hl' : z'.length ≤ 1000000)
    (hH : LiesN .u64 w aH cH hs) (hs20 : hs.length ≤ 1000000000000) :
    Calls Try.prog 15 #[polV a cap z, polV a' cap' z', numsV aH cH hs] w fun e W' => ∃ v, e = .returned v ∧ OwnI w.heap.size W' v (mvK (ofL hsh z) (ofL hsh z') hs hs.length) ∧ Below w.heap.size w W' := by
  have C1 := Lib.hid (refOf_any a cap z w hz hl)
  have C2 := Lib.hid (fun W (hb : Below w.heap.size w W) => refOf_any a' cap' z' W (hz'.kept hb) hl')
  have HH := Lib.hid hH
  have hlen := hH.len
  have hmax := hH.max
  unfold maxLen at hmax
  clear hz hz' hH
  generalize ofL hsh z = A at *
  generalize ofL hsh z' = B at *
  go_enter Try.func15, Try.ntmps15
  go_wp2_with fail
  refine C1.out.mono ?_
  rintro e w1 ⟨v, rfl, ⟨aP, cP, rfl, hP⟩, hb⟩
  have P1 := Lib.hid hP
  have B1 := Lib.hid hb
  clear hP hb C1
  go_wp2_with fail
  refine (C2.out w1 B1.out).mono ?_
  rintro e w2 ⟨v, rfl, ⟨aQ, cQ, rfl, hQ⟩, hb⟩
  have P2 := Lib.hid (P1.out.kept hb)
  have Q2 := Lib.hid hQ
  have B2 := Lib.hid (below2 B1.out hb)
  have H2 := Lib.hid (HH.out.kept B2.out)
  clear hQ hb C2 P1 B1 HH
  go_wp2_with fail
  go_loopw [9, 10] (fun v i W => ∃ k : Nat, k ≤ hs.length ∧ i = .int .i64 k ∧ OwnI w2.heap.size W v (mvK A B hs k) ∧ Below w2.heap.size w2 W) (fun _ i _ => hs.length - (intOf i).toNat)
  case atStart => exact ⟨0, Nat.zero_le _, rfl, ownI_nil _ _, Below.refl _ _⟩
  case round =>
    obtain ⟨k, hk, rfl, hO, hB⟩ := hrel
    have HO := Lib.hid hO
    have HB := Lib.hid hB
    have hml := mvK_length A B hs k
    clear hO hB
    by_cases hlt : k < hs.length
    · have dlt : decide (k < hs.length) = true := decide_eq_true hlt
      obtain ⟨b, off, rfl, c0⟩ := (H2.out.kept HB.out).at hlt
      have FA := fun n => Lib.hid (refSucc_any aP cP A hs[k] (wr.drewN n) ((P2.out.kept HB.out).kept (below_drewN (Below.refl _ _) n)))
      have FB := fun n => Lib.hid (refSucc_any aQ cQ B hs[k] (wr.drewN n) ((Q2.out.kept HB.out).kept (below_drewN (Below.refl _ _) n)))
      by_cases hx : succL A hs[k] = succL B hs[k]
      · have HM := Lib.hid (mvK_no A B hs k hlt hx)
        have dx : (succL A hs[k] != succL B hs[k]) = false := by simp [hx]
        clear hx
        generalize hs[k] = h at *
        generalize succL A h = sa at *
        generalize succL B h = sb at *
        go_wp2_with fail
        go_quiet (first | ((with_reducible refine (FA _).out.mono ?_); exact fun e w2 ⟨he, hw⟩ => ⟨he, _, hw⟩) | ((with_reducible refine (FB _).out.mono ?_); exact fun e w2 ⟨he, hw⟩ => ⟨he, _, hw⟩))
        have HB2 := Lib.hid (below_drewN HB.out nq)
        have HO2 := Lib.hid (HO.out.kept (below_drewN (Below.refl wr.heap.size wr) nq))
        clear FA FB HB HO c0
        go_wp2
        go_roundw
        case rel => exact ⟨k + 1, by omega, by go_num, by rw [HM.out]; exact HO2.out, HB2.out⟩
        case measure => simp [intOf]; omega
      · have HM := Lib.hid (mvK_yes A B hs k hlt hx)
        have dx : (succL A hs[k] != succL B hs[k]) = true := bne_iff_ne.2 hx
        clear hx
        generalize hs[k] = h at *
        generalize succL A h = sa at *
        generalize succL B h = sb at *
        go_wp2_with fail
        go_quiet (first | ((with_reducible refine (FA _).out.mono ?_); exact fun e w2 ⟨he, hw⟩ => ⟨he, _, hw⟩) | ((with_reducible refine (FB _).out.mono ?_); exact fun e w2 ⟨he, hw⟩ => ⟨he, _, hw⟩))
        have HB2 := Lib.hid (below_drewN HB.out nq)
        have HO2 := Lib.hid (HO.out.kept (below_drewN (Below.refl wr.heap.size wr) nq))
        clear FA FB HB HO c0
        generalize wr.drewN nq = w3 at *
        have hsz := HB2.out.size
        go_wp2_with (at_builtin; refine Pol.wpList_moreI rfl _ _ rfl w2.heap.size w3.heap.size (mvK A B hs k) (k : Int) _ rfl rfl (HO2.out.kept (below_alloc w3 _)) ?c0 ?c1 ?c2 ?_)
        case c0 => simp
        case c1 => omega
        case c2 => simp; omega
        intro v' w4 ho4 hb4
        have HO4 := Lib.hid ho4.out
        have HB4 := Lib.hid ((HB2.out.alloc HB2.out.size _).trans hb4.out)
        clear hb4 ho4
        go_wp2_with fail
        go_roundw
        case rel => exact ⟨k + 1, by omega, by go_num, by rw [HM.out]; exact HO4.out, HB4.out⟩
        case measure => simp [intOf]; omega
    · have dlt : decide (k < hs.length) = false := decide_eq_false hlt
      obtain rfl : k = hs.length := by omega
      go_wp2
      go_ret
      exact ⟨_, rfl, Pol.ownI_less B2.out.size HO.out, B2.out.trans (HB.out.mono B2.out.size)⟩
end Go.Proofs.Ytppbbhijlkfioaa.Rin
