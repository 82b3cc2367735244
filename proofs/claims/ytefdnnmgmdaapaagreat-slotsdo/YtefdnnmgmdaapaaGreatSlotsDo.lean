/-
  SlotsDo: for every n, l, i, id and h the law SlotsDo answers true: whatever is done to slots, they tell just what the document says. No condition.
-/
import Derived.Test.YtefdnnmgmdaapaaGreatRows
import Derived.Test.YtefdnnmgmdaapaaGreatBPol
import Derived.Test.YtefdnnmgmdaapaaGreatSts
import Derived.Test.YtefdnnmgmdaapaaGreatSlsV
import Derived.Test.YtefdnnmgmdaapaaGreatSlsR
import Derived.BigQuiet
import Derived.WalkSmall
import Derived.ProofKit
import Derived.OpenShut
import Derived.ChangeMaps5
namespace Go.Proofs.YtefdnnmgmdaapaaGreat
open Go.ChangeShapes Go.WideShapes Go.ChangeAt Go.RowKit Go.Shelf
open Go.ChangeMaps (open_string shut_string)
open Sls Slo
open Pol (Bk polV chk chkV)
open Pts (ofL hsh)
open Rin (succL)

set_option maxRecDepth 100000 in
set_option maxHeartbeats 4000000 in
theorem walk_SlotsDo (n : Int) (a1 : Option Addr) (c1 : Nat) (z1 : List ActM) (i id h : Int) (w : World) (_h0 : (Lit.int .i64 n).wf = true) (h1 : RowG.Lies actM w a1 c1 z1) (g1 : ∀ x ∈ z1, ActOk w x) (_h2 : (Lit.int .i64 i).wf = true) (_h3 : (Lit.int .i64 id).wf = true) (_h4 : (Lit.int .u64 h).wf = true) :
    Calls Tryz.prog 3 #[.int .i64 n, RowG.rowV a1 c1 z1, .int .i64 i, .int .i64 id, .int .u64 h] w fun e W' => e = .returned (.bool true) ∧ Below w.heap.size w W' := by
  have H1 := Lib.hid h1
  have G1 := Lib.hid g1
  have hC1 := h1.len
  have hM1 := h1.max
  unfold maxLen at hM1
  clear h1 g1
  cases hf : decide (fewE z1) with
  | false =>
    have HF := Lib.hid hf
    go_enter Tryz.func3, Tryz.ntmps3
    go_wp2_with fail
    refine (works_any _).mono ?_
    rintro e w1 ⟨rfl, hb⟩
    have B1 := Lib.hid hb
    clear hb
    have F := Lib.hid (few_any a1 c1 z1 w1 (H1.out.kept B1.out))
    rw [HF.out] at F
    go_wp2_with fail
    refine F.out.mono ?_
    rintro e w2 ⟨rfl, rfl⟩
    go_wp2_with fail
    go_ret
    exact ⟨rfl, B1.out⟩
  | true =>
    have HF := Lib.hid hf
    have l1 : z1.length ≤ 30 := (of_decide_eq_true hf).1
    clear hf
    go_enter Tryz.func3, Tryz.ntmps3
    go_wp2_with fail
    refine (works_any _).mono ?_
    rintro e w1 ⟨rfl, hb⟩
    have B1 := Lib.hid hb
    clear hb
    have F := Lib.hid (few_any a1 c1 z1 w1 (H1.out.kept B1.out))
    rw [HF.out] at F
    go_wp2_with fail
    refine F.out.mono ?_
    rintro e w2 ⟨rfl, rfl⟩
    have C := Lib.hid (new_stand n w w2 B1.out)
    have R := fun W (hb : Below w.heap.size w W) => Lib.hid (new_ref n w W hb)
    generalize (new n : List (Slot (List Bk))) = l0 at *
    clear F
    go_wp2_with fail
    refine C.out.mono ?_
    rintro e w3 ⟨f, rfl, S3⟩
    have HS3 := Lib.hid S3
    have R3 := R w3 S3.below
    clear C S3 R
    go_wp2_with fail
    refine R3.out.mono ?_
    rintro e w4 ⟨v, rfl, hr, hb⟩
    have HP4 := Lib.hid (show Pair w f v l0 l0 w4 from ⟨HS3.out.more hb, hr⟩)
    clear R3 HS3 hr hb
    go_wp2_with fail
    go_loopw [13, 14] (fun u j W => ∃ k : Nat, k ≤ z1.length ∧ j = .int .i64 k ∧ Pair w f u (runs rightB l0 (firsts z1 k)) (runs rightB l0 (firsts z1 k)) W) (fun _ j _ => z1.length - (intOf j).toNat)
    case atStart => exact ⟨0, Nat.zero_le _, rfl, HP4.out⟩
    case round =>
      clear HP4
      obtain ⟨k, hk, rfl, S0⟩ := hrel
      obtain ⟨ra, rn, rc, rfl⟩ := S0.2.slice
      have S := Lib.hid S0
      clear S0
      by_cases hlt : k < z1.length
      · obtain ⟨o, off, rfl, q0, q1, q2⟩ := lies_actM (H1.out.kept S.out.1.below) hlt
        have Q := Lib.hid (fun W (hb : Below w.heap.size w W) => (lies_actM (a := some ⟨o, off, none⟩) (H1.out.kept hb) hlt))
        have P := Lib.hid (pol_lies (G1.out _ (List.getElem_mem hlt)).lies)
        have HS := Lib.hid (runs_next hlt l0)
        have hk1 : k + 1 ≤ z1.length := hlt
        generalize z1[k] = x at *
        generalize hSN : runs rightB l0 (firsts z1 (k + 1)) = sn at *
        have HSN := Lib.hid hSN
        clear hSN
        generalize runs rightB l0 (firsts z1 k) = s at *
        have D := Lib.hid (do_pair S.out x P.out)
        have T := fun W (hp : Pair w f (.slice ra rn rc) (Slo.act rightB s x.act).1 s W) => Lib.hid (told_pair hp x P.out)
        rw [← HS.out] at D T
        generalize (Slo.act rightB s x.act).2 = b at *
        clear S HS
        go_wp2_with fail
        refine D.out.mono ?_
        rintro e w5 ⟨rfl, S5⟩
        have T5 := T _ S5
        obtain ⟨o', off', e', p0, p1, p2⟩ := Q.out _ S5.1.below
        cases e'
        clear D S5 T q0 q1 q2 Q
        go_wp2_with fail
        refine T5.out.mono ?_
        rintro e w6 ⟨v', rfl, S6⟩
        obtain ⟨ra', rn', rc', rfl⟩ := S6.2.slice
        have S7 := Lib.hid S6
        clear T5 S6 p0 p1 p2
        have D7 := Lib.hid (pick_pair S7.out i h)
        clear S7
        go_wp2_with fail
        refine D7.out.mono ?_
        rintro e w7 ⟨rfl, s8⟩
        have S8 := Lib.hid s8
        clear D7 s8
        have D8 := Lib.hid (refpick_pair S8.out i h)
        clear S8
        go_wp2_with fail
        refine D8.out.mono ?_
        rintro e w8 ⟨rfl, s9⟩
        have S9 := Lib.hid s9
        clear D8 s9
        have D9 := Lib.hid (has_pair S9.out i id)
        clear S9
        go_wp2_with fail
        refine D9.out.mono ?_
        rintro e w9 ⟨rfl, s10⟩
        have S10 := Lib.hid s10
        clear D9 s10
        have D10 := Lib.hid (refhas_pair S10.out i id)
        clear S10
        go_wp2_with fail
        refine D10.out.mono ?_
        rintro e w10 ⟨rfl, s11⟩
        have S11 := Lib.hid s11
        clear D10 s11
        have D11 := Lib.hid (size_pair S11.out i)
        clear S11
        go_wp2_with fail
        refine D11.out.mono ?_
        rintro e w11 ⟨rfl, s12⟩
        have S12 := Lib.hid s12
        clear D11 s12
        have D12 := Lib.hid (refsize_pair S12.out i)
        clear S12
        go_wp2_with fail
        refine D12.out.mono ?_
        rintro e w12 ⟨rfl, s13⟩
        have S13 := Lib.hid s13
        clear D12 s13
        generalize pickOf sn i h = pp at *
        generalize hasOf sn i id = hh at *
        generalize Sls.sizeOf sn i = ss at *
        go_wp2_with fail
        refine ⟨⟨k + 1, hk1, by go_num, by rw [HSN.out]; exact S13.out⟩, by simp [intOf]; omega⟩
      · obtain rfl : k = z1.length := by omega
        have B := Lib.hid S.out.1.below
        clear S
        go_wp2_with fail
        go_ret
        exact ⟨rfl, B.out⟩

theorem own_SlotsDo : ownKnob Tryz.prog.godebug = none := by kernel_rfl
set_option maxRecDepth 100000 in
set_option maxHeartbeats 800000 in
theorem lifted_SlotsDo (os : Os) (started : os.Started) (H : Type) (enc : TypeId × Value → H) :
    ReturnsInHanded {} Tryz.checked os 3 .any (Rows.slotsDoSpec.pre6 enc Tryz.prog Tryz.f3 Rows.slotsDoRow.domain false) (Rows.slotsDoSpec.post enc Tryz.prog Tryz.f3 false true false false) := by
  refine returnsInHanded_of_change (C := Tryz.checked) own_SlotsDo started (by kernel_rfl) Tryz.func3
    (ChangeSpec.witness6 (enc := enc) (C := Tryz.checked) false ⟨#[], #[.int .i64 0, .slice none 0 0, .int .i64 0, .int .i64 0, .int .u64 0], []⟩ 8 (by kernel_rfl) (by kernel_rfl) (by kernel_rfl) (by kernel_rfl)) ?_
  intro W base args ds gs before hval0 hW _ _
  have hval : ∀ (j : Nat) t v, Tryz.f3.params[j]? = some t → args[j]? = some v → Value.okWide Tryz.prog W .any base t v := hval0
  have hW' := hW
  obtain ⟨p, q, hA0, hV, rfl, _, _⟩ := hW
  have hA : DataW.TrodAll enc Tryz.prog W 0 (fun _ => true) true Tryz.f3.params.toList args.toList ds p := hA0
  rw [Tryz.params3] at hA hval
  obtain ⟨v0, vs0, d0, ds0, p0, q0, ha0, rfl, rfl, t0, r0⟩ := trodAll_cons hA
  obtain ⟨v1, vs1, d1, ds1, p1, q1, ha1, rfl, rfl, t1, r1⟩ := trodAll_cons r0
  obtain ⟨v2, vs2, d2, ds2, p2, q2, ha2, rfl, rfl, t2, r2⟩ := trodAll_cons r1
  obtain ⟨v3, vs3, d3, ds3, p3, q3, ha3, rfl, rfl, t3, r3⟩ := trodAll_cons r2
  obtain ⟨v4, vs4, d4, ds4, p4, q4, ha4, rfl, rfl, t4, r4⟩ := trodAll_cons r3
  obtain ⟨rfl, rfl, rfl⟩ := trodAll_nil r4
  subst ha4
  subst ha3
  subst ha2
  subst ha1
  obtain rfl : args = #[v0, v1, v2, v3, v4] := by cases args; simp_all
  obtain ⟨rfl, rfl⟩ := trodVars_none hV
  obtain ⟨a0, rfl, rfl, rfl, h0⟩ := open_int Tryz.underlying3 (hval 0 3 v0 rfl rfl) t0
  have k1 := t1
  have lt1 : ∀ x ∈ p1, x.block < W.heap.size := by obtain ⟨m, hm⟩ := k1; exact DataW.trod_lt m _ _ _ hm
  obtain ⟨a1, c1, z1, rfl, h1, g1⟩ := Sts.open_sacts (hval 1 22 v1 rfl rfl) t1
  obtain ⟨a2, rfl, rfl, rfl, h2⟩ := open_int Tryz.underlying3 (hval 2 3 v2 rfl rfl) t2
  obtain ⟨a3, rfl, rfl, rfl, h3⟩ := open_int Tryz.underlying3 (hval 3 3 v3 rfl rfl) t3
  obtain ⟨a4, rfl, rfl, rfl, h4⟩ := open_int Tryz.underlying23 (hval 4 23 v4 rfl rfl) t4
  clear hA0 hval0
  refine (walk_SlotsDo a0 a1 c1 z1 a2 a3 a4 W h0 h1 g1 h2 h3 h4).mono fun e W' ⟨he, hnx⟩ => ?_
  subst he
  exact ⟨_, rfl, ⟨_, _, _, [], _, [], hW', trodAll_cons_mk (shut_bool Tryz.underlying4 _) trodAll_mk0, (trodAll_cons_mk (shut_int Tryz.underlying3 h0) (trodAll_cons_mk (Below.trod Sts.laidOut (by kernel_rfl) (of_decide_eq_true (by kernel_rfl)) k1 hnx lt1) (trodAll_cons_mk (shut_int Tryz.underlying3 h2) (trodAll_cons_mk (shut_int Tryz.underlying3 h3) (trodAll_cons_mk (shut_int Tryz.underlying23 h4) trodAll_mk0))))), rfl, hnx.frame _, fun h => by cases h⟩⟩

theorem slotsDo_holds : Rows.SlotsDoSaid :=
  OpenClaim.holds_of_wide 3 Tryz.f3 rfl rfl rfl rfl rfl rfl rfl ⟨rfl, rfl, rfl, rfl, rfl⟩ rfl rfl rfl rfl rfl (by kernel_rfl) Tryz.func3 (by kernel_rfl)
    (of_decide_eq_true (by kernel_rfl)) (by unfold Func.isWrapper; first | (rw [if_pos (by decide +kernel)]; kernel_rfl) | (rw [if_neg (by decide +kernel)]; exact ⟨rfl, rfl⟩))
    (fun os started H enc _ => lifted_SlotsDo os started H enc)

#print axioms slotsDo_holds
end Go.Proofs.YtefdnnmgmdaapaaGreat
