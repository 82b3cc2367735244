/-
  EpochDoes: for every n, row of acts and slot the law EpochDoes answers true: whatever is done to slots, a keeper tells just what the document says. No condition.
-/
import Derived.Test.YthokjkllmflgkaaRows
import Derived.Test.YthokjkllmflgkaaSten
import Derived.Test.YthokjkllmflgkaaKepX
import Derived.ProofKit
import Derived.OpenShut
import Derived.ChangeMaps5
import Derived.BigQuiet
import Derived.WalkSmall
namespace Go.Proofs.Ythokjkllmflgkaa
open Go.ChangeShapes Go.WideShapes Go.ChangeAt Go.RowKit Go.Shelf
open Go.ChangeMaps (open_string shut_string)
open RowG Trn Kep Epo

set_option maxRecDepth 100000 in
set_option maxHeartbeats 4000000 in
theorem walk_EpochDoes (a0 : Int) (a1 : Option Addr) (c1 : Nat) (z1 : List ActM) (a2 : Int) (w : World) (_h0 : (Lit.int .i64 a0).wf = true) (h1 : Lies actM w a1 c1 z1) (g1 : ∀ x ∈ z1, Epo.ActOk w x) (_h2 : (Lit.int .i64 a2).wf = true) :
    Calls Try.prog 3 #[.int .i64 a0, rowV a1 c1 z1, .int .i64 a2] w fun e W' => e = .returned (.bool true) ∧ Below w.heap.size w W' := by
  have H1 := Lib.hid h1
  have G1 := Lib.hid g1
  have hC1 := h1.len
  have hM1 := h1.max
  unfold maxLen at hM1
  clear h1 g1
  go_enter Try.func3, Try.ntmps3
  go_wp2_with fail
  refine (works_any _).mono ?_
  rintro e w1 ⟨rfl, hb⟩
  have B1 := Lib.hid hb
  have L1 := Lib.hid (H1.out.kept hb)
  have K1 := Lib.hid (fun x hx => ok_kept (G1.out x hx) hb)
  clear hb H1 G1
  go_wp2_with fail
  refine (few_any _ _ _ _ L1.out).mono ?_
  rintro e w1' ⟨rfl, e1⟩
  subst e1
  by_cases g0 : fewE z1
  case neg =>
    rw [decide_eq_false g0]
    go_wp2_with fail
    go_ret
    exact ⟨rfl, B1.out⟩
  rw [decide_eq_true g0]
  have hz1 : z1.length ≤ 60 := g0.1
  go_wp2_with fail
  refine (New_told a0 _).mono ?_
  rintro e w2 ⟨rfl, hk, hb⟩
  have HP := Lib.hid (show w.heap.size ≤ w1'.heap.size from B1.out.size)
  have BN := Lib.hid (below2 B1.out hb)
  have BW := Lib.hid hb
  rw [← after_zero a0 z1] at hk
  have H0 := Lib.hid hk
  have hp := hk.1.lt
  generalize hpp : w1'.heap.size = p at *
  have HPP := Lib.hid hpp
  clear hb hk hpp
  go_wp2_with fail
  refine (refNew_any a0 _).mono ?_
  rintro e w2b ⟨vv, rfl, hg, hb⟩
  have hs2 := hb.size
  have GV := Lib.hid (hg.less (show p + 1 ≤ w2.heap.size from hp))
  have T0 := Lib.hid (Turned.of_below (S := fun k => k = p) hb)
  rw [← after_zero a0 z1] at GV
  have H0 := Lib.hid (keeps_kept H0.out hb)
  obtain ⟨av, cv, rfl, -⟩ := hg
  clear hb
  go_wp2_with fail
  go_loopw [9, 10] (fun sv i W => ∃ j : Nat, j ≤ z1.length ∧ i = .int .i64 j ∧ Kep.Gives (p + 1) W sv (after a0 z1 j) ∧ Keeps W p (after a0 z1 j) ∧ Turned (fun k => k = p) w2 W) (fun _ i _ => z1.length - (intOf i).toNat)
  case atStart => exact ⟨0, Nat.zero_le _, rfl, GV.out, H0.out, T0.out⟩
  case round =>
    obtain ⟨j, hj, rfl, hg, hh, ht⟩ := hrel
    have BB := Lib.hid (Turned.below BW.out ht (by omega) (fun k hk => by omega))
    have hsz := ht.size
    have GJ := Lib.hid hg
    obtain ⟨av, cv, rfl, hlv, hbv⟩ := hg
    have H := Lib.hid hh
    have T := Lib.hid ht
    clear hh ht H0 GV T0 hlv hbv
    by_cases hlt : j < z1.length
    case pos =>
      obtain ⟨bz, oz, rfl, y0, y1, y2, y3⟩ := lies_actM (L1.out.kept (HPP.out ▸ BB.out)) hlt
      have HR := Lib.hid (after_next a0 z1 hlt)
      have HL := Lib.hid (after_le a0 z1 j)
      have OK := Lib.hid (fun W (hb : Below w1'.heap.size w1' W) => ok_kept (K1.out _ (List.getElem_mem hlt)) hb)
      have Y := Lib.hid (fun W (hb : Below w1'.heap.size w1' W) => lies_actM (L1.out.kept hb) hlt)
      have C := Lib.hid (do_any z1[j] (OK.out _ (HPP.out ▸ BB.out)) H.out)
      generalize z1[j] = y at *
      generalize after a0 z1 j = s at *
      go_wp2_with fail
      refine C.out.mono ?_
      rintro e w3 ⟨rfl, hh, ht⟩
      have H3 := Lib.hid hh
      have T3 := Lib.hid (T.out.trans ht)
      have hs3 := T3.out.size
      have B3 := Lib.hid (HPP.out ▸ Turned.below BW.out T3.out (by omega) (fun k hk => by omega) : Below w1'.heap.size w1' w3)
      obtain ⟨a3, c3, e3, l3, b3⟩ := GJ.out.turned ht (by omega)
      cases e3
      have C3 := Lib.hid (told_any (w := w3) av cv s y (OK.out _ B3.out) l3 (by have := HL.out; omega) (p + 1) b3 (by omega))
      obtain ⟨bz', oz', e', y0', y1', y2', y3'⟩ := Y.out _ B3.out
      cases e'
      clear hh ht C y0 y1 y2 y3 l3 b3 OK Y B3
      generalize act s y.act = sr at *
      obtain ⟨s', r⟩ := sr
      dsimp only at C3 H3 ⊢
      go_wp2_with fail
      refine C3.out.mono ?_
      rintro e w4 ⟨v4, rfl, hg4, hb4⟩
      have G4 := Lib.hid hg4
      have H4 := Lib.hid (keeps_kept H3.out hb4)
      have T4 := Lib.hid (T3.out.trans (Turned.of_below hb4))
      obtain ⟨a4, c4, rfl, -⟩ := hg4
      clear hb4 C3 H3 T3 y0' y1' y2' y3'
      have C4 := Lib.hid (State_told H4.out.1 a2)
      have G5 := Lib.hid (fun W (hb : Below w4.heap.size w4 W) => G4.out.kept hb)
      have C5 := Lib.hid (fun W (hb : Below w4.heap.size w4 W) => (show Calls Try.prog 15 #[rowV a4 c4 s', .int .i64 a2] W fun e W' => e = .returned (.int .i64 (state s' a2)) ∧ W' = W by
        obtain ⟨a, c, e, l, -⟩ := G5.out W hb
        cases e
        exact refState_any _ _ _ _ _ l))
      generalize state s' a2 = st at *
      go_wp2_with fail
      refine C4.out.mono ?_
      rintro e w5 ⟨rfl, hb5⟩
      have C6 := Lib.hid (C5.out _ hb5)
      have G6 := Lib.hid (G5.out _ hb5)
      have H6 := Lib.hid (keeps_kept H4.out hb5)
      have T6 := Lib.hid (T4.out.trans (Turned.of_below hb5))
      clear hb5 C4 C5 G5 G4 H4 T4
      go_wp2_with fail
      refine C6.out.mono ?_
      rintro e w6 ⟨rfl, rfl⟩
      go_wp2_with fail
      refine ⟨⟨j + 1, by omega, by go_num, by rw [HR.out]; exact G6.out, by rw [HR.out]; exact H6.out, T6.out⟩, by simp [intOf]; omega⟩
    case neg =>
      obtain rfl : j = z1.length := by omega
      go_wp2_with fail
      go_ret
      exact ⟨rfl, Turned.below BN.out T.out BN.out.size (fun k hk => by have := HP.out; omega)⟩
theorem own_EpochDoes : ownKnob Try.prog.godebug = none := by kernel_rfl
set_option maxRecDepth 100000 in
set_option maxHeartbeats 800000 in
theorem lifted_EpochDoes (os : Os) (started : os.Started) (H : Type) (enc : TypeId × Value → H) :
    ReturnsInHanded {} Try.checked os 3 .any (Rows.epochDoesSpec.pre6 enc Try.prog Try.f3 Rows.epochDoesRow.domain false) (Rows.epochDoesSpec.post enc Try.prog Try.f3 false true false false) := by
  refine returnsInHanded_of_change (C := Try.checked) own_EpochDoes started (by kernel_rfl) Try.func3
    (ChangeSpec.witness6 (enc := enc) (C := Try.checked) false ⟨#[], #[.int .i64 0, .slice none 0 0, .int .i64 0], []⟩ 8 (by kernel_rfl) (by kernel_rfl) (by kernel_rfl) (by kernel_rfl)) ?_
  intro W base args ds gs before hval0 hW _ _
  have hval : ∀ (j : Nat) t v, Try.f3.params[j]? = some t → args[j]? = some v → Value.okWide Try.prog W .any base t v := hval0
  have hW' := hW
  obtain ⟨p, q, hA0, hV, rfl, _, _⟩ := hW
  have hA : DataW.TrodAll enc Try.prog W 0 (fun _ => true) true Try.f3.params.toList args.toList ds p := hA0
  rw [Try.params3] at hA hval
  obtain ⟨v0, vs0, d0, ds0, p0, q0, ha0, rfl, rfl, t0, r0⟩ := trodAll_cons hA
  obtain ⟨v1, vs1, d1, ds1, p1, q1, ha1, rfl, rfl, t1, r1⟩ := trodAll_cons r0
  obtain ⟨v2, vs2, d2, ds2, p2, q2, ha2, rfl, rfl, t2, r2⟩ := trodAll_cons r1
  obtain ⟨rfl, rfl, rfl⟩ := trodAll_nil r2
  subst ha2
  subst ha1
  obtain rfl : args = #[v0, v1, v2] := by cases args; simp_all
  obtain ⟨rfl, rfl⟩ := trodVars_none hV
  obtain ⟨a0, rfl, rfl, rfl, h0⟩ := open_int Try.underlying3 (hval 0 3 v0 rfl rfl) t0
  have k1 := t1
  have lt1 : ∀ x ∈ p1, x.block < W.heap.size := by obtain ⟨m, hm⟩ := k1; exact DataW.trod_lt m _ _ _ hm
  obtain ⟨a1, c1, z1, rfl, h1, g1⟩ := Sten.open_eacts (hval 1 22 v1 rfl rfl) t1
  obtain ⟨a2, rfl, rfl, rfl, h2⟩ := open_int Try.underlying3 (hval 2 3 v2 rfl rfl) t2
  clear hA0 hval0
  refine (walk_EpochDoes a0 a1 c1 z1 a2 W h0 h1 g1 h2).mono fun e W' ⟨he, hnx⟩ => ?_
  subst he
  exact ⟨_, rfl, ⟨_, _, _, [], _, [], hW', trodAll_cons_mk (shut_bool Try.underlying4 _) trodAll_mk0, (trodAll_cons_mk (shut_int Try.underlying3 h0) (trodAll_cons_mk (Below.trod Sten.laidOut (by kernel_rfl) (of_decide_eq_true (by kernel_rfl)) k1 hnx lt1) (trodAll_cons_mk (shut_int Try.underlying3 h2) trodAll_mk0))), rfl, hnx.frame _, fun h => by cases h⟩⟩

theorem epochDoes_holds : Rows.EpochDoesSaid :=
  OpenClaim.holds_of_wide 3 Try.f3 rfl rfl rfl rfl rfl rfl rfl ⟨rfl, rfl, rfl, rfl, rfl⟩ rfl rfl rfl rfl rfl (by kernel_rfl) Try.func3 (by kernel_rfl)
    (of_decide_eq_true (by kernel_rfl)) (by unfold Func.isWrapper; first | (rw [if_pos (by decide +kernel)]; kernel_rfl) | (rw [if_neg (by decide +kernel)]; exact ⟨rfl, rfl⟩))
    (fun os started H enc _ => lifted_EpochDoes os started H enc)

#print axioms epochDoes_holds
end Go.Proofs.Ythokjkllmflgkaa
