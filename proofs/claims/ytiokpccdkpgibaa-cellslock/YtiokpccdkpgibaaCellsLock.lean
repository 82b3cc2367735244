/-
  CellsLock: for every n, acts, i, who and other the law CellsLock answers true: a lock has one owner at most, and is freed by that one alone. No condition.
-/
import Derived.Test.YtiokpccdkpgibaaRows
import Derived.Test.YtiokpccdkpgibaaSta
import Derived.Test.YtiokpccdkpgibaaCelH
import Derived.Test.YtiokpccdkpgibaaCelQ
import Derived.ProofKit
import Derived.OpenShut
import Derived.ChangeMaps5
import Derived.BigQuiet
import Derived.WalkSmall
namespace Go.Proofs.Ytiokpccdkpgibaa
open Go.ChangeShapes Go.WideShapes Go.ChangeAt Go.RowKit Go.Shelf
open Go.ChangeMaps (open_string shut_string)
open RowG Cel

set_option maxRecDepth 100000 in
set_option maxHeartbeats 2000000 in
theorem walk_CellsLock (a0 : Int) (a1 : Option Addr) (c1 : Nat) (z1 : List Cel.Act) (a2 : Int) (a3 : Int) (a4 : Int) (w : World) (_h0 : (Lit.int .i64 a0).wf = true) (h1 : Lies actK w a1 c1 z1) (_g1 : ∀ x ∈ z1, ActOk x) (_h2 : (Lit.int .i64 a2).wf = true) (_h3 : (Lit.int .i64 a3).wf = true) (_h4 : (Lit.int .i64 a4).wf = true) :
    Calls Try.prog 5 #[.int .i64 a0, rowV a1 c1 z1, .int .i64 a2, .int .i64 a3, .int .i64 a4] w fun e W' => e = .returned (.bool true) ∧ Below w.heap.size w W' := by
  have H1 := Lib.hid h1
  have hC1 := h1.len
  have hM1 := h1.max
  unfold maxLen at hM1
  clear h1
  go_enter Try.func5, Try.ntmps5
  go_wp2_with fail
  refine (works_any _).mono ?_
  rintro e w1 ⟨rfl, hb⟩
  have B1 := Lib.hid hb
  have L1 := Lib.hid (H1.out.kept hb)
  clear hb H1
  by_cases g0 : 60 < z1.length
  · have dg00 : decide ((60 : Int) < (z1.length : Int)) = true := decide_eq_true (by omega)
    have dg01 : decide (60 < z1.length) = true := decide_eq_true (by omega)
    go_wp2_with fail
    go_ret
    exact ⟨rfl, B1.out⟩
  have dg00 : decide ((60 : Int) < (z1.length : Int)) = false := decide_eq_false (by omega)
  have dg01 : decide (60 < z1.length) = false := decide_eq_false (by omega)
  by_cases g1 : a2 < 0
  · have dg10 : decide (a2 < 0) = true := decide_eq_true g1
    go_wp2_with fail
    go_ret
    exact ⟨rfl, B1.out⟩
  have dg10 : decide (a2 < 0) = false := decide_eq_false g1
  by_cases g2 : a0 ≤ a2
  · have dg20 : decide (a0 ≤ a2) = true := decide_eq_true g2
    go_wp2_with fail
    go_ret
    exact ⟨rfl, B1.out⟩
  have dg20 : decide (a0 ≤ a2) = false := decide_eq_false g2
  by_cases g3 : 1024 ≤ a2
  · have dg30 : decide (1024 ≤ a2) = true := decide_eq_true g3
    go_wp2_with fail
    go_ret
    exact ⟨rfl, B1.out⟩
  have dg30 : decide (1024 ≤ a2) = false := decide_eq_false g3
  by_cases g4 : a3 < 0
  · have dg40 : decide (a3 < 0) = true := decide_eq_true g4
    go_wp2_with fail
    go_ret
    exact ⟨rfl, B1.out⟩
  have dg40 : decide (a3 < 0) = false := decide_eq_false g4
  by_cases g5 : a4 < 0
  · have dg50 : decide (a4 < 0) = true := decide_eq_true g5
    go_wp2_with fail
    go_ret
    exact ⟨rfl, B1.out⟩
  have dg50 : decide (a4 < 0) = false := decide_eq_false g5
  by_cases g6 : a3 = a4
  · have dg60 : (a3 == a4) = true := by simpa using g6
    go_wp2_with fail
    go_ret
    exact ⟨rfl, B1.out⟩
  have dg60 : (a3 == a4) = false := by simpa using g6
  have G6 := Lib.hid g6
  clear g6
  go_wp2_with fail
  refine (New_told a0 a0 _).mono ?_
  rintro e w2 ⟨f, rfl, h2, hf, hb⟩
  have NL := Lib.hid (Foot.apart L1.out hf)
  have F := Lib.hid (Foot.ge hf)
  have B2 := Lib.hid hb
  have M := Lib.hid (L1.out.kept hb)
  have H0 := Lib.hid h2
  clear h2 hf hb L1
  go_wp2_with fail
  go_loopw [13] (fun i W => ∃ j : Nat, j ≤ z1.length ∧ i = .int .i64 j ∧ Held W f (runs (new a0 a0) (z1.take j)) ∧ Turned f.has w2 W) (fun i _ => z1.length - (intOf i).toNat)
  case atStart => exact ⟨0, Nat.zero_le _, rfl, H0.out, Turned.refl _ _⟩
  case round =>
    obtain ⟨j, hj, rfl, hh, ht⟩ := hrel
    have H := Lib.hid hh
    have T := Lib.hid ht
    clear hh ht H0
    by_cases hlt : j < z1.length
    case pos =>
      obtain ⟨bz, oz, rfl, y0, y1, y2, y3⟩ := (T.out.lies M.out NL.out).act hlt
      have HR := Lib.hid (runs_take (s := new a0 a0) hlt)
      have C := Lib.hid (do_any H.out (runs_few a0 a0 (by omega)) (runs_own a0 a0 _) z1[j])
      generalize z1[j] = y at *
      go_wp2_with fail
      refine C.out.mono ?_
      rintro e w3 ⟨rfl, hh, ht⟩
      have H3 := Lib.hid hh
      have T3 := Lib.hid (T.out.trans ht)
      clear hh ht
      go_wp2_with fail
      refine ⟨⟨j + 1, by omega, by go_num, by rw [HR.out]; exact H3.out, T3.out⟩, by simp [intOf]; omega⟩
    case neg =>
      obtain rfl : j = z1.length := by omega
      rw [List.take_length] at H
      obtain ⟨v, hv, I0⟩ := lockIs_runs (n := a0) (m := a0) (l := z1) (i := a2) (by omega) (by omega) (by omega)
      generalize runs (new a0 a0) z1 = s0 at *
      clear M NL
      have hk : z1.length ≤ 60 := by omega
      have J0 := Lib.hid I0
      clear I0
      have C := Lib.hid (Owner_told H.out a2)
      rw [J0.out.owner] at C
      go_wp2_with fail
      refine (C.out).mono ?_
      rintro e w2 ⟨rfl, hh, ht⟩
      have H := Lib.hid hh
      have T := Lib.hid (T.out.trans ht)
      clear hh ht
      clear C
      by_cases hv0 : v < 0
      case pos =>
        obtain rfl : v = -1 := by omega
        clear hv hv0
        obtain ⟨s1, e1, I1⟩ := lock_free J0.out (show 0 ≤ a3 by omega)
        have C := Lib.hid (Lock_told H.out (J0.out.bound (by omega)) J0.out.own a2 a3)
        rw [e1] at C
        have J1 := Lib.hid I1
        clear I1 e1 J0
        go_wp2_with fail
        refine (C.out).mono ?_
        rintro e w3 ⟨rfl, hh, ht⟩
        have H := Lib.hid hh
        have T := Lib.hid (T.out.trans ht)
        clear hh ht
        clear C
        have C := Lib.hid (Owner_told H.out a2)
        rw [J1.out.owner] at C
        go_wp2_with fail
        refine (C.out).mono ?_
        rintro e w4 ⟨rfl, hh, ht⟩
        have H := Lib.hid hh
        have T := Lib.hid (T.out.trans ht)
        clear hh ht
        clear C
        obtain ⟨s2, e2, I2⟩ := lock_held (who := a3) J1.out (show 0 ≤ a3 by omega)
        have C := Lib.hid (Lock_told H.out (J1.out.bound (by omega)) J1.out.own a2 a3)
        rw [e2] at C
        have J2 := Lib.hid I2
        clear I2 e2 J1
        go_wp2_with fail
        refine (C.out).mono ?_
        rintro e w5 ⟨rfl, hh, ht⟩
        have H := Lib.hid hh
        have T := Lib.hid (T.out.trans ht)
        clear hh ht
        clear C
        obtain ⟨s3, e3, I3⟩ := lock_held (who := a4) J2.out (show 0 ≤ a3 by omega)
        have C := Lib.hid (Lock_told H.out (J2.out.bound (by omega)) J2.out.own a2 a4)
        rw [e3] at C
        have J3 := Lib.hid I3
        clear I3 e3 J2
        go_wp2_with fail
        refine (C.out).mono ?_
        rintro e w6 ⟨rfl, hh, ht⟩
        have H := Lib.hid hh
        have T := Lib.hid (T.out.trans ht)
        clear hh ht
        clear C
        obtain ⟨s4, e4, I4⟩ := unlock_other (who := a4) J3.out (.inr G6.out)
        have C := Lib.hid (Unlock_told H.out (J3.out.bound (by omega)) a2 a4)
        rw [e4] at C
        have J4 := Lib.hid I4
        clear I4 e4 J3
        go_wp2_with fail
        refine (C.out).mono ?_
        rintro e w7 ⟨rfl, hh, ht⟩
        have H := Lib.hid hh
        have T := Lib.hid (T.out.trans ht)
        clear hh ht
        clear C
        have C := Lib.hid (Owner_told H.out a2)
        rw [J4.out.owner] at C
        go_wp2_with fail
        refine (C.out).mono ?_
        rintro e w8 ⟨rfl, hh, ht⟩
        have H := Lib.hid hh
        have T := Lib.hid (T.out.trans ht)
        clear hh ht
        clear C
        obtain ⟨s5, e5, I5⟩ := unlock_own J4.out (show 0 ≤ a3 by omega)
        have C := Lib.hid (Unlock_told H.out (J4.out.bound (by omega)) a2 a3)
        rw [e5] at C
        have J5 := Lib.hid I5
        clear I5 e5 J4
        go_wp2_with fail
        refine (C.out).mono ?_
        rintro e w9 ⟨rfl, hh, ht⟩
        have H := Lib.hid hh
        have T := Lib.hid (T.out.trans ht)
        clear hh ht
        clear C
        obtain ⟨s6, e6, I6⟩ := unlock_other (who := a3) J5.out (.inl (by omega))
        have C := Lib.hid (Unlock_told H.out (J5.out.bound (by omega)) a2 a3)
        rw [e6] at C
        have J6 := Lib.hid I6
        clear I6 e6 J5
        go_wp2_with fail
        refine (C.out).mono ?_
        rintro e w10 ⟨rfl, hh, ht⟩
        have H := Lib.hid hh
        have T := Lib.hid (T.out.trans ht)
        clear hh ht
        clear C
        obtain ⟨s7, e7, I7⟩ := lock_free J6.out (show 0 ≤ a4 by omega)
        have C := Lib.hid (Lock_told H.out (J6.out.bound (by omega)) J6.out.own a2 a4)
        rw [e7] at C
        have J7 := Lib.hid I7
        clear I7 e7 J6
        go_wp2_with fail
        refine (C.out).mono ?_
        rintro e w11 ⟨rfl, hh, ht⟩
        have H := Lib.hid hh
        have T := Lib.hid (T.out.trans ht)
        clear hh ht
        clear C
        go_wp2_with fail
        go_ret
        exact ⟨rfl, Turned.below (B1.out.trans (B2.out.mono B1.out.size)) T.out (Nat.le_trans B1.out.size B2.out.size) (fun k hk => Nat.le_trans B1.out.size (F.out k hk))⟩
      case neg =>
        have hv1 : 0 ≤ v := by omega
        have dv : decide (v < 0) = false := decide_eq_false hv0
        clear hv hv0
        obtain ⟨s1, e1, I1⟩ := lock_held (who := a3) J0.out hv1
        have C := Lib.hid (Lock_told H.out (J0.out.bound (by omega)) J0.out.own a2 a3)
        rw [e1] at C
        have J1 := Lib.hid I1
        clear I1 e1 J0
        go_wp2_with fail
        refine (C.out).mono ?_
        rintro e w12 ⟨rfl, hh, ht⟩
        have H := Lib.hid hh
        have T := Lib.hid (T.out.trans ht)
        clear hh ht
        clear C
        have C := Lib.hid (Owner_told H.out a2)
        rw [J1.out.owner] at C
        go_wp2_with fail
        refine (C.out).mono ?_
        rintro e w13 ⟨rfl, hh, ht⟩
        have H := Lib.hid hh
        have T := Lib.hid (T.out.trans ht)
        clear hh ht
        clear C
        have C := Lib.hid (Owner_told H.out a2)
        rw [J1.out.owner] at C
        go_wp2_with fail
        refine (C.out).mono ?_
        rintro e w14 ⟨rfl, hh, ht⟩
        have H := Lib.hid hh
        have T := Lib.hid (T.out.trans ht)
        clear hh ht
        clear C
        obtain ⟨s2, e2, I2⟩ := unlock_own J1.out hv1
        have C := Lib.hid (Unlock_told H.out (J1.out.bound (by omega)) a2 v)
        rw [e2] at C
        have J2 := Lib.hid I2
        clear I2 e2 J1
        go_wp2_with fail
        refine (C.out).mono ?_
        rintro e w15 ⟨rfl, hh, ht⟩
        have H := Lib.hid hh
        have T := Lib.hid (T.out.trans ht)
        clear hh ht
        clear C
        have C := Lib.hid (Owner_told H.out a2)
        rw [J2.out.owner] at C
        go_wp2_with fail
        refine (C.out).mono ?_
        rintro e w16 ⟨rfl, hh, ht⟩
        have H := Lib.hid hh
        have T := Lib.hid (T.out.trans ht)
        clear hh ht
        clear C
        go_wp2_with fail
        go_ret
        exact ⟨rfl, Turned.below (B1.out.trans (B2.out.mono B1.out.size)) T.out (Nat.le_trans B1.out.size B2.out.size) (fun k hk => Nat.le_trans B1.out.size (F.out k hk))⟩

theorem own_CellsLock : ownKnob Try.prog.godebug = none := by kernel_rfl
set_option maxRecDepth 100000 in
set_option maxHeartbeats 800000 in
theorem lifted_CellsLock (os : Os) (started : os.Started) (H : Type) (enc : TypeId × Value → H) :
    ReturnsInHanded {} Try.checked os 5 .any (Rows.cellsLockSpec.pre6 enc Try.prog Try.f5 Rows.cellsLockRow.domain false) (Rows.cellsLockSpec.post enc Try.prog Try.f5 false true false false) := by
  refine returnsInHanded_of_change (C := Try.checked) own_CellsLock started (by kernel_rfl) Try.func5
    (ChangeSpec.witness6 (enc := enc) (C := Try.checked) false ⟨#[], #[.int .i64 0, .slice none 0 0, .int .i64 0, .int .i64 0, .int .i64 0], []⟩ 8 (by kernel_rfl) (by kernel_rfl) (by kernel_rfl) (by kernel_rfl)) ?_
  intro W base args ds gs before hval0 hW _ _
  have hval : ∀ (j : Nat) t v, Try.f5.params[j]? = some t → args[j]? = some v → Value.okWide Try.prog W .any base t v := hval0
  have hW' := hW
  obtain ⟨p, q, hA0, hV, rfl, _, _⟩ := hW
  have hA : DataW.TrodAll enc Try.prog W 0 (fun _ => true) true Try.f5.params.toList args.toList ds p := hA0
  rw [Try.params5] at hA hval
  obtain ⟨v0, vs0, d0, ds0, p0, q0, ha0, rfl, rfl, t0, r0⟩ := trodAll_cons hA
  obtain ⟨v1, vs1, d1, ds1, p1, q1, ha1, rfl, rfl, t1, r1⟩ := trodAll_cons r0
  obtain ⟨v2, vs2, d2, ds2, p2, q2, ha2, rfl, rfl, t2, r2⟩ := trodAll_cons r1
  obtain ⟨v3, vs3, d3, ds3, p3, q3, ha3, rfl, rfl, t3, r3⟩ := trodAll_cons r2
  obtain ⟨v4, vs4, d4, ds4, p4, q4, ha4, rfl, rfl, t4, r4⟩ := trodAll_cons r3
  obtain ⟨rfl, rfl, rfl⟩ := trodAll_nil r4
  subst ha4
  subst ha3
  subst ha2
  subst ha1
  obtain rfl : args = #[v0, v1, v2, v3, v4] := by cases args; simp_all
  obtain ⟨rfl, rfl⟩ := trodVars_none hV
  obtain ⟨a0, rfl, rfl, rfl, h0⟩ := open_int Try.underlying3 (hval 0 3 v0 rfl rfl) t0
  have k1 := t1
  have lt1 : ∀ x ∈ p1, x.block < W.heap.size := by obtain ⟨m, hm⟩ := k1; exact DataW.trod_lt m _ _ _ hm
  obtain ⟨a1, c1, z1, rfl, h1, g1⟩ := Sta.open_acts (hval 1 22 v1 rfl rfl) t1
  obtain ⟨a2, rfl, rfl, rfl, h2⟩ := open_int Try.underlying3 (hval 2 3 v2 rfl rfl) t2
  obtain ⟨a3, rfl, rfl, rfl, h3⟩ := open_int Try.underlying3 (hval 3 3 v3 rfl rfl) t3
  obtain ⟨a4, rfl, rfl, rfl, h4⟩ := open_int Try.underlying3 (hval 4 3 v4 rfl rfl) t4
  clear hA0 hval0
  refine (walk_CellsLock a0 a1 c1 z1 a2 a3 a4 W h0 h1 g1 h2 h3 h4).mono fun e W' ⟨he, hnx⟩ => ?_
  subst he
  exact ⟨_, rfl, ⟨_, _, _, [], _, [], hW', trodAll_cons_mk (shut_bool Try.underlying4 _) trodAll_mk0, (trodAll_cons_mk (shut_int Try.underlying3 h0) (trodAll_cons_mk (Below.trod Sta.laidOut (by kernel_rfl) (of_decide_eq_true (by kernel_rfl)) k1 hnx lt1) (trodAll_cons_mk (shut_int Try.underlying3 h2) (trodAll_cons_mk (shut_int Try.underlying3 h3) (trodAll_cons_mk (shut_int Try.underlying3 h4) trodAll_mk0))))), rfl, hnx.frame _, fun h => by cases h⟩⟩

theorem cellsLock_holds : Rows.CellsLockSaid :=
  OpenClaim.holds_of_wide 5 Try.f5 rfl rfl rfl rfl rfl rfl rfl ⟨rfl, rfl, rfl, rfl, rfl⟩ rfl rfl rfl rfl rfl (by kernel_rfl) Try.func5 (by kernel_rfl)
    (of_decide_eq_true (by kernel_rfl)) (by unfold Func.isWrapper; first | (rw [if_pos (by decide +kernel)]; kernel_rfl) | (rw [if_neg (by decide +kernel)]; exact ⟨rfl, rfl⟩))
    (fun os started H enc _ => lifted_CellsLock os started H enc)

#print axioms cellsLock_holds
end Go.Proofs.Ytiokpccdkpgibaa
