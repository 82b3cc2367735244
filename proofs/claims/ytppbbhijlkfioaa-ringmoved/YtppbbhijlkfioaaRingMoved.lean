/-
  RingMoved: for every p, id, hs and n the law RingMoved answers true: what moves without a backend is just what went to it, place by place. No condition.
-/
import Derived.Test.YtppbbhijlkfioaaRows
import Derived.Test.YtppbbhijlkfioaaBPol
import Derived.Test.YtppbbhijlkfioaaBPtr
import Derived.Test.YtppbbhijlkfioaaRinW
import Derived.Test.YtppbbhijlkfioaaPtsU
import Derived.Test.YtppbbhijlkfioaaRinQ
import Derived.Test.YtppbbhijlkfioaaBPoo
import Derived.BigQuiet
import Derived.WalkSmall
import Derived.ProofKit
import Derived.OpenShut
import Derived.ChangeMaps5
namespace Go.Proofs.Ytppbbhijlkfioaa
open Go.ChangeShapes Go.WideShapes Go.ChangeAt Go.RowKit Go.Shelf
open Go.ChangeMaps (open_string shut_string)
open Rin Rgn
open Pts (Pt ptV ptsV Lies Rise ofL hsh ofL_rise Of_told Check_yes Check_no)
open Pol (below2 below_alloc Bk polV intsV chk)
open Num (LiesN numsV)

set_option maxRecDepth 100000 in
set_option maxHeartbeats 1000000 in
theorem walk_RingMoved (a0 : Option Addr) (c0 : Nat) (z0 : List Bk) (id : Int) (a2 : Option Addr) (c2 : Nat) (z2 : List Int) (n : Int) (w : World) (h0 : Pol.Lies w a0 c0 z0) (_g0 : ∀ x ∈ z0, Stp.BkOk x) (_h1 : (Lit.int .i64 id).wf = true) (h2 : LiesN .u64 w a2 c2 z2) (_g2 : ∀ n ∈ z2, (Lit.int .u64 n).wf = true) (_h3 : (Lit.int .i64 n).wf = true) :
    Calls Try.prog 7 #[polV a0 c0 z0, .int .i64 id, numsV a2 c2 z2, .int .i64 n] w fun e W' => e = .returned (.bool true) ∧ Below w.heap.size w W' := by
  have H0 := Lib.hid h0
  have hC0 := h0.len
  have hM0 := h0.max
  unfold maxLen at hM0
  clear h0
  have H2 := Lib.hid h2
  have hC2 := h2.len
  have hM2 := h2.max
  unfold maxLen at hM2
  clear h2
  by_cases g0 : 8 < z0.length
  · have d0 : decide ((8 : Int) < (z0.length : Int)) = true := decide_eq_true (by omega)
    have d0n : decide (8 < z0.length) = true := decide_eq_true g0
    go_enter Try.func7, Try.ntmps7
    go_wp2_with fail
    refine (works_any _).mono ?_
    rintro e w1 ⟨rfl, hb⟩
    have B1 := Lib.hid hb
    clear hb
    go_wp2_with fail
    go_ret
    exact ⟨rfl, B1.out⟩
  have d0 : decide ((8 : Int) < (z0.length : Int)) = false := decide_eq_false (by omega)
  have d0n : decide (8 < z0.length) = false := decide_eq_false g0
  have l0 : z0.length ≤ 8 := by omega
  by_cases g2 : 20 < z2.length
  · have d2 : decide ((20 : Int) < (z2.length : Int)) = true := decide_eq_true (by omega)
    have d2n : decide (20 < z2.length) = true := decide_eq_true g2
    go_enter Try.func7, Try.ntmps7
    go_wp2_with fail
    refine (works_any _).mono ?_
    rintro e w1 ⟨rfl, hb⟩
    have B1 := Lib.hid hb
    clear hb
    go_wp2_with fail
    go_ret
    exact ⟨rfl, B1.out⟩
  have d2 : decide ((20 : Int) < (z2.length : Int)) = false := decide_eq_false (by omega)
  have d2n : decide (20 < z2.length) = false := decide_eq_false g2
  have l2 : z2.length ≤ 20 := by omega
  by_cases hc : ¬ chk z0
  · go_enter Try.func7, Try.ntmps7
    go_wp2_with fail
    refine (works_any _).mono ?_
    rintro e w1 ⟨rfl, hb⟩
    have L1 := Lib.hid (H0.out.kept hb)
    have B1 := Lib.hid hb
    clear hb
    go_wp2_with fail
    refine (Check_no a0 c0 z0 hc w1 L1.out).mono ?_
    rintro e w2 ⟨rfl, hb⟩
    have B2 := Lib.hid (below2 B1.out hb)
    clear hb B1 L1
    go_wp2_with fail
    go_ret
    exact ⟨rfl, B2.out⟩
  replace hc := Classical.not_not.1 hc
  have FM := Lib.hid (fun i hi => mv_without hc id z2 i hi)
  have FR := Lib.hid (mvK_range (ofL hsh z0) (ofL hsh (Pol.without z0 id)) z2)
  have FA := Lib.hid (mvK_rise (ofL hsh z0) (ofL hsh (Pol.without z0 id)) z2)
  have hMl := mvK_length (ofL hsh z0) (ofL hsh (Pol.without z0 id)) z2 z2.length
  have hWl := Pol.without_length z0 id
  go_enter Try.func7, Try.ntmps7
  go_wp2_with fail
  refine (works_any _).mono ?_
  rintro e w1 ⟨rfl, hb⟩
  have L1 := Lib.hid (H0.out.kept hb)
  have N1 := Lib.hid (H2.out.kept hb)
  have B1 := Lib.hid hb
  clear hb
  go_wp2_with fail
  refine (Check_yes a0 c0 z0 hc w1 L1.out).mono ?_
  rintro e w2 ⟨rfl, hb⟩
  have L2 := Lib.hid (L1.out.kept hb)
  have N2 := Lib.hid (N1.out.kept hb)
  have B2 := Lib.hid (below2 B1.out hb)
  clear hb B1 L1 N1
  clear hc
  go_wp2_with fail
  refine (Pol.Without_told a0 c0 z0 id w2 L2.out (by omega)).mono ?_
  rintro e w3 ⟨v, rfl, ⟨aW, cW, rfl, hW⟩, hb⟩
  have L3 := Lib.hid (L2.out.kept hb)
  have N3 := Lib.hid (N2.out.kept hb)
  have W3 := Lib.hid hW
  have B3 := Lib.hid (below2 B2.out hb)
  clear hb hW L2 N2 B2
  go_wp2_with fail
  refine (Moved_told a0 c0 z0 aW cW (Pol.without z0 id) a2 c2 z2 w3 L3.out (by omega) W3.out (by omega) N3.out (by omega)).mono ?_
  rintro e w4 ⟨v, rfl, ho, hb⟩
  obtain ⟨aI, cI, rfl, hI⟩ := ho.lies
  have L4 := Lib.hid (L3.out.kept hb)
  have N4 := Lib.hid (N3.out.kept hb)
  have I4 := Lib.hid hI
  have B4 := Lib.hid (below2 B3.out hb)
  have hIl := hI.len
  have hIm := hI.max
  unfold maxLen at hIm
  clear hb ho hI L3 N3 W3 B3
  generalize mvK (ofL hsh z0) (ofL hsh (Pol.without z0 id)) z2 z2.length = M at *
  go_wp2_with fail
  go_loopw [11, 12] (fun c i W => ∃ (k : Nat) (b : Bool), k ≤ M.length ∧ i = .int .i64 k ∧ c = .bool b ∧ (b = false → ∀ j (hj : j < M.length), j < k → M[j] ≠ n) ∧ (b = true → n ∈ M) ∧ Below w4.heap.size w4 W) (fun _ i _ => M.length - (intOf i).toNat)
  case atStart => exact ⟨0, false, Nat.zero_le _, rfl, rfl, (fun _ j _ h => absurd h (by omega)), (fun e => by cases e), Below.refl _ _⟩
  case round =>
    obtain ⟨k, b, hk, rfl, rfl, hno, hyes, hBW⟩ := hrel
    have HN := Lib.hid hno
    have HY := Lib.hid hyes
    have BW := Lib.hid hBW
    clear hno hyes hBW
    by_cases hlt : k < M.length
    · have dlt : decide (k < M.length) = true := decide_eq_true hlt
      obtain ⟨g, off, rfl, x0⟩ := (I4.out.kept BW.out).at hlt
      obtain ⟨r1, r2⟩ := FR.out M[k] (List.getElem_mem hlt)
      have e1 : decide (M[k] < 0) = false := decide_eq_false (by omega)
      have e2 : decide ((z2.length : Int) ≤ M[k]) = false := decide_eq_false (by omega)
      have HX := Lib.hid (show M[k] = n → n ∈ M from fun e => e ▸ List.getElem_mem hlt)
      have HV := Lib.hid (show b = false → M[k] ≠ n → ∀ j (hj : j < M.length), j < k + 1 → M[j] ≠ n from fun e hx j hj hjk => by
        rcases Nat.lt_or_ge j k with h' | h'
        · exact HN.out e j hj h'
        · have : j = k := by omega
          subst this; exact hx)
      by_cases hk0 : k = 0
      · subst hk0
        simp only [Nat.add_zero] at x0
        generalize M[0] = x at *
        clear r1 r2
        go_wp2_with fail
        go_quiet (fail)
        have HB2 := Lib.hid (below_drewN BW.out nq)
        have x02 := (below_drewN (Below.refl wr.heap.size wr) nq).cell (p := ⟨g, off, none⟩) (World.block_lt_of_cell? wr _ x0) |>.trans x0
        generalize wr.drewN nq = wq at *
        clear x0 BW
        cases b with
        | true =>
          go_wp2_with fail
          go_roundw
          case rel => exact ⟨1, true, by omega, by go_num, rfl, (fun e => by cases e), (fun _ => HY.out rfl), HB2.out⟩
          case measure => simp [intOf]; omega
        | false =>
          by_cases hx : x = n
          · have dx : (x == n) = true := beq_iff_eq.2 hx
            have HZ := Lib.hid (HX.out hx)
            clear hx
            go_wp2_with fail
            go_roundw
            case rel => exact ⟨1, true, by omega, by go_num, rfl, (fun e => by cases e), (fun _ => HZ.out), HB2.out⟩
            case measure => simp [intOf]; omega
          · have dx : (x == n) = false := beq_false_of_ne hx
            have HZ := Lib.hid (HV.out rfl hx)
            clear hx
            go_wp2_with fail
            go_roundw
            case rel => exact ⟨1, false, by omega, by go_num, rfl, (fun _ => HZ.out), (fun e => by cases e), HB2.out⟩
            case measure => simp [intOf]; omega
      · obtain ⟨j, hj⟩ : ∃ j, k = j + 1 := ⟨k - 1, by omega⟩
        have hjl : j < M.length := by omega
        obtain ⟨g', off', e', y0⟩ := (I4.out.kept BW.out).at hjl
        cases e'
        have hw1 : IntKind.i64.wrap ((k : Int) - 1) = (j : Int) := by simp only [IntKind.wrap, IntKind.signed, IntKind.bits]; simp; omega
        have e3 : decide (0 < k) = true := decide_eq_true (by omega)
        have e4 : decide (M[k] ≤ M[j]) = false := decide_eq_false (by have := List.pairwise_iff_getElem.1 FA.out j k hjl hlt (by omega); omega)
        generalize M[k] = x at *
        generalize M[j] = y at *
        have HJ := Lib.hid hj
        clear hj hk0 r1 r2
        go_wp2_with fail
        go_quiet (fail)
        have HB2 := Lib.hid (below_drewN BW.out nq)
        have x02 := (below_drewN (Below.refl wr.heap.size wr) nq).cell (p := ⟨g, off + k, none⟩) (World.block_lt_of_cell? wr _ x0) |>.trans x0
        generalize wr.drewN nq = wq at *
        clear x0 y0 BW
        cases b with
        | true =>
          go_wp2_with fail
          go_roundw
          case rel => exact ⟨k + 1, true, by omega, by go_num, rfl, (fun e => by cases e), (fun _ => HY.out rfl), HB2.out⟩
          case measure => simp [intOf]; omega
        | false =>
          by_cases hx : x = n
          · have dx : (x == n) = true := beq_iff_eq.2 hx
            have HZ := Lib.hid (HX.out hx)
            clear hx
            go_wp2_with fail
            go_roundw
            case rel => exact ⟨k + 1, true, by omega, by go_num, rfl, (fun e => by cases e), (fun _ => HZ.out), HB2.out⟩
            case measure => simp [intOf]; omega
          · have dx : (x == n) = false := beq_false_of_ne hx
            have HZ := Lib.hid (HV.out rfl hx)
            clear hx
            go_wp2_with fail
            go_roundw
            case rel => exact ⟨k + 1, false, by omega, by go_num, rfl, (fun _ => HZ.out), (fun e => by cases e), HB2.out⟩
            case measure => simp [intOf]; omega
    · have dlt : decide (k < M.length) = false := decide_eq_false hlt
      have HD := Lib.hid (show n ∈ M ↔ b = true from by
        cases b with
        | true => exact ⟨fun _ => rfl, fun _ => HY.out rfl⟩
        | false => exact ⟨fun h => by
            obtain ⟨j, hj, e⟩ := List.getElem_of_mem h
            exact absurd e (HN.out rfl j hj (by omega)), fun e => by cases e⟩)
      have L5 := Lib.hid (L4.out.kept BW.out)
      have N5 := Lib.hid (N4.out.kept BW.out)
      have B5 := Lib.hid (below2 B4.out BW.out)
      clear HN HY BW L4 N4 B4 I4
      generalize wr = w5 at *
      by_cases hn0 : n < 0
      · have dn : decide (n < 0) = true := decide_eq_true hn0
        have hb : b = false := by
          cases b with
          | false => rfl
          | true => have := (FR.out n (HD.out.2 rfl)).1; omega
        subst hb
        go_wp2_with fail
        go_ret
        exact ⟨rfl, B5.out⟩
      have dn : decide (n < 0) = false := decide_eq_false hn0
      by_cases hn1 : (z2.length : Int) ≤ n
      · have dm : decide ((z2.length : Int) ≤ n) = true := decide_eq_true hn1
        have hb : b = false := by
          cases b with
          | false => rfl
          | true => have := (FR.out n (HD.out.2 rfl)).2; omega
        subst hb
        go_wp2_with fail
        go_ret
        exact ⟨rfl, B5.out⟩
      obtain ⟨i, rfl⟩ : ∃ i : Nat, n = (i : Int) := ⟨n.toNat, by omega⟩
      have hi : i < z2.length := by omega
      have dm : decide ((z2.length : Int) ≤ (i : Int)) = false := decide_eq_false hn1
      have dm' : decide (z2.length ≤ i) = false := decide_eq_false (by omega)
      obtain ⟨g, off, rfl, x0⟩ := N5.out.at hi
      have HF := Lib.hid (HD.out.symm.trans (FM.out i hi))
      have PK := Lib.hid (Pick_told a0 c0 z0 z2[i] w5 L5.out (by omega))
      generalize z2[i] = h at *
      generalize succL (ofL hsh z0) h = s at *
      clear HD FM FR FA hn0 hn1
      go_wp2_with fail
      refine PK.out.mono ?_
      rintro e w6 ⟨rfl, hb⟩
      have L6 := Lib.hid (L5.out.kept hb)
      have N6 := Lib.hid (N5.out.kept hb)
      have B6 := Lib.hid (below2 B5.out hb)
      clear hb L5 N5 B5 PK x0
      by_cases hs : s = id
      · have ds : (s == id) = true := beq_iff_eq.2 hs
        have HG := Lib.hid (show b = true ↔ 0 ≤ Pol.find z0 id 0 from HF.out.trans ⟨fun h => h.2, fun h => ⟨hs, h⟩⟩)
        clear hs HF
        go_wp2_with fail
        refine (Pol.Find_told a0 c0 z0 id w6 L6.out).mono ?_
        rintro e w7 ⟨rfl, hb⟩
        have L7 := Lib.hid (L6.out.kept hb)
        have N7 := Lib.hid (N6.out.kept hb)
        have B7 := Lib.hid (below2 B6.out hb)
        have MV := Lib.hid (Moved_told a0 c0 z0 a0 c0 z0 (some ⟨g, off, none⟩) c2 z2 w7 L7.out (by omega) L7.out (by omega) N7.out (by omega))
        rw [mvK_self] at MV
        clear hb L6 N6 B6 L7 N7
        generalize Pol.find z0 id 0 = q at *
        cases b with
        | true =>
          have dq : decide (0 ≤ q) = true := decide_eq_true (HG.out.1 rfl)
          go_wp2_with fail
          refine MV.out.mono ?_
          rintro e w8 ⟨v, rfl, ho, hb⟩
          obtain ⟨aK, cK, rfl, _⟩ := ho.lies
          have B8 := Lib.hid (below2 B7.out hb)
          clear hb ho B7 MV
          go_wp2_with fail
          go_ret
          exact ⟨rfl, B8.out⟩
        | false =>
          have dq : decide (0 ≤ q) = false := decide_eq_false (fun h => by have := HG.out.2 h; cases this)
          go_wp2_with fail
          refine MV.out.mono ?_
          rintro e w8 ⟨v, rfl, ho, hb⟩
          obtain ⟨aK, cK, rfl, _⟩ := ho.lies
          have B8 := Lib.hid (below2 B7.out hb)
          clear hb ho B7 MV
          go_wp2_with fail
          go_ret
          exact ⟨rfl, B8.out⟩
      · have ds : (s == id) = false := beq_false_of_ne hs
        have hb : b = false := by
          cases b with
          | false => rfl
          | true => exact absurd (HF.out.1 rfl).1 hs
        subst hb
        have MV := Lib.hid (Moved_told a0 c0 z0 a0 c0 z0 (some ⟨g, off, none⟩) c2 z2 w6 L6.out (by omega) L6.out (by omega) N6.out (by omega))
        rw [mvK_self] at MV
        clear hs HF L6 N6
        go_wp2_with fail
        refine MV.out.mono ?_
        rintro e w8 ⟨v, rfl, ho, hb⟩
        obtain ⟨aK, cK, rfl, _⟩ := ho.lies
        have B8 := Lib.hid (below2 B6.out hb)
        clear hb ho B6 MV
        go_wp2_with fail
        go_ret
        exact ⟨rfl, B8.out⟩

theorem own_RingMoved : ownKnob Try.prog.godebug = none := by kernel_rfl
set_option maxRecDepth 100000 in
set_option maxHeartbeats 800000 in
theorem lifted_RingMoved (os : Os) (started : os.Started) (H : Type) (enc : TypeId × Value → H) :
    ReturnsInHanded {} Try.checked os 7 .any (Rows.ringMovedSpec.pre6 enc Try.prog Try.f7 Rows.ringMovedRow.domain false) (Rows.ringMovedSpec.post enc Try.prog Try.f7 false true false false) := by
  refine returnsInHanded_of_change (C := Try.checked) own_RingMoved started (by kernel_rfl) Try.func7
    (ChangeSpec.witness6 (enc := enc) (C := Try.checked) false ⟨#[], #[.slice none 0 0, .int .i64 0, .slice none 0 0, .int .i64 0], []⟩ 8 (by kernel_rfl) (by kernel_rfl) (by kernel_rfl) (by kernel_rfl)) ?_
  intro W base args ds gs before hval0 hW _ _
  have hval : ∀ (j : Nat) t v, Try.f7.params[j]? = some t → args[j]? = some v → Value.okWide Try.prog W .any base t v := hval0
  have hW' := hW
  obtain ⟨p, q, hA0, hV, rfl, _, _⟩ := hW
  have hA : DataW.TrodAll enc Try.prog W 0 (fun _ => true) true Try.f7.params.toList args.toList ds p := hA0
  rw [Try.params7] at hA hval
  obtain ⟨v0, vs0, d0, ds0, p0, q0, ha0, rfl, rfl, t0, r0⟩ := trodAll_cons hA
  obtain ⟨v1, vs1, d1, ds1, p1, q1, ha1, rfl, rfl, t1, r1⟩ := trodAll_cons r0
  obtain ⟨v2, vs2, d2, ds2, p2, q2, ha2, rfl, rfl, t2, r2⟩ := trodAll_cons r1
  obtain ⟨v3, vs3, d3, ds3, p3, q3, ha3, rfl, rfl, t3, r3⟩ := trodAll_cons r2
  obtain ⟨rfl, rfl, rfl⟩ := trodAll_nil r3
  subst ha3
  subst ha2
  subst ha1
  obtain rfl : args = #[v0, v1, v2, v3] := by cases args; simp_all
  obtain ⟨rfl, rfl⟩ := trodVars_none hV
  have k0 := t0
  have lt0 : ∀ x ∈ p0, x.block < W.heap.size := by obtain ⟨m, hm⟩ := k0; exact DataW.trod_lt m _ _ _ hm
  obtain ⟨a0, c0, z0, rfl, h0, g0⟩ := Stp.open_pool (hval 0 30 v0 rfl rfl) t0
  obtain ⟨a1, rfl, rfl, rfl, h1⟩ := open_int Try.underlying3 (hval 1 3 v1 rfl rfl) t1
  have k2 := t2
  have lt2 : ∀ x ∈ p2, x.block < W.heap.size := by obtain ⟨m, hm⟩ := k2; exact DataW.trod_lt m _ _ _ hm
  obtain ⟨a2, c2, z2, rfl, h2, g2⟩ := Num.open_nums Try.underlying31 Try.underlying23 (by kernel_rfl) (hval 2 31 v2 rfl rfl) t2
  obtain ⟨a3, rfl, rfl, rfl, h3⟩ := open_int Try.underlying3 (hval 3 3 v3 rfl rfl) t3
  clear hA0 hval0
  refine (walk_RingMoved a0 c0 z0 a1 a2 c2 z2 a3 W h0 g0 h1 h2 g2 h3).mono fun e W' ⟨he, hnx⟩ => ?_
  subst he
  exact ⟨_, rfl, ⟨_, _, _, [], _, [], hW', trodAll_cons_mk (shut_bool Try.underlying4 _) trodAll_mk0, (trodAll_cons_mk (Below.trod Stp.laidOut (by kernel_rfl) (of_decide_eq_true (by kernel_rfl)) k0 hnx lt0) (trodAll_cons_mk (shut_int Try.underlying3 h1) (trodAll_cons_mk (Below.trod Num.laidOut (by kernel_rfl) (of_decide_eq_true (by kernel_rfl)) k2 hnx lt2) (trodAll_cons_mk (shut_int Try.underlying3 h3) trodAll_mk0)))), rfl, hnx.frame _, fun h => by cases h⟩⟩

theorem ringMoved_holds : Rows.RingMovedSaid :=
  OpenClaim.holds_of_wide 7 Try.f7 rfl rfl rfl rfl rfl rfl rfl ⟨rfl, rfl, rfl, rfl, rfl⟩ rfl rfl rfl rfl rfl (by kernel_rfl) Try.func7 (by kernel_rfl)
    (of_decide_eq_true (by kernel_rfl)) (by unfold Func.isWrapper; first | (rw [if_pos (by decide +kernel)]; kernel_rfl) | (rw [if_neg (by decide +kernel)]; exact ⟨rfl, rfl⟩))
    (fun os started H enc _ => lifted_RingMoved os started H enc)

#print axioms ringMoved_holds
end Go.Proofs.Ytppbbhijlkfioaa
