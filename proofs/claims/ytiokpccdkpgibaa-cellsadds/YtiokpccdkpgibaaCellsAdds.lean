/-
  CellsAdds: for every i and two rows of numbers the law CellsAdds answers true: what is added, bit by bit, is there together, in whatever order. No condition.
-/
import Derived.Test.YtiokpccdkpgibaaRows
import Derived.Test.YtiokpccdkpgibaaSta
import Derived.Test.YtiokpccdkpgibaaCelH
import Derived.Test.YtiokpccdkpgibaaCelQ
import Derived.ProofKit
import Derived.OpenShut
import Derived.ChangeMaps5
import Derived.BigQuiet
import Derived.WalkSmall
namespace Go.Proofs.Ytiokpccdkpgibaa
open Go.ChangeShapes Go.WideShapes Go.ChangeAt Go.RowKit Go.Shelf
open Go.ChangeMaps (open_string shut_string)
open RowG Cel

set_option maxRecDepth 100000 in
set_option maxHeartbeats 2000000 in
theorem walk_CellsAdds (a0 : Int) (a1 : Option Addr) (c1 : Nat) (z1 : List Int) (a2 : Option Addr) (c2 : Nat) (z2 : List Int) (w : World) (_h0 : (Lit.int .i64 a0).wf = true) (h1 : Lies numK w a1 c1 z1) (_g1 : ∀ x ∈ z1, (Lit.int .i64 x).wf = true) (h2 : Lies numK w a2 c2 z2) (_g2 : ∀ x ∈ z2, (Lit.int .i64 x).wf = true) :
    Calls Try.prog 7 #[.int .i64 a0, rowV a1 c1 z1, rowV a2 c2 z2] w fun e W' => e = .returned (.bool true) ∧ Below w.heap.size w W' := by
  have H1 := Lib.hid h1
  have hC1 := h1.len
  have hM1 := h1.max
  have H2 := Lib.hid h2
  have hC2 := h2.len
  have hM2 := h2.max
  unfold maxLen at hM1 hM2
  clear h1 h2
  go_enter Try.func7, Try.ntmps7
  go_wp2_with fail
  refine (works_any _).mono ?_
  rintro e w1 ⟨rfl, hb⟩
  have B1 := Lib.hid hb
  have L1 := Lib.hid (H1.out.kept hb)
  have L2 := Lib.hid (H2.out.kept hb)
  clear hb H1 H2
  by_cases g0 : 60 < z1.length
  · have dg00 : decide ((60 : Int) < (z1.length : Int)) = true := decide_eq_true (by omega)
    have dg01 : decide (60 < z1.length) = true := decide_eq_true (by omega)
    go_wp2_with fail
    go_ret
    exact ⟨rfl, B1.out⟩
  have dg00 : decide ((60 : Int) < (z1.length : Int)) = false := decide_eq_false (by omega)
  have dg01 : decide (60 < z1.length) = false := decide_eq_false (by omega)
  by_cases g1 : 60 < z2.length
  · have dg10 : decide ((60 : Int) < (z2.length : Int)) = true := decide_eq_true (by omega)
    have dg11 : decide (60 < z2.length) = true := decide_eq_true (by omega)
    go_wp2_with fail
    go_ret
    exact ⟨rfl, B1.out⟩
  have dg10 : decide ((60 : Int) < (z2.length : Int)) = false := decide_eq_false (by omega)
  have dg11 : decide (60 < z2.length) = false := decide_eq_false (by omega)
  by_cases g2 : a0 < 0
  · have dg20 : decide (a0 < 0) = true := decide_eq_true g2
    go_wp2_with fail
    go_ret
    exact ⟨rfl, B1.out⟩
  have dg20 : decide (a0 < 0) = false := decide_eq_false g2
  by_cases g3 : 60 < a0
  · have dg30 : decide (60 < a0) = true := decide_eq_true g3
    go_wp2_with fail
    go_ret
    exact ⟨rfl, B1.out⟩
  have dg30 : decide (60 < a0) = false := decide_eq_false g3
  have w1a : IntKind.i64.wrap (a0 + 1) = a0 + 1 := by rw [IntKind.wrap_i64]; omega
  have w2a : IntKind.i64.wrap (a0 + 2) = a0 + 2 := by rw [IntKind.wrap_i64]; omega
  have I0 := Lib.hid (cellIs_new (n := a0 + 1) (m := 0) (i := a0) (by omega) (by omega) (by omega))
  have J0 := Lib.hid (cellIs_new (n := a0 + 2) (m := 0) (i := a0) (by omega) (by omega) (by omega))
  have K0 := Lib.hid (cellIs_new (n := a0 + 2) (m := 0) (i := a0 + 1) (by omega) (by omega) (by omega))
  generalize hsa : Cel.new (a0 + 1) 0 = sa at *
  generalize hsb : Cel.new (a0 + 2) 0 = sb at *
  have C1 := Lib.hid (New_told (a0 + 1) 0)
  have C2 := Lib.hid (New_told (a0 + 2) 0)
  rw [hsa] at C1
  rw [hsb] at C2
  clear hsa hsb
  go_wp2_with fail
  refine (C1.out _).mono ?_
  rintro e w2 ⟨f, rfl, hh, hf, hb⟩
  have NL1 := Lib.hid (Foot.apart L1.out hf)
  have NL2 := Lib.hid (Foot.apart L2.out hf)
  have F := Lib.hid (Foot.ge hf)
  have B2 := Lib.hid hb
  have L1 := Lib.hid (L1.out.kept hb)
  have L2 := Lib.hid (L2.out.kept hb)
  have Hf := Lib.hid hh
  clear hh hf hb C1
  go_wp2_with fail
  refine (C2.out _).mono ?_
  rintro e w3 ⟨g, rfl, hh, hf, hb⟩
  have ML1 := Lib.hid (Foot.apart L1.out hf)
  have ML2 := Lib.hid (Foot.apart L2.out hf)
  have G := Lib.hid (Foot.ge hf)
  have FG := Lib.hid (show ∀ k, f.has k → ¬ g.has k from fun k h1 h2 => by have := Hf.out.lt k h1; have := G.out k h2; omega)
  have GF := Lib.hid (show ∀ k, g.has k → ¬ f.has k from fun k h1 h2 => FG.out k h2 h1)
  have B3 := Lib.hid (B2.out.trans (hb.mono B2.out.size))
  have M1 := Lib.hid (L1.out.kept hb)
  have M2 := Lib.hid (L2.out.kept hb)
  have Hf := Lib.hid (Hf.out.kept hb)
  have Hg := Lib.hid hh
  have F3 := Lib.hid (show ∀ k, (f.has k ∨ g.has k) → w1.heap.size ≤ k from fun k hk => hk.elim (fun h => F.out k h) (fun h => Nat.le_trans B2.out.size (G.out k h)))
  have NB1 := Lib.hid (show z1 ≠ [] → ∀ b off, a1 = some ⟨b, off, none⟩ → ¬ (f.has b ∨ g.has b) from fun hn b off e hk => hk.elim (fun h => NL1.out hn b off e h) (fun h => ML1.out hn b off e h))
  have NB2 := Lib.hid (show z2 ≠ [] → ∀ b off, a2 = some ⟨b, off, none⟩ → ¬ (f.has b ∨ g.has b) from fun hn b off e hk => hk.elim (fun h => NL2.out hn b off e h) (fun h => ML2.out hn b off e h))
  clear hh hf hb C2 L1 L2 NL1 NL2 ML1 ML2 F G
  have hn1 : z1.length ≤ 60 := by omega
  have hn2 : z2.length ≤ 60 := by omega
  go_wp2_with fail
  go_loopw [10, 11] (fun s i W => ∃ (j : Nat) (x : St), j ≤ z1.length ∧ s = .int .i64 (sumW 0 (z1.take j)) ∧ i = .int .i64 j ∧ CellIs x a0 (sumW 0 (z1.take j)) j ∧ Held W f x ∧ Held W g sb ∧ Turned (fun k => f.has k ∨ g.has k) w3 W) (fun _ i _ => z1.length - (intOf i).toNat)
  case atStart => exact ⟨0, sa, Nat.zero_le _, rfl, rfl, I0.out, Hf.out, Hg.out, Turned.refl _ _⟩
  case round =>
    clear I0 Hf Hg
    obtain ⟨j, x, hj, rfl, rfl, hI, h1, h2, ht⟩ := hrel
    have I := Lib.hid hI
    have Hf := Lib.hid h1
    have Hg := Lib.hid h2
    have T := Lib.hid ht
    clear hI h1 h2 ht
    by_cases hlt : j < z1.length
    case pos =>
      obtain ⟨bz, oz, rfl, y0⟩ := (T.out.lies M1.out NB1.out).num hlt
      have HS := Lib.hid (sumW_take (z := 0) hlt)
      obtain ⟨x1, e1, I1⟩ := add_is z1[j] I.out
      have C := Lib.hid (Add1_told Hf.out (I.out.bound (by omega)) a0 z1[j])
      rw [e1] at C
      generalize z1[j] = y at *
      generalize sumW 0 (z1.take j) = m at *
      generalize hm1 : sumW 0 (z1.take (j + 1)) = m1 at *
      have hz : IntKind.i64.wrap (m + y) = m1 := HS.out.symm
      rw [show Cel.wr (m + y) = m1 from hz] at C I1
      have II := Lib.hid I1
      clear I1 e1 HS I
      go_wp2_with fail
      refine C.out.mono ?_
      rintro e w4 ⟨rfl, hh, ht⟩
      have Hg4 := Lib.hid (Hg.out.turned ht GF.out)
      have H4 := Lib.hid hh
      have T4 := Lib.hid (T.out.trans (ht.mono fun k hk => .inl hk))
      clear hh ht C Hf Hg T
      go_wp2_with fail
      refine ⟨⟨j + 1, x1, by omega, by rw [hm1], by go_num, by rw [hm1]; exact II.out, H4.out, Hg4.out, T4.out⟩, by simp [intOf]; omega⟩
    case neg =>
      obtain rfl : j = z1.length := by omega
      rw [List.take_length] at I
      have I0 := I
      have Hf0 := Hf
      have Hg0 := Hg
      have T0 := T
      clear I Hf Hg T
      rw [List.take_length]
      have HZ := Lib.hid (show sumW 0 z1 = sumW (sumW 0 z1) (z2.take 0) from rfl)
      generalize hm : sumW 0 z1 = m0 at *
      go_wp2_with fail
      go_loopw [10, 12] (fun s i W => ∃ (j : Nat) (x y : St), j ≤ z2.length ∧ s = .int .i64 (sumW m0 (z2.take j)) ∧ i = .int .i64 j ∧ CellIs x a0 (sumW m0 (z2.take j)) (z1.length + j) ∧ CellIs y a0 (sumW 0 (z2.take j)) j ∧ CellIs y (a0 + 1) 0 j ∧ Held W f x ∧ Held W g y ∧ Turned (fun k => f.has k ∨ g.has k) w3 W) (fun _ i _ => z2.length - (intOf i).toNat)
      case atStart => exact ⟨0, x, sb, Nat.zero_le _, rfl, rfl, I0.out, J0.out, K0.out, Hf0.out, Hg0.out, T0.out⟩
      case round =>
        clear I0 J0 K0 Hf0 Hg0 T0
        obtain ⟨j, x, y, hj, rfl, rfl, hI, hJ, hK, h1, h2, ht⟩ := hrel
        have I := Lib.hid hI
        have J := Lib.hid hJ
        have K := Lib.hid hK
        have Hf := Lib.hid h1
        have Hg := Lib.hid h2
        have T := Lib.hid ht
        clear hI hJ hK h1 h2 ht
        by_cases hlt : j < z2.length
        case pos =>
          obtain ⟨bz, oz, rfl, y0⟩ := (T.out.lies M2.out NB2.out).num hlt
          have HS := Lib.hid (sumW_take (z := m0) hlt)
          have HS2 := Lib.hid (sumW_take (z := 0) hlt)
          obtain ⟨x1, e1, I1⟩ := add_is z2[j] I.out
          obtain ⟨y1, e2, J1, K1⟩ := add_is2 z2[j] J.out K.out (by omega)
          have C := Lib.hid (Add1_told Hg.out (J.out.bound (by omega)) a0 z2[j])
          rw [e2] at C
          generalize hv : z2[j] = v at *
          generalize sumW m0 (z2.take j) = m at *
          generalize hm1 : sumW m0 (z2.take (j + 1)) = m1 at *
          generalize sumW 0 (z2.take j) = n at *
          generalize hn1 : sumW 0 (z2.take (j + 1)) = n1 at *
          have hz : IntKind.i64.wrap (m + v) = m1 := HS.out.symm
          have hy : IntKind.i64.wrap (n + v) = n1 := HS2.out.symm
          rw [show Cel.wr (n + v) = n1 from hy] at C J1
          rw [show Cel.wr (m + v) = m1 from hz] at e1 I1
          have II := Lib.hid I1
          have JJ := Lib.hid J1
          have KK := Lib.hid K1
          have E1 := Lib.hid e1
          have bx := Lib.hid (I.out.bound (by omega))
          clear I1 J1 K1 e1 e2 HS HS2 J K I
          go_wp2_with fail
          refine C.out.mono ?_
          rintro e w4 ⟨rfl, hh, ht⟩
          have Hf4 := Lib.hid (Hf.out.turned ht FG.out)
          have Hg4 := Lib.hid hh
          have T4 := Lib.hid (T.out.trans (ht.mono fun k hk => .inr hk))
          clear hh ht C Hf Hg T
          have C := Lib.hid (Add1_told Hf4.out bx.out a0 v)
          rw [E1.out] at C
          have y0 := (T4.out.lies M2.out NB2.out)
          have Y := Lib.hid y0
          clear y0
          obtain ⟨bz2, oz2, hbz, y0⟩ := Y.out.num hlt
          cases hbz
          rw [hv] at y0
          go_wp2_with fail
          refine C.out.mono ?_
          rintro e w5 ⟨rfl, hh, ht⟩
          have Hg5 := Lib.hid (Hg4.out.turned ht GF.out)
          have Hf5 := Lib.hid hh
          have T5 := Lib.hid (T4.out.trans (ht.mono fun k hk => .inl hk))
          clear hh ht C Hf4 Hg4 T4
          go_wp2_with fail
          refine ⟨⟨j + 1, x1, y1, by omega, by rw [hm1], by go_num, by rw [hm1]; exact II.out, by rw [hn1]; exact JJ.out, KK.out, Hf5.out, Hg5.out, T5.out⟩, by simp [intOf]; omega⟩
        case neg =>
          obtain rfl : j = z2.length := by omega
          rw [List.take_length] at I J
          have J0 := J
          have K0 := K
          have Hf0 := Hf
          have Hg0 := Hg
          have T0 := T
          clear J K Hf Hg T
          rw [List.take_length]
          have HX := Lib.hid (show sumW m0 z2 = sumW (sumW 0 z2) z1 from by rw [← hm]; exact sumW_swap (by omega) z1 z2)
          generalize hq : sumW m0 z2 = q at *
          generalize hp : sumW 0 z2 = p0 at *
          go_wp2_with fail
          go_loopw [13] (fun i W => ∃ (j : Nat) (y : St), j ≤ z1.length ∧ i = .int .i64 j ∧ CellIs y a0 (sumW p0 (z1.take j)) (z2.length + j) ∧ CellIs y (a0 + 1) 0 (z2.length + j) ∧ Held W f x ∧ Held W g y ∧ Turned (fun k => f.has k ∨ g.has k) w3 W) (fun i _ => z1.length - (intOf i).toNat)
          case atStart => exact ⟨0, y, Nat.zero_le _, rfl, J0.out, K0.out, Hf0.out, Hg0.out, T0.out⟩
          case round =>
            clear J0 K0 Hf0 Hg0 T0
            obtain ⟨j, y, hj, rfl, hJ, hK, h1, h2, ht⟩ := hrel
            have J := Lib.hid hJ
            have K := Lib.hid hK
            have Hf := Lib.hid h1
            have Hg := Lib.hid h2
            have T := Lib.hid ht
            clear hJ hK h1 h2 ht
            by_cases hlt : j < z1.length
            case pos =>
              obtain ⟨bz, oz, rfl, y0⟩ := (T.out.lies M1.out NB1.out).num hlt
              have HS := Lib.hid (sumW_take (z := p0) hlt)
              obtain ⟨y1, e2, J1, K1⟩ := add_is2 z1[j] J.out K.out (by omega)
              have C := Lib.hid (Add1_told Hg.out (J.out.bound (by omega)) a0 z1[j])
              rw [e2] at C
              generalize z1[j] = v at *
              generalize sumW p0 (z1.take j) = n at *
              generalize hn1 : sumW p0 (z1.take (j + 1)) = n1 at *
              have hy : IntKind.i64.wrap (n + v) = n1 := HS.out.symm
              rw [show Cel.wr (n + v) = n1 from hy] at C J1
              have JJ := Lib.hid J1
              have KK := Lib.hid K1
              clear J1 K1 e2 HS J K
              go_wp2_with fail
              refine C.out.mono ?_
              rintro e w4 ⟨rfl, hh, ht⟩
              have Hf4 := Lib.hid (Hf.out.turned ht FG.out)
              have Hg4 := Lib.hid hh
              have T4 := Lib.hid (T.out.trans (ht.mono fun k hk => .inr hk))
              clear hh ht C Hf Hg T
              go_wp2_with fail
              refine ⟨⟨j + 1, y1, by omega, by go_num, by rw [hn1]; exact JJ.out, KK.out, Hf4.out, Hg4.out, T4.out⟩, by simp [intOf]; omega⟩
            case neg =>
              obtain rfl : j = z1.length := by omega
              rw [List.take_length, ← HX.out] at J
              obtain ⟨x1, e1, I1⟩ := load_is I.out
              have C := Lib.hid (Load1_told Hf.out (I.out.bound (by omega)) a0)
              rw [e1] at C
              clear e1 I1
              go_wp2_with fail
              refine C.out.mono ?_
              rintro e w4 ⟨rfl, hh, ht⟩
              have Hg4 := Lib.hid (Hg.out.turned ht GF.out)
              have T4 := Lib.hid (T.out.trans (ht.mono fun k hk => .inl hk))
              clear hh ht C Hf Hg T
              obtain ⟨y1, e1, I1, K1⟩ := load_is2 J.out K.out
              have KK := Lib.hid K1
              clear K1
              have C := Lib.hid (Load1_told Hg4.out (J.out.bound (by omega)) a0)
              rw [e1] at C
              clear e1 I1
              go_wp2_with fail
              refine C.out.mono ?_
              rintro e w5 ⟨rfl, hh, ht⟩
              have Hg5 := Lib.hid hh
              have T5 := Lib.hid (T4.out.trans (ht.mono fun k hk => .inr hk))
              clear hh ht C Hg4 T4
              obtain ⟨y2, e1, I1⟩ := load_is KK.out
              have C := Lib.hid (Load1_told Hg5.out (KK.out.bound (by omega)) (a0 + 1))
              rw [e1] at C
              clear e1 I1
              go_wp2_with fail
              refine C.out.mono ?_
              rintro e w6 ⟨rfl, hh, ht⟩
              have T6 := Lib.hid (T5.out.trans (ht.mono fun k hk => .inr hk))
              clear hh ht C T5
              go_wp2_with fail
              go_ret
              exact ⟨rfl, Turned.below (B1.out.trans (B3.out.mono B1.out.size)) T6.out (Nat.le_trans B1.out.size B3.out.size) (fun k hk => Nat.le_trans B1.out.size (F3.out k hk))⟩

theorem own_CellsAdds : ownKnob Try.prog.godebug = none := by kernel_rfl
set_option maxRecDepth 100000 in
set_option maxHeartbeats 800000 in
theorem lifted_CellsAdds (os : Os) (started : os.Started) (H : Type) (enc : TypeId × Value → H) :
    ReturnsInHanded {} Try.checked os 7 .any (Rows.cellsAddsSpec.pre6 enc Try.prog Try.f7 Rows.cellsAddsRow.domain false) (Rows.cellsAddsSpec.post enc Try.prog Try.f7 false true false false) := by
  refine returnsInHanded_of_change (C := Try.checked) own_CellsAdds started (by kernel_rfl) Try.func7
    (ChangeSpec.witness6 (enc := enc) (C := Try.checked) false ⟨#[], #[.int .i64 0, .slice none 0 0, .slice none 0 0], []⟩ 8 (by kernel_rfl) (by kernel_rfl) (by kernel_rfl) (by kernel_rfl)) ?_
  intro W base args ds gs before hval0 hW _ _
  have hval : ∀ (j : Nat) t v, Try.f7.params[j]? = some t → args[j]? = some v → Value.okWide Try.prog W .any base t v := hval0
  have hW' := hW
  obtain ⟨p, q, hA0, hV, rfl, _, _⟩ := hW
  have hA : DataW.TrodAll enc Try.prog W 0 (fun _ => true) true Try.f7.params.toList args.toList ds p := hA0
  rw [Try.params7] at hA hval
  obtain ⟨v0, vs0, d0, ds0, p0, q0, ha0, rfl, rfl, t0, r0⟩ := trodAll_cons hA
  obtain ⟨v1, vs1, d1, ds1, p1, q1, ha1, rfl, rfl, t1, r1⟩ := trodAll_cons r0
  obtain ⟨v2, vs2, d2, ds2, p2, q2, ha2, rfl, rfl, t2, r2⟩ := trodAll_cons r1
  obtain ⟨rfl, rfl, rfl⟩ := trodAll_nil r2
  subst ha2
  subst ha1
  obtain rfl : args = #[v0, v1, v2] := by cases args; simp_all
  obtain ⟨rfl, rfl⟩ := trodVars_none hV
  obtain ⟨a0, rfl, rfl, rfl, h0⟩ := open_int Try.underlying3 (hval 0 3 v0 rfl rfl) t0
  have k1 := t1
  have lt1 : ∀ x ∈ p1, x.block < W.heap.size := by obtain ⟨m, hm⟩ := k1; exact DataW.trod_lt m _ _ _ hm
  obtain ⟨a1, c1, z1, rfl, h1, g1⟩ := Sta.open_nums (hval 1 26 v1 rfl rfl) t1
  have k2 := t2
  have lt2 : ∀ x ∈ p2, x.block < W.heap.size := by obtain ⟨m, hm⟩ := k2; exact DataW.trod_lt m _ _ _ hm
  obtain ⟨a2, c2, z2, rfl, h2, g2⟩ := Sta.open_nums (hval 2 26 v2 rfl rfl) t2
  clear hA0 hval0
  refine (walk_CellsAdds a0 a1 c1 z1 a2 c2 z2 W h0 h1 g1 h2 g2).mono fun e W' ⟨he, hnx⟩ => ?_
  subst he
  exact ⟨_, rfl, ⟨_, _, _, [], _, [], hW', trodAll_cons_mk (shut_bool Try.underlying4 _) trodAll_mk0, (trodAll_cons_mk (shut_int Try.underlying3 h0) (trodAll_cons_mk (Below.trod Sta.laidOut (by kernel_rfl) (of_decide_eq_true (by kernel_rfl)) k1 hnx lt1) (trodAll_cons_mk (Below.trod Sta.laidOut (by kernel_rfl) (of_decide_eq_true (by kernel_rfl)) k2 hnx lt2) trodAll_mk0))), rfl, hnx.frame _, fun h => by cases h⟩⟩

theorem cellsAdds_holds : Rows.CellsAddsSaid :=
  OpenClaim.holds_of_wide 7 Try.f7 rfl rfl rfl rfl rfl rfl rfl ⟨rfl, rfl, rfl, rfl, rfl⟩ rfl rfl rfl rfl rfl (by kernel_rfl) Try.func7 (by kernel_rfl)
    (of_decide_eq_true (by kernel_rfl)) (by unfold Func.isWrapper; first | (rw [if_pos (by decide +kernel)]; kernel_rfl) | (rw [if_neg (by decide +kernel)]; exact ⟨rfl, rfl⟩))
    (fun os started H enc _ => lifted_CellsAdds os started H enc)

#print axioms cellsAdds_holds
end Go.Proofs.Ytiokpccdkpgibaa
