/-
  EpochRipe: for every n, row of acts, row of pins and pin more the law EpochRipe answers true: no slot is ripe while a pin from ahead of its epoch is there; a pin more makes no slot ripe. No condition.
-/
import Derived.Test.YthokjkllmflgkaaRows
import Derived.Test.YthokjkllmflgkaaSten
import Derived.Test.YthokjkllmflgkaaKepX
import Derived.Test.YthokjkllmflgkaaStn
import Derived.Test.YthokjkllmflgkaaRgnS
import Derived.ProofKit
import Derived.OpenShut
import Derived.ChangeMaps5
import Derived.BigQuiet
import Derived.WalkSmall
import Derived.BigRegion
import Derived.Lib.SliceRun
namespace Go.Proofs.Ythokjkllmflgkaa
open Go.ChangeShapes Go.WideShapes Go.ChangeAt Go.RowKit Go.Shelf
open Go.ChangeMaps (open_string shut_string)
open RowG Trn Kep Epo Rgn Sps

set_option maxRecDepth 100000 in
set_option maxHeartbeats 4000000 in
theorem walk_EpochRipe (a0 : Int) (a1 : Option Addr) (c1 : Nat) (z1 : List ActM) (a2 : Option Addr) (c2 : Nat) (z2 : List Int) (a3 : Int) (w : World) (_h0 : (Lit.int .i64 a0).wf = true) (h1 : Lies actM w a1 c1 z1) (g1 : ∀ x ∈ z1, Epo.ActOk w x) (h2 : Lies numK w a2 c2 z2) (_g2 : ∀ x ∈ z2, (Lit.int .i64 x).wf = true) (_h3 : (Lit.int .i64 a3).wf = true) :
    Calls Try.prog 5 #[.int .i64 a0, rowV a1 c1 z1, rowV a2 c2 z2, .int .i64 a3] w fun e W' => e = .returned (.bool true) ∧ Below w.heap.size w W' := by
  have H1 := Lib.hid h1
  have G1 := Lib.hid g1
  have hC1 := h1.len
  have hM1 := h1.max
  unfold maxLen at hM1
  clear h1 g1
  have H2 := Lib.hid h2
  have hC2 := h2.len
  have hM2 := h2.max
  unfold maxLen at hM2
  clear h2
  go_enter Try.func5, Try.ntmps5
  go_wp2_with fail
  refine (works_any _).mono ?_
  rintro e w1 ⟨rfl, hb⟩
  have B1 := Lib.hid hb
  have L1 := Lib.hid (H1.out.kept hb)
  have K1 := Lib.hid (fun x hx => ok_kept (G1.out x hx) hb)
  have P1 := Lib.hid (H2.out.kept hb)
  clear hb H1 G1 H2
  go_wp2_with fail
  refine (few_any _ _ _ _ L1.out).mono ?_
  rintro e w1' ⟨rfl, e1⟩
  subst e1
  by_cases g0 : fewE z1
  case neg =>
    rw [decide_eq_false g0]
    go_wp2_with fail
    go_ret
    exact ⟨rfl, B1.out⟩
  rw [decide_eq_true g0]
  have hz1 : z1.length ≤ 60 := g0.1
  by_cases g1 : 60 < z2.length
  case pos =>
    have dg10 : decide ((60 : Int) < (z2.length : Int)) = true := decide_eq_true (by omega)
    have dg11 : decide (60 < z2.length) = true := decide_eq_true g1
    go_wp2_with fail
    go_ret
    exact ⟨rfl, B1.out⟩
  have dg10 : decide ((60 : Int) < (z2.length : Int)) = false := decide_eq_false (by omega)
  have dg11 : decide (60 < z2.length) = false := decide_eq_false g1
  go_wp2_with fail
  refine (New_told a0 _).mono ?_
  rintro e w2 ⟨rfl, hk, hb⟩
  have HP := Lib.hid (show w.heap.size ≤ w1'.heap.size from B1.out.size)
  have BN := Lib.hid (below2 B1.out hb)
  have BW := Lib.hid hb
  rw [← after_zero a0 z1] at hk
  have H0 := Lib.hid hk
  have hp := hk.1.lt
  generalize hpp : w1'.heap.size = p at *
  have HPP := Lib.hid hpp
  clear hb hk hpp
  have hmk := run_eight w2
  go_wp2_with fail
  have R0 := row_nums w2 8 (by unfold maxLen; omega)
  have al : Below w2.heap.size w2 (w2.alloc (.cells (madeCells zeroI 8) 3)) := (Below.refl _ w2).alloc (Nat.le_refl _) _
  have hs3 := World.size_alloc w2 (.cells (madeCells zeroI 8) 3)
  have H3 := keeps_kept H0.out al
  generalize w2.alloc (.cells (madeCells zeroI 8) 3) = w3 at *
  have BW3 := Lib.hid (BW.out.trans (al.mono (by omega)))
  have BN3 := Lib.hid (below2 BN.out al)
  clear al hmk
  generalize hgg : w2.heap.size = gb at *
  clear hgg
  have A0 := atOk_new a0
  rw [← after_zero a0 z1] at A0
  go_loopw [12] (fun i W => ∃ (j : Nat) (ats : List Int), j ≤ z1.length ∧ i = .int .i64 j ∧ Keeps W p (after a0 z1 j) ∧ Row numK 3 W gb 8 ats ∧ AtOk (after a0 z1 j) ats ∧ Turned (fun k => k = p ∨ k = gb) w3 W) (fun i _ => z1.length - (intOf i).toNat)
  case atStart => exact ⟨0, _, Nat.zero_le _, rfl, H3, R0, A0, Turned.refl _ _⟩
  case round =>
    obtain ⟨j, ats, hj, rfl, hh, hr, hat, ht⟩ := hrel
    have AT := Lib.hid hat
    clear hat A0
    have BB := Lib.hid (HPP.out ▸ Turned.below BW3.out ht (by omega) (fun k hk => by omega) : Below w1'.heap.size w1' wr)
    have hsz := ht.size
    have H := Lib.hid hh
    have R := Lib.hid hr
    have T := Lib.hid ht
    clear hh ht hr H3 R0
    by_cases hlt : j < z1.length
    case pos =>
      obtain ⟨bz, oz, rfl, x0, x1, x2, x3⟩ := lies_actM L1.out hlt
      have hbz : bz < w1'.heap.size := World.block_lt_of_cell? _ _ x0
      have HR := Lib.hid (after_next a0 z1 hlt)
      have HL := Lib.hid (after_le a0 z1 j)
      have C := Lib.hid (do_any z1[j] (ok_kept (K1.out _ (List.getElem_mem hlt)) BB.out) H.out)
      have D := act_does (after a0 z1 j) z1[j].act
      have Y := Lib.hid (fun W (hb : Below w1'.heap.size w1' W) => (⟨(hb.cell hbz).trans x0, (hb.cell hbz).trans x1, (hb.cell hbz).trans x2, (hb.cell hbz).trans x3⟩ : W.cell? ⟨bz, oz + j * 4, none⟩ = some (.int .i64 z1[j].k) ∧ W.cell? ⟨bz, oz + j * 4 + 1, none⟩ = some (.int .i64 z1[j].slot) ∧ W.cell? ⟨bz, oz + j * 4 + 2, none⟩ = some (.int .i64 z1[j].at') ∧ W.cell? ⟨bz, oz + j * 4 + 3, none⟩ = some (rowV z1[j].p z1[j].c z1[j].pins)))
      generalize z1[j] = y at *
      generalize after a0 z1 j = s at *
      generalize act s y.act = sr at *
      obtain ⟨s', r⟩ := sr
      obtain ⟨yk, ys, ya, yp, yc, yP⟩ := y
      dsimp only [ActM.act] at C D HR Y
      obtain ⟨y0, y1, y2, y3⟩ := Y.out _ BB.out
      clear x0 x1 x2 x3
      go_wp2_with fail
      refine C.out.mono ?_
      rintro e w4 ⟨rfl, hh4, ht4⟩
      have hr4 := row_turned R.out (ht4.rest gb R.out.lt (by omega))
      have T4 := Lib.hid (T.out.trans (ht4.mono fun k hk => .inl hk))
      have B4 := Lib.hid (HPP.out ▸ Turned.below BW3.out T4.out (by omega) (fun k hk => by omega) : Below w1'.heap.size w1' w4)
      have H4 := Lib.hid hh4
      have R4 := Lib.hid hr4
      clear y0 y1 y2 y3
      obtain ⟨y0, y1, y2, y3⟩ := Y.out _ B4.out
      have ne : bz ≠ gb := by have := HPP.out; omega
      have f4 := fun o => R4.out.free (o := o)
      have hp8 := HL.out
      clear C Y hh4 ht4 hr4 H R T K1
      have fin : ∀ (W : World) (t : List Slot) (l : List Int), t = s' → Keeps W p t → Row numK 3 W gb 8 l → AtOk t l → Turned (fun k => k = p ∨ k = gb) w3 W → Keeps W p (after a0 z1 (j + 1)) ∧ Row numK 3 W gb 8 l ∧ AtOk (after a0 z1 (j + 1)) l ∧ Turned (fun k => k = p ∨ k = gb) w3 W := fun W t l e h1 h2 h3 h4 => by
        rw [HR.out]; subst e; exact ⟨h1, h2, h3, h4⟩
      cases D with
      | takes i hi h0 hs =>
        subst h0
        have A5 := Lib.hid (AT.out.set (i := i) ⟨1, 0⟩ (by decide))
        go_wp2_with fail
        exact ⟨⟨j + 1, _, by omega, by go_num, fin _ _ _ rfl H4.out R4.out A5.out T4.out⟩, by simp [intOf]; omega⟩
      | full h0 =>
        subst h0
        go_wp2_with fail
        exact ⟨⟨j + 1, _, by omega, by go_num, fin _ _ _ rfl H4.out R4.out AT.out T4.out⟩, by simp [intOf]; omega⟩
      | retires i hi h1 hx hs =>
        subst h1
        subst hx
        have hi8 : i < 8 := by omega
        have hal := AT.out.1
        have q0 := row_num R4.out (k := i) (by omega)
        have f0 := f4 i
        have b8 : (i : Int) < 8 := by omega
        have c8 : decide ((i : Int) < 8) = true := decide_eq_true b8
        have A5 := Lib.hid (AT.out.both (i := i) ⟨2, ya⟩)
        have R5 := Lib.hid (row_set R4.out (k := i) (by omega) ya)
        have H5 := Lib.hid (keeps_turned (p := p) H4.out ((Turned.refl (fun k => k = gb) w4).setCell (a := ⟨gb, i, none⟩) rfl (.int .i64 ya)) (by omega))
        have T5 := Lib.hid (T4.out.setCell (a := ⟨gb, i, none⟩) (.inr rfl) (.int .i64 ya))
        clear hs
        generalize ats[i] = qq at *
        go_wp2_with fail
        go_region
        go_wp2
        exact ⟨⟨j + 1, _, by omega, by go_num, fin _ _ _ rfl ⟨H5.out.1.same rfl, H5.out.2⟩ (R5.out.kept (Below.refl _ _).drew) A5.out (T5.out.trans (Turned.of_below (Below.refl _ _).drew))⟩, by simp [intOf]; omega⟩
      | frees i hi h2 hx hs =>
        subst h2
        subst hx
        have A5 := Lib.hid (AT.out.set (i := i) slot0 (by decide))
        go_wp2_with fail
        exact ⟨⟨j + 1, _, by omega, by go_num, fin _ _ _ rfl H4.out R4.out A5.out T4.out⟩, by simp [intOf]; omega⟩
      | not h =>
        cases d1 : (yk == 1) with
        | true =>
          clear h
          go_wp2_with fail
          exact ⟨⟨j + 1, _, by omega, by go_num, fin _ _ _ rfl H4.out R4.out AT.out T4.out⟩, by simp [intOf]; omega⟩
        | false =>
          clear h
          go_wp2_with fail
          exact ⟨⟨j + 1, _, by omega, by go_num, fin _ _ _ rfl H4.out R4.out AT.out T4.out⟩, by simp [intOf]; omega⟩
      | asks h0 h1 h2 =>
        have d1 : (yk == 1) = false := by simpa using h1
        clear h0 h1 h2
        go_wp2_with fail
        exact ⟨⟨j + 1, _, by omega, by go_num, fin _ _ _ rfl H4.out R4.out AT.out T4.out⟩, by simp [intOf]; omega⟩
    case neg =>
      obtain rfl : j = z1.length := by omega
      have HL := Lib.hid (after_le a0 z1 z1.length)
      have P2 := P1.out.kept BB.out
      generalize after a0 z1 z1.length = s at *
      have C := Lib.hid (Ripe_told H.out P2)
      have HR2 := Lib.hid (ripe_is s z2)
      generalize hrr : ripe s z2 = r at *
      have HRR := Lib.hid hrr
      clear L1 K1 P1 hrr
      go_wp2_with fail
      refine C.out.mono ?_
      rintro e w5 ⟨rfl, hb5⟩
      have H5 := Lib.hid (keeps_kept H.out hb5)
      have R5 := Lib.hid (R.out.kept hb5)
      have P5 := Lib.hid (P2.kept hb5)
      have T5 := Lib.hid (T.out.trans (Turned.of_below hb5))
      clear hb5 C P2 H R T BB
      rcases HR2.out with ⟨rfl, hall⟩ | ⟨i, hi, rfl, hst, hab, -⟩
      · clear HR2 hall
        go_wp2_with fail
        go_loopw [15] (fun v W => v = .int .i64 0 ∧ W = w5) (fun _ _ => 0)
        case atStart => exact ⟨rfl, rfl⟩
        case round =>
          obtain ⟨rfl, rfl⟩ := hrel
          by_cases hz : 0 < z2.length
          · have dz : decide ((0 : Int) < (z2.length : Int)) = true := decide_eq_true (by omega)
            have dz2 : decide (0 < z2.length) = true := decide_eq_true hz
            have HM := Lib.hid (fun h => ripe_more s z2 a3 h)
            have HS0 := Lib.hid (fun h => ripe_same s z2 (m := a3) h)
            have HZ := Lib.hid (ripe_zero s z2)
            rw [HRR.out] at HM HS0 HZ
            by_cases hne : z2 = []
            · subst hne
              have R0 := Lib.hid ((row_new (K := numK) (T := 3) wr #[] 0 [] rfl (Nat.zero_le _) rfl).own (B := wr.heap.size) (Nat.le_refl _))
              have al := nums_below (wr.alloc (.cells #[] 3)) #[.int .i64 a3]
              have PP := Lib.hid (R0.out.kept al)
              have AL := Lib.hid ((nums_below wr #[]).trans (al.mono (by simp)))
              have hsz := World.size_alloc wr (.cells #[] 3)
              clear al R0
              rcases a2 with _ | ad
              all_goals
                go_wp2_with (at_builtin; refine wpList_more Try.underlying30 info_int rfl rfl _ _ rfl wr.heap.size (wr.heap.size + 1) [] a3 _ rfl rfl PP.out ?c0 ?c1 ?c2 ?c3 ?_)
                case c0 => exact fun j u hj => by rw [← hsz]; exact cell_many (wr.alloc (.cells #[] 3)) _ _ j u (by simpa [numK] using hj)
                case c1 => unfold maxLen; simp
                case c2 => simp
                case c3 => simp; omega
                intro v2 wB ho hb
                have BB := Lib.hid (AL.out.trans hb.out)
                obtain ⟨ax, cx, rfl, lx⟩ := (show RowG.Own numK 3 wr.heap.size wB v2 [a3] from ho.out).lies
                have C2 := Lib.hid (Ripe_told (keeps_kept H5.out BB.out) lx)
                simp only [List.nil_append] at HM HS0
                clear PP AL ho hb lx hsz
                generalize ripe s [a3] = r2 at *
                go_wp2_with fail
                refine C2.out.mono ?_
                rintro e w7 ⟨rfl, hb7⟩
                have B7 := Lib.hid (below2 BB.out hb7)
                have H7 := Lib.hid (keeps_kept H5.out B7.out)
                have T7 := Lib.hid (T5.out.trans (Turned.of_below B7.out))
                clear hb7 C2 BB B7 H5 P5 T5
                have h0 : ¬ 0 ≤ r2 := fun h => absurd (HM.out h).1 (by decide)
                have n0 : decide (0 ≤ r2) = false := decide_eq_false h0
                have BC := Lib.hid (nums_below w7 #[.int .i64 0])
                have C3 := Lib.hid (Ripe_told (keeps_kept H7.out BC.out) (lies_one w7 0))
                rw [HZ.out] at C3
                go_wp2_with fail
                refine C3.out.mono ?_
                rintro e w8 ⟨rfl, hb8⟩
                have T8 := Lib.hid (T7.out.trans (Turned.of_below (below2 BC.out hb8)))
                have FIN : Below w.heap.size w w8 := Turned.below BN3.out T8.out BN3.out.size (fun k hk => by have := HP.out; omega)
                clear hb8 C3 BC H7 T7
                by_cases hq : r2 = -1
                · subst hq
                  go_wp2_with fail
                  go_ret
                  exact ⟨rfl, FIN⟩
                · have hq0 : (r2 == -1) = false := beq_false_of_ne hq
                  have ha : (a3 != 0) = true := by
                    have : a3 ≠ 0 := fun e => hq (HS0.out e)
                    simpa using this
                  have HQ := Lib.hid hq
                  clear hq
                  go_wp2_with fail
                  go_ret
                  exact ⟨rfl, FIN⟩
            obtain ⟨bp, op, rfl, -⟩ := P5.out.cell hne
            have R0 := Lib.hid ((row_new (K := numK) (T := 3) wr #[] 0 [] rfl (Nat.zero_le _) rfl).own (B := wr.heap.size) (Nat.le_refl _))
            have al := nums_below wr #[]
            have PP := Lib.hid (P5.out.kept al)
            have AL := Lib.hid al
            clear al
            go_wp2_with (at_builtin; refine wpList_join Try.underlying30 info_int rfl rfl _ _ rfl wr.heap.size [] z2 _ bp op c2 rfl rfl R0.out PP.out ?c1 ?c2 ?c3 ?_)
            case c1 => unfold maxLen; simp; omega
            case c2 => simp; omega
            case c3 => simp
            intro v1 wA ho hb
            have O1 := Lib.hid (show RowG.Own numK 3 wr.heap.size wA v1 z2 from ho.out)
            have BA := Lib.hid (AL.out.trans hb.out)
            clear ho hb R0 PP AL
            have al := nums_below wA #[.int .i64 a3]
            have PP := Lib.hid (O1.out.kept al)
            have AL := Lib.hid al
            clear al
            go_wp2_with (at_builtin; refine wpList_more Try.underlying30 info_int rfl rfl _ _ rfl wr.heap.size wA.heap.size z2 a3 _ rfl rfl PP.out ?c0 ?c1 ?c2 ?c3 ?_)
            case c0 => exact fun j u hj => cell_many wA _ _ j u (by simpa [numK] using hj)
            case c1 => unfold maxLen; omega
            case c2 => omega
            case c3 => have := BA.out.size; simp; omega
            intro v2 wB ho hb
            have BB := Lib.hid (BA.out.trans ((AL.out.mono BA.out.size).trans hb.out))
            obtain ⟨ax, cx, rfl, lx⟩ := ho.out.lies
            have C2 := Lib.hid (Ripe_told (keeps_kept H5.out BB.out) lx)
            clear O1 BA PP AL ho hb lx
            generalize ripe s (z2 ++ [a3]) = r2 at *
            go_wp2_with fail
            refine C2.out.mono ?_
            rintro e w7 ⟨rfl, hb7⟩
            have B7 := Lib.hid (below2 BB.out hb7)
            have H7 := Lib.hid (keeps_kept H5.out B7.out)
            have P7 := Lib.hid (P5.out.kept B7.out)
            have T7 := Lib.hid (T5.out.trans (Turned.of_below B7.out))
            clear hb7 C2 BB B7 H5 P5 T5
            have h0 : ¬ 0 ≤ r2 := fun h => absurd (HM.out h).1 (by decide)
            have n0 : decide (0 ≤ r2) = false := decide_eq_false h0
            have R0 := Lib.hid ((row_new (K := numK) (T := 3) w7 #[.int .i64 0] 1 [0] rfl (by unfold maxLen; omega) rfl).own (B := w7.heap.size) (Nat.le_refl _))
            have al := nums_below w7 #[.int .i64 0]
            have PP := Lib.hid (P7.out.kept al)
            have AL := Lib.hid al
            clear al
            go_wp2_with (at_builtin; refine wpList_unguard (by rfl) (wpList_join Try.underlying30 info_int rfl rfl _ _ rfl w7.heap.size [0] z2 _ bp op c2 rfl rfl R0.out PP.out ?c1 ?c2 ?c3 ?_))
            case c1 => unfold maxLen; simp; omega
            case c2 => simp; omega
            case c3 => simp
            intro v3 wC ho hb
            have BC := Lib.hid (AL.out.trans hb.out)
            have O3 := Lib.hid (show RowG.Own numK 3 w7.heap.size wC v3 (0 :: z2) from ho.out)
            obtain ⟨ay, cy, rfl, ly⟩ := O3.out.lies
            have C3 := Lib.hid (Ripe_told (keeps_kept H7.out BC.out) ly)
            rw [HZ.out] at C3
            clear ho hb R0 PP AL O3 ly
            go_wp2_with fail
            refine C3.out.mono ?_
            rintro e w8 ⟨rfl, hb8⟩
            have T8 := Lib.hid (T7.out.trans (Turned.of_below (below2 BC.out hb8)))
            have FIN : Below w.heap.size w w8 := Turned.below BN3.out T8.out BN3.out.size (fun k hk => by have := HP.out; omega)
            clear hb8 C3 BC P7 H7 T7
            by_cases hq : r2 = -1
            · subst hq
              go_wp2_with fail
              go_ret
              exact ⟨rfl, FIN⟩
            · have hq0 : (r2 == -1) = false := beq_false_of_ne hq
              have ha : (a3 != 0) = true := by
                have : a3 ≠ 0 := fun e => hq (HS0.out e)
                simpa using this
              have HQ := Lib.hid hq
              clear hq
              go_wp2_with fail
              go_ret
              exact ⟨rfl, FIN⟩
          · have dz : decide ((0 : Int) < (z2.length : Int)) = false := decide_eq_false (by omega)
            have dz2 : decide (0 < z2.length) = false := decide_eq_false hz
            have HM := Lib.hid (fun h => ripe_more s z2 a3 h)
            have HS0 := Lib.hid (fun h => ripe_same s z2 (m := a3) h)
            have HZ := Lib.hid (ripe_zero s z2)
            rw [HRR.out] at HM HS0 HZ
            by_cases hne : z2 = []
            · subst hne
              have R0 := Lib.hid ((row_new (K := numK) (T := 3) wr #[] 0 [] rfl (Nat.zero_le _) rfl).own (B := wr.heap.size) (Nat.le_refl _))
              have al := nums_below (wr.alloc (.cells #[] 3)) #[.int .i64 a3]
              have PP := Lib.hid (R0.out.kept al)
              have AL := Lib.hid ((nums_below wr #[]).trans (al.mono (by simp)))
              have hsz := World.size_alloc wr (.cells #[] 3)
              clear al R0
              rcases a2 with _ | ad
              all_goals
                go_wp2_with (at_builtin; refine wpList_more Try.underlying30 info_int rfl rfl _ _ rfl wr.heap.size (wr.heap.size + 1) [] a3 _ rfl rfl PP.out ?c0 ?c1 ?c2 ?c3 ?_)
                case c0 => exact fun j u hj => by rw [← hsz]; exact cell_many (wr.alloc (.cells #[] 3)) _ _ j u (by simpa [numK] using hj)
                case c1 => unfold maxLen; simp
                case c2 => simp
                case c3 => simp; omega
                intro v2 wB ho hb
                have BB := Lib.hid (AL.out.trans hb.out)
                obtain ⟨ax, cx, rfl, lx⟩ := (show RowG.Own numK 3 wr.heap.size wB v2 [a3] from ho.out).lies
                have C2 := Lib.hid (Ripe_told (keeps_kept H5.out BB.out) lx)
                simp only [List.nil_append] at HM HS0
                clear PP AL ho hb lx hsz
                generalize ripe s [a3] = r2 at *
                go_wp2_with fail
                refine C2.out.mono ?_
                rintro e w7 ⟨rfl, hb7⟩
                have B7 := Lib.hid (below2 BB.out hb7)
                have H7 := Lib.hid (keeps_kept H5.out B7.out)
                have T7 := Lib.hid (T5.out.trans (Turned.of_below B7.out))
                clear hb7 C2 BB B7 H5 P5 T5
                have h0 : ¬ 0 ≤ r2 := fun h => absurd (HM.out h).1 (by decide)
                have n0 : decide (0 ≤ r2) = false := decide_eq_false h0
                have BC := Lib.hid (nums_below w7 #[.int .i64 0])
                have C3 := Lib.hid (Ripe_told (keeps_kept H7.out BC.out) (lies_one w7 0))
                rw [HZ.out] at C3
                go_wp2_with fail
                refine C3.out.mono ?_
                rintro e w8 ⟨rfl, hb8⟩
                have T8 := Lib.hid (T7.out.trans (Turned.of_below (below2 BC.out hb8)))
                have FIN : Below w.heap.size w w8 := Turned.below BN3.out T8.out BN3.out.size (fun k hk => by have := HP.out; omega)
                clear hb8 C3 BC H7 T7
                by_cases hq : r2 = -1
                · subst hq
                  go_wp2_with fail
                  go_ret
                  exact ⟨rfl, FIN⟩
                · have hq0 : (r2 == -1) = false := beq_false_of_ne hq
                  have ha : (a3 != 0) = true := by
                    have : a3 ≠ 0 := fun e => hq (HS0.out e)
                    simpa using this
                  have HQ := Lib.hid hq
                  clear hq
                  go_wp2_with fail
                  go_ret
                  exact ⟨rfl, FIN⟩
            obtain ⟨bp, op, rfl, -⟩ := P5.out.cell hne
            have R0 := Lib.hid ((row_new (K := numK) (T := 3) wr #[] 0 [] rfl (Nat.zero_le _) rfl).own (B := wr.heap.size) (Nat.le_refl _))
            have al := nums_below wr #[]
            have PP := Lib.hid (P5.out.kept al)
            have AL := Lib.hid al
            clear al
            go_wp2_with (at_builtin; refine wpList_join Try.underlying30 info_int rfl rfl _ _ rfl wr.heap.size [] z2 _ bp op c2 rfl rfl R0.out PP.out ?c1 ?c2 ?c3 ?_)
            case c1 => unfold maxLen; simp; omega
            case c2 => simp; omega
            case c3 => simp
            intro v1 wA ho hb
            have O1 := Lib.hid (show RowG.Own numK 3 wr.heap.size wA v1 z2 from ho.out)
            have BA := Lib.hid (AL.out.trans hb.out)
            clear ho hb R0 PP AL
            have al := nums_below wA #[.int .i64 a3]
            have PP := Lib.hid (O1.out.kept al)
            have AL := Lib.hid al
            clear al
            go_wp2_with (at_builtin; refine wpList_more Try.underlying30 info_int rfl rfl _ _ rfl wr.heap.size wA.heap.size z2 a3 _ rfl rfl PP.out ?c0 ?c1 ?c2 ?c3 ?_)
            case c0 => exact fun j u hj => cell_many wA _ _ j u (by simpa [numK] using hj)
            case c1 => unfold maxLen; omega
            case c2 => omega
            case c3 => have := BA.out.size; simp; omega
            intro v2 wB ho hb
            have BB := Lib.hid (BA.out.trans ((AL.out.mono BA.out.size).trans hb.out))
            obtain ⟨ax, cx, rfl, lx⟩ := ho.out.lies
            have C2 := Lib.hid (Ripe_told (keeps_kept H5.out BB.out) lx)
            clear O1 BA PP AL ho hb lx
            generalize ripe s (z2 ++ [a3]) = r2 at *
            go_wp2_with fail
            refine C2.out.mono ?_
            rintro e w7 ⟨rfl, hb7⟩
            have B7 := Lib.hid (below2 BB.out hb7)
            have H7 := Lib.hid (keeps_kept H5.out B7.out)
            have P7 := Lib.hid (P5.out.kept B7.out)
            have T7 := Lib.hid (T5.out.trans (Turned.of_below B7.out))
            clear hb7 C2 BB B7 H5 P5 T5
            have h0 : ¬ 0 ≤ r2 := fun h => absurd (HM.out h).1 (by decide)
            have n0 : decide (0 ≤ r2) = false := decide_eq_false h0
            have R0 := Lib.hid ((row_new (K := numK) (T := 3) w7 #[.int .i64 0] 1 [0] rfl (by unfold maxLen; omega) rfl).own (B := w7.heap.size) (Nat.le_refl _))
            have al := nums_below w7 #[.int .i64 0]
            have PP := Lib.hid (P7.out.kept al)
            have AL := Lib.hid al
            clear al
            go_wp2_with (at_builtin; refine wpList_unguard (by rfl) (wpList_join Try.underlying30 info_int rfl rfl _ _ rfl w7.heap.size [0] z2 _ bp op c2 rfl rfl R0.out PP.out ?c1 ?c2 ?c3 ?_))
            case c1 => unfold maxLen; simp; omega
            case c2 => simp; omega
            case c3 => simp
            intro v3 wC ho hb
            have BC := Lib.hid (AL.out.trans hb.out)
            have O3 := Lib.hid (show RowG.Own numK 3 w7.heap.size wC v3 (0 :: z2) from ho.out)
            obtain ⟨ay, cy, rfl, ly⟩ := O3.out.lies
            have C3 := Lib.hid (Ripe_told (keeps_kept H7.out BC.out) ly)
            rw [HZ.out] at C3
            clear ho hb R0 PP AL O3 ly
            go_wp2_with fail
            refine C3.out.mono ?_
            rintro e w8 ⟨rfl, hb8⟩
            have T8 := Lib.hid (T7.out.trans (Turned.of_below (below2 BC.out hb8)))
            have FIN : Below w.heap.size w w8 := Turned.below BN3.out T8.out BN3.out.size (fun k hk => by have := HP.out; omega)
            clear hb8 C3 BC P7 H7 T7
            by_cases hq : r2 = -1
            · subst hq
              go_wp2_with fail
              go_ret
              exact ⟨rfl, FIN⟩
            · have hq0 : (r2 == -1) = false := beq_false_of_ne hq
              have ha : (a3 != 0) = true := by
                have : a3 ≠ 0 := fun e => hq (HS0.out e)
                simpa using this
              have HQ := Lib.hid hq
              clear hq
              go_wp2_with fail
              go_ret
              exact ⟨rfl, FIN⟩
      · have hi8 : i < 8 := by have := HL.out; omega
        have hal := AT.out.1
        have AE := Lib.hid (AT.out.2 i hi (by omega) hst)
        have q0 := row_num R5.out (k := i) (by omega)
        rw [AE.out] at q0
        have CS := Lib.hid (State_told H5.out.1 (i : Int))
        rw [state_nat hi, hst] at CS
        have AM := Lib.hid (fun x hx => above_mem hab (x := x) hx)
        have b8 : (i : Int) < 8 := by omega
        have d8 : decide ((8 : Int) ≤ (i : Int)) = false := decide_eq_false (by omega)
        have e8 : decide (8 ≤ i) = false := decide_eq_false (by omega)
        have d1 : decide ((i : Int) < -1) = false := decide_eq_false (by omega)
        have d0 : decide ((0 : Int) ≤ (i : Int)) = true := decide_eq_true (by omega)
        clear HR2 hst hab
        generalize s[i].at' = ta at *
        go_wp2_with fail
        refine CS.out.mono ?_
        rintro e w6 ⟨rfl, hb6⟩
        have q0 := keep_b q0 hb6
        have H5 := Lib.hid (keeps_kept H5.out hb6)
        have P5 := Lib.hid (P5.out.kept hb6)
        have T5 := Lib.hid (T5.out.trans (Turned.of_below hb6))
        clear hb6 CS R5
        go_wp2_with fail
        go_loopw [15] (fun v W => ∃ k : Nat, k ≤ z2.length ∧ v = .int .i64 k ∧ Below w6.heap.size w6 W) (fun v _ => z2.length - (intOf v).toNat)
        case atStart => exact ⟨0, Nat.zero_le _, rfl, Below.refl _ _⟩
        case round =>
          obtain ⟨k, hk, rfl, hb6⟩ := hrel
          have q0 := keep_b q0 hb6
          have H5 := Lib.hid (keeps_kept H5.out hb6)
          have P5 := Lib.hid (P5.out.kept hb6)
          have T5 := Lib.hid (T5.out.trans (Turned.of_below hb6))
          have B6 := Lib.hid hb6
          clear hb6
          by_cases hk2 : k < z2.length
          case pos =>
            obtain ⟨bp, op, rfl, c0⟩ := P5.out.num hk2
            have hk1 : k + 1 ≤ z2.length := hk2
            have hk3 : (k : Int) < (z2.length : Int) := by omega
            have hy := AM.out _ (List.getElem_mem hk2)
            generalize z2[k] = y at *
            by_cases y0 : y = 0
            · have e0 : (y != 0) = false := by simpa using y0
              clear hy y0
              go_wp2_with fail
              go_quiet (fail)
              go_wp2_with fail
              refine ⟨⟨k + 1, hk1, by go_num, B6.out.trans ((below_drewN (Below.refl _ _) _).mono B6.out.size)⟩, by simp [intOf]; omega⟩
            · have e0 : (y != 0) = true := by simpa using y0
              have e1 : decide (y ≤ ta) = false := decide_eq_false (by have := hy.resolve_left y0; omega)
              clear hy y0
              go_wp2_with fail
              go_quiet (fail)
              go_wp2_with fail
              refine ⟨⟨k + 1, hk1, by go_num, B6.out.trans ((below_drewN (Below.refl _ _) _).mono B6.out.size)⟩, by simp [intOf]; omega⟩
          case neg =>
            obtain rfl : k = z2.length := by omega
            have HM := Lib.hid (fun h => ripe_more s z2 a3 h)
            have HS0 := Lib.hid (fun h => ripe_same s z2 (m := a3) h)
            have HZ := Lib.hid (ripe_zero s z2)
            rw [HRR.out] at HM HS0 HZ
            by_cases hne : z2 = []
            · subst hne
              have R0 := Lib.hid ((row_new (K := numK) (T := 3) wr #[] 0 [] rfl (Nat.zero_le _) rfl).own (B := wr.heap.size) (Nat.le_refl _))
              have al := nums_below (wr.alloc (.cells #[] 3)) #[.int .i64 a3]
              have PP := Lib.hid (R0.out.kept al)
              have AL := Lib.hid ((nums_below wr #[]).trans (al.mono (by simp)))
              have hsz := World.size_alloc wr (.cells #[] 3)
              clear al R0
              rcases a2 with _ | ad
              all_goals
                go_wp2_with (at_builtin; refine wpList_more Try.underlying30 info_int rfl rfl _ _ rfl wr.heap.size (wr.heap.size + 1) [] a3 _ rfl rfl PP.out ?c0 ?c1 ?c2 ?c3 ?_)
                case c0 => exact fun j u hj => by rw [← hsz]; exact cell_many (wr.alloc (.cells #[] 3)) _ _ j u (by simpa [numK] using hj)
                case c1 => unfold maxLen; simp
                case c2 => simp
                case c3 => simp; omega
                intro v2 wB ho hb
                have BB := Lib.hid (AL.out.trans hb.out)
                obtain ⟨ax, cx, rfl, lx⟩ := (show RowG.Own numK 3 wr.heap.size wB v2 [a3] from ho.out).lies
                have C2 := Lib.hid (Ripe_told (keeps_kept H5.out BB.out) lx)
                simp only [List.nil_append] at HM HS0
                clear PP AL ho hb lx hsz
                generalize ripe s [a3] = r2 at *
                go_wp2_with fail
                refine C2.out.mono ?_
                rintro e w7 ⟨rfl, hb7⟩
                have B7 := Lib.hid (below2 BB.out hb7)
                have H7 := Lib.hid (keeps_kept H5.out B7.out)
                have T7 := Lib.hid (T5.out.trans (Turned.of_below B7.out))
                clear hb7 C2 BB B7 H5 P5 T5
                by_cases h0 : 0 ≤ r2
                · obtain ⟨g1, g2⟩ := HM.out h0
                  have n0 : decide (0 ≤ r2) = true := decide_eq_true h0
                  have n1 : decide ((i : Int) < 0) = false := decide_eq_false (by omega)
                  have n2 : decide (r2 < (i : Int)) = false := decide_eq_false (by omega)
                  have BC := Lib.hid (nums_below w7 #[.int .i64 0])
                  have C3 := Lib.hid (Ripe_told (keeps_kept H7.out BC.out) (lies_one w7 0))
                  rw [HZ.out] at C3
                  go_wp2_with fail
                  refine C3.out.mono ?_
                  rintro e w8 ⟨rfl, hb8⟩
                  have T8 := Lib.hid (T7.out.trans (Turned.of_below (below2 BC.out hb8)))
                  have FIN : Below w.heap.size w w8 := Turned.below BN3.out T8.out BN3.out.size (fun k hk => by have := HP.out; omega)
                  clear hb8 C3 BC H7 T7
                  by_cases hq : r2 = (i : Int)
                  · subst hq
                    go_wp2_with fail
                    go_ret
                    exact ⟨rfl, FIN⟩
                  · have hq0 : (r2 == (i : Int)) = false := beq_false_of_ne hq
                    have ha : (a3 != 0) = true := by
                      have : a3 ≠ 0 := fun e => hq (HS0.out e)
                      simpa using this
                    have HQ := Lib.hid hq
                    clear hq
                    go_wp2_with fail
                    go_ret
                    exact ⟨rfl, FIN⟩
                have n0 : decide (0 ≤ r2) = false := decide_eq_false h0
                have BC := Lib.hid (nums_below w7 #[.int .i64 0])
                have C3 := Lib.hid (Ripe_told (keeps_kept H7.out BC.out) (lies_one w7 0))
                rw [HZ.out] at C3
                go_wp2_with fail
                refine C3.out.mono ?_
                rintro e w8 ⟨rfl, hb8⟩
                have T8 := Lib.hid (T7.out.trans (Turned.of_below (below2 BC.out hb8)))
                have FIN : Below w.heap.size w w8 := Turned.below BN3.out T8.out BN3.out.size (fun k hk => by have := HP.out; omega)
                clear hb8 C3 BC H7 T7
                by_cases hq : r2 = (i : Int)
                · subst hq
                  go_wp2_with fail
                  go_ret
                  exact ⟨rfl, FIN⟩
                · have hq0 : (r2 == (i : Int)) = false := beq_false_of_ne hq
                  have ha : (a3 != 0) = true := by
                    have : a3 ≠ 0 := fun e => hq (HS0.out e)
                    simpa using this
                  have HQ := Lib.hid hq
                  clear hq
                  go_wp2_with fail
                  go_ret
                  exact ⟨rfl, FIN⟩
            obtain ⟨bp, op, rfl, -⟩ := P5.out.cell hne
            have R0 := Lib.hid ((row_new (K := numK) (T := 3) wr #[] 0 [] rfl (Nat.zero_le _) rfl).own (B := wr.heap.size) (Nat.le_refl _))
            have al := nums_below wr #[]
            have PP := Lib.hid (P5.out.kept al)
            have AL := Lib.hid al
            clear al
            go_wp2_with (at_builtin; refine wpList_join Try.underlying30 info_int rfl rfl _ _ rfl wr.heap.size [] z2 _ bp op c2 rfl rfl R0.out PP.out ?c1 ?c2 ?c3 ?_)
            case c1 => unfold maxLen; simp; omega
            case c2 => simp; omega
            case c3 => simp
            intro v1 wA ho hb
            have O1 := Lib.hid (show RowG.Own numK 3 wr.heap.size wA v1 z2 from ho.out)
            have BA := Lib.hid (AL.out.trans hb.out)
            clear ho hb R0 PP AL
            have al := nums_below wA #[.int .i64 a3]
            have PP := Lib.hid (O1.out.kept al)
            have AL := Lib.hid al
            clear al
            go_wp2_with (at_builtin; refine wpList_more Try.underlying30 info_int rfl rfl _ _ rfl wr.heap.size wA.heap.size z2 a3 _ rfl rfl PP.out ?c0 ?c1 ?c2 ?c3 ?_)
            case c0 => exact fun j u hj => cell_many wA _ _ j u (by simpa [numK] using hj)
            case c1 => unfold maxLen; omega
            case c2 => omega
            case c3 => have := BA.out.size; simp; omega
            intro v2 wB ho hb
            have BB := Lib.hid (BA.out.trans ((AL.out.mono BA.out.size).trans hb.out))
            obtain ⟨ax, cx, rfl, lx⟩ := ho.out.lies
            have C2 := Lib.hid (Ripe_told (keeps_kept H5.out BB.out) lx)
            clear O1 BA PP AL ho hb lx
            generalize ripe s (z2 ++ [a3]) = r2 at *
            go_wp2_with fail
            refine C2.out.mono ?_
            rintro e w7 ⟨rfl, hb7⟩
            have B7 := Lib.hid (below2 BB.out hb7)
            have H7 := Lib.hid (keeps_kept H5.out B7.out)
            have P7 := Lib.hid (P5.out.kept B7.out)
            have T7 := Lib.hid (T5.out.trans (Turned.of_below B7.out))
            clear hb7 C2 BB B7 H5 P5 T5
            by_cases h0 : 0 ≤ r2
            · obtain ⟨g1, g2⟩ := HM.out h0
              have n0 : decide (0 ≤ r2) = true := decide_eq_true h0
              have n1 : decide ((i : Int) < 0) = false := decide_eq_false (by omega)
              have n2 : decide (r2 < (i : Int)) = false := decide_eq_false (by omega)
              have R0 := Lib.hid ((row_new (K := numK) (T := 3) w7 #[.int .i64 0] 1 [0] rfl (by unfold maxLen; omega) rfl).own (B := w7.heap.size) (Nat.le_refl _))
              have al := nums_below w7 #[.int .i64 0]
              have PP := Lib.hid (P7.out.kept al)
              have AL := Lib.hid al
              clear al
              go_wp2_with (at_builtin; refine wpList_unguard (by rfl) (wpList_join Try.underlying30 info_int rfl rfl _ _ rfl w7.heap.size [0] z2 _ bp op c2 rfl rfl R0.out PP.out ?c1 ?c2 ?c3 ?_))
              case c1 => unfold maxLen; simp; omega
              case c2 => simp; omega
              case c3 => simp
              intro v3 wC ho hb
              have BC := Lib.hid (AL.out.trans hb.out)
              have O3 := Lib.hid (show RowG.Own numK 3 w7.heap.size wC v3 (0 :: z2) from ho.out)
              obtain ⟨ay, cy, rfl, ly⟩ := O3.out.lies
              have C3 := Lib.hid (Ripe_told (keeps_kept H7.out BC.out) ly)
              rw [HZ.out] at C3
              clear ho hb R0 PP AL O3 ly
              go_wp2_with fail
              refine C3.out.mono ?_
              rintro e w8 ⟨rfl, hb8⟩
              have T8 := Lib.hid (T7.out.trans (Turned.of_below (below2 BC.out hb8)))
              have FIN : Below w.heap.size w w8 := Turned.below BN3.out T8.out BN3.out.size (fun k hk => by have := HP.out; omega)
              clear hb8 C3 BC P7 H7 T7
              by_cases hq : r2 = (i : Int)
              · subst hq
                go_wp2_with fail
                go_ret
                exact ⟨rfl, FIN⟩
              · have hq0 : (r2 == (i : Int)) = false := beq_false_of_ne hq
                have ha : (a3 != 0) = true := by
                  have : a3 ≠ 0 := fun e => hq (HS0.out e)
                  simpa using this
                have HQ := Lib.hid hq
                clear hq
                go_wp2_with fail
                go_ret
                exact ⟨rfl, FIN⟩
            have n0 : decide (0 ≤ r2) = false := decide_eq_false h0
            have R0 := Lib.hid ((row_new (K := numK) (T := 3) w7 #[.int .i64 0] 1 [0] rfl (by unfold maxLen; omega) rfl).own (B := w7.heap.size) (Nat.le_refl _))
            have al := nums_below w7 #[.int .i64 0]
            have PP := Lib.hid (P7.out.kept al)
            have AL := Lib.hid al
            clear al
            go_wp2_with (at_builtin; refine wpList_unguard (by rfl) (wpList_join Try.underlying30 info_int rfl rfl _ _ rfl w7.heap.size [0] z2 _ bp op c2 rfl rfl R0.out PP.out ?c1 ?c2 ?c3 ?_))
            case c1 => unfold maxLen; simp; omega
            case c2 => simp; omega
            case c3 => simp
            intro v3 wC ho hb
            have BC := Lib.hid (AL.out.trans hb.out)
            have O3 := Lib.hid (show RowG.Own numK 3 w7.heap.size wC v3 (0 :: z2) from ho.out)
            obtain ⟨ay, cy, rfl, ly⟩ := O3.out.lies
            have C3 := Lib.hid (Ripe_told (keeps_kept H7.out BC.out) ly)
            rw [HZ.out] at C3
            clear ho hb R0 PP AL O3 ly
            go_wp2_with fail
            refine C3.out.mono ?_
            rintro e w8 ⟨rfl, hb8⟩
            have T8 := Lib.hid (T7.out.trans (Turned.of_below (below2 BC.out hb8)))
            have FIN : Below w.heap.size w w8 := Turned.below BN3.out T8.out BN3.out.size (fun k hk => by have := HP.out; omega)
            clear hb8 C3 BC P7 H7 T7
            by_cases hq : r2 = (i : Int)
            · subst hq
              go_wp2_with fail
              go_ret
              exact ⟨rfl, FIN⟩
            · have hq0 : (r2 == (i : Int)) = false := beq_false_of_ne hq
              have ha : (a3 != 0) = true := by
                have : a3 ≠ 0 := fun e => hq (HS0.out e)
                simpa using this
              have HQ := Lib.hid hq
              clear hq
              go_wp2_with fail
              go_ret
              exact ⟨rfl, FIN⟩
theorem own_EpochRipe : ownKnob Try.prog.godebug = none := by kernel_rfl
set_option maxRecDepth 100000 in
set_option maxHeartbeats 800000 in
theorem lifted_EpochRipe (os : Os) (started : os.Started) (H : Type) (enc : TypeId × Value → H) :
    ReturnsInHanded {} Try.checked os 5 .any (Rows.epochRipeSpec.pre6 enc Try.prog Try.f5 Rows.epochRipeRow.domain false) (Rows.epochRipeSpec.post enc Try.prog Try.f5 false true false false) := by
  refine returnsInHanded_of_change (C := Try.checked) own_EpochRipe started (by kernel_rfl) Try.func5
    (ChangeSpec.witness6 (enc := enc) (C := Try.checked) false ⟨#[], #[.int .i64 0, .slice none 0 0, .slice none 0 0, .int .i64 0], []⟩ 8 (by kernel_rfl) (by kernel_rfl) (by kernel_rfl) (by kernel_rfl)) ?_
  intro W base args ds gs before hval0 hW _ _
  have hval : ∀ (j : Nat) t v, Try.f5.params[j]? = some t → args[j]? = some v → Value.okWide Try.prog W .any base t v := hval0
  have hW' := hW
  obtain ⟨p, q, hA0, hV, rfl, _, _⟩ := hW
  have hA : DataW.TrodAll enc Try.prog W 0 (fun _ => true) true Try.f5.params.toList args.toList ds p := hA0
  rw [Try.params5] at hA hval
  obtain ⟨v0, vs0, d0, ds0, p0, q0, ha0, rfl, rfl, t0, r0⟩ := trodAll_cons hA
  obtain ⟨v1, vs1, d1, ds1, p1, q1, ha1, rfl, rfl, t1, r1⟩ := trodAll_cons r0
  obtain ⟨v2, vs2, d2, ds2, p2, q2, ha2, rfl, rfl, t2, r2⟩ := trodAll_cons r1
  obtain ⟨v3, vs3, d3, ds3, p3, q3, ha3, rfl, rfl, t3, r3⟩ := trodAll_cons r2
  obtain ⟨rfl, rfl, rfl⟩ := trodAll_nil r3
  subst ha3
  subst ha2
  subst ha1
  obtain rfl : args = #[v0, v1, v2, v3] := by cases args; simp_all
  obtain ⟨rfl, rfl⟩ := trodVars_none hV
  obtain ⟨a0, rfl, rfl, rfl, h0⟩ := open_int Try.underlying3 (hval 0 3 v0 rfl rfl) t0
  have k1 := t1
  have lt1 : ∀ x ∈ p1, x.block < W.heap.size := by obtain ⟨m, hm⟩ := k1; exact DataW.trod_lt m _ _ _ hm
  obtain ⟨a1, c1, z1, rfl, h1, g1⟩ := Sten.open_eacts (hval 1 22 v1 rfl rfl) t1
  have k2 := t2
  have lt2 : ∀ x ∈ p2, x.block < W.heap.size := by obtain ⟨m, hm⟩ := k2; exact DataW.trod_lt m _ _ _ hm
  obtain ⟨a2, c2, z2, rfl, h2, g2⟩ := Stn.open_nums (hval 2 30 v2 rfl rfl) t2
  obtain ⟨a3, rfl, rfl, rfl, h3⟩ := open_int Try.underlying3 (hval 3 3 v3 rfl rfl) t3
  clear hA0 hval0
  refine (walk_EpochRipe a0 a1 c1 z1 a2 c2 z2 a3 W h0 h1 g1 h2 g2 h3).mono fun e W' ⟨he, hnx⟩ => ?_
  subst he
  exact ⟨_, rfl, ⟨_, _, _, [], _, [], hW', trodAll_cons_mk (shut_bool Try.underlying4 _) trodAll_mk0, (trodAll_cons_mk (shut_int Try.underlying3 h0) (trodAll_cons_mk (Below.trod Sten.laidOut (by kernel_rfl) (of_decide_eq_true (by kernel_rfl)) k1 hnx lt1) (trodAll_cons_mk (Below.trod Stn.laidOut (by kernel_rfl) (of_decide_eq_true (by kernel_rfl)) k2 hnx lt2) (trodAll_cons_mk (shut_int Try.underlying3 h3) trodAll_mk0)))), rfl, hnx.frame _, fun h => by cases h⟩⟩

theorem epochRipe_holds : Rows.EpochRipeSaid :=
  OpenClaim.holds_of_wide 5 Try.f5 rfl rfl rfl rfl rfl rfl rfl ⟨rfl, rfl, rfl, rfl, rfl⟩ rfl rfl rfl rfl rfl (by kernel_rfl) Try.func5 (by kernel_rfl)
    (of_decide_eq_true (by kernel_rfl)) (by unfold Func.isWrapper; first | (rw [if_pos (by decide +kernel)]; kernel_rfl) | (rw [if_neg (by decide +kernel)]; exact ⟨rfl, rfl⟩))
    (fun os started H enc _ => lifted_EpochRipe os started H enc)

#print axioms epochRipe_holds
end Go.Proofs.Ythokjkllmflgkaa
