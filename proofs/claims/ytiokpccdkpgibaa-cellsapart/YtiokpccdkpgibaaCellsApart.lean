/-
  CellsApart: for every n and two rows of acts the law CellsApart answers true: cells to which the same is done tell the same; others do not disturb them. No condition.
-/
import Derived.Test.YtiokpccdkpgibaaRows
import Derived.Test.YtiokpccdkpgibaaSta
import Derived.Test.YtiokpccdkpgibaaCelH
import Derived.Test.YtiokpccdkpgibaaCelQ
import Derived.ProofKit
import Derived.OpenShut
import Derived.ChangeMaps5
import Derived.BigQuiet
import Derived.WalkSmall
import Derived.Deep.RegionHeld3
import Derived.Laws.EntriesVeiled
namespace Go.Proofs.Ytiokpccdkpgibaa
open Go.ChangeShapes Go.WideShapes Go.ChangeAt Go.RowKit Go.Shelf
open Go.ChangeMaps (open_string shut_string)
open RowG Cel

set_option maxRecDepth 100000 in
set_option maxHeartbeats 2000000 in
theorem walk_CellsApart (a0 : Int) (a1 : Option Addr) (c1 : Nat) (z1 : List Cel.Act) (a2 : Option Addr) (c2 : Nat) (z2 : List Cel.Act) (w : World) (_h0 : (Lit.int .i64 a0).wf = true) (h1 : Lies actK w a1 c1 z1) (_g1 : ∀ x ∈ z1, ActOk x) (h2 : Lies actK w a2 c2 z2) (_g2 : ∀ x ∈ z2, ActOk x) :
    Calls Try.prog 6 #[.int .i64 a0, rowV a1 c1 z1, rowV a2 c2 z2] w fun e W' => e = .returned (.bool true) ∧ Below w.heap.size w W' := by
  have H1 := Lib.hid h1
  have hC1 := h1.len
  have hM1 := h1.max
  have H2 := Lib.hid h2
  have hC2 := h2.len
  have hM2 := h2.max
  unfold maxLen at hM1 hM2
  clear h1 h2
  go_enter Try.func6, Try.ntmps6
  go_wp2_with fail
  refine (works_any _).mono ?_
  rintro e w1 ⟨rfl, hb⟩
  have B1 := Lib.hid hb
  have L1 := Lib.hid (H1.out.kept hb)
  have L2 := Lib.hid (H2.out.kept hb)
  clear hb H1 H2
  by_cases g0 : 60 < z1.length
  · have dg00 : decide ((60 : Int) < (z1.length : Int)) = true := decide_eq_true (by omega)
    have dg01 : decide (60 < z1.length) = true := decide_eq_true (by omega)
    go_wp2_with fail
    go_ret
    exact ⟨rfl, B1.out⟩
  have dg00 : decide ((60 : Int) < (z1.length : Int)) = false := decide_eq_false (by omega)
  have dg01 : decide (60 < z1.length) = false := decide_eq_false (by omega)
  by_cases g1 : 60 < z2.length
  · have dg10 : decide ((60 : Int) < (z2.length : Int)) = true := decide_eq_true (by omega)
    have dg11 : decide (60 < z2.length) = true := decide_eq_true (by omega)
    go_wp2_with fail
    go_ret
    exact ⟨rfl, B1.out⟩
  have dg10 : decide ((60 : Int) < (z2.length : Int)) = false := decide_eq_false (by omega)
  have dg11 : decide (60 < z2.length) = false := decide_eq_false (by omega)
  have C := Lib.hid (New_told a0 a0)
  generalize hs0 : Cel.new a0 a0 = s0 at *
  have O0 := Lib.hid (show ∀ x ∈ s0.locks, -1 ≤ x from by rw [← hs0]; exact new_own a0 a0)
  have Z0 := Lib.hid (show s0.shared = 0 from by rw [← hs0]; rfl)
  clear hs0
  go_wp2_with fail
  refine (C.out _).mono ?_
  rintro e w2 ⟨f, rfl, hh, hf, hb⟩
  have Nf1 := Lib.hid (Foot.apart L1.out hf)
  have Nf2 := Lib.hid (Foot.apart L2.out hf)
  have Ff := Lib.hid (Foot.ge hf)
  have L1 := Lib.hid (L1.out.kept hb)
  have L2 := Lib.hid (L2.out.kept hb)
  have B2 := Lib.hid hb
  have G0 := Lib.hid B2.out.size
  have Hf := Lib.hid hh
  clear hh hf hb
  go_wp2_with fail
  refine (C.out _).mono ?_
  rintro e w3 ⟨g, rfl, hh, hf, hb⟩
  have Ng1 := Lib.hid (Foot.apart L1.out hf)
  have Ng2 := Lib.hid (Foot.apart L2.out hf)
  have Fg := Lib.hid (Foot.ge hf)
  have L1 := Lib.hid (L1.out.kept hb)
  have L2 := Lib.hid (L2.out.kept hb)
  have B2 := Lib.hid (B2.out.trans (hb.mono B2.out.size))
  have Dfg := Lib.hid (show ∀ k, f.has k → ¬ g.has k from fun k h1 h2 => by have := Hf.out.lt k h1; have := Fg.out k h2; omega)
  have Dgf := Lib.hid (show ∀ k, g.has k → ¬ f.has k from fun k h1 h2 => Dfg.out k h2 h1)
  have Fg := Lib.hid (show ∀ k, g.has k → w1.heap.size ≤ k from fun k hk => Nat.le_trans G0.out (Fg.out k hk))
  have G1 := Lib.hid B2.out.size
  have Hf := Lib.hid (Hf.out.kept hb)
  have Hg := Lib.hid hh
  clear hh hf hb
  go_wp2_with fail
  refine (C.out _).mono ?_
  rintro e w4 ⟨h, rfl, hh, hf, hb⟩
  have Nh1 := Lib.hid (Foot.apart L1.out hf)
  have Nh2 := Lib.hid (Foot.apart L2.out hf)
  have Fh := Lib.hid (Foot.ge hf)
  have L1 := Lib.hid (L1.out.kept hb)
  have L2 := Lib.hid (L2.out.kept hb)
  have B2 := Lib.hid (B2.out.trans (hb.mono B2.out.size))
  have Dfh := Lib.hid (show ∀ k, f.has k → ¬ h.has k from fun k h1 h2 => by have := Hf.out.lt k h1; have := Fh.out k h2; omega)
  have Dhf := Lib.hid (show ∀ k, h.has k → ¬ f.has k from fun k h1 h2 => Dfh.out k h2 h1)
  have Dgh := Lib.hid (show ∀ k, g.has k → ¬ h.has k from fun k h1 h2 => by have := Hg.out.lt k h1; have := Fh.out k h2; omega)
  have Dhg := Lib.hid (show ∀ k, h.has k → ¬ g.has k from fun k h1 h2 => Dgh.out k h2 h1)
  have Fh := Lib.hid (show ∀ k, h.has k → w1.heap.size ≤ k from fun k hk => Nat.le_trans G1.out (Fh.out k hk))
  have G2 := Lib.hid B2.out.size
  have Hf := Lib.hid (Hf.out.kept hb)
  have Hg := Lib.hid (Hg.out.kept hb)
  have Hh := Lib.hid hh
  clear hh hf hb
  go_wp2_with fail
  have FS := Lib.hid (show ∀ k, (f.has k ∨ g.has k ∨ h.has k) → w1.heap.size ≤ k from fun k hk => hk.elim (Ff.out k) (fun hk => hk.elim (Fg.out k) (Fh.out k)))
  have NB1 := Lib.hid (show z1 ≠ [] → ∀ b off, a1 = some ⟨b, off, none⟩ → ¬ (f.has b ∨ g.has b ∨ h.has b) from fun hn b off e hk => hk.elim (Nf1.out hn b off e) (fun hk => hk.elim (Ng1.out hn b off e) (Nh1.out hn b off e)))
  have NB2 := Lib.hid (show z2 ≠ [] → ∀ b off, a2 = some ⟨b, off, none⟩ → ¬ (f.has b ∨ g.has b ∨ h.has b) from fun hn b off e hk => hk.elim (Nf2.out hn b off e) (fun hk => hk.elim (Ng2.out hn b off e) (Nh2.out hn b off e)))
  have hq1 : z1.length ≤ 60 := by omega
  have hq2 : z2.length ≤ 60 := by omega
  clear Nf1 Nf2 Ng1 Ng2 Nh1 Nh2 Ff Fg Fh G0 G1 G2 C
  go_loopw [11] (fun i W => ∃ (j : Nat) (x : St), j ≤ z1.length ∧ i = .int .i64 j ∧ (Held W f (runs s0 (z1.take j)) ∧ Held W g (runs s0 (z1.take j))) ∧ (Held W h x ∧ x.shared ≤ j ∧ ∀ v ∈ x.locks, -1 ≤ v) ∧ Turned (fun k => f.has k ∨ g.has k ∨ h.has k) w4 W) (fun i _ => z1.length - (intOf i).toNat)
  case atStart => exact ⟨0, s0, Nat.zero_le _, rfl, ⟨Hf.out, Hg.out⟩, ⟨Hh.out, by rw [Z0.out]; exact Nat.le_refl _, O0.out⟩, Turned.refl _ _⟩
  case round =>
    clear Hf Hg Hh
    obtain ⟨j, x, hj, rfl, ⟨h1, h2⟩, ⟨h3, hsx, hox⟩, ht⟩ := hrel
    have Hf := Lib.hid h1
    have Hg := Lib.hid h2
    have Hh := Lib.hid h3
    have SX := Lib.hid hsx
    have OX := Lib.hid hox
    have T := Lib.hid ht
    clear h1 h2 h3 hsx hox ht
    by_cases hlt : j < z1.length
    case pos =>
      have RL := Lib.hid (T.out.lies L1.out NB1.out)
      obtain ⟨bz, oz, rfl, y0, y1, y2, y3⟩ := RL.out.act hlt
      have HR := Lib.hid (runs_take (s := s0) hlt)
      have R := ran_runs s0 (z1.take j)
      have hst : (runs s0 (z1.take j)).shared < 4611686018427387904 := by have h1 := R.shared.2; have h2 := Z0.out; have h3 : (z1.take j).length ≤ z1.length := (by rw [List.length_take]; omega); omega
      have ST := Lib.hid hst
      have OR := Lib.hid (R.own O0.out)
      clear R hst
      have C := Lib.hid (do_any Hf.out ST.out OR.out z1[j])
      generalize hy : z1[j] = y at *
      generalize runs s0 (z1.take j) = s at *
      go_wp2_with fail
      refine C.out.mono ?_
      rintro e w5 ⟨rfl, hh, ht⟩
      generalize hto : (act s y).2 = tv at *
      have T5 := Lib.hid (T.out.trans (ht.mono fun k hk => Or.inl hk))
      have Hf5 := Lib.hid hh
      have Hg5 := Lib.hid (Hg.out.turned ht Dgf.out)
      have Hh5 := Lib.hid (Hh.out.turned ht Dhf.out)
      clear hh ht C Hf Hg Hh T RL y0 y1 y2 y3
      have AL := Lib.hid (show Below w5.heap.size w5 (w5.alloc (.cells #[.int .i64 tv.n, .bool tv.ok] 31)) from (Below.refl _ _).alloc (Nat.le_refl _) _)
      have b0 : (w5.alloc (.cells #[.int .i64 tv.n, .bool tv.ok] 31)).cell? ⟨w5.heap.size, 0, none⟩ = some (.int .i64 tv.n) := by simp
      have b1 : (w5.alloc (.cells #[.int .i64 tv.n, .bool tv.ok] 31)).cell? ⟨w5.heap.size, 1, none⟩ = some (.bool tv.ok) := by simp
      have A0 := Lib.hid b0
      have A1 := Lib.hid b1
      have T6 := Lib.hid (T5.out.trans (Turned.of_below AL.out))
      have Hf6 := Lib.hid (Hf5.out.kept AL.out)
      have Hg6 := Lib.hid (Hg5.out.kept AL.out)
      have Hh6 := Lib.hid (Hh5.out.kept AL.out)
      clear b0 b1
      have NS := Lib.hid (show ∀ k, (g.has k ∨ h.has k) → k < w5.heap.size from fun k hk => hk.elim (Hg5.out.lt k) (Hh5.out.lt k))
      clear Hf5 Hg5 Hh5 T5 AL
      by_cases hl2 : j < z2.length
      case pos =>
        have RL2 := Lib.hid (T6.out.lies L2.out NB2.out)
        obtain ⟨bv, ov, hbv, v0, v1, v2, v3⟩ := RL2.out.act hl2
        subst hbv
        have C := Lib.hid (do_any Hh6.out (by have := SX.out; omega) OX.out z2[j])
        have K := Lib.hid (act_keeps x z2[j])
        generalize z2[j] = u at *
        go_wp2_with fail
        refine C.out.mono ?_
        rintro e w7 ⟨rfl, hh, ht⟩
        have T7 := Lib.hid (T6.out.trans (ht.mono fun k hk => Or.inr (Or.inr hk)))
        have Hf7 := Lib.hid (Hf6.out.turned ht Dfh.out)
        have Hg7 := Lib.hid (Hg6.out.turned ht Dgh.out)
        have Hh7 := Lib.hid hh
        have NY : ¬ h.has w5.heap.size := fun hk => by have := NS.out _ (.inr hk); omega
        have A0 := Lib.hid (ht.cell A0.out NY)
        have A1 := Lib.hid (ht.cell A1.out NY)
        have SX := Lib.hid (show (act x u).1.shared ≤ j + 1 from by have h1 := K.out.shared.2; have h2 := SX.out; omega)
        have OX := Lib.hid (K.out.own OX.out)
        generalize hbx : w5.heap.size = bx at *
        generalize (act x u).1 = x7 at *
        clear hh ht C K T6 Hf6 Hg6 Hh6 RL2 NY v0 v1 v2 v3
        go_wp2_with fail
        have RL := Lib.hid (T7.out.lies L1.out NB1.out)
        obtain ⟨bz2, oz2, hbz, y0, y1, y2, y3⟩ := RL.out.act hlt
        cases hbz
        rw [hy] at y0 y1 y2 y3
        have b0 := A0.out
        have b1 := A1.out
        have C := Lib.hid (do_any (w := w7.drew) (Hg7.out.kept (Below.refl _ w7).drew) ST.out OR.out y)
        have CMP := told_cmp tv tv true (by simp)
        have NZ := Lib.hid (show ¬ g.has bz from fun hk => NB1.out (fun e => by rw [e] at hlt; exact absurd hlt (by simp)) bz oz rfl (Or.inr (Or.inl hk)))
        have NX := Lib.hid (show ¬ g.has bx from fun hk => by have := NS.out bx (.inl hk); omega)
        go_region_held3 (fun W => W.cell? ⟨bx, 0, none⟩ = some (.int .i64 tv.n) ∧ W.cell? ⟨bx, 1, none⟩ = some (.bool tv.ok) ∧ W.cell? ⟨bz, oz + j * 4, none⟩ = some (.int .i64 y.k) ∧ W.cell? ⟨bz, oz + j * 4 + 1, none⟩ = some (.int .i64 y.i) ∧ W.cell? ⟨bz, oz + j * 4 + 2, none⟩ = some (.int .i64 y.a) ∧ W.cell? ⟨bz, oz + j * 4 + 3, none⟩ = some (.int .i64 y.b))
          (first | exact ⟨b0, b1, y0, y1, y2, y3⟩ | exact ⟨ht3.cell b0 NX.out, ht3.cell b1 NX.out, ht3.cell y0 NZ.out, ht3.cell y1 NZ.out, ht3.cell y2 NZ.out, ht3.cell y3 NZ.out⟩)
          (first | (go_at_call 11; refine C.out.mono ?_; rintro e w8 ⟨rfl, hh3, ht3⟩; rw [hto]))
        rename_i hHeld
        have ht8 : Turned g.has w7 w8 := (Turned.of_below (Below.refl _ w7).drew).trans ht3
        have T8 := Lib.hid (T7.out.trans (ht8.mono fun k hk => Or.inr (Or.inl hk)))
        have Hf8 := Lib.hid (Hf7.out.turned ht8 Dfg.out)
        have Hh8 := Lib.hid (Hh7.out.turned ht8 Dhg.out)
        have Hg8 := Lib.hid hh3
        clear hHeld hh3 ht3 ht8 C T7 Hf7 Hg7 Hh7 RL b0 b1 y0 y1 y2 y3 CMP
        go_wp2_with fail
        refine ⟨⟨j + 1, x7, by omega, by go_num, ⟨by rw [HR.out]; exact Hf8.out, by rw [HR.out]; exact Hg8.out⟩, ⟨Hh8.out, SX.out, OX.out⟩, T8.out⟩, by simp [intOf]; omega⟩
      case neg =>
        have SX := Lib.hid (show x.shared ≤ j + 1 from by have h2 := SX.out; omega)
        go_wp2_with fail
        generalize hbx : w5.heap.size = bx at *
        generalize w5.alloc (.cells #[.int .i64 tv.n, .bool tv.ok] 31) = w7 at *
        have T7 := T6
        have Hf7 := Hf6
        have Hg7 := Hg6
        have Hh7 := Hh6
        generalize x = x7 at *
        clear T6 Hf6 Hg6 Hh6
        have RL := Lib.hid (T7.out.lies L1.out NB1.out)
        obtain ⟨bz2, oz2, hbz, y0, y1, y2, y3⟩ := RL.out.act hlt
        cases hbz
        rw [hy] at y0 y1 y2 y3
        have b0 := A0.out
        have b1 := A1.out
        have C := Lib.hid (do_any (w := w7.drew) (Hg7.out.kept (Below.refl _ w7).drew) ST.out OR.out y)
        have CMP := told_cmp tv tv true (by simp)
        have NZ := Lib.hid (show ¬ g.has bz from fun hk => NB1.out (fun e => by rw [e] at hlt; exact absurd hlt (by simp)) bz oz rfl (Or.inr (Or.inl hk)))
        have NX := Lib.hid (show ¬ g.has bx from fun hk => by have := NS.out bx (.inl hk); omega)
        go_region_held3 (fun W => W.cell? ⟨bx, 0, none⟩ = some (.int .i64 tv.n) ∧ W.cell? ⟨bx, 1, none⟩ = some (.bool tv.ok) ∧ W.cell? ⟨bz, oz + j * 4, none⟩ = some (.int .i64 y.k) ∧ W.cell? ⟨bz, oz + j * 4 + 1, none⟩ = some (.int .i64 y.i) ∧ W.cell? ⟨bz, oz + j * 4 + 2, none⟩ = some (.int .i64 y.a) ∧ W.cell? ⟨bz, oz + j * 4 + 3, none⟩ = some (.int .i64 y.b))
          (first | exact ⟨b0, b1, y0, y1, y2, y3⟩ | exact ⟨ht3.cell b0 NX.out, ht3.cell b1 NX.out, ht3.cell y0 NZ.out, ht3.cell y1 NZ.out, ht3.cell y2 NZ.out, ht3.cell y3 NZ.out⟩)
          (first | (go_at_call 11; refine C.out.mono ?_; rintro e w8 ⟨rfl, hh3, ht3⟩; rw [hto]))
        rename_i hHeld
        have ht8 : Turned g.has w7 w8 := (Turned.of_below (Below.refl _ w7).drew).trans ht3
        have T8 := Lib.hid (T7.out.trans (ht8.mono fun k hk => Or.inr (Or.inl hk)))
        have Hf8 := Lib.hid (Hf7.out.turned ht8 Dfg.out)
        have Hh8 := Lib.hid (Hh7.out.turned ht8 Dhg.out)
        have Hg8 := Lib.hid hh3
        clear hHeld hh3 ht3 ht8 C T7 Hf7 Hg7 Hh7 RL b0 b1 y0 y1 y2 y3 CMP
        go_wp2_with fail
        refine ⟨⟨j + 1, x7, by omega, by go_num, ⟨by rw [HR.out]; exact Hf8.out, by rw [HR.out]; exact Hg8.out⟩, ⟨Hh8.out, SX.out, OX.out⟩, T8.out⟩, by simp [intOf]; omega⟩
    case neg =>
      obtain rfl : j = z1.length := by omega
      rw [List.take_length] at Hf Hg
      generalize runs s0 z1 = s at *
      have C := Lib.hid (Shared_told Hf.out)
      go_wp2_with fail
      refine C.out.mono ?_
      rintro e w5 ⟨rfl, hh, ht⟩
      have T5 := Lib.hid (T.out.trans (ht.mono fun k hk => Or.inl hk))
      have C2 := Lib.hid (Shared_told (Hg.out.turned ht Dgf.out))
      clear hh ht C
      go_wp2_with fail
      refine C2.out.mono ?_
      rintro e w6 ⟨rfl, hh, ht⟩
      have T6 := Lib.hid (T5.out.trans (ht.mono fun k hk => Or.inr (Or.inl hk)))
      clear hh ht C2
      go_wp2_with fail
      go_ret
      exact ⟨rfl, Turned.below (B1.out.trans (B2.out.mono B1.out.size)) T6.out (Nat.le_trans B1.out.size B2.out.size) (fun k hk => Nat.le_trans B1.out.size (FS.out k hk))⟩

theorem own_CellsApart : ownKnob Try.prog.godebug = none := by kernel_rfl
set_option maxRecDepth 100000 in
set_option maxHeartbeats 800000 in
theorem lifted_CellsApart (os : Os) (started : os.Started) (H : Type) (enc : TypeId × Value → H) :
    ReturnsInHanded {} Try.checked os 6 .any (Rows.cellsApartSpec.pre6 enc Try.prog Try.f6 Rows.cellsApartRow.domain false) (Rows.cellsApartSpec.post enc Try.prog Try.f6 false true false false) := by
  refine returnsInHanded_of_change (C := Try.checked) own_CellsApart started (by kernel_rfl) Try.func6
    (ChangeSpec.witness6 (enc := enc) (C := Try.checked) false ⟨#[], #[.int .i64 0, .slice none 0 0, .slice none 0 0], []⟩ 8 (by kernel_rfl) (by kernel_rfl) (by kernel_rfl) (by kernel_rfl)) ?_
  intro W base args ds gs before hval0 hW _ _
  have hval : ∀ (j : Nat) t v, Try.f6.params[j]? = some t → args[j]? = some v → Value.okWide Try.prog W .any base t v := hval0
  have hW' := hW
  obtain ⟨p, q, hA0, hV, rfl, _, _⟩ := hW
  have hA : DataW.TrodAll enc Try.prog W 0 (fun _ => true) true Try.f6.params.toList args.toList ds p := hA0
  rw [Try.params6] at hA hval
  obtain ⟨v0, vs0, d0, ds0, p0, q0, ha0, rfl, rfl, t0, r0⟩ := trodAll_cons hA
  obtain ⟨v1, vs1, d1, ds1, p1, q1, ha1, rfl, rfl, t1, r1⟩ := trodAll_cons r0
  obtain ⟨v2, vs2, d2, ds2, p2, q2, ha2, rfl, rfl, t2, r2⟩ := trodAll_cons r1
  obtain ⟨rfl, rfl, rfl⟩ := trodAll_nil r2
  subst ha2
  subst ha1
  obtain rfl : args = #[v0, v1, v2] := by cases args; simp_all
  obtain ⟨rfl, rfl⟩ := trodVars_none hV
  obtain ⟨a0, rfl, rfl, rfl, h0⟩ := open_int Try.underlying3 (hval 0 3 v0 rfl rfl) t0
  have k1 := t1
  have lt1 : ∀ x ∈ p1, x.block < W.heap.size := by obtain ⟨m, hm⟩ := k1; exact DataW.trod_lt m _ _ _ hm
  obtain ⟨a1, c1, z1, rfl, h1, g1⟩ := Sta.open_acts (hval 1 22 v1 rfl rfl) t1
  have k2 := t2
  have lt2 : ∀ x ∈ p2, x.block < W.heap.size := by obtain ⟨m, hm⟩ := k2; exact DataW.trod_lt m _ _ _ hm
  obtain ⟨a2, c2, z2, rfl, h2, g2⟩ := Sta.open_acts (hval 2 22 v2 rfl rfl) t2
  clear hA0 hval0
  refine (walk_CellsApart a0 a1 c1 z1 a2 c2 z2 W h0 h1 g1 h2 g2).mono fun e W' ⟨he, hnx⟩ => ?_
  subst he
  exact ⟨_, rfl, ⟨_, _, _, [], _, [], hW', trodAll_cons_mk (shut_bool Try.underlying4 _) trodAll_mk0, (trodAll_cons_mk (shut_int Try.underlying3 h0) (trodAll_cons_mk (Below.trod Sta.laidOut (by kernel_rfl) (of_decide_eq_true (by kernel_rfl)) k1 hnx lt1) (trodAll_cons_mk (Below.trod Sta.laidOut (by kernel_rfl) (of_decide_eq_true (by kernel_rfl)) k2 hnx lt2) trodAll_mk0))), rfl, hnx.frame _, fun h => by cases h⟩⟩

theorem cellsApart_holds : Rows.CellsApartSaid :=
  OpenClaim.holds_of_wide 6 Try.f6 rfl rfl rfl rfl rfl rfl rfl ⟨rfl, rfl, rfl, rfl, rfl⟩ rfl rfl rfl rfl rfl (by kernel_rfl) Try.func6 (by kernel_rfl)
    (of_decide_eq_true (by kernel_rfl)) (by unfold Func.isWrapper; first | (rw [if_pos (by decide +kernel)]; kernel_rfl) | (rw [if_neg (by decide +kernel)]; exact ⟨rfl, rfl⟩))
    (fun os started H enc _ => lifted_CellsApart os started H enc)

#print axioms cellsApart_holds
end Go.Proofs.Ytiokpccdkpgibaa
