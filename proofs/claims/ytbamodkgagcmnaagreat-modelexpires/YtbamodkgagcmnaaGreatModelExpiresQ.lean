/-
  ModelExpires: for every c, l, shard and now the law ModelExpires answers true: expired again and again a shard loses nothing but what is due. No condition.
-/
import Derived.Test.YtbamodkgagcmnaaGreatRows
import Derived.Test.YtbamodkgagcmnaaGreatBPolQ
import Derived.Test.YtbamodkgagcmnaaGreatBTabQ
import Derived.Test.YtbamodkgagcmnaaGreatMdlPQ
import Derived.Deep.RegionHeld3
import Derived.BigQuiet
import Derived.WalkSmall
import Derived.ProofKit
import Derived.OpenShut
import Derived.ChangeMaps5
set_option maxRecDepth 100000
namespace Go.Proofs.YtbamodkgagcmnaaGreat
open Go.ChangeShapes Go.WideShapes Go.ChangeAt Go.RowKit Go.Shelf RowG
open Go.ChangeMaps (open_string shut_string)
open Mdl
open Mdo (CfgOk StM stK StOk)
open Pol (polV chk)
open Go.Proofs.YtbamodkgagcmnaaGreat.Mod (smallB okB ansV ansC opV opC cfgV Ans Mo)

attribute [local go_sem] Oper.semAt_some

set_option maxRecDepth 100000 in
set_option maxHeartbeats 2000000 in
theorem walk_ModelExpires (a0W a0S a0C a0I a0K : Int) (a1 : Option Addr) (c1 : Nat) (z1 : List StM) (a2 a3 : Int) (w : World) (_h0 : CfgOk a0W a0S a0C a0I a0K) (h1 : Lies stK w a1 c1 z1) (g1 : ∀ x ∈ z1, StOk w x) (_h2 : (Lit.int .i64 a2).wf = true) (_h3 : (Lit.int .i64 a3).wf = true) :
    Calls Tryz.prog 9 #[.agg #[.int .i64 a0W, .int .i64 a0S, .int .i64 a0C, .int .i64 a0I, .int .i64 a0K], rowV a1 c1 z1, .int .i64 a2, .int .i64 a3] w fun e W' => e = .returned (.bool true) ∧ Below w.heap.size w W' := by
  obtain ⟨y, b0⟩ := cfg_box w ⟨a0W, a0S, a0C, a0I, a0K⟩
  have Y := Lib.hid y
  have H1 := Lib.hid (h1.kept b0)
  have G1 := Lib.hid g1
  have HP := Lib.hid (fun x hx => (g1 x hx).pkt)
  have HB0 := Lib.hid b0
  have hC1 := h1.len
  have hM1 := h1.max
  unfold maxLen at hM1
  clear h1 g1 y b0
  cases hfw : (smallB ⟨a0W, a0S, a0C, a0I, a0K⟩ && decide (fewL z1)) with
  | false =>
    go_enter Tryz.func9, Tryz.ntmps9
    go_wp2_with fail
    generalize hw0 : w.alloc (.cells #[.int .i64 a0W, .int .i64 a0S, .int .i64 a0C, .int .i64 a0I, .int .i64 a0K] 23) = w0 at *
    refine (works_any _).mono ?_
    rintro e w1 ⟨rfl, hb⟩
    have B1 := Lib.hid hb
    have BW1 := Lib.hid (below2 HB0.out hb)
    obtain ⟨y0, y1, y2, y3, y4⟩ := cfg_kept (c := ⟨a0W, a0S, a0C, a0I, a0K⟩) Y.out hb
    clear hb
    have FW := Lib.hid (few_any ⟨a0W, a0S, a0C, a0I, a0K⟩ a1 c1 z1 w1 (H1.out.kept B1.out) HP.out)
    rw [hfw] at FW
    go_wp2_with fail
    refine FW.out.mono ?_
    rintro e w2 ⟨rfl, hb⟩
    have B2 := Lib.hid (below2 B1.out hb)
    have BW2 := Lib.hid (below2 BW1.out hb)
    obtain ⟨y0, y1, y2, y3, y4⟩ := cfg_kept (c := ⟨a0W, a0S, a0C, a0I, a0K⟩) Y.out B2.out
    clear hb FW
    go_wp2_with fail
    go_ret
    exact ⟨rfl, BW2.out⟩
  | true =>
    cases hok : okB ⟨a0W, a0S, a0C, a0I, a0K⟩ with
    | false =>
      go_enter Tryz.func9, Tryz.ntmps9
      go_wp2_with fail
      generalize hw0 : w.alloc (.cells #[.int .i64 a0W, .int .i64 a0S, .int .i64 a0C, .int .i64 a0I, .int .i64 a0K] 23) = w0 at *
      refine (works_any _).mono ?_
      rintro e w1 ⟨rfl, hb⟩
      have B1 := Lib.hid hb
      have BW1 := Lib.hid (below2 HB0.out hb)
      obtain ⟨y0, y1, y2, y3, y4⟩ := cfg_kept (c := ⟨a0W, a0S, a0C, a0I, a0K⟩) Y.out hb
      clear hb
      have FW := Lib.hid (few_any ⟨a0W, a0S, a0C, a0I, a0K⟩ a1 c1 z1 w1 (H1.out.kept B1.out) HP.out)
      rw [hfw] at FW
      go_wp2_with fail
      refine FW.out.mono ?_
      rintro e w2 ⟨rfl, hb⟩
      have B2 := Lib.hid (below2 B1.out hb)
      have BW2 := Lib.hid (below2 BW1.out hb)
      obtain ⟨y0, y1, y2, y3, y4⟩ := cfg_kept (c := ⟨a0W, a0S, a0C, a0I, a0K⟩) Y.out B2.out
      clear hb FW
      have N1 := Lib.hid (New_bad ⟨a0W, a0S, a0C, a0I, a0K⟩ hok w2)
      go_wp2_with fail
      refine N1.out.mono ?_
      rintro e w3 ⟨rfl, hb⟩
      have BW3 := Lib.hid (below2 BW2.out hb)
      clear hb N1
      go_wp2_with fail
      go_ret
      exact ⟨rfl, BW3.out⟩
    | true =>
      obtain ⟨n, cap, rfl, rfl, hn, h16, h0c, h64, hi0, hi1⟩ := ok_nat hok
      obtain ⟨hz12, hz100⟩ := few_and hfw
      obtain ⟨g, hg⟩ := flows_all
      have HG := Lib.hid hg
      have HZ := Lib.hid hz100
      clear hg hz100
      by_cases g0 : a2 < 0
      · have e0 : decide (a2 < 0) = true := decide_eq_true g0
        go_enter Tryz.func9, Tryz.ntmps9
        go_wp2_with fail
        generalize hw0 : w.alloc (.cells #[.int .i64 a0W, .int .i64 (n : Int), .int .i64 (cap : Int), .int .i64 a0I, .int .i64 a0K] 23) = w0 at *
        refine (works_any _).mono ?_
        rintro e w1 ⟨rfl, hb⟩
        have B1 := Lib.hid hb
        have BW1 := Lib.hid (below2 HB0.out hb)
        obtain ⟨y0, y1, y2, y3, y4⟩ := cfg_kept (c := ⟨a0W, (n : Int), (cap : Int), a0I, a0K⟩) Y.out hb
        clear hb
        have FW := Lib.hid (few_any ⟨a0W, (n : Int), (cap : Int), a0I, a0K⟩ a1 c1 z1 w1 (H1.out.kept B1.out) HP.out)
        rw [hfw] at FW
        go_wp2_with fail
        refine FW.out.mono ?_
        rintro e w2 ⟨rfl, hb⟩
        have B2 := Lib.hid (below2 B1.out hb)
        have BW2 := Lib.hid (below2 BW1.out hb)
        obtain ⟨y0, y1, y2, y3, y4⟩ := cfg_kept (c := ⟨a0W, (n : Int), (cap : Int), a0I, a0K⟩) Y.out B2.out
        clear hb FW
        have BWB := Lib.hid BW2.out
        have YB := Lib.hid (cfg_kept (c := ⟨a0W, (n : Int), (cap : Int), a0I, a0K⟩) Y.out B2.out)
        have HL := Lib.hid (H1.out.kept B2.out)
        have C := Lib.hid (new_stand a0W n cap a0I a0K hok hn h16 h64 w2 w2 (Below.refl _ _))
        generalize hwb : w2 = wb at *
        go_wp2_with fail
        refine C.out.mono ?_
        rintro e w3 ⟨f, rfl, S3⟩
        have HS := Lib.hid S3
        clear S3 C y0 y1 y2 y3 y4
        obtain ⟨y0, y1, y2, y3, y4⟩ := cfg_kept (c := ⟨a0W, (n : Int), (cap : Int), a0I, a0K⟩) YB.out HS.out.below
        have BE := Lib.hid (below2 BWB.out HS.out.below)
        obtain ⟨y0, y1, y2, y3, y4⟩ := cfg_kept (c := ⟨a0W, (n : Int), (cap : Int), a0I, a0K⟩) YB.out HS.out.below
        go_wp2_with fail
        go_ret
        exact ⟨rfl, BE.out⟩
      have e0 : decide (a2 < 0) = false := decide_eq_false g0
      by_cases g2 : (n : Int) ≤ a2
      · have e1 : decide ((n : Int) ≤ a2) = true := decide_eq_true g2
        go_enter Tryz.func9, Tryz.ntmps9
        go_wp2_with fail
        generalize hw0 : w.alloc (.cells #[.int .i64 a0W, .int .i64 (n : Int), .int .i64 (cap : Int), .int .i64 a0I, .int .i64 a0K] 23) = w0 at *
        refine (works_any _).mono ?_
        rintro e w1 ⟨rfl, hb⟩
        have B1 := Lib.hid hb
        have BW1 := Lib.hid (below2 HB0.out hb)
        obtain ⟨y0, y1, y2, y3, y4⟩ := cfg_kept (c := ⟨a0W, (n : Int), (cap : Int), a0I, a0K⟩) Y.out hb
        clear hb
        have FW := Lib.hid (few_any ⟨a0W, (n : Int), (cap : Int), a0I, a0K⟩ a1 c1 z1 w1 (H1.out.kept B1.out) HP.out)
        rw [hfw] at FW
        go_wp2_with fail
        refine FW.out.mono ?_
        rintro e w2 ⟨rfl, hb⟩
        have B2 := Lib.hid (below2 B1.out hb)
        have BW2 := Lib.hid (below2 BW1.out hb)
        obtain ⟨y0, y1, y2, y3, y4⟩ := cfg_kept (c := ⟨a0W, (n : Int), (cap : Int), a0I, a0K⟩) Y.out B2.out
        clear hb FW
        have BWB := Lib.hid BW2.out
        have YB := Lib.hid (cfg_kept (c := ⟨a0W, (n : Int), (cap : Int), a0I, a0K⟩) Y.out B2.out)
        have HL := Lib.hid (H1.out.kept B2.out)
        have C := Lib.hid (new_stand a0W n cap a0I a0K hok hn h16 h64 w2 w2 (Below.refl _ _))
        generalize hwb : w2 = wb at *
        go_wp2_with fail
        refine C.out.mono ?_
        rintro e w3 ⟨f, rfl, S3⟩
        have HS := Lib.hid S3
        clear S3 C y0 y1 y2 y3 y4
        obtain ⟨y0, y1, y2, y3, y4⟩ := cfg_kept (c := ⟨a0W, (n : Int), (cap : Int), a0I, a0K⟩) YB.out HS.out.below
        have BE := Lib.hid (below2 BWB.out HS.out.below)
        obtain ⟨y0, y1, y2, y3, y4⟩ := cfg_kept (c := ⟨a0W, (n : Int), (cap : Int), a0I, a0K⟩) YB.out HS.out.below
        go_wp2_with fail
        go_ret
        exact ⟨rfl, BE.out⟩
      have e1 : decide ((n : Int) ≤ a2) = false := decide_eq_false g2
      go_enter Tryz.func9, Tryz.ntmps9
      go_wp2_with fail
      generalize hw0 : w.alloc (.cells #[.int .i64 a0W, .int .i64 (n : Int), .int .i64 (cap : Int), .int .i64 a0I, .int .i64 a0K] 23) = w0 at *
      refine (works_any _).mono ?_
      rintro e w1 ⟨rfl, hb⟩
      have B1 := Lib.hid hb
      have BW1 := Lib.hid (below2 HB0.out hb)
      obtain ⟨y0, y1, y2, y3, y4⟩ := cfg_kept (c := ⟨a0W, (n : Int), (cap : Int), a0I, a0K⟩) Y.out hb
      clear hb
      have FW := Lib.hid (few_any ⟨a0W, (n : Int), (cap : Int), a0I, a0K⟩ a1 c1 z1 w1 (H1.out.kept B1.out) HP.out)
      rw [hfw] at FW
      go_wp2_with fail
      refine FW.out.mono ?_
      rintro e w2 ⟨rfl, hb⟩
      have B2 := Lib.hid (below2 B1.out hb)
      have BW2 := Lib.hid (below2 BW1.out hb)
      obtain ⟨y0, y1, y2, y3, y4⟩ := cfg_kept (c := ⟨a0W, (n : Int), (cap : Int), a0I, a0K⟩) Y.out B2.out
      clear hb FW
      have BWB := Lib.hid BW2.out
      have YB := Lib.hid (cfg_kept (c := ⟨a0W, (n : Int), (cap : Int), a0I, a0K⟩) Y.out B2.out)
      have HL := Lib.hid (H1.out.kept B2.out)
      have C := Lib.hid (new_stand a0W n cap a0I a0K hok hn h16 h64 w2 w2 (Below.refl _ _))
      generalize hwb : w2 = wb at *
      go_wp2_with fail
      refine C.out.mono ?_
      rintro e w3 ⟨f, rfl, S3⟩
      have HS := Lib.hid S3
      clear S3 C y0 y1 y2 y3 y4
      obtain ⟨y0, y1, y2, y3, y4⟩ := cfg_kept (c := ⟨a0W, (n : Int), (cap : Int), a0I, a0K⟩) YB.out HS.out.below
      go_wp2_with fail
      go_loopw [12] (fun i W => ∃ k : Nat, k ≤ z1.length ∧ i = .int .i64 k ∧ Stand wb W f a0I (goes (Mod.new n cap) ((opsOf g a0I z1).take k)) []) (fun i _ => z1.length - (intOf i).toNat)
      case atStart => exact ⟨0, Nat.zero_le _, rfl, HS.out⟩
      case round =>
        clear HS
        obtain ⟨k, hk, rfl, hS⟩ := hrel
        have HS := Lib.hid hS
        clear hS
        by_cases hlt : k < z1.length
        · have d0 : decide ((k : Int) < (z1.length : Int)) = true := decide_eq_true (by omega)
          obtain ⟨b, off, ha, SH, hnf⟩ := turn_cells HS.out hlt HL.out
          subst ha
          have C := Lib.hid (turn_do HS.out hlt G1.out BWB.out HG.out HZ.out)
          obtain ⟨q0, q1, q2, q3, q4⟩ := SH
          generalize z1[k] = x at *
          go_wp2_with fail
          go_region_held3 (fun W => W.cell? ⟨b, off + k * 5, none⟩ = some (.int .i64 x.kd) ∧ W.cell? ⟨b, off + k * 5 + 1, none⟩ = some (.string x.pkt) ∧ W.cell? ⟨b, off + k * 5 + 2, none⟩ = some (.slice x.p x.pool.length x.c) ∧ W.cell? ⟨b, off + k * 5 + 3, none⟩ = some (.int .i64 x.sh) ∧ W.cell? ⟨b, off + k * 5 + 4, none⟩ = some (.int .i64 x.now))
            (first | exact ⟨q0, q1, q2, q3, q4⟩ | exact st_turn ⟨q0, q1, q2, q3, q4⟩ ht hnf)
            (first | (go_at_call 17; refine C.out.mono ?_; rintro e w5 ⟨⟨v5, rfl⟩, hs, ht⟩))
          rename_i hHeld
          have HS5 := Lib.hid hs
          clear hHeld hs ht C HS q0 q1 q2 q3 q4
          go_wp2_with fail
          exact ⟨⟨k + 1, hlt, by go_num, HS5.out⟩, by simp [intOf]; omega⟩
        · have d0 : decide ((k : Int) < (z1.length : Int)) = false := decide_eq_false (by omega)
          obtain rfl : k = z1.length := by omega
          rw [List.take_of_length_le (by simp)] at HS
          have HI := Lib.hid (inv_new hn (cap := cap) (opsOf g a0I z1))
          generalize goes (Mod.new n cap) (opsOf g a0I z1) = mo at *
          obtain ⟨i, rfl⟩ : ∃ i : Nat, a2 = (i : Int) := ⟨a2.toNat, by omega⟩
          have hin : i < n := by omega
          have hcount := Lib.hid (tab_at HI.out hin)
          have TB := Lib.hid (table_stand HS.out (i : Int))
          have EA := Lib.hid (exp_all HI.out h64 hin a3)
          have LT := Lib.hid (show (tabAt mo (i : Int)).length = cap from by obtain ⟨_, e, _, hc⟩ := hcount.out; rw [e]; exact hc)
          clear hcount
          go_wp2_with fail
          refine TB.out.mono ?_
          rintro e w4 ⟨ta, tc, rfl, htl, hs, -⟩
          have HS4 := Lib.hid hs
          have hTk := HS4.out.held.keys (i : Int)
          have AL := Lib.hid (Swp.All_told ta tc (tabAt mo (i : Int)) a3 w4 htl hTk (by rw [LT.out]; omega))
          clear TB hs htl HS hTk
          go_wp2_with fail
          refine AL.out.mono ?_
          rintro e w5 ⟨v, rfl, hv, hb⟩
          obtain ⟨ua, uc, rfl, hu⟩ := hv
          have BE5 := Lib.hid hb
          have HS5 := Lib.hid (HS4.out.more hb)
          have HU5 := Lib.hid hu
          obtain ⟨en, ec, eu⟩ := EA.out
          generalize hU : Swp.stepC a3 (Tab.places (tabAt mo (i : Int)).length 0 (tabAt mo (i : Int)).length) (tabAt mo (i : Int)) = U at *
          rw [en]
          have EU := Lib.hid (eu.trans LT.out)
          clear eu
          clear AL hb hu HS4 EA
          go_wp2_with fail
          go_loopw [15, 16] (fun s i2 W => ∃ (j sm : Nat) (m2 : Mo), j ≤ 3 * cap ∧ i2 = .int .i64 j ∧ s = .int .i64 sm ∧ Stand wb W f a0I m2 [] ∧ Lies entK W ua uc U ∧ Mod.Inv Prb.home shardN goodB n cap m2 ∧ Tab.count 1 (tabAt m2 (i : Int)) + sm = Tab.count 1 (tabAt mo (i : Int)) ∧ sm + dues a3 (tabAt m2 (i : Int)) = dues a3 (tabAt mo (i : Int))) (fun _ i2 _ => 3 * cap - (intOf i2).toNat)
          case atStart => exact ⟨0, 0, mo, Nat.zero_le _, rfl, rfl, HS5.out, HU5.out, HI.out, rfl, Nat.zero_add _⟩
          case round =>
            clear HS5 HU5 BE5
            obtain ⟨j, sm, m2, hj, rfl, rfl, hS, hU5, hI, q1, q2⟩ := hrel
            have HS := Lib.hid hS
            have HU := Lib.hid hU5
            have HI2 := Lib.hid hI
            clear hS hU5 hI
            obtain ⟨y0, y1, y2, y3, y4⟩ := cfg_kept (c := ⟨a0W, (n : Int), (cap : Int), a0I, a0K⟩) YB.out HS.out.below
            have hc64 : Tab.count 1 (tabAt mo (i : Int)) ≤ 64 := by have := Tab.count_le 1 (tabAt mo (i : Int)); have := LT.out; omega
            by_cases hlt : j < 3 * cap
            · have d1 : decide ((j : Int) < 3 * (cap : Int)) = true := decide_eq_true (by omega)
              obtain ⟨d, e1, hI3, h3, h4⟩ := exp_turn HI2.out hin a3 a0I none []
              have HI3 := Lib.hid hI3
              have D := Lib.hid (do_stand HS.out 2 ⟨#[]⟩ none [] 0 (i : Int) a3 (Pol.lies_nil _) none flow_none)
              rw [e1] at D
              have F := fun W => (show (Instr.field 39 (ansV ⟨0, 0, false, (d : Int)⟩) 3).run Tryz.prog W = .ok (.int .i64 d) W by kernel_rfl)
              generalize (Mdl.step m2 (opOf 2 none [] (i : Int) a3 a0I)).1 = m3 at *
              clear hI3 e1
              go_wp2_with fail
              refine D.out.mono ?_
              rintro e w6 ⟨rfl, hs, ht⟩
              have HS6 := Lib.hid hs
              have HU6 := Lib.hid (HS.out.tab_keep HU.out ht)
              clear D hs ht HS HU
              go_wp2_with fail
              exact ⟨⟨j + 1, sm + d, m3, by omega, by go_num, by go_num, HS6.out, HU6.out, HI3.out, by omega, by omega⟩, by simp [intOf]; omega⟩
            · have d1 : decide ((j : Int) < 3 * (cap : Int)) = false := decide_eq_false (by omega)
              have TB := Lib.hid (table_stand HS.out (i : Int))
              have LT2 := Lib.hid (show (tabAt m2 (i : Int)).length = cap from by obtain ⟨_, e, _, hc⟩ := tab_at HI2.out hin; rw [e]; exact hc)
              have k1 := Flo.keys_length (tabAt m2 (i : Int))
              have k2 := Flo.keys_length U
              have ec' := ec
              generalize tabAt m2 (i : Int) = T2 at *
              generalize tabAt mo (i : Int) = T1 at *
              go_wp2_with fail
              refine TB.out.mono ?_
              rintro e w6 ⟨xa, xc, rfl, hx, hs, hb⟩
              have K := Lib.hid (Flo.Keys_told xa xc T2 w6 hx (by rw [LT2.out]; omega))
              have HS6 := Lib.hid hs
              have HU6 := Lib.hid (HU.out.kept hb)
              clear TB hx hs hb HS HU
              go_wp2_with fail
              refine K.out.mono ?_
              rintro e w7 ⟨v7, rfl, hv, hb⟩
              obtain ⟨ka, kc, rfl, hk7⟩ := hv
              have HS7 := Lib.hid (HS6.out.more hb)
              have K2 := Lib.hid (Flo.Keys_told ua uc U w7 (HU6.out.kept hb) (by rw [EU.out]; omega))
              have hm7 := hk7.max
              have hl7 := hk7.len
              unfold maxLen at hm7
              clear hb hk7 K HS6 HU6
              have e3 : decide ((sm : Int) ≤ (dues a3 T1 : Int)) = true := decide_eq_true (by omega)
              go_wp2_with fail
              refine K2.out.mono ?_
              rintro e w8 ⟨v8, rfl, hv, hb⟩
              obtain ⟨la, lc, rfl, hk8⟩ := hv
              have hm8 := hk8.max
              have hl8 := hk8.len
              unfold maxLen at hm8
              have BE := Lib.hid (below2 BWB.out (below2 HS7.out.below hb))
              have e4 : (((Tab.count 1 T2 : Nat) : Int) + (sm : Int) == ((Tab.count 1 U : Nat) : Int) + (dues a3 T1 : Int)) = true := by rw [beq_iff_eq]; omega
              clear hb hk8 K2 HS7
              go_wp2_with fail
              go_ret
              exact ⟨rfl, BE.out⟩

theorem own_ModelExpires : ownKnob Tryz.prog.godebug = none := by kernel_rfl
set_option maxRecDepth 100000 in
set_option maxHeartbeats 800000 in
theorem lifted_ModelExpires (os : Os) (started : os.Started) (H : Type) (enc : TypeId × Value → H) :
    ReturnsInHanded {} Tryz.checked os 9 .any (Rows.modelExpiresSpec.pre6 enc Tryz.prog Tryz.f9 Rows.modelExpiresRow.domain false) (Rows.modelExpiresSpec.post enc Tryz.prog Tryz.f9 false true false false) := by
  refine returnsInHanded_of_change (C := Tryz.checked) own_ModelExpires started (by kernel_rfl) Tryz.func9
    (ChangeSpec.witness6 (enc := enc) (C := Tryz.checked) false ⟨#[], #[.agg #[.int .i64 0, .int .i64 0, .int .i64 0, .int .i64 0, .int .i64 0], .slice none 0 0, .int .i64 0, .int .i64 0], []⟩ 8 (by kernel_rfl) (by kernel_rfl) (by kernel_rfl) (by kernel_rfl)) ?_
  intro W base args ds gs before hval0 hW _ _
  have hval : ∀ (j : Nat) t v, Tryz.f9.params[j]? = some t → args[j]? = some v → Value.okWide Tryz.prog W .any base t v := hval0
  have hW' := hW
  obtain ⟨p, q, hA0, hV, rfl, _, _⟩ := hW
  have hA : DataW.TrodAll enc Tryz.prog W 0 (fun _ => true) true Tryz.f9.params.toList args.toList ds p := hA0
  rw [Tryz.params9] at hA hval
  obtain ⟨v0, vs0, d0, ds0, p0, q0, ha0, rfl, rfl, t0, r0⟩ := trodAll_cons hA
  obtain ⟨v1, vs1, d1, ds1, p1, q1, ha1, rfl, rfl, t1, r1⟩ := trodAll_cons r0
  obtain ⟨v2, vs2, d2, ds2, p2, q2, ha2, rfl, rfl, t2, r2⟩ := trodAll_cons r1
  obtain ⟨v3, vs3, d3, ds3, p3, q3, ha3, rfl, rfl, t3, r3⟩ := trodAll_cons r2
  obtain ⟨rfl, rfl, rfl⟩ := trodAll_nil r3
  subst ha3
  subst ha2
  subst ha1
  obtain rfl : args = #[v0, v1, v2, v3] := by cases args; simp_all
  obtain ⟨rfl, rfl⟩ := trodVars_none hV
  have k0 := t0
  have lt0 : ∀ x ∈ p0, x.block < W.heap.size := by obtain ⟨m, hm⟩ := k0; exact DataW.trod_lt m _ _ _ hm
  obtain ⟨a0W, a0S, a0C, a0I, a0K, rfl, h0⟩ := Mdo.open_cfg (hval 0 23 v0 rfl rfl) t0
  have k1 := t1
  have lt1 : ∀ x ∈ p1, x.block < W.heap.size := by obtain ⟨m, hm⟩ := k1; exact DataW.trod_lt m _ _ _ hm
  obtain ⟨a1, c1, z1, rfl, h1, g1⟩ := Mdo.open_steps (hval 1 24 v1 rfl rfl) t1
  obtain ⟨a2, rfl, rfl, rfl, h2⟩ := open_int Tryz.underlying3 (hval 2 3 v2 rfl rfl) t2
  obtain ⟨a3, rfl, rfl, rfl, h3⟩ := open_int Tryz.underlying3 (hval 3 3 v3 rfl rfl) t3
  clear hA0 hval0
  refine (walk_ModelExpires a0W a0S a0C a0I a0K a1 c1 z1 a2 a3 W h0 h1 g1 h2 h3).mono fun e W' ⟨he, hnx⟩ => ?_
  subst he
  exact ⟨_, rfl, ⟨_, _, _, [], _, [], hW', trodAll_cons_mk (shut_bool Tryz.underlying4 _) trodAll_mk0, (trodAll_cons_mk (Below.trod Mdo.laidOut (by kernel_rfl) (of_decide_eq_true (by kernel_rfl)) k0 hnx lt0) (trodAll_cons_mk (Below.trod Mdo.laidOut (by kernel_rfl) (of_decide_eq_true (by kernel_rfl)) k1 hnx lt1) (trodAll_cons_mk (shut_int Tryz.underlying3 h2) (trodAll_cons_mk (shut_int Tryz.underlying3 h3) trodAll_mk0)))), rfl, hnx.frame _, fun h => by cases h⟩⟩

theorem modelExpires_holds : Rows.ModelExpiresSaid :=
  OpenClaim.holds_of_wide 9 Tryz.f9 rfl rfl rfl rfl rfl rfl rfl ⟨rfl, rfl, rfl, rfl, rfl⟩ rfl rfl rfl rfl rfl (by kernel_rfl) Tryz.func9 (by kernel_rfl)
    (of_decide_eq_true (by kernel_rfl)) (by unfold Func.isWrapper; first | (rw [if_pos (by decide +kernel)]; kernel_rfl) | (rw [if_neg (by decide +kernel)]; exact ⟨rfl, rfl⟩))
    (fun os started H enc _ => lifted_ModelExpires os started H enc)

#print axioms modelExpires_holds
end Go.Proofs.YtbamodkgagcmnaaGreat
