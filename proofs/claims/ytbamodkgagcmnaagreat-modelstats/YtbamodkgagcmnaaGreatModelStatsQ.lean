/-
  ModelStats: for every c, l and s the law ModelStats answers true: what is counted is how many flows there are; a packet makes one more at most, and only if it says so. No condition.
-/
import Derived.Test.YtbamodkgagcmnaaGreatRows
import Derived.Test.YtbamodkgagcmnaaGreatBPolQ
import Derived.Test.YtbamodkgagcmnaaGreatBTabQ
import Derived.Test.YtbamodkgagcmnaaGreatMdlPQ
import Derived.Deep.RegionHeld3
import Derived.BigQuiet
import Derived.WalkSmall
import Derived.ProofKit
import Derived.OpenShut
import Derived.ChangeMaps5
set_option maxRecDepth 100000
namespace Go.Proofs.YtbamodkgagcmnaaGreat
open Go.ChangeShapes Go.WideShapes Go.ChangeAt Go.RowKit Go.Shelf RowG
open Go.ChangeMaps (open_string shut_string)
open Mdl
open Mdo (CfgOk StM stK StOk)
open Pol (polV chk)
open Go.Proofs.YtbamodkgagcmnaaGreat.Mod (smallB okB ansV ansC opV opC cfgV Ans Mo)

attribute [local go_sem] Oper.semAt_some

set_option maxRecDepth 100000 in
set_option maxHeartbeats 3000000 in
theorem walk_ModelStats (a0W a0S a0C a0I a0K : Int) (a1 : Option Addr) (c1 : Nat) (z1 : List StM) (a2 : StM) (w : World) (_h0 : CfgOk a0W a0S a0C a0I a0K) (h1 : Lies stK w a1 c1 z1) (g1 : ∀ x ∈ z1, StOk w x) (h2 : StOk w a2) :
    Calls Tryz.prog 10 #[.agg #[.int .i64 a0W, .int .i64 a0S, .int .i64 a0C, .int .i64 a0I, .int .i64 a0K], rowV a1 c1 z1, .agg #[.int .i64 a2.kd, .string a2.pkt, .slice a2.p a2.pool.length a2.c, .int .i64 a2.sh, .int .i64 a2.now]] w fun e W' => e = .returned (.bool true) ∧ Below w.heap.size w W' := by
  obtain ⟨y, b0⟩ := cfg_box w ⟨a0W, a0S, a0C, a0I, a0K⟩
  obtain ⟨sc, b1⟩ := st_box (w.alloc (.cells #[.int .i64 a0W, .int .i64 a0S, .int .i64 a0C, .int .i64 a0I, .int .i64 a0K] 23)) a2
  have b2 := below2 b0 b1
  obtain ⟨y0, y1, y2, y3, y4⟩ := cfg_kept (c := ⟨a0W, a0S, a0C, a0I, a0K⟩) y b1
  have Y := Lib.hid (cfg_kept (c := ⟨a0W, a0S, a0C, a0I, a0K⟩) y b1)
  rw [World.size_alloc] at sc
  have SC := Lib.hid sc
  have H1 := Lib.hid (h1.kept b2)
  have G1 := Lib.hid g1
  have G2 := Lib.hid h2
  have HP := Lib.hid (fun x hx => (g1 x hx).pkt)
  have HP2 := Lib.hid h2.pkt
  have HB0 := Lib.hid b2
  have hC1 := h1.len
  have hM1 := h1.max
  unfold maxLen at hM1
  clear y0 y1 y2 y3 y4 sc
  clear h1 g1 h2 y b0 b1 b2
  cases hfw : (smallB ⟨a0W, a0S, a0C, a0I, a0K⟩ && decide (fewL z1)) with
  | false =>
    go_enter Tryz.func10, Tryz.ntmps10
    go_wp2_with fail
    generalize hw0 : (w.alloc (.cells #[.int .i64 a0W, .int .i64 a0S, .int .i64 a0C, .int .i64 a0I, .int .i64 a0K] 23)).alloc (.cells #[.int .i64 a2.kd, .string a2.pkt, .slice a2.p a2.pool.length a2.c, .int .i64 a2.sh, .int .i64 a2.now] 44) = w0 at *
    refine (works_any _).mono ?_
    rintro e w1 ⟨rfl, hb⟩
    have B1 := Lib.hid hb
    have BW1 := Lib.hid (below2 HB0.out hb)
    obtain ⟨y0, y1, y2, y3, y4⟩ := cfg_kept (c := ⟨a0W, a0S, a0C, a0I, a0K⟩) Y.out hb
    clear hb
    have FW := Lib.hid (few_any ⟨a0W, a0S, a0C, a0I, a0K⟩ a1 c1 z1 w1 (H1.out.kept B1.out) HP.out)
    rw [hfw] at FW
    go_wp2_with fail
    refine FW.out.mono ?_
    rintro e w2 ⟨rfl, hb⟩
    have B2 := Lib.hid (below2 B1.out hb)
    have BW2 := Lib.hid (below2 BW1.out hb)
    obtain ⟨y0, y1, y2, y3, y4⟩ := cfg_kept (c := ⟨a0W, a0S, a0C, a0I, a0K⟩) Y.out B2.out
    clear hb FW
    go_wp2_with fail
    go_ret
    exact ⟨rfl, BW2.out⟩
  | true =>
    cases hfw2 : (smallB ⟨a0W, a0S, a0C, a0I, a0K⟩ && decide (fewL [a2])) with
    | false =>
      go_enter Tryz.func10, Tryz.ntmps10
      go_wp2_with fail
      generalize hw0 : (w.alloc (.cells #[.int .i64 a0W, .int .i64 a0S, .int .i64 a0C, .int .i64 a0I, .int .i64 a0K] 23)).alloc (.cells #[.int .i64 a2.kd, .string a2.pkt, .slice a2.p a2.pool.length a2.c, .int .i64 a2.sh, .int .i64 a2.now] 44) = w0 at *
      refine (works_any _).mono ?_
      rintro e w1 ⟨rfl, hb⟩
      have B1 := Lib.hid hb
      have BW1 := Lib.hid (below2 HB0.out hb)
      obtain ⟨y0, y1, y2, y3, y4⟩ := cfg_kept (c := ⟨a0W, a0S, a0C, a0I, a0K⟩) Y.out hb
      clear hb
      have FW := Lib.hid (few_any ⟨a0W, a0S, a0C, a0I, a0K⟩ a1 c1 z1 w1 (H1.out.kept B1.out) HP.out)
      rw [hfw] at FW
      go_wp2_with fail
      refine FW.out.mono ?_
      rintro e w2 ⟨rfl, hb⟩
      have B2 := Lib.hid (below2 B1.out hb)
      have BW2 := Lib.hid (below2 BW1.out hb)
      obtain ⟨y0, y1, y2, y3, y4⟩ := cfg_kept (c := ⟨a0W, a0S, a0C, a0I, a0K⟩) Y.out B2.out
      clear hb FW
      obtain ⟨s0, s1, s2, s3, s4⟩ := st_keep SC.out B2.out
      have FW2 := Lib.hid (few_any ⟨a0W, a0S, a0C, a0I, a0K⟩ (some ⟨w2.heap.size, 0, none⟩) 1 [a2] _ (lies_stOne w2 a2) (fun x hx => by rw [List.mem_singleton.1 hx]; exact HP2.out))
      have AL := Lib.hid (st_box w2 a2).2
      rw [hfw2] at FW2
      go_wp2_with fail
      generalize hw2a : w2.alloc (.cells #[.int .i64 a2.kd, .string a2.pkt, .slice a2.p a2.pool.length a2.c, .int .i64 a2.sh, .int .i64 a2.now] 44) = w2a at *
      refine FW2.out.mono ?_
      rintro e w2b ⟨rfl, hb⟩
      have B3 := Lib.hid (below2 B2.out (below2 AL.out hb))
      have BW3 := Lib.hid (below2 BW2.out (below2 AL.out hb))
      obtain ⟨y0, y1, y2, y3, y4⟩ := cfg_kept (c := ⟨a0W, a0S, a0C, a0I, a0K⟩) Y.out B3.out
      clear hb FW2 s0 s1 s2 s3 s4 AL
      go_wp2_with fail
      go_ret
      exact ⟨rfl, BW3.out⟩
    | true =>
      cases hok : okB ⟨a0W, a0S, a0C, a0I, a0K⟩ with
      | false =>
        go_enter Tryz.func10, Tryz.ntmps10
        go_wp2_with fail
        generalize hw0 : (w.alloc (.cells #[.int .i64 a0W, .int .i64 a0S, .int .i64 a0C, .int .i64 a0I, .int .i64 a0K] 23)).alloc (.cells #[.int .i64 a2.kd, .string a2.pkt, .slice a2.p a2.pool.length a2.c, .int .i64 a2.sh, .int .i64 a2.now] 44) = w0 at *
        refine (works_any _).mono ?_
        rintro e w1 ⟨rfl, hb⟩
        have B1 := Lib.hid hb
        have BW1 := Lib.hid (below2 HB0.out hb)
        obtain ⟨y0, y1, y2, y3, y4⟩ := cfg_kept (c := ⟨a0W, a0S, a0C, a0I, a0K⟩) Y.out hb
        clear hb
        have FW := Lib.hid (few_any ⟨a0W, a0S, a0C, a0I, a0K⟩ a1 c1 z1 w1 (H1.out.kept B1.out) HP.out)
        rw [hfw] at FW
        go_wp2_with fail
        refine FW.out.mono ?_
        rintro e w2 ⟨rfl, hb⟩
        have B2 := Lib.hid (below2 B1.out hb)
        have BW2 := Lib.hid (below2 BW1.out hb)
        obtain ⟨y0, y1, y2, y3, y4⟩ := cfg_kept (c := ⟨a0W, a0S, a0C, a0I, a0K⟩) Y.out B2.out
        clear hb FW
        obtain ⟨s0, s1, s2, s3, s4⟩ := st_keep SC.out B2.out
        have FW2 := Lib.hid (few_any ⟨a0W, a0S, a0C, a0I, a0K⟩ (some ⟨w2.heap.size, 0, none⟩) 1 [a2] _ (lies_stOne w2 a2) (fun x hx => by rw [List.mem_singleton.1 hx]; exact HP2.out))
        have AL := Lib.hid (st_box w2 a2).2
        rw [hfw2] at FW2
        go_wp2_with fail
        generalize hw2a : w2.alloc (.cells #[.int .i64 a2.kd, .string a2.pkt, .slice a2.p a2.pool.length a2.c, .int .i64 a2.sh, .int .i64 a2.now] 44) = w2a at *
        refine FW2.out.mono ?_
        rintro e w2b ⟨rfl, hb⟩
        have B3 := Lib.hid (below2 B2.out (below2 AL.out hb))
        have BW3 := Lib.hid (below2 BW2.out (below2 AL.out hb))
        obtain ⟨y0, y1, y2, y3, y4⟩ := cfg_kept (c := ⟨a0W, a0S, a0C, a0I, a0K⟩) Y.out B3.out
        clear hb FW2 s0 s1 s2 s3 s4 AL
        have N1 := Lib.hid (New_bad ⟨a0W, a0S, a0C, a0I, a0K⟩ hok w2b)
        go_wp2_with fail
        refine N1.out.mono ?_
        rintro e w3 ⟨rfl, hb⟩
        have BW4 := Lib.hid (below2 BW3.out hb)
        clear hb N1
        go_wp2_with fail
        go_ret
        exact ⟨rfl, BW4.out⟩
      | true =>
        obtain ⟨hzt, hzt100⟩ := few_and hfw2
        have HZ2 := Lib.hid (hzt100 a2 (List.mem_singleton.2 rfl))
        clear hzt hzt100
        obtain ⟨n, cap, rfl, rfl, hn, h16, h0c, h64, hi0, hi1⟩ := ok_nat hok
        obtain ⟨hz12, hz100⟩ := few_and hfw
        obtain ⟨g, hg⟩ := flows_all
        have HG := Lib.hid hg
        have HZ := Lib.hid hz100
        clear hg hz100
        go_enter Tryz.func10, Tryz.ntmps10
        go_wp2_with fail
        generalize hw0 : (w.alloc (.cells #[.int .i64 a0W, .int .i64 (n : Int), .int .i64 (cap : Int), .int .i64 a0I, .int .i64 a0K] 23)).alloc (.cells #[.int .i64 a2.kd, .string a2.pkt, .slice a2.p a2.pool.length a2.c, .int .i64 a2.sh, .int .i64 a2.now] 44) = w0 at *
        refine (works_any _).mono ?_
        rintro e w1 ⟨rfl, hb⟩
        have B1 := Lib.hid hb
        have BW1 := Lib.hid (below2 HB0.out hb)
        obtain ⟨y0, y1, y2, y3, y4⟩ := cfg_kept (c := ⟨a0W, (n : Int), (cap : Int), a0I, a0K⟩) Y.out hb
        clear hb
        have FW := Lib.hid (few_any ⟨a0W, (n : Int), (cap : Int), a0I, a0K⟩ a1 c1 z1 w1 (H1.out.kept B1.out) HP.out)
        rw [hfw] at FW
        go_wp2_with fail
        refine FW.out.mono ?_
        rintro e w2 ⟨rfl, hb⟩
        have B2 := Lib.hid (below2 B1.out hb)
        have BW2 := Lib.hid (below2 BW1.out hb)
        obtain ⟨y0, y1, y2, y3, y4⟩ := cfg_kept (c := ⟨a0W, (n : Int), (cap : Int), a0I, a0K⟩) Y.out B2.out
        clear hb FW
        obtain ⟨s0, s1, s2, s3, s4⟩ := st_keep SC.out B2.out
        have FW2 := Lib.hid (few_any ⟨a0W, (n : Int), (cap : Int), a0I, a0K⟩ (some ⟨w2.heap.size, 0, none⟩) 1 [a2] _ (lies_stOne w2 a2) (fun x hx => by rw [List.mem_singleton.1 hx]; exact HP2.out))
        have AL := Lib.hid (st_box w2 a2).2
        rw [hfw2] at FW2
        go_wp2_with fail
        generalize hw2a : w2.alloc (.cells #[.int .i64 a2.kd, .string a2.pkt, .slice a2.p a2.pool.length a2.c, .int .i64 a2.sh, .int .i64 a2.now] 44) = w2a at *
        refine FW2.out.mono ?_
        rintro e w2b ⟨rfl, hb⟩
        have B3 := Lib.hid (below2 B2.out (below2 AL.out hb))
        have BW3 := Lib.hid (below2 BW2.out (below2 AL.out hb))
        obtain ⟨y0, y1, y2, y3, y4⟩ := cfg_kept (c := ⟨a0W, (n : Int), (cap : Int), a0I, a0K⟩) Y.out B3.out
        clear hb FW2 s0 s1 s2 s3 s4 AL
        have BWB := Lib.hid BW3.out
        have YB := Lib.hid (cfg_kept (c := ⟨a0W, (n : Int), (cap : Int), a0I, a0K⟩) Y.out B3.out)
        have HL := Lib.hid (H1.out.kept B3.out)
        have C := Lib.hid (new_stand a0W n cap a0I a0K hok hn h16 h64 w2b w2b (Below.refl _ _))
        generalize hwb : w2b = wb at *
        go_wp2_with fail
        refine C.out.mono ?_
        rintro e w3 ⟨f, rfl, S3⟩
        have HS := Lib.hid S3
        clear S3 C y0 y1 y2 y3 y4
        obtain ⟨y0, y1, y2, y3, y4⟩ := cfg_kept (c := ⟨a0W, (n : Int), (cap : Int), a0I, a0K⟩) YB.out HS.out.below
        have SB := Lib.hid (st_keep SC.out B3.out)
        go_wp2_with fail
        go_loopw [10] (fun i W => ∃ k : Nat, k ≤ z1.length ∧ i = .int .i64 k ∧ Stand wb W f a0I (goes (Mod.new n cap) ((opsOf g a0I z1).take k)) []) (fun i _ => z1.length - (intOf i).toNat)
        case atStart => exact ⟨0, Nat.zero_le _, rfl, HS.out⟩
        case round =>
          clear HS
          obtain ⟨k, hk, rfl, hS⟩ := hrel
          have HS := Lib.hid hS
          clear hS
          by_cases hlt : k < z1.length
          · have d0 : decide ((k : Int) < (z1.length : Int)) = true := decide_eq_true (by omega)
            obtain ⟨b, off, ha, SH, hnf⟩ := turn_cells HS.out hlt HL.out
            subst ha
            have C := Lib.hid (turn_do HS.out hlt G1.out BWB.out HG.out HZ.out)
            obtain ⟨q0, q1, q2, q3, q4⟩ := SH
            generalize z1[k] = x at *
            go_wp2_with fail
            go_region_held3 (fun W => W.cell? ⟨b, off + k * 5, none⟩ = some (.int .i64 x.kd) ∧ W.cell? ⟨b, off + k * 5 + 1, none⟩ = some (.string x.pkt) ∧ W.cell? ⟨b, off + k * 5 + 2, none⟩ = some (.slice x.p x.pool.length x.c) ∧ W.cell? ⟨b, off + k * 5 + 3, none⟩ = some (.int .i64 x.sh) ∧ W.cell? ⟨b, off + k * 5 + 4, none⟩ = some (.int .i64 x.now))
              (first | exact ⟨q0, q1, q2, q3, q4⟩ | exact st_turn ⟨q0, q1, q2, q3, q4⟩ ht hnf)
              (first | (go_at_call 17; refine C.out.mono ?_; rintro e w5 ⟨⟨v5, rfl⟩, hs, ht⟩))
            rename_i hHeld
            have HS5 := Lib.hid hs
            clear hHeld hs ht C HS q0 q1 q2 q3 q4
            go_wp2_with fail
            exact ⟨⟨k + 1, hlt, by go_num, HS5.out⟩, by simp [intOf]; omega⟩
          · have d0 : decide ((k : Int) < (z1.length : Int)) = false := decide_eq_false (by omega)
            obtain rfl : k = z1.length := by omega
            rw [List.take_of_length_le (by simp)] at HS
            have HI := Lib.hid (inv_new hn (cap := cap) (opsOf g a0I z1))
            generalize goes (Mod.new n cap) (opsOf g a0I z1) = mo at *
            clear y0 y1 y2 y3 y4
            go_wp2_with fail
            go_loopw [11, 12] (fun s i2 W => ∃ j : Nat, j ≤ n ∧ i2 = .int .i64 j ∧ s = .int .i64 (firstN mo j : Nat) ∧ Stand wb W f a0I mo []) (fun _ i2 _ => n - (intOf i2).toNat)
            case atStart => exact ⟨0, Nat.zero_le _, rfl, rfl, HS.out⟩
            case round =>
              clear HS
              obtain ⟨j, hj, rfl, rfl, hS⟩ := hrel
              have HS := Lib.hid hS
              clear hS
              obtain ⟨y0, y1, y2, y3, y4⟩ := cfg_kept (c := ⟨a0W, (n : Int), (cap : Int), a0I, a0K⟩) YB.out HS.out.below
              by_cases hlt : j < n
              · have d1 : decide ((j : Int) < (n : Int)) = true := decide_eq_true (by omega)
                have FN := firstN_next HI.out hlt
                have FL := firstN_le HI.out h16 h64 (j + 1)
                have TB := Lib.hid (table_stand HS.out (j : Int))
                have LT := Lib.hid (show (tabAt mo (j : Int)).length ≤ 64 from by obtain ⟨_, e, _, hc⟩ := tab_at HI.out hlt; rw [e, hc]; exact h64)
                generalize tabAt mo (j : Int) = T1 at *
                generalize firstN mo j = s0 at *
                go_wp2_with fail
                refine TB.out.mono ?_
                rintro e w4 ⟨ta, tc, rfl, htl, hs, -⟩
                have HS4 := Lib.hid hs
                have K := Lib.hid (Flo.Keys_told ta tc T1 w4 htl (by have := LT.out; omega))
                clear TB hs htl HS
                go_wp2_with fail
                refine K.out.mono ?_
                rintro e w5 ⟨v, rfl, hv, hb⟩
                obtain ⟨ka, kc, rfl, hk5⟩ := hv
                have HS5 := Lib.hid (HS4.out.more hb)
                have hm5 := hk5.max
                have hl5 := hk5.len
                unfold maxLen at hm5
                clear hb hk5 K HS4
                go_wp2_with fail
                exact ⟨⟨j + 1, hlt, by go_num, by rw [FN]; go_num, HS5.out⟩, by simp [intOf]; omega⟩
              · have d1 : decide ((j : Int) < (n : Int)) = false := decide_eq_false (by omega)
                obtain rfl : n = j := by omega
                rw [firstN_all HI.out]
                have TL := total_le HI.out h16 h64
                obtain ⟨t0, t2, tE⟩ := turn_total HI.out hn (opOf a2.kd (g a2.pkt) a2.pool a2.sh a2.now a0I)
                have TL2 := total_le (turn_inv HI.out hn (opOf a2.kd (g a2.pkt) a2.pool a2.sh a2.now a0I)) h16 h64
                have D1 := Lib.hid (do_stand HS.out 3 ⟨#[]⟩ none [] 0 0 0 (Pol.lies_nil _) none flow_none)
                rw [stats_turn] at D1
                go_wp2_with fail
                refine D1.out.mono ?_
                rintro e w4 ⟨rfl, hs, -⟩
                have HS4 := Lib.hid (hs.answer ⟨0, 0, false, ((Mod.total mo.tables : Nat) : Int)⟩)
                clear D1 hs HS
                obtain ⟨s0, s1, s2, s3, s4⟩ := st_keep SB.out HS4.out.below
                have D2 := Lib.hid (do_stand HS4.out a2.kd a2.pkt a2.p a2.pool a2.c a2.sh a2.now (Mdo.pol_lies ((G2.out.lies.kept BWB.out).kept HS4.out.below)) (g a2.pkt) (HG.out _ (by have := HZ2.out; omega)))
                try rw [World.size_alloc] at D2
                generalize (Mdl.step mo (opOf a2.kd (g a2.pkt) a2.pool a2.sh a2.now a0I)).1 = m2 at *
                generalize (Mdl.step mo (opOf a2.kd (g a2.pkt) a2.pool a2.sh a2.now a0I)).2 = y at *
                go_wp2_with fail
                refine D2.out.mono ?_
                rintro e w5 ⟨rfl, hs, -⟩
                have HS5 := Lib.hid (hs.answer y)
                clear D2 hs HS4
                have D3 := Lib.hid (do_stand HS5.out 3 ⟨#[]⟩ none [] 0 0 0 (Pol.lies_nil _) none flow_none)
                rw [stats_turn] at D3
                try rw [World.size_alloc] at D3
                go_wp2_with fail
                refine D3.out.mono ?_
                rintro e w6 ⟨rfl, hs, -⟩
                have HS6 := Lib.hid (hs.answer ⟨0, 0, false, ((Mod.total m2.tables : Nat) : Int)⟩)
                have BE := Lib.hid (below2 BWB.out HS6.out.below)
                obtain ⟨⟨a0, a1', a2', a3⟩, -⟩ := (HS6.out.box _ (List.mem_cons_self ..)).1.cells
                obtain ⟨⟨b0, b1, c2, b3⟩, -⟩ := (HS6.out.box _ (List.mem_cons_of_mem _ (List.mem_cons_self ..))).1.cells
                obtain ⟨⟨c0, c1', c2', c3⟩, -⟩ := (HS6.out.box _ (List.mem_cons_of_mem _ (List.mem_cons_of_mem _ (List.mem_cons_self ..)))).1.cells
                obtain ⟨s0, s1, s2, s3, s4⟩ := st_keep SB.out HS6.out.below
                clear D3 hs HS5 HS6
                generalize Mod.total m2.tables = p at *
                generalize Mod.total mo.tables = q at *
                by_cases k0 : a2.kd = 0
                · have e0 : decide (a2.kd = 0) = true := decide_eq_true k0
                  obtain ⟨u1, u2, u3⟩ := t0 k0
                  have e1 : decide ((p : Int) - (q : Int) ≤ 1) = true := decide_eq_true (by omega)
                  have e2 : decide (-1 ≤ (p : Int) - (q : Int)) = true := decide_eq_true (by omega)
                  by_cases gm : p = q + 1
                  · have e3 : decide ((p : Int) - (q : Int) < 1) = false := decide_eq_false (by omega)
                    have e4 := u3 gm
                    rw [e4] at c2
                    clear u1 u2 u3 gm t0 t2 tE
                    go_wp2_with fail
                    go_ret
                    exact ⟨rfl, BE.out⟩
                  · have e3 : decide ((p : Int) - (q : Int) < 1) = true := decide_eq_true (by omega)
                    clear u1 u2 u3 t0 t2 tE
                    go_wp2_with fail
                    go_ret
                    exact ⟨rfl, BE.out⟩
                have e0 : decide (a2.kd = 0) = false := decide_eq_false k0
                by_cases k2 : a2.kd = 2
                · have e1 : decide (a2.kd = 2) = true := decide_eq_true k2
                  have u1 := t2 k2
                  have hyb : - y.count = (p : Int) - (q : Int) := by omega
                  have e2 : ((p : Int) - (q : Int) == - y.count) = true := by rw [beq_iff_eq]; omega
                  clear u1 t0 t2 tE
                  go_wp2_with fail
                  go_ret
                  exact ⟨rfl, BE.out⟩
                have e1 : decide (a2.kd = 2) = false := decide_eq_false k2
                have u1 := tE k0 k2
                have e2 : ((p : Int) - (q : Int) == 0) = true := by rw [beq_iff_eq]; omega
                have e3 : decide ((p : Int) - (q : Int) = 0) = true := decide_eq_true (by omega)
                clear u1 t0 t2 tE
                go_wp2_with fail
                go_ret
                exact ⟨rfl, BE.out⟩

theorem own_ModelStats : ownKnob Tryz.prog.godebug = none := by kernel_rfl
set_option maxRecDepth 100000 in
set_option maxHeartbeats 800000 in
theorem lifted_ModelStats (os : Os) (started : os.Started) (H : Type) (enc : TypeId × Value → H) :
    ReturnsInHanded {} Tryz.checked os 10 .any (Rows.modelStatsSpec.pre6 enc Tryz.prog Tryz.f10 Rows.modelStatsRow.domain false) (Rows.modelStatsSpec.post enc Tryz.prog Tryz.f10 false true false false) := by
  refine returnsInHanded_of_change (C := Tryz.checked) own_ModelStats started (by kernel_rfl) Tryz.func10
    (ChangeSpec.witness6 (enc := enc) (C := Tryz.checked) false ⟨#[], #[.agg #[.int .i64 0, .int .i64 0, .int .i64 0, .int .i64 0, .int .i64 0], .slice none 0 0, .agg #[.int .i64 0, .string ⟨#[]⟩, .slice none 0 0, .int .i64 0, .int .i64 0]], []⟩ 8 (by kernel_rfl) (by kernel_rfl) (by kernel_rfl) (by kernel_rfl)) ?_
  intro W base args ds gs before hval0 hW _ _
  have hval : ∀ (j : Nat) t v, Tryz.f10.params[j]? = some t → args[j]? = some v → Value.okWide Tryz.prog W .any base t v := hval0
  have hW' := hW
  obtain ⟨p, q, hA0, hV, rfl, _, _⟩ := hW
  have hA : DataW.TrodAll enc Tryz.prog W 0 (fun _ => true) true Tryz.f10.params.toList args.toList ds p := hA0
  rw [Tryz.params10] at hA hval
  obtain ⟨v0, vs0, d0, ds0, p0, q0, ha0, rfl, rfl, t0, r0⟩ := trodAll_cons hA
  obtain ⟨v1, vs1, d1, ds1, p1, q1, ha1, rfl, rfl, t1, r1⟩ := trodAll_cons r0
  obtain ⟨v2, vs2, d2, ds2, p2, q2, ha2, rfl, rfl, t2, r2⟩ := trodAll_cons r1
  obtain ⟨rfl, rfl, rfl⟩ := trodAll_nil r2
  subst ha2
  subst ha1
  obtain rfl : args = #[v0, v1, v2] := by cases args; simp_all
  obtain ⟨rfl, rfl⟩ := trodVars_none hV
  have k0 := t0
  have lt0 : ∀ x ∈ p0, x.block < W.heap.size := by obtain ⟨m, hm⟩ := k0; exact DataW.trod_lt m _ _ _ hm
  obtain ⟨a0W, a0S, a0C, a0I, a0K, rfl, h0⟩ := Mdo.open_cfg (hval 0 23 v0 rfl rfl) t0
  have k1 := t1
  have lt1 : ∀ x ∈ p1, x.block < W.heap.size := by obtain ⟨m, hm⟩ := k1; exact DataW.trod_lt m _ _ _ hm
  obtain ⟨a1, c1, z1, rfl, h1, g1⟩ := Mdo.open_steps (hval 1 24 v1 rfl rfl) t1
  have k2 := t2
  have lt2 : ∀ x ∈ p2, x.block < W.heap.size := by obtain ⟨m, hm⟩ := k2; exact DataW.trod_lt m _ _ _ hm
  obtain ⟨a2, rfl, h2⟩ := Mdo.open_step (hval 2 44 v2 rfl rfl) t2
  clear hA0 hval0
  refine (walk_ModelStats a0W a0S a0C a0I a0K a1 c1 z1 a2 W h0 h1 g1 h2).mono fun e W' ⟨he, hnx⟩ => ?_
  subst he
  exact ⟨_, rfl, ⟨_, _, _, [], _, [], hW', trodAll_cons_mk (shut_bool Tryz.underlying4 _) trodAll_mk0, (trodAll_cons_mk (Below.trod Mdo.laidOut (by kernel_rfl) (of_decide_eq_true (by kernel_rfl)) k0 hnx lt0) (trodAll_cons_mk (Below.trod Mdo.laidOut (by kernel_rfl) (of_decide_eq_true (by kernel_rfl)) k1 hnx lt1) (trodAll_cons_mk (Below.trod Mdo.laidOut (by kernel_rfl) (of_decide_eq_true (by kernel_rfl)) k2 hnx lt2) trodAll_mk0))), rfl, hnx.frame _, fun h => by cases h⟩⟩

theorem modelStats_holds : Rows.ModelStatsSaid :=
  OpenClaim.holds_of_wide 10 Tryz.f10 rfl rfl rfl rfl rfl rfl rfl ⟨rfl, rfl, rfl, rfl, rfl⟩ rfl rfl rfl rfl rfl (by kernel_rfl) Tryz.func10 (by kernel_rfl)
    (of_decide_eq_true (by kernel_rfl)) (by unfold Func.isWrapper; first | (rw [if_pos (by decide +kernel)]; kernel_rfl) | (rw [if_neg (by decide +kernel)]; exact ⟨rfl, rfl⟩))
    (fun os started H enc _ => lifted_ModelStats os started H enc)

#print axioms modelStats_holds
end Go.Proofs.YtbamodkgagcmnaaGreat
