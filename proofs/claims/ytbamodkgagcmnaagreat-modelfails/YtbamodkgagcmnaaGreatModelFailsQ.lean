/-
  ModelFails: for every c, l and s the law ModelFails answers true: what fails changes nothing; a copy goes its own way. No condition.
-/
import Derived.Test.YtbamodkgagcmnaaGreatRows
import Derived.Test.YtbamodkgagcmnaaGreatBPolQ
import Derived.Test.YtbamodkgagcmnaaGreatBTabQ
import Derived.Test.YtbamodkgagcmnaaGreatMdlPQ
import Derived.Test.YtbamodkgagcmnaaGreatPolNQ
import Derived.Test.YtbamodkgagcmnaaGreatBPrbQ
import Derived.Deep.RegionHeld3
import Derived.BigQuiet
import Derived.WalkSmall
import Derived.ProofKit
import Derived.OpenShut
import Derived.ChangeMaps5
set_option maxRecDepth 100000
namespace Go.Proofs.YtbamodkgagcmnaaGreat
open Go.ChangeShapes Go.WideShapes Go.ChangeAt Go.RowKit Go.Shelf RowG
open Go.ChangeMaps (open_string shut_string)
open Mdl
open Mdo (CfgOk StM stK StOk)
open Pol (polV chk)
open Go.Proofs.YtbamodkgagcmnaaGreat.Mod (smallB okB ansV ansC opV opC cfgV Ans Mo)

attribute [local go_sem] Oper.semAt_some

set_option maxRecDepth 100000 in
set_option maxHeartbeats 4000000 in
theorem walk_ModelFails (a0W a0S a0C a0I a0K : Int) (a1 : Option Addr) (c1 : Nat) (z1 : List StM) (a2 : StM) (w : World) (_h0 : CfgOk a0W a0S a0C a0I a0K) (h1 : Lies stK w a1 c1 z1) (g1 : ∀ x ∈ z1, StOk w x) (h2 : StOk w a2) :
    Calls Tryz.prog 8 #[.agg #[.int .i64 a0W, .int .i64 a0S, .int .i64 a0C, .int .i64 a0I, .int .i64 a0K], rowV a1 c1 z1, .agg #[.int .i64 a2.kd, .string a2.pkt, .slice a2.p a2.pool.length a2.c, .int .i64 a2.sh, .int .i64 a2.now]] w fun e W' => e = .returned (.bool true) ∧ Below w.heap.size w W' := by
  obtain ⟨y, b0⟩ := cfg_box w ⟨a0W, a0S, a0C, a0I, a0K⟩
  obtain ⟨sc, b1⟩ := st_box (w.alloc (.cells #[.int .i64 a0W, .int .i64 a0S, .int .i64 a0C, .int .i64 a0I, .int .i64 a0K] 23)) a2
  have b2 := below2 b0 b1
  obtain ⟨y0, y1, y2, y3, y4⟩ := cfg_kept (c := ⟨a0W, a0S, a0C, a0I, a0K⟩) y b1
  have Y := Lib.hid (cfg_kept (c := ⟨a0W, a0S, a0C, a0I, a0K⟩) y b1)
  rw [World.size_alloc] at sc
  have SC := Lib.hid sc
  have H1 := Lib.hid (h1.kept b2)
  have G1 := Lib.hid g1
  have G2 := Lib.hid h2
  have HP := Lib.hid (fun x hx => (g1 x hx).pkt)
  have HP2 := Lib.hid h2.pkt
  have HB0 := Lib.hid b2
  have hC1 := h1.len
  have hM1 := h1.max
  unfold maxLen at hM1
  clear y0 y1 y2 y3 y4 sc
  clear h1 g1 h2 y b0 b1 b2
  cases hfw : (smallB ⟨a0W, a0S, a0C, a0I, a0K⟩ && decide (fewL z1)) with
  | false =>
    go_enter Tryz.func8, Tryz.ntmps8
    go_wp2_with fail
    generalize hw0 : (w.alloc (.cells #[.int .i64 a0W, .int .i64 a0S, .int .i64 a0C, .int .i64 a0I, .int .i64 a0K] 23)).alloc (.cells #[.int .i64 a2.kd, .string a2.pkt, .slice a2.p a2.pool.length a2.c, .int .i64 a2.sh, .int .i64 a2.now] 44) = w0 at *
    refine (works_any _).mono ?_
    rintro e w1 ⟨rfl, hb⟩
    have B1 := Lib.hid hb
    have BW1 := Lib.hid (below2 HB0.out hb)
    obtain ⟨y0, y1, y2, y3, y4⟩ := cfg_kept (c := ⟨a0W, a0S, a0C, a0I, a0K⟩) Y.out hb
    clear hb
    have FW := Lib.hid (few_any ⟨a0W, a0S, a0C, a0I, a0K⟩ a1 c1 z1 w1 (H1.out.kept B1.out) HP.out)
    rw [hfw] at FW
    go_wp2_with fail
    refine FW.out.mono ?_
    rintro e w2 ⟨rfl, hb⟩
    have B2 := Lib.hid (below2 B1.out hb)
    have BW2 := Lib.hid (below2 BW1.out hb)
    obtain ⟨y0, y1, y2, y3, y4⟩ := cfg_kept (c := ⟨a0W, a0S, a0C, a0I, a0K⟩) Y.out B2.out
    clear hb FW
    go_wp2_with fail
    go_ret
    exact ⟨rfl, BW2.out⟩
  | true =>
    cases hfw2 : (smallB ⟨a0W, a0S, a0C, a0I, a0K⟩ && decide (fewL [a2])) with
    | false =>
      go_enter Tryz.func8, Tryz.ntmps8
      go_wp2_with fail
      generalize hw0 : (w.alloc (.cells #[.int .i64 a0W, .int .i64 a0S, .int .i64 a0C, .int .i64 a0I, .int .i64 a0K] 23)).alloc (.cells #[.int .i64 a2.kd, .string a2.pkt, .slice a2.p a2.pool.length a2.c, .int .i64 a2.sh, .int .i64 a2.now] 44) = w0 at *
      refine (works_any _).mono ?_
      rintro e w1 ⟨rfl, hb⟩
      have B1 := Lib.hid hb
      have BW1 := Lib.hid (below2 HB0.out hb)
      obtain ⟨y0, y1, y2, y3, y4⟩ := cfg_kept (c := ⟨a0W, a0S, a0C, a0I, a0K⟩) Y.out hb
      clear hb
      have FW := Lib.hid (few_any ⟨a0W, a0S, a0C, a0I, a0K⟩ a1 c1 z1 w1 (H1.out.kept B1.out) HP.out)
      rw [hfw] at FW
      go_wp2_with fail
      refine FW.out.mono ?_
      rintro e w2 ⟨rfl, hb⟩
      have B2 := Lib.hid (below2 B1.out hb)
      have BW2 := Lib.hid (below2 BW1.out hb)
      obtain ⟨y0, y1, y2, y3, y4⟩ := cfg_kept (c := ⟨a0W, a0S, a0C, a0I, a0K⟩) Y.out B2.out
      clear hb FW
      obtain ⟨s0, s1, s2, s3, s4⟩ := st_keep SC.out B2.out
      have FW2 := Lib.hid (few_any ⟨a0W, a0S, a0C, a0I, a0K⟩ (some ⟨w2.heap.size, 0, none⟩) 1 [a2] _ (lies_stOne w2 a2) (fun x hx => by rw [List.mem_singleton.1 hx]; exact HP2.out))
      have AL := Lib.hid (st_box w2 a2).2
      rw [hfw2] at FW2
      go_wp2_with fail
      generalize hw2a : w2.alloc (.cells #[.int .i64 a2.kd, .string a2.pkt, .slice a2.p a2.pool.length a2.c, .int .i64 a2.sh, .int .i64 a2.now] 44) = w2a at *
      refine FW2.out.mono ?_
      rintro e w2b ⟨rfl, hb⟩
      have B3 := Lib.hid (below2 B2.out (below2 AL.out hb))
      have BW3 := Lib.hid (below2 BW2.out (below2 AL.out hb))
      obtain ⟨y0, y1, y2, y3, y4⟩ := cfg_kept (c := ⟨a0W, a0S, a0C, a0I, a0K⟩) Y.out B3.out
      clear hb FW2 s0 s1 s2 s3 s4 AL
      go_wp2_with fail
      go_ret
      exact ⟨rfl, BW3.out⟩
    | true =>
      cases hok : okB ⟨a0W, a0S, a0C, a0I, a0K⟩ with
      | false =>
        go_enter Tryz.func8, Tryz.ntmps8
        go_wp2_with fail
        generalize hw0 : (w.alloc (.cells #[.int .i64 a0W, .int .i64 a0S, .int .i64 a0C, .int .i64 a0I, .int .i64 a0K] 23)).alloc (.cells #[.int .i64 a2.kd, .string a2.pkt, .slice a2.p a2.pool.length a2.c, .int .i64 a2.sh, .int .i64 a2.now] 44) = w0 at *
        refine (works_any _).mono ?_
        rintro e w1 ⟨rfl, hb⟩
        have B1 := Lib.hid hb
        have BW1 := Lib.hid (below2 HB0.out hb)
        obtain ⟨y0, y1, y2, y3, y4⟩ := cfg_kept (c := ⟨a0W, a0S, a0C, a0I, a0K⟩) Y.out hb
        clear hb
        have FW := Lib.hid (few_any ⟨a0W, a0S, a0C, a0I, a0K⟩ a1 c1 z1 w1 (H1.out.kept B1.out) HP.out)
        rw [hfw] at FW
        go_wp2_with fail
        refine FW.out.mono ?_
        rintro e w2 ⟨rfl, hb⟩
        have B2 := Lib.hid (below2 B1.out hb)
        have BW2 := Lib.hid (below2 BW1.out hb)
        obtain ⟨y0, y1, y2, y3, y4⟩ := cfg_kept (c := ⟨a0W, a0S, a0C, a0I, a0K⟩) Y.out B2.out
        clear hb FW
        obtain ⟨s0, s1, s2, s3, s4⟩ := st_keep SC.out B2.out
        have FW2 := Lib.hid (few_any ⟨a0W, a0S, a0C, a0I, a0K⟩ (some ⟨w2.heap.size, 0, none⟩) 1 [a2] _ (lies_stOne w2 a2) (fun x hx => by rw [List.mem_singleton.1 hx]; exact HP2.out))
        have AL := Lib.hid (st_box w2 a2).2
        rw [hfw2] at FW2
        go_wp2_with fail
        generalize hw2a : w2.alloc (.cells #[.int .i64 a2.kd, .string a2.pkt, .slice a2.p a2.pool.length a2.c, .int .i64 a2.sh, .int .i64 a2.now] 44) = w2a at *
        refine FW2.out.mono ?_
        rintro e w2b ⟨rfl, hb⟩
        have B3 := Lib.hid (below2 B2.out (below2 AL.out hb))
        have BW3 := Lib.hid (below2 BW2.out (below2 AL.out hb))
        obtain ⟨y0, y1, y2, y3, y4⟩ := cfg_kept (c := ⟨a0W, a0S, a0C, a0I, a0K⟩) Y.out B3.out
        clear hb FW2 s0 s1 s2 s3 s4 AL
        have N1 := Lib.hid (New_bad ⟨a0W, a0S, a0C, a0I, a0K⟩ hok w2b)
        go_wp2_with fail
        refine N1.out.mono ?_
        rintro e w3 ⟨rfl, hb⟩
        have BW4 := Lib.hid (below2 BW3.out hb)
        clear hb N1
        go_wp2_with fail
        go_ret
        exact ⟨rfl, BW4.out⟩
      | true =>
        obtain ⟨hzt, hzt100⟩ := few_and hfw2
        have HZ2 := Lib.hid (hzt100 a2 (List.mem_singleton.2 rfl))
        clear hzt hzt100
        obtain ⟨n, cap, rfl, rfl, hn, h16, h0c, h64, hi0, hi1⟩ := ok_nat hok
        obtain ⟨hz12, hz100⟩ := few_and hfw
        obtain ⟨g, hg⟩ := flows_all
        have HG := Lib.hid hg
        have HZ := Lib.hid hz100
        clear hg hz100
        go_enter Tryz.func8, Tryz.ntmps8
        go_wp2_with fail
        generalize hw0 : (w.alloc (.cells #[.int .i64 a0W, .int .i64 (n : Int), .int .i64 (cap : Int), .int .i64 a0I, .int .i64 a0K] 23)).alloc (.cells #[.int .i64 a2.kd, .string a2.pkt, .slice a2.p a2.pool.length a2.c, .int .i64 a2.sh, .int .i64 a2.now] 44) = w0 at *
        refine (works_any _).mono ?_
        rintro e w1 ⟨rfl, hb⟩
        have B1 := Lib.hid hb
        have BW1 := Lib.hid (below2 HB0.out hb)
        obtain ⟨y0, y1, y2, y3, y4⟩ := cfg_kept (c := ⟨a0W, (n : Int), (cap : Int), a0I, a0K⟩) Y.out hb
        clear hb
        have FW := Lib.hid (few_any ⟨a0W, (n : Int), (cap : Int), a0I, a0K⟩ a1 c1 z1 w1 (H1.out.kept B1.out) HP.out)
        rw [hfw] at FW
        go_wp2_with fail
        refine FW.out.mono ?_
        rintro e w2 ⟨rfl, hb⟩
        have B2 := Lib.hid (below2 B1.out hb)
        have BW2 := Lib.hid (below2 BW1.out hb)
        obtain ⟨y0, y1, y2, y3, y4⟩ := cfg_kept (c := ⟨a0W, (n : Int), (cap : Int), a0I, a0K⟩) Y.out B2.out
        clear hb FW
        obtain ⟨s0, s1, s2, s3, s4⟩ := st_keep SC.out B2.out
        have FW2 := Lib.hid (few_any ⟨a0W, (n : Int), (cap : Int), a0I, a0K⟩ (some ⟨w2.heap.size, 0, none⟩) 1 [a2] _ (lies_stOne w2 a2) (fun x hx => by rw [List.mem_singleton.1 hx]; exact HP2.out))
        have AL := Lib.hid (st_box w2 a2).2
        rw [hfw2] at FW2
        go_wp2_with fail
        generalize hw2a : w2.alloc (.cells #[.int .i64 a2.kd, .string a2.pkt, .slice a2.p a2.pool.length a2.c, .int .i64 a2.sh, .int .i64 a2.now] 44) = w2a at *
        refine FW2.out.mono ?_
        rintro e w2b ⟨rfl, hb⟩
        have B3 := Lib.hid (below2 B2.out (below2 AL.out hb))
        have BW3 := Lib.hid (below2 BW2.out (below2 AL.out hb))
        obtain ⟨y0, y1, y2, y3, y4⟩ := cfg_kept (c := ⟨a0W, (n : Int), (cap : Int), a0I, a0K⟩) Y.out B3.out
        clear hb FW2 s0 s1 s2 s3 s4 AL
        have BWB := Lib.hid BW3.out
        have YB := Lib.hid (cfg_kept (c := ⟨a0W, (n : Int), (cap : Int), a0I, a0K⟩) Y.out B3.out)
        have HL := Lib.hid (H1.out.kept B3.out)
        have C := Lib.hid (new_stand a0W n cap a0I a0K hok hn h16 h64 w2b w2b (Below.refl _ _))
        generalize hwb : w2b = wb at *
        go_wp2_with fail
        refine C.out.mono ?_
        rintro e w3 ⟨f, rfl, S3⟩
        have HS := Lib.hid S3
        clear S3 C y0 y1 y2 y3 y4
        obtain ⟨y0, y1, y2, y3, y4⟩ := cfg_kept (c := ⟨a0W, (n : Int), (cap : Int), a0I, a0K⟩) YB.out HS.out.below
        have SB := Lib.hid (st_keep SC.out B3.out)
        go_wp2_with fail
        go_loopw [10] (fun i W => ∃ k : Nat, k ≤ z1.length ∧ i = .int .i64 k ∧ Stand wb W f a0I (goes (Mod.new n cap) ((opsOf g a0I z1).take k)) []) (fun i _ => z1.length - (intOf i).toNat)
        case atStart => exact ⟨0, Nat.zero_le _, rfl, HS.out⟩
        case round =>
          clear HS
          obtain ⟨k, hk, rfl, hS⟩ := hrel
          have HS := Lib.hid hS
          clear hS
          by_cases hlt : k < z1.length
          · have d0 : decide ((k : Int) < (z1.length : Int)) = true := decide_eq_true (by omega)
            obtain ⟨b, off, ha, SH, hnf⟩ := turn_cells HS.out hlt HL.out
            subst ha
            have C := Lib.hid (turn_do HS.out hlt G1.out BWB.out HG.out HZ.out)
            obtain ⟨q0, q1, q2, q3, q4⟩ := SH
            generalize z1[k] = x at *
            go_wp2_with fail
            go_region_held3 (fun W => W.cell? ⟨b, off + k * 5, none⟩ = some (.int .i64 x.kd) ∧ W.cell? ⟨b, off + k * 5 + 1, none⟩ = some (.string x.pkt) ∧ W.cell? ⟨b, off + k * 5 + 2, none⟩ = some (.slice x.p x.pool.length x.c) ∧ W.cell? ⟨b, off + k * 5 + 3, none⟩ = some (.int .i64 x.sh) ∧ W.cell? ⟨b, off + k * 5 + 4, none⟩ = some (.int .i64 x.now))
              (first | exact ⟨q0, q1, q2, q3, q4⟩ | exact st_turn ⟨q0, q1, q2, q3, q4⟩ ht hnf)
              (first | (go_at_call 17; refine C.out.mono ?_; rintro e w5 ⟨⟨v5, rfl⟩, hs, ht⟩))
            rename_i hHeld
            have HS5 := Lib.hid hs
            clear hHeld hs ht C HS q0 q1 q2 q3 q4
            go_wp2_with fail
            exact ⟨⟨k + 1, hlt, by go_num, HS5.out⟩, by simp [intOf]; omega⟩
          · have d0 : decide ((k : Int) < (z1.length : Int)) = false := decide_eq_false (by omega)
            obtain rfl : k = z1.length := by omega
            rw [List.take_of_length_le (by simp)] at HS
            have HI := Lib.hid (inv_new hn (cap := cap) (opsOf g a0I z1))
            generalize goes (Mod.new n cap) (opsOf g a0I z1) = mo at *
            have CP := Lib.hid (copy_stand HS.out)
            have TF := Lib.hid (turn_fails HI.out hn (opOf a2.kd (g a2.pkt) a2.pool a2.sh a2.now a0I)).1
            have T3 := Lib.hid (turn_fails HI.out hn (opOf a2.kd (g a2.pkt) a2.pool a2.sh a2.now a0I)).2.1
            have T2 := Lib.hid (turn_fails HI.out hn (opOf a2.kd (g a2.pkt) a2.pool a2.sh a2.now a0I)).2.2
            have D0 := Lib.hid (fun (W : World) (f : Foot) (l : List (Nat × Ans)) (h : Stand wb W f a0I mo l) => do_stand h a2.kd a2.pkt a2.p a2.pool a2.c a2.sh a2.now (Mdo.pol_lies ((G2.out.lies.kept BWB.out).kept h.below)) (g a2.pkt) (HG.out _ (by have := HZ2.out; omega)))
            generalize (Mdl.step mo (opOf a2.kd (g a2.pkt) a2.pool a2.sh a2.now a0I)).1 = m2 at *
            generalize (Mdl.step mo (opOf a2.kd (g a2.pkt) a2.pool a2.sh a2.now a0I)).2 = y at *
            go_wp2_with fail
            refine CP.out.mono ?_
            rintro e w4 ⟨f2, rfl, hN, hS, ap, ap2⟩
            have AP := Lib.hid ap
            have HN := Lib.hid hN
            have HS4 := Lib.hid hS
            have D1 := Lib.hid (D0.out w4 f2 [] hN)
            obtain ⟨s0, s1, s2, s3, s4⟩ := st_keep SB.out hS.below
            clear CP hN hS ap ap2 HS y0 y1 y2 y3 y4
            go_wp2_with fail
            refine D1.out.mono ?_
            rintro e w5 ⟨rfl, hs, ht⟩
            have HN5 := Lib.hid (hs.answer y)
            have HS5 := Lib.hid ((HS4.out.over HN.out AP.out ht).answer y)
            have P1 := Lib.hid (pool_stand HN5.out)
            have P2 := Lib.hid (fun (W : World) (h : Stand wb W f a0I mo [(w5.heap.size, y)]) => pool_stand h)
            clear D1 hs ht HN HS4 s0 s1 s2 s3 s4
            obtain ⟨c, hc⟩ : ∃ c : Bool, m2.pool = mo.pool ↔ c = true := by
              by_cases e : m2.pool = mo.pool
              · exact ⟨true, ⟨fun _ => rfl, fun _ => e⟩⟩
              · exact ⟨false, ⟨fun h => absurd h e, fun h => by cases h⟩⟩
            have HC := Lib.hid hc
            have HE := Lib.hid (show m2 = mo → c = true from fun e => hc.1 (by rw [e]))
            clear hc
            generalize m2.pool = p2 at *
            generalize mo.pool = p1 at *
            go_wp2_with fail
            refine P1.out.mono ?_
            rintro e w6 ⟨pa, pc, rfl, hp2, hs, hb⟩
            have HN6 := Lib.hid hs
            have HS6 := Lib.hid (HS5.out.more hb)
            have HP2' := Lib.hid hp2
            have P3 := Lib.hid (P2.out w6 HS6.out)
            clear P1 P2 hp2 hs hb HN5 HS5
            go_wp2_with fail
            refine P3.out.mono ?_
            rintro e w7 ⟨qa, qc, rfl, hp1, hs, hb⟩
            have HS7 := Lib.hid hs
            have HN7 := Lib.hid (HN6.out.more hb)
            have SM := Lib.hid (Pol.Same_told pa pc p2 qa qc p1 c HC.out w7 (HP2'.out.kept hb) hp1)
            clear P3 hp1 hs hb HN6 HS6 HP2'
            go_wp2_with fail
            refine SM.out.mono ?_
            rintro e w8 ⟨rfl, hb⟩
            have HS8 := Lib.hid (HS7.out.more hb)
            have HN8 := Lib.hid (HN7.out.more hb)
            clear SM hb HS7 HN7
            generalize hbx : w5.heap.size = bx at *
            go_wp2_with fail
            go_loopw [13, 14] (fun s i2 W => ∃ (j : Nat) (sm : Bool), j ≤ n ∧ i2 = .int .i64 j ∧ s = .bool sm ∧ (m2 = mo → sm = true) ∧ Stand wb W f2 a0I m2 [(bx, y)] ∧ Stand wb W f a0I mo [(bx, y)]) (fun _ i2 _ => n - (intOf i2).toNat)
            case atStart => exact ⟨0, c, Nat.zero_le _, rfl, rfl, HE.out, HN8.out, HS8.out⟩
            case round =>
              clear HS8 HN8 HE HC
              obtain ⟨j, sm, hj, rfl, rfl, qs, hN, hS⟩ := hrel
              have HN := Lib.hid hN
              have HS := Lib.hid hS
              clear hN hS
              obtain ⟨y0, y1, y2, y3, y4⟩ := cfg_kept (c := ⟨a0W, (n : Int), (cap : Int), a0I, a0K⟩) YB.out HS.out.below
              by_cases hlt : j < n
              · have d1 : decide ((j : Int) < (n : Int)) = true := decide_eq_true (by omega)
                cases sm with
                | false =>
                  have QS := Lib.hid qs
                  clear qs
                  go_wp2_with fail
                  exact ⟨⟨j + 1, false, hlt, by go_num, rfl, QS.out, HN.out, HS.out⟩, by simp [intOf]; omega⟩
                | true =>
                  clear qs
                  have TB := Lib.hid (table_stand HN.out (j : Int))
                  have TB2 := Lib.hid (fun (W : World) (h : Stand wb W f a0I mo [(bx, y)]) => table_stand h (j : Int))
                  obtain ⟨c, hc⟩ : ∃ c : Bool, tabAt m2 (j : Int) = tabAt mo (j : Int) ↔ c = true := by
                    by_cases e : tabAt m2 (j : Int) = tabAt mo (j : Int)
                    · exact ⟨true, ⟨fun _ => rfl, fun _ => e⟩⟩
                    · exact ⟨false, ⟨fun h => absurd h e, fun h => by cases h⟩⟩
                  have HC := Lib.hid hc
                  have HE := Lib.hid (show m2 = mo → c = true from fun e => hc.1 (by rw [e]))
                  clear hc
                  generalize tabAt m2 (j : Int) = T2 at *
                  generalize tabAt mo (j : Int) = T1 at *
                  go_wp2_with fail
                  refine TB.out.mono ?_
                  rintro e w8 ⟨ta, tc, rfl, ht2, hs, hb⟩
                  have HN8 := Lib.hid hs
                  have TB3 := Lib.hid (TB2.out w8 (HS.out.more hb))
                  have HT2 := Lib.hid ht2
                  clear TB TB2 ht2 hs hb HN HS
                  go_wp2_with fail
                  refine TB3.out.mono ?_
                  rintro e w9 ⟨ua, uc, rfl, ht1, hs, hb⟩
                  have HS9 := Lib.hid hs
                  have HN9 := Lib.hid (HN8.out.more hb)
                  have SM := Lib.hid (Prb.Same_told ta tc T2 ua uc T1 c HC.out w9 (HT2.out.kept hb) ht1)
                  clear TB3 ht1 hs hb HN8 HT2
                  go_wp2_with fail
                  refine SM.out.mono ?_
                  rintro e w10 ⟨rfl, hb⟩
                  have HS10 := Lib.hid (HS9.out.more hb)
                  have HN10 := Lib.hid (HN9.out.more hb)
                  clear SM hb HS9 HN9
                  go_wp2_with fail
                  exact ⟨⟨j + 1, c, hlt, by go_num, rfl, HE.out, HN10.out, HS10.out⟩, by simp [intOf]; omega⟩
              · have d0 : decide ((j : Int) < (n : Int)) = false := decide_eq_false (by omega)
                obtain rfl : n = j := by omega
                have D1 := Lib.hid (D0.out wr f _ HS.out)
                obtain ⟨s0, s1, s2, s3, s4⟩ := st_keep SB.out HS.out.below
                have QS := Lib.hid qs
                clear qs
                go_wp2_with fail
                refine D1.out.mono ?_
                rintro e w8 ⟨rfl, hs, -⟩
                have HS8 := Lib.hid (hs.answer y)
                have BE := Lib.hid (below2 BWB.out HS8.out.below)
                obtain ⟨⟨a0, a1', a2', a3⟩, -⟩ := (HS8.out.box _ (List.mem_cons_self ..)).1.cells
                obtain ⟨⟨b0, b1, b2, b3⟩, -⟩ := (HS8.out.box _ (List.mem_cons_of_mem _ (List.mem_cons_self ..))).1.cells
                obtain ⟨s0, s1, s2, s3, s4⟩ := st_keep SB.out HS8.out.below
                have qs := QS.out
                clear D1 hs HS HS8 HN D0
                by_cases k0 : y.err = 0
                · have d1 : decide (y.err = 0) = true := decide_eq_true k0
                  have d1b : (y.err == 0) = true := by rw [beq_iff_eq]; exact k0
                  have d1c : (y.err != 0) = false := by rw [bne, d1b]; rfl
                  by_cases k3 : a2.kd = 3
                  · have k2 : ¬ a2.kd = 2 := by omega
                    have d2 : decide (a2.kd = 3) = true := decide_eq_true k3
                    have d2b : (a2.kd == 3) = true := by rw [beq_iff_eq]; exact k3
                    have d2c : (a2.kd != 3) = false := by rw [bne, d2b]; rfl
                    have d3 : decide (a2.kd = 2) = false := decide_eq_false k2
                    have d3b : (a2.kd == 2) = false := by rw [beq_eq_false_iff_ne]; exact k2
                    have d3c : (a2.kd != 2) = true := by rw [bne, d3b]; rfl
                    obtain rfl : sm = true := qs (T3.out k3)
                    clear qs k0 k2 k3
                    go_wp2_with fail
                    go_ret
                    exact ⟨rfl, BE.out⟩
                  have d2 : decide (a2.kd = 3) = false := decide_eq_false k3
                  have d2b : (a2.kd == 3) = false := by rw [beq_eq_false_iff_ne]; exact k3
                  have d2c : (a2.kd != 3) = true := by rw [bne, d2b]; rfl
                  by_cases k2 : a2.kd = 2
                  · have d3 : decide (a2.kd = 2) = true := decide_eq_true k2
                    have d3b : (a2.kd == 2) = true := by rw [beq_iff_eq]; exact k2
                    have d3c : (a2.kd != 2) = false := by rw [bne, d3b]; rfl
                    have d4 : decide (y.count ≤ 4) = true := decide_eq_true (T2.out k2).1
                    clear qs k0 k2 k3
                    go_wp2_with fail
                    go_ret
                    exact ⟨rfl, BE.out⟩
                  have d3 : decide (a2.kd = 2) = false := decide_eq_false k2
                  have d3b : (a2.kd == 2) = false := by rw [beq_eq_false_iff_ne]; exact k2
                  have d3c : (a2.kd != 2) = true := by rw [bne, d3b]; rfl
                  clear qs k0 k2 k3
                  go_wp2_with fail
                  go_ret
                  exact ⟨rfl, BE.out⟩
                have d1 : decide (y.err = 0) = false := decide_eq_false k0
                have d1b : (y.err == 0) = false := by rw [beq_eq_false_iff_ne]; exact k0
                have d1c : (y.err != 0) = true := by rw [bne, d1b]; rfl
                obtain rfl : sm = true := qs (TF.out k0)
                by_cases k3 : a2.kd = 3
                · have k2 : ¬ a2.kd = 2 := by omega
                  have d2 : decide (a2.kd = 3) = true := decide_eq_true k3
                  have d2b : (a2.kd == 3) = true := by rw [beq_iff_eq]; exact k3
                  have d2c : (a2.kd != 3) = false := by rw [bne, d2b]; rfl
                  have d3 : decide (a2.kd = 2) = false := decide_eq_false k2
                  have d3b : (a2.kd == 2) = false := by rw [beq_eq_false_iff_ne]; exact k2
                  have d3c : (a2.kd != 2) = true := by rw [bne, d3b]; rfl
                  clear qs k0 k2 k3
                  go_wp2_with fail
                  go_ret
                  exact ⟨rfl, BE.out⟩
                have d2 : decide (a2.kd = 3) = false := decide_eq_false k3
                have d2b : (a2.kd == 3) = false := by rw [beq_eq_false_iff_ne]; exact k3
                have d2c : (a2.kd != 3) = true := by rw [bne, d2b]; rfl
                by_cases k2 : a2.kd = 2
                · have d3 : decide (a2.kd = 2) = true := decide_eq_true k2
                  have d3b : (a2.kd == 2) = true := by rw [beq_iff_eq]; exact k2
                  have d3c : (a2.kd != 2) = false := by rw [bne, d3b]; rfl
                  have d4 : decide (y.count ≤ 4) = true := decide_eq_true (T2.out k2).1
                  clear qs k0 k2 k3
                  go_wp2_with fail
                  go_ret
                  exact ⟨rfl, BE.out⟩
                have d3 : decide (a2.kd = 2) = false := decide_eq_false k2
                have d3b : (a2.kd == 2) = false := by rw [beq_eq_false_iff_ne]; exact k2
                have d3c : (a2.kd != 2) = true := by rw [bne, d3b]; rfl
                clear qs k0 k2 k3
                go_wp2_with fail
                go_ret
                exact ⟨rfl, BE.out⟩

theorem own_ModelFails : ownKnob Tryz.prog.godebug = none := by kernel_rfl
set_option maxRecDepth 100000 in
set_option maxHeartbeats 800000 in
theorem lifted_ModelFails (os : Os) (started : os.Started) (H : Type) (enc : TypeId × Value → H) :
    ReturnsInHanded {} Tryz.checked os 8 .any (Rows.modelFailsSpec.pre6 enc Tryz.prog Tryz.f8 Rows.modelFailsRow.domain false) (Rows.modelFailsSpec.post enc Tryz.prog Tryz.f8 false true false false) := by
  refine returnsInHanded_of_change (C := Tryz.checked) own_ModelFails started (by kernel_rfl) Tryz.func8
    (ChangeSpec.witness6 (enc := enc) (C := Tryz.checked) false ⟨#[], #[.agg #[.int .i64 0, .int .i64 0, .int .i64 0, .int .i64 0, .int .i64 0], .slice none 0 0, .agg #[.int .i64 0, .string ⟨#[]⟩, .slice none 0 0, .int .i64 0, .int .i64 0]], []⟩ 8 (by kernel_rfl) (by kernel_rfl) (by kernel_rfl) (by kernel_rfl)) ?_
  intro W base args ds gs before hval0 hW _ _
  have hval : ∀ (j : Nat) t v, Tryz.f8.params[j]? = some t → args[j]? = some v → Value.okWide Tryz.prog W .any base t v := hval0
  have hW' := hW
  obtain ⟨p, q, hA0, hV, rfl, _, _⟩ := hW
  have hA : DataW.TrodAll enc Tryz.prog W 0 (fun _ => true) true Tryz.f8.params.toList args.toList ds p := hA0
  rw [Tryz.params8] at hA hval
  obtain ⟨v0, vs0, d0, ds0, p0, q0, ha0, rfl, rfl, t0, r0⟩ := trodAll_cons hA
  obtain ⟨v1, vs1, d1, ds1, p1, q1, ha1, rfl, rfl, t1, r1⟩ := trodAll_cons r0
  obtain ⟨v2, vs2, d2, ds2, p2, q2, ha2, rfl, rfl, t2, r2⟩ := trodAll_cons r1
  obtain ⟨rfl, rfl, rfl⟩ := trodAll_nil r2
  subst ha2
  subst ha1
  obtain rfl : args = #[v0, v1, v2] := by cases args; simp_all
  obtain ⟨rfl, rfl⟩ := trodVars_none hV
  have k0 := t0
  have lt0 : ∀ x ∈ p0, x.block < W.heap.size := by obtain ⟨m, hm⟩ := k0; exact DataW.trod_lt m _ _ _ hm
  obtain ⟨a0W, a0S, a0C, a0I, a0K, rfl, h0⟩ := Mdo.open_cfg (hval 0 23 v0 rfl rfl) t0
  have k1 := t1
  have lt1 : ∀ x ∈ p1, x.block < W.heap.size := by obtain ⟨m, hm⟩ := k1; exact DataW.trod_lt m _ _ _ hm
  obtain ⟨a1, c1, z1, rfl, h1, g1⟩ := Mdo.open_steps (hval 1 24 v1 rfl rfl) t1
  have k2 := t2
  have lt2 : ∀ x ∈ p2, x.block < W.heap.size := by obtain ⟨m, hm⟩ := k2; exact DataW.trod_lt m _ _ _ hm
  obtain ⟨a2, rfl, h2⟩ := Mdo.open_step (hval 2 44 v2 rfl rfl) t2
  clear hA0 hval0
  refine (walk_ModelFails a0W a0S a0C a0I a0K a1 c1 z1 a2 W h0 h1 g1 h2).mono fun e W' ⟨he, hnx⟩ => ?_
  subst he
  exact ⟨_, rfl, ⟨_, _, _, [], _, [], hW', trodAll_cons_mk (shut_bool Tryz.underlying4 _) trodAll_mk0, (trodAll_cons_mk (Below.trod Mdo.laidOut (by kernel_rfl) (of_decide_eq_true (by kernel_rfl)) k0 hnx lt0) (trodAll_cons_mk (Below.trod Mdo.laidOut (by kernel_rfl) (of_decide_eq_true (by kernel_rfl)) k1 hnx lt1) (trodAll_cons_mk (Below.trod Mdo.laidOut (by kernel_rfl) (of_decide_eq_true (by kernel_rfl)) k2 hnx lt2) trodAll_mk0))), rfl, hnx.frame _, fun h => by cases h⟩⟩

theorem modelFails_holds : Rows.ModelFailsSaid :=
  OpenClaim.holds_of_wide 8 Tryz.f8 rfl rfl rfl rfl rfl rfl rfl ⟨rfl, rfl, rfl, rfl, rfl⟩ rfl rfl rfl rfl rfl (by kernel_rfl) Tryz.func8 (by kernel_rfl)
    (of_decide_eq_true (by kernel_rfl)) (by unfold Func.isWrapper; first | (rw [if_pos (by decide +kernel)]; kernel_rfl) | (rw [if_neg (by decide +kernel)]; exact ⟨rfl, rfl⟩))
    (fun os started H enc _ => lifted_ModelFails os started H enc)

#print axioms modelFails_holds
end Go.Proofs.YtbamodkgagcmnaaGreat
