/-
  ModelOne: for every c, l and key the law ModelOne answers true: a key has at most one live entry, in its own shard, whatever was done. No condition.
-/
import Derived.Test.YtbamodkgagcmnaaGreatRows
import Derived.Test.YtbamodkgagcmnaaGreatBPolQ
import Derived.Test.YtbamodkgagcmnaaGreatBTabQ
import Derived.Test.YtbamodkgagcmnaaGreatMdlPQ
import Derived.Test.YtbamodkgagcmnaaGreatPolNQ
import Derived.Deep.RegionHeld3
import Derived.BigQuiet
import Derived.WalkSmall
import Derived.ProofKit
import Derived.OpenShut
import Derived.ChangeMaps5
set_option maxRecDepth 100000
namespace Go.Proofs.YtbamodkgagcmnaaGreat
open Go.ChangeShapes Go.WideShapes Go.ChangeAt Go.RowKit Go.Shelf RowG
open Go.ChangeMaps (open_string shut_string)
open Mdl
open Mdo (CfgOk StM stK StOk)
open Pol (polV chk)
open Go.Proofs.YtbamodkgagcmnaaGreat.Mod (smallB okB ansV ansC opV opC cfgV Ans Mo)

attribute [local go_sem] Oper.semAt_some

set_option maxRecDepth 100000 in
set_option maxHeartbeats 3000000 in
theorem walk_ModelOne (a0W a0S a0C a0I a0K : Int) (a1 : Option Addr) (c1 : Nat) (z1 : List StM) (a2 : ByteArray) (w : World) (_h0 : CfgOk a0W a0S a0C a0I a0K) (h1 : Lies stK w a1 c1 z1) (g1 : ∀ x ∈ z1, StOk w x) (h2 : a2.size ≤ maxLen) :
    Calls Tryz.prog 7 #[.agg #[.int .i64 a0W, .int .i64 a0S, .int .i64 a0C, .int .i64 a0I, .int .i64 a0K], rowV a1 c1 z1, .string a2] w fun e W' => e = .returned (.bool true) ∧ Below w.heap.size w W' := by
  unfold maxLen at h2
  obtain ⟨y, b0⟩ := cfg_box w ⟨a0W, a0S, a0C, a0I, a0K⟩
  have Y := Lib.hid y
  have H1 := Lib.hid (h1.kept b0)
  have G1 := Lib.hid g1
  have HP := Lib.hid (fun x hx => (g1 x hx).pkt)
  have HB0 := Lib.hid b0
  have hC1 := h1.len
  have hM1 := h1.max
  unfold maxLen at hM1
  clear h1 g1 y b0
  cases hfw : (smallB ⟨a0W, a0S, a0C, a0I, a0K⟩ && decide (fewL z1)) with
  | false =>
    go_enter Tryz.func7, Tryz.ntmps7
    go_wp2_with fail
    generalize hw0 : w.alloc (.cells #[.int .i64 a0W, .int .i64 a0S, .int .i64 a0C, .int .i64 a0I, .int .i64 a0K] 23) = w0 at *
    refine (works_any _).mono ?_
    rintro e w1 ⟨rfl, hb⟩
    have B1 := Lib.hid hb
    have BW1 := Lib.hid (below2 HB0.out hb)
    obtain ⟨y0, y1, y2, y3, y4⟩ := cfg_kept (c := ⟨a0W, a0S, a0C, a0I, a0K⟩) Y.out hb
    clear hb
    have FW := Lib.hid (few_any ⟨a0W, a0S, a0C, a0I, a0K⟩ a1 c1 z1 w1 (H1.out.kept B1.out) HP.out)
    rw [hfw] at FW
    go_wp2_with fail
    refine FW.out.mono ?_
    rintro e w2 ⟨rfl, hb⟩
    have B2 := Lib.hid (below2 B1.out hb)
    have BW2 := Lib.hid (below2 BW1.out hb)
    obtain ⟨y0, y1, y2, y3, y4⟩ := cfg_kept (c := ⟨a0W, a0S, a0C, a0I, a0K⟩) Y.out B2.out
    clear hb FW
    go_wp2_with fail
    go_ret
    exact ⟨rfl, BW2.out⟩
  | true =>
    by_cases g60 : 60 < a2.size
    · have e0 : decide ((60 : Int) < (a2.size : Int)) = true := decide_eq_true (by omega)
      have e1 : decide (60 < a2.size) = true := decide_eq_true g60
      go_enter Tryz.func7, Tryz.ntmps7
      go_wp2_with fail
      generalize hw0 : w.alloc (.cells #[.int .i64 a0W, .int .i64 a0S, .int .i64 a0C, .int .i64 a0I, .int .i64 a0K] 23) = w0 at *
      refine (works_any _).mono ?_
      rintro e w1 ⟨rfl, hb⟩
      have B1 := Lib.hid hb
      have BW1 := Lib.hid (below2 HB0.out hb)
      obtain ⟨y0, y1, y2, y3, y4⟩ := cfg_kept (c := ⟨a0W, a0S, a0C, a0I, a0K⟩) Y.out hb
      clear hb
      have FW := Lib.hid (few_any ⟨a0W, a0S, a0C, a0I, a0K⟩ a1 c1 z1 w1 (H1.out.kept B1.out) HP.out)
      rw [hfw] at FW
      go_wp2_with fail
      refine FW.out.mono ?_
      rintro e w2 ⟨rfl, hb⟩
      have B2 := Lib.hid (below2 B1.out hb)
      have BW2 := Lib.hid (below2 BW1.out hb)
      obtain ⟨y0, y1, y2, y3, y4⟩ := cfg_kept (c := ⟨a0W, a0S, a0C, a0I, a0K⟩) Y.out B2.out
      clear hb FW
      go_wp2_with fail
      go_ret
      exact ⟨rfl, BW2.out⟩
    have e0 : decide ((60 : Int) < (a2.size : Int)) = false := decide_eq_false (by omega)
    have e1 : decide (60 < a2.size) = false := decide_eq_false g60
    cases hok : okB ⟨a0W, a0S, a0C, a0I, a0K⟩ with
    | false =>
      go_enter Tryz.func7, Tryz.ntmps7
      go_wp2_with fail
      generalize hw0 : w.alloc (.cells #[.int .i64 a0W, .int .i64 a0S, .int .i64 a0C, .int .i64 a0I, .int .i64 a0K] 23) = w0 at *
      refine (works_any _).mono ?_
      rintro e w1 ⟨rfl, hb⟩
      have B1 := Lib.hid hb
      have BW1 := Lib.hid (below2 HB0.out hb)
      obtain ⟨y0, y1, y2, y3, y4⟩ := cfg_kept (c := ⟨a0W, a0S, a0C, a0I, a0K⟩) Y.out hb
      clear hb
      have FW := Lib.hid (few_any ⟨a0W, a0S, a0C, a0I, a0K⟩ a1 c1 z1 w1 (H1.out.kept B1.out) HP.out)
      rw [hfw] at FW
      go_wp2_with fail
      refine FW.out.mono ?_
      rintro e w2 ⟨rfl, hb⟩
      have B2 := Lib.hid (below2 B1.out hb)
      have BW2 := Lib.hid (below2 BW1.out hb)
      obtain ⟨y0, y1, y2, y3, y4⟩ := cfg_kept (c := ⟨a0W, a0S, a0C, a0I, a0K⟩) Y.out B2.out
      clear hb FW
      have N1 := Lib.hid (New_bad ⟨a0W, a0S, a0C, a0I, a0K⟩ hok w2)
      go_wp2_with fail
      refine N1.out.mono ?_
      rintro e w3 ⟨rfl, hb⟩
      have BW3 := Lib.hid (below2 BW2.out hb)
      clear hb N1
      go_wp2_with fail
      go_ret
      exact ⟨rfl, BW3.out⟩
    | true =>
      obtain ⟨n, cap, rfl, rfl, hn, h16, h0c, h64, hi0, hi1⟩ := ok_nat hok
      obtain ⟨hz12, hz100⟩ := few_and hfw
      obtain ⟨g, hg⟩ := flows_all
      have HG := Lib.hid hg
      have HZ := Lib.hid hz100
      clear hg hz100
      go_enter Tryz.func7, Tryz.ntmps7
      go_wp2_with fail
      generalize hw0 : w.alloc (.cells #[.int .i64 a0W, .int .i64 (n : Int), .int .i64 (cap : Int), .int .i64 a0I, .int .i64 a0K] 23) = w0 at *
      refine (works_any _).mono ?_
      rintro e w1 ⟨rfl, hb⟩
      have B1 := Lib.hid hb
      have BW1 := Lib.hid (below2 HB0.out hb)
      obtain ⟨y0, y1, y2, y3, y4⟩ := cfg_kept (c := ⟨a0W, (n : Int), (cap : Int), a0I, a0K⟩) Y.out hb
      clear hb
      have FW := Lib.hid (few_any ⟨a0W, (n : Int), (cap : Int), a0I, a0K⟩ a1 c1 z1 w1 (H1.out.kept B1.out) HP.out)
      rw [hfw] at FW
      go_wp2_with fail
      refine FW.out.mono ?_
      rintro e w2 ⟨rfl, hb⟩
      have B2 := Lib.hid (below2 B1.out hb)
      have BW2 := Lib.hid (below2 BW1.out hb)
      obtain ⟨y0, y1, y2, y3, y4⟩ := cfg_kept (c := ⟨a0W, (n : Int), (cap : Int), a0I, a0K⟩) Y.out B2.out
      clear hb FW
      have BWB := Lib.hid BW2.out
      have YB := Lib.hid (cfg_kept (c := ⟨a0W, (n : Int), (cap : Int), a0I, a0K⟩) Y.out B2.out)
      have HL := Lib.hid (H1.out.kept B2.out)
      have C := Lib.hid (new_stand a0W n cap a0I a0K hok hn h16 h64 w2 w2 (Below.refl _ _))
      generalize hwb : w2 = wb at *
      go_wp2_with fail
      refine C.out.mono ?_
      rintro e w3 ⟨f, rfl, S3⟩
      have HS := Lib.hid S3
      clear S3 C y0 y1 y2 y3 y4
      obtain ⟨y0, y1, y2, y3, y4⟩ := cfg_kept (c := ⟨a0W, (n : Int), (cap : Int), a0I, a0K⟩) YB.out HS.out.below
      go_wp2_with fail
      go_loopw [10] (fun i W => ∃ k : Nat, k ≤ z1.length ∧ i = .int .i64 k ∧ Stand wb W f a0I (goes (Mod.new n cap) ((opsOf g a0I z1).take k)) []) (fun i _ => z1.length - (intOf i).toNat)
      case atStart => exact ⟨0, Nat.zero_le _, rfl, HS.out⟩
      case round =>
        clear HS
        obtain ⟨k, hk, rfl, hS⟩ := hrel
        have HS := Lib.hid hS
        clear hS
        by_cases hlt : k < z1.length
        · have d0 : decide ((k : Int) < (z1.length : Int)) = true := decide_eq_true (by omega)
          obtain ⟨b, off, ha, SH, hnf⟩ := turn_cells HS.out hlt HL.out
          subst ha
          have C := Lib.hid (turn_do HS.out hlt G1.out BWB.out HG.out HZ.out)
          obtain ⟨q0, q1, q2, q3, q4⟩ := SH
          generalize z1[k] = x at *
          go_wp2_with fail
          go_region_held3 (fun W => W.cell? ⟨b, off + k * 5, none⟩ = some (.int .i64 x.kd) ∧ W.cell? ⟨b, off + k * 5 + 1, none⟩ = some (.string x.pkt) ∧ W.cell? ⟨b, off + k * 5 + 2, none⟩ = some (.slice x.p x.pool.length x.c) ∧ W.cell? ⟨b, off + k * 5 + 3, none⟩ = some (.int .i64 x.sh) ∧ W.cell? ⟨b, off + k * 5 + 4, none⟩ = some (.int .i64 x.now))
            (first | exact ⟨q0, q1, q2, q3, q4⟩ | exact st_turn ⟨q0, q1, q2, q3, q4⟩ ht hnf)
            (first | (go_at_call 17; refine C.out.mono ?_; rintro e w5 ⟨⟨v5, rfl⟩, hs, ht⟩))
          rename_i hHeld
          have HS5 := Lib.hid hs
          clear hHeld hs ht C HS q0 q1 q2 q3 q4
          go_wp2_with fail
          exact ⟨⟨k + 1, hlt, by go_num, HS5.out⟩, by simp [intOf]; omega⟩
        · have d0 : decide ((k : Int) < (z1.length : Int)) = false := decide_eq_false (by omega)
          obtain rfl : k = z1.length := by omega
          rw [List.take_of_length_le (by simp)] at HS
          have HI := Lib.hid (inv_new hn (cap := cap) (opsOf g a0I z1))
          generalize goes (Mod.new n cap) (opsOf g a0I z1) = mo at *
          clear y0 y1 y2 y3 y4
          go_wp2_with fail
          go_loopw [11, 12] (fun s i2 W => ∃ j nn : Nat, j ≤ n ∧ i2 = .int .i64 j ∧ s = .int .i64 nn ∧ nn ≤ 1 ∧ (j ≤ shardN a2 n → nn = 0) ∧ Stand wb W f a0I mo []) (fun _ i2 _ => n - (intOf i2).toNat)
          case atStart => exact ⟨0, 0, Nat.zero_le _, rfl, rfl, Nat.zero_le _, fun _ => rfl, HS.out⟩
          case round =>
            clear HS
            obtain ⟨j, nn, hj, rfl, rfl, qn, qs, hS⟩ := hrel
            have HS := Lib.hid hS
            clear hS
            obtain ⟨y0, y1, y2, y3, y4⟩ := cfg_kept (c := ⟨a0W, (n : Int), (cap : Int), a0I, a0K⟩) YB.out HS.out.below
            by_cases hlt : j < n
            · have d1 : decide ((j : Int) < (n : Int)) = true := decide_eq_true (by omega)
              have OS := Lib.hid (occ_step HI.out hlt (key := a2) qn qs)
              have OK := Lib.hid (one_keys HI.out hlt)
              have TB := Lib.hid (table_stand HS.out (j : Int))
              have TA := Lib.hid (tab_at HI.out hlt)
              have LT := Lib.hid (show (tabAt mo (j : Int)).length = cap from by obtain ⟨_, e, _, hc⟩ := TA.out; rw [e, hc])
              have RT := Lib.hid (show Tab.Right Prb.home (tabAt mo (j : Int)) from by obtain ⟨_, e, hr, _⟩ := TA.out; rw [e]; exact hr)
              have TK := Lib.hid (HS.out.held.keys (j : Int))
              have TX := Lib.hid (keys_small TK.out)
              clear TA qs
              generalize tabAt mo (j : Int) = T1 at *
              go_wp2_with fail
              refine TB.out.mono ?_
              rintro e w4 ⟨ta, tc, rfl, htl, hs, -⟩
              have HS4 := Lib.hid hs
              have K := Lib.hid (Flo.Keys_told ta tc T1 w4 htl (by rw [LT.out]; omega))
              have HT4 := Lib.hid htl
              clear TB hs htl HS
              go_wp2_with fail
              refine K.out.mono ?_
              rintro e w5 ⟨v, rfl, hv, hb⟩
              obtain ⟨ka, kc, rfl, hk5⟩ := hv
              have HS5 := Lib.hid (HS4.out.more hb)
              have R := Lib.hid (Flo.Right_told ta tc T1 true ⟨fun _ => rfl, fun _ => RT.out⟩ w5 (HT4.out.kept hb) TK.out)
              have hm5 := hk5.max
              have hl5 := hk5.len
              unfold maxLen at hm5
              have HK5 := Lib.hid hk5
              have e3 : decide ((T1.length : Int) = (cap : Int)) = true := decide_eq_true (by rw [LT.out])
              have e4 : ((T1.length : Int) == (cap : Int)) = true := by rw [beq_iff_eq, LT.out]
              obtain ⟨y0, y1, y2, y3, y4⟩ := cfg_kept (c := ⟨a0W, (n : Int), (cap : Int), a0I, a0K⟩) YB.out HS5.out.below
              have kcount := Flo.keys_length T1
              have klt : (Flo.keys T1).length ≤ 64 := by have := Tab.count_le 1 T1; have := LT.out; omega
              clear hb hk5 K HS4 kcount
              generalize Flo.keys T1 = ks at *
              go_wp2_with fail
              refine R.out.mono ?_
              rintro e w6 ⟨rfl, hb⟩
              have HS6 := Lib.hid (HS5.out.more hb)
              have HK6 := Lib.hid (HK5.out.kept hb)
              obtain ⟨y0, y1, y2, y3, y4⟩ := cfg_kept (c := ⟨a0W, (n : Int), (cap : Int), a0I, a0K⟩) YB.out HS6.out.below
              have lenT := LT.out
              clear hb R HS5 HK5 HT4
              go_wp2_with fail
              go_loopw [11, 15] (fun s i3 W => ∃ i : Nat, i ≤ ks.length ∧ i3 = .int .i64 i ∧ s = .int .i64 (nn + occ a2 (ks.take i) : Nat) ∧ Stand wb W f a0I mo [] ∧ Lies Flo.txtK W ka kc ks) (fun _ i3 _ => ks.length - (intOf i3).toNat)
              case atStart => exact ⟨0, Nat.zero_le _, rfl, rfl, HS6.out, HK6.out⟩
              case round =>
                clear HS6 HK6 y0 y1 y2 y3 y4
                obtain ⟨i, hi, rfl, rfl, hS, hK⟩ := hrel
                have HS := Lib.hid hS
                have HK := Lib.hid hK
                clear hS hK
                obtain ⟨y0, y1, y2, y3, y4⟩ := cfg_kept (c := ⟨a0W, (n : Int), (cap : Int), a0I, a0K⟩) YB.out HS.out.below
                by_cases hik : i < ks.length
                · have d3 : decide ((i : Int) < (ks.length : Int)) = true := decide_eq_true (by omega)
                  obtain ⟨b, off, ha, q0⟩ := lies_txt HK.out hik
                  subst ha
                  have hm := List.getElem_mem hik
                  have hsh := OK.out.2 _ hm
                  have ON := occ_next (key := a2) hik
                  have on1 : occ a2 (ks.take i) ≤ i := by
                    have h1 : (List.filter (fun k => decide (k = a2)) (ks.take i)).length ≤ (ks.take i).length := List.length_filter_le ..
                    rw [List.length_take] at h1
                    unfold occ; omega
                  have CH := Lib.hid (fun (W : World) (hx : ks[i].size ≤ 4611686018427387904) => shard_told ks[i] hn h16 W hx)
                  rw [hsh] at CH
                  have hsz : ks[i].size ≤ 4611686018427387904 := TX.out _ hm
                  clear hm hsh
                  generalize ks[i] = x at *
                  generalize occ a2 (ks.take i) = oc at *
                  go_wp2_with fail
                  go_region_held3 (fun W => W.cell? ⟨b, off + i, none⟩ = some (.string x) ∧ W.cell? ⟨w.heap.size, 1, none⟩ = some (.int .i64 n))
                    (first | exact ⟨q0, y1⟩ | exact ⟨(hb.cell (World.block_lt_of_cell? wr.drew _ q0)).trans q0, (hb.cell (World.block_lt_of_cell? wr.drew _ y1)).trans y1⟩)
                    (first | (go_at_call 26; refine (CH.out _ hsz).mono ?_; rintro e w7 ⟨rfl, hb⟩))
                  rename_i hHeld
                  have hw7 := below2 (Below.refl _ wr).drew hb
                  have HS7 := Lib.hid (HS.out.more hw7)
                  have HK7 := Lib.hid (HK.out.kept hw7)
                  have q7 := hHeld.1
                  clear hHeld hb hw7 CH HS HK y0 y1 y2 y3 y4 q0
                  by_cases hx : x = a2
                  · have d5 : decide (x = a2) = true := decide_eq_true hx
                    have d6 : (x.toList == a2.toList) = true := by rw [Prb.text_cmp]; exact decide_eq_true hx
                    rw [if_pos hx] at ON
                    clear hx
                    go_wp2_with fail
                    exact ⟨⟨i + 1, hik, by go_num, congrArg (Value.int IntKind.i64) (by rw [ON]; omega), HS7.out, HK7.out⟩, by simp [intOf]; omega⟩
                  · have d5 : decide (x = a2) = false := decide_eq_false hx
                    have d6 : (x.toList == a2.toList) = false := by rw [Prb.text_cmp]; exact decide_eq_false hx
                    rw [if_neg hx] at ON
                    clear hx
                    go_wp2_with fail
                    exact ⟨⟨i + 1, hik, by go_num, congrArg (Value.int IntKind.i64) (by rw [ON]; omega), HS7.out, HK7.out⟩, by simp [intOf]; omega⟩
                · have d3 : decide ((i : Int) < (ks.length : Int)) = false := decide_eq_false (by omega)
                  obtain rfl : i = ks.length := by omega
                  rw [List.take_length]
                  obtain ⟨o1, o2⟩ := OS.out
                  generalize occ a2 ks = oc at *
                  go_wp2_with fail
                  exact ⟨⟨j + 1, nn + oc, hlt, by go_num, rfl, o1, o2, HS.out⟩, by simp [intOf]; omega⟩
            · have d1 : decide ((j : Int) < (n : Int)) = false := decide_eq_false (by omega)
              obtain rfl : n = j := by omega
              have e3 : decide ((nn : Int) ≤ 1) = true := decide_eq_true (by omega)
              have P := Lib.hid (pool_stand HS.out)
              have GP := Lib.hid ((good_iff _).2 HI.out.pool)
              generalize mo.pool = pl at *
              go_wp2_with fail
              refine P.out.mono ?_
              rintro e w4 ⟨pa, pc, rfl, hp, hs, -⟩
              have HS4 := Lib.hid hs
              have C := Lib.hid (Pol.Check_told pa pc pl true ⟨fun _ => rfl, fun _ => GP.out⟩ w4 hp)
              simp only [Pol.chkV] at C
              clear P hp hs HS
              go_wp2_with fail
              refine C.out.mono ?_
              rintro e w5 ⟨rfl, hb⟩
              have BE := Lib.hid (below2 BWB.out (below2 HS4.out.below hb))
              clear C hb HS4
              go_wp2_with fail
              go_ret
              exact ⟨rfl, BE.out⟩

theorem own_ModelOne : ownKnob Tryz.prog.godebug = none := by kernel_rfl
set_option maxRecDepth 100000 in
set_option maxHeartbeats 800000 in
theorem lifted_ModelOne (os : Os) (started : os.Started) (H : Type) (enc : TypeId × Value → H) :
    ReturnsInHanded {} Tryz.checked os 7 .any (Rows.modelOneSpec.pre6 enc Tryz.prog Tryz.f7 Rows.modelOneRow.domain false) (Rows.modelOneSpec.post enc Tryz.prog Tryz.f7 false true false false) := by
  refine returnsInHanded_of_change (C := Tryz.checked) own_ModelOne started (by kernel_rfl) Tryz.func7
    (ChangeSpec.witness6 (enc := enc) (C := Tryz.checked) false ⟨#[], #[.agg #[.int .i64 0, .int .i64 0, .int .i64 0, .int .i64 0, .int .i64 0], .slice none 0 0, .string ⟨#[]⟩], []⟩ 8 (by kernel_rfl) (by kernel_rfl) (by kernel_rfl) (by kernel_rfl)) ?_
  intro W base args ds gs before hval0 hW _ _
  have hval : ∀ (j : Nat) t v, Tryz.f7.params[j]? = some t → args[j]? = some v → Value.okWide Tryz.prog W .any base t v := hval0
  have hW' := hW
  obtain ⟨p, q, hA0, hV, rfl, _, _⟩ := hW
  have hA : DataW.TrodAll enc Tryz.prog W 0 (fun _ => true) true Tryz.f7.params.toList args.toList ds p := hA0
  rw [Tryz.params7] at hA hval
  obtain ⟨v0, vs0, d0, ds0, p0, q0, ha0, rfl, rfl, t0, r0⟩ := trodAll_cons hA
  obtain ⟨v1, vs1, d1, ds1, p1, q1, ha1, rfl, rfl, t1, r1⟩ := trodAll_cons r0
  obtain ⟨v2, vs2, d2, ds2, p2, q2, ha2, rfl, rfl, t2, r2⟩ := trodAll_cons r1
  obtain ⟨rfl, rfl, rfl⟩ := trodAll_nil r2
  subst ha2
  subst ha1
  obtain rfl : args = #[v0, v1, v2] := by cases args; simp_all
  obtain ⟨rfl, rfl⟩ := trodVars_none hV
  have k0 := t0
  have lt0 : ∀ x ∈ p0, x.block < W.heap.size := by obtain ⟨m, hm⟩ := k0; exact DataW.trod_lt m _ _ _ hm
  obtain ⟨a0W, a0S, a0C, a0I, a0K, rfl, h0⟩ := Mdo.open_cfg (hval 0 23 v0 rfl rfl) t0
  have k1 := t1
  have lt1 : ∀ x ∈ p1, x.block < W.heap.size := by obtain ⟨m, hm⟩ := k1; exact DataW.trod_lt m _ _ _ hm
  obtain ⟨a1, c1, z1, rfl, h1, g1⟩ := Mdo.open_steps (hval 1 24 v1 rfl rfl) t1
  obtain ⟨a2, rfl, rfl, rfl, h2⟩ := open_string Tryz.underlying9 (hval 2 9 v2 rfl rfl) t2
  clear hA0 hval0
  refine (walk_ModelOne a0W a0S a0C a0I a0K a1 c1 z1 a2 W h0 h1 g1 h2).mono fun e W' ⟨he, hnx⟩ => ?_
  subst he
  exact ⟨_, rfl, ⟨_, _, _, [], _, [], hW', trodAll_cons_mk (shut_bool Tryz.underlying4 _) trodAll_mk0, (trodAll_cons_mk (Below.trod Mdo.laidOut (by kernel_rfl) (of_decide_eq_true (by kernel_rfl)) k0 hnx lt0) (trodAll_cons_mk (Below.trod Mdo.laidOut (by kernel_rfl) (of_decide_eq_true (by kernel_rfl)) k1 hnx lt1) (trodAll_cons_mk (shut_string Tryz.underlying9 h2) trodAll_mk0))), rfl, hnx.frame _, fun h => by cases h⟩⟩

theorem modelOne_holds : Rows.ModelOneSaid :=
  OpenClaim.holds_of_wide 7 Tryz.f7 rfl rfl rfl rfl rfl rfl rfl ⟨rfl, rfl, rfl, rfl, rfl⟩ rfl rfl rfl rfl rfl (by kernel_rfl) Tryz.func7 (by kernel_rfl)
    (of_decide_eq_true (by kernel_rfl)) (by unfold Func.isWrapper; first | (rw [if_pos (by decide +kernel)]; kernel_rfl) | (rw [if_neg (by decide +kernel)]; exact ⟨rfl, rfl⟩))
    (fun os started H enc _ => lifted_ModelOne os started H enc)

#print axioms modelOne_holds
end Go.Proofs.YtbamodkgagcmnaaGreat
