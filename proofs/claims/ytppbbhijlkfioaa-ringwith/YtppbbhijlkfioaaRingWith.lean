/-
  RingWith: for every p, b and h the law RingWith answers true: with a backend more just those move that go to it. No condition.
-/
import Derived.Test.YtppbbhijlkfioaaRows
import Derived.Test.YtppbbhijlkfioaaBPol
import Derived.Test.YtppbbhijlkfioaaBPtr
import Derived.Test.YtppbbhijlkfioaaRinW
import Derived.Test.YtppbbhijlkfioaaPtsU
import Derived.Test.YtppbbhijlkfioaaStpS
import Derived.Test.YtppbbhijlkfioaaBPoo
import Derived.BigQuiet
import Derived.WalkSmall
import Derived.ProofKit
import Derived.OpenShut
import Derived.ChangeMaps5
namespace Go.Proofs.Ytppbbhijlkfioaa
open Go.ChangeShapes Go.WideShapes Go.ChangeAt Go.RowKit Go.Shelf
open Go.ChangeMaps (open_string shut_string)
open Rin Rgn
open Pts (Pt ptV ptsV Lies Rise ofL hsh ofL_rise Of_told Check_yes Check_no)
open Pol (below2 below_alloc Bk polV intsV chk)
open Num (LiesN numsV)

set_option maxRecDepth 100000 in
set_option maxHeartbeats 1000000 in
theorem walk_RingWith (a0 : Option Addr) (c0 : Nat) (z0 : List Bk) (y : Bk) (h : Int) (w : World) (h0 : Pol.Lies w a0 c0 z0) (_g0 : ∀ x ∈ z0, Stp.BkOk x) (s0 : z0.length ≤ 8796093022000) (_h1 : Stp.BkOk y) (_h2 : (Lit.int .u64 h).wf = true) :
    Calls Try.prog 5 #[polV a0 c0 z0, .agg #[.int .i64 y.1, .int .i64 y.2], .int .u64 h] w fun e W' => e = .returned (.bool true) ∧ Below w.heap.size w W' := by
  have HA := Lib.hid (below_alloc w (.cells #[.int .i64 y.1, .int .i64 y.2] 38))
  have H0 := Lib.hid h0
  have hC0 := h0.len
  have hM0 := h0.max
  unfold maxLen at hM0
  clear h0
  have HX0 := Lib.hid (show ∀ W, Below (w.alloc (.cells #[.int .i64 y.1, .int .i64 y.2] 38)).heap.size (w.alloc (.cells #[.int .i64 y.1, .int .i64 y.2] 38)) W → W.cell? ⟨w.heap.size, 0, none⟩ = some (.int .i64 y.1) ∧ W.cell? ⟨w.heap.size, 1, none⟩ = some (.int .i64 y.2) from fun W hW => ⟨(hW.cell (by simp)).trans (by simp), (hW.cell (by simp)).trans (by simp)⟩)
  have HA1 := Lib.hid (H0.out.kept HA.out)
  clear H0
  have hwl := Pol.with_length y z0
  by_cases g8 : 8 < z0.length
  · have d8 : decide ((8 : Int) < (z0.length : Int)) = true := decide_eq_true (by omega)
    have d8n : decide (8 < z0.length) = true := decide_eq_true g8
    go_enter Try.func5, Try.ntmps5
    go_wp2_with fail
    generalize w.alloc (.cells #[.int .i64 y.1, .int .i64 y.2] 38) = w0 at *
    refine (works_any _).mono ?_
    rintro e w1 ⟨rfl, hb⟩
    have L1 := Lib.hid (HA1.out.kept hb)
    obtain ⟨y0, y1⟩ := HX0.out w1 hb
    have X1 := Lib.hid (fun W (h : Below w1.heap.size w1 W) => HX0.out W (below2 hb h))
    have B1 := Lib.hid (below2 HA.out hb)
    clear hb HX0 HA1 HA
    go_wp2_with fail
    refine (Pol.With_told a0 c0 z0 y w1 L1.out (by omega)).mono ?_
    rintro e w2 ⟨v, rfl, ⟨aW, cW, rfl, hW⟩, hb⟩
    have L2 := Lib.hid (L1.out.kept hb)
    have W2 := Lib.hid hW
    have X2 := Lib.hid (fun W (h : Below w2.heap.size w2 W) => X1.out W (below2 hb h))
    clear y0 y1
    obtain ⟨y0, y1⟩ := X1.out w2 hb
    have B2 := Lib.hid (below2 B1.out hb)
    clear hb L1 X1 B1 hW
    go_wp2_with fail
    go_ret
    exact ⟨rfl, B2.out⟩
  have d8 : decide ((8 : Int) < (z0.length : Int)) = false := decide_eq_false (by omega)
  have d8n : decide (8 < z0.length) = false := decide_eq_false g8
  by_cases hc : ¬ chk z0
  · go_enter Try.func5, Try.ntmps5
    go_wp2_with fail
    generalize w.alloc (.cells #[.int .i64 y.1, .int .i64 y.2] 38) = w0 at *
    refine (works_any _).mono ?_
    rintro e w1 ⟨rfl, hb⟩
    have L1 := Lib.hid (HA1.out.kept hb)
    obtain ⟨y0, y1⟩ := HX0.out w1 hb
    have X1 := Lib.hid (fun W (h : Below w1.heap.size w1 W) => HX0.out W (below2 hb h))
    have B1 := Lib.hid (below2 HA.out hb)
    clear hb HX0 HA1 HA
    go_wp2_with fail
    refine (Pol.With_told a0 c0 z0 y w1 L1.out (by omega)).mono ?_
    rintro e w2 ⟨v, rfl, ⟨aW, cW, rfl, hW⟩, hb⟩
    have L2 := Lib.hid (L1.out.kept hb)
    have W2 := Lib.hid hW
    have X2 := Lib.hid (fun W (h : Below w2.heap.size w2 W) => X1.out W (below2 hb h))
    clear y0 y1
    obtain ⟨y0, y1⟩ := X1.out w2 hb
    have B2 := Lib.hid (below2 B1.out hb)
    clear hb L1 X1 B1 hW
    go_wp2_with fail
    refine (Check_no a0 c0 z0 hc w2 L2.out).mono ?_
    rintro e w3 ⟨rfl, hb⟩
    have L3 := Lib.hid (L2.out.kept hb)
    have W3 := Lib.hid (W2.out.kept hb)
    have X3 := Lib.hid (fun W (h : Below w3.heap.size w3 W) => X2.out W (below2 hb h))
    clear y0 y1
    obtain ⟨y0, y1⟩ := X2.out w3 hb
    have B3 := Lib.hid (below2 B2.out hb)
    clear hb L2 X2 B2 W2
    go_wp2_with fail
    go_ret
    exact ⟨rfl, B3.out⟩
  replace hc := Classical.not_not.1 hc
  by_cases hw : ¬ chk (Pol.with_ z0 y)
  · go_enter Try.func5, Try.ntmps5
    go_wp2_with fail
    generalize w.alloc (.cells #[.int .i64 y.1, .int .i64 y.2] 38) = w0 at *
    refine (works_any _).mono ?_
    rintro e w1 ⟨rfl, hb⟩
    have L1 := Lib.hid (HA1.out.kept hb)
    obtain ⟨y0, y1⟩ := HX0.out w1 hb
    have X1 := Lib.hid (fun W (h : Below w1.heap.size w1 W) => HX0.out W (below2 hb h))
    have B1 := Lib.hid (below2 HA.out hb)
    clear hb HX0 HA1 HA
    go_wp2_with fail
    refine (Pol.With_told a0 c0 z0 y w1 L1.out (by omega)).mono ?_
    rintro e w2 ⟨v, rfl, ⟨aW, cW, rfl, hW⟩, hb⟩
    have L2 := Lib.hid (L1.out.kept hb)
    have W2 := Lib.hid hW
    have X2 := Lib.hid (fun W (h : Below w2.heap.size w2 W) => X1.out W (below2 hb h))
    clear y0 y1
    obtain ⟨y0, y1⟩ := X1.out w2 hb
    have B2 := Lib.hid (below2 B1.out hb)
    clear hb L1 X1 B1 hW
    go_wp2_with fail
    refine (Check_yes a0 c0 z0 hc w2 L2.out).mono ?_
    rintro e w3 ⟨rfl, hb⟩
    have L3 := Lib.hid (L2.out.kept hb)
    have W3 := Lib.hid (W2.out.kept hb)
    have X3 := Lib.hid (fun W (h : Below w3.heap.size w3 W) => X2.out W (below2 hb h))
    clear y0 y1
    obtain ⟨y0, y1⟩ := X2.out w3 hb
    have B3 := Lib.hid (below2 B2.out hb)
    clear hb L2 X2 B2 W2
    go_wp2_with fail
    refine (Check_no aW cW (Pol.with_ z0 y) hw w3 W3.out).mono ?_
    rintro e w4 ⟨rfl, hb⟩
    have L4 := Lib.hid (L3.out.kept hb)
    have W4 := Lib.hid (W3.out.kept hb)
    have X4 := Lib.hid (fun W (h : Below w4.heap.size w4 W) => X3.out W (below2 hb h))
    clear y0 y1
    obtain ⟨y0, y1⟩ := X3.out w4 hb
    have B4 := Lib.hid (below2 B3.out hb)
    clear hb L3 X3 B3 W3
    go_wp2_with fail
    go_ret
    exact ⟨rfl, B4.out⟩
  replace hw := Classical.not_not.1 hw
  by_cases hf : 0 ≤ Pol.find z0 y.1 0
  · have df : decide (0 ≤ Pol.find z0 y.1 0) = true := decide_eq_true hf
    go_enter Try.func5, Try.ntmps5
    go_wp2_with fail
    generalize w.alloc (.cells #[.int .i64 y.1, .int .i64 y.2] 38) = w0 at *
    refine (works_any _).mono ?_
    rintro e w1 ⟨rfl, hb⟩
    have L1 := Lib.hid (HA1.out.kept hb)
    obtain ⟨y0, y1⟩ := HX0.out w1 hb
    have X1 := Lib.hid (fun W (h : Below w1.heap.size w1 W) => HX0.out W (below2 hb h))
    have B1 := Lib.hid (below2 HA.out hb)
    clear hb HX0 HA1 HA
    go_wp2_with fail
    refine (Pol.With_told a0 c0 z0 y w1 L1.out (by omega)).mono ?_
    rintro e w2 ⟨v, rfl, ⟨aW, cW, rfl, hW⟩, hb⟩
    have L2 := Lib.hid (L1.out.kept hb)
    have W2 := Lib.hid hW
    have X2 := Lib.hid (fun W (h : Below w2.heap.size w2 W) => X1.out W (below2 hb h))
    clear y0 y1
    obtain ⟨y0, y1⟩ := X1.out w2 hb
    have B2 := Lib.hid (below2 B1.out hb)
    clear hb L1 X1 B1 hW
    go_wp2_with fail
    refine (Check_yes a0 c0 z0 hc w2 L2.out).mono ?_
    rintro e w3 ⟨rfl, hb⟩
    have L3 := Lib.hid (L2.out.kept hb)
    have W3 := Lib.hid (W2.out.kept hb)
    have X3 := Lib.hid (fun W (h : Below w3.heap.size w3 W) => X2.out W (below2 hb h))
    clear y0 y1
    obtain ⟨y0, y1⟩ := X2.out w3 hb
    have B3 := Lib.hid (below2 B2.out hb)
    clear hb L2 X2 B2 W2
    go_wp2_with fail
    refine (Check_yes aW cW (Pol.with_ z0 y) hw w3 W3.out).mono ?_
    rintro e w4 ⟨rfl, hb⟩
    have L4 := Lib.hid (L3.out.kept hb)
    have W4 := Lib.hid (W3.out.kept hb)
    have X4 := Lib.hid (fun W (h : Below w4.heap.size w4 W) => X3.out W (below2 hb h))
    clear y0 y1
    obtain ⟨y0, y1⟩ := X3.out w4 hb
    have B4 := Lib.hid (below2 B3.out hb)
    clear hb L3 X3 B3 W3
    go_wp2_with fail
    refine (Pol.Find_told a0 c0 z0 y.1 w4 L4.out).mono ?_
    rintro e w5 ⟨rfl, hb⟩
    have L5 := Lib.hid (L4.out.kept hb)
    have W5 := Lib.hid (W4.out.kept hb)
    have X5 := Lib.hid (fun W (h : Below w5.heap.size w5 W) => X4.out W (below2 hb h))
    clear y0 y1
    obtain ⟨y0, y1⟩ := X4.out w5 hb
    have B5 := Lib.hid (below2 B4.out hb)
    clear hb L4 X4 B4 W4
    generalize Pol.find z0 y.1 0 = q at *
    go_wp2_with fail
    go_ret
    exact ⟨rfl, B5.out⟩
  have df : decide (0 ≤ Pol.find z0 y.1 0) = false := decide_eq_false hf
  have HM := Lib.hid (moved_with hsh y ((Pol.find_neg z0 y.1).1 (Int.not_le.1 hf)) h)
  clear hf
  go_enter Try.func5, Try.ntmps5
  go_wp2_with fail
  generalize w.alloc (.cells #[.int .i64 y.1, .int .i64 y.2] 38) = w0 at *
  refine (works_any _).mono ?_
  rintro e w1 ⟨rfl, hb⟩
  have L1 := Lib.hid (HA1.out.kept hb)
  obtain ⟨y0, y1⟩ := HX0.out w1 hb
  have X1 := Lib.hid (fun W (h : Below w1.heap.size w1 W) => HX0.out W (below2 hb h))
  have B1 := Lib.hid (below2 HA.out hb)
  clear hb HX0 HA1 HA
  go_wp2_with fail
  refine (Pol.With_told a0 c0 z0 y w1 L1.out (by omega)).mono ?_
  rintro e w2 ⟨v, rfl, ⟨aW, cW, rfl, hW⟩, hb⟩
  have L2 := Lib.hid (L1.out.kept hb)
  have W2 := Lib.hid hW
  have X2 := Lib.hid (fun W (h : Below w2.heap.size w2 W) => X1.out W (below2 hb h))
  clear y0 y1
  obtain ⟨y0, y1⟩ := X1.out w2 hb
  have B2 := Lib.hid (below2 B1.out hb)
  clear hb L1 X1 B1 hW
  go_wp2_with fail
  refine (Check_yes a0 c0 z0 hc w2 L2.out).mono ?_
  rintro e w3 ⟨rfl, hb⟩
  have L3 := Lib.hid (L2.out.kept hb)
  have W3 := Lib.hid (W2.out.kept hb)
  have X3 := Lib.hid (fun W (h : Below w3.heap.size w3 W) => X2.out W (below2 hb h))
  clear y0 y1
  obtain ⟨y0, y1⟩ := X2.out w3 hb
  have B3 := Lib.hid (below2 B2.out hb)
  clear hb L2 X2 B2 W2
  go_wp2_with fail
  refine (Check_yes aW cW (Pol.with_ z0 y) hw w3 W3.out).mono ?_
  rintro e w4 ⟨rfl, hb⟩
  have L4 := Lib.hid (L3.out.kept hb)
  have W4 := Lib.hid (W3.out.kept hb)
  have X4 := Lib.hid (fun W (h : Below w4.heap.size w4 W) => X3.out W (below2 hb h))
  clear y0 y1
  obtain ⟨y0, y1⟩ := X3.out w4 hb
  have B4 := Lib.hid (below2 B3.out hb)
  clear hb L3 X3 B3 W3
  go_wp2_with fail
  refine (Pol.Find_told a0 c0 z0 y.1 w4 L4.out).mono ?_
  rintro e w5 ⟨rfl, hb⟩
  have L5 := Lib.hid (L4.out.kept hb)
  have W5 := Lib.hid (W4.out.kept hb)
  have X5 := Lib.hid (fun W (h : Below w5.heap.size w5 W) => X4.out W (below2 hb h))
  clear y0 y1
  obtain ⟨y0, y1⟩ := X4.out w5 hb
  have B5 := Lib.hid (below2 B4.out hb)
  clear hb L4 X4 B4 W4
  generalize Pol.find z0 y.1 0 = q at *
  have PP := Lib.hid (Pick_told a0 c0 z0 h w5 L5.out (by omega))
  go_wp2_with fail
  refine PP.out.mono ?_
  rintro e w6 ⟨rfl, hb⟩
  have W6 := Lib.hid (W5.out.kept hb)
  have X6 := Lib.hid (fun W (h : Below w6.heap.size w6 W) => X5.out W (below2 hb h))
  have B6 := Lib.hid (below2 B5.out hb)
  clear hb W5 X5 B5 PP L5 y0 y1
  have PW := Lib.hid (Pick_told aW cW (Pol.with_ z0 y) h w6 W6.out (by omega))
  generalize succL (ofL hsh z0) h = s at *
  generalize succL (ofL hsh (Pol.with_ z0 y)) h = t at *
  go_wp2_with fail
  refine PW.out.mono ?_
  rintro e w7 ⟨rfl, hb⟩
  obtain ⟨y0, y1⟩ := X6.out w7 hb
  have B7 := Lib.hid (below2 B6.out hb)
  clear hb W6 X6 B6 PW
  by_cases hts : t = s
  · have dt : (t == s) = true := beq_iff_eq.2 hts
    clear hts HM
    go_wp2_with fail
    go_ret
    exact ⟨rfl, B7.out⟩
  · have dt : (t == s) = false := beq_false_of_ne hts
    have du : (t == y.1) = true := beq_iff_eq.2 (HM.out.resolve_left hts)
    clear hts HM
    go_wp2_with fail
    go_ret
    exact ⟨rfl, B7.out⟩

theorem own_RingWith : ownKnob Try.prog.godebug = none := by kernel_rfl
set_option maxRecDepth 100000 in
set_option maxHeartbeats 800000 in
theorem lifted_RingWith (os : Os) (started : os.Started) (H : Type) (enc : TypeId × Value → H) :
    ReturnsInHanded {} Try.checked os 5 .any (Rows.ringWithSpec.pre6 enc Try.prog Try.f5 Rows.ringWithRow.domain false) (Rows.ringWithSpec.post enc Try.prog Try.f5 false true false false) := by
  refine returnsInHanded_of_change_sized (C := Try.checked) own_RingWith started (by kernel_rfl) Try.func5
    (ChangeSpec.witness6 (enc := enc) (C := Try.checked) false ⟨#[], #[.slice none 0 0, .agg #[.int .i64 0, .int .i64 0], .int .u64 0], []⟩ 8 (by kernel_rfl) (by kernel_rfl) (by kernel_rfl) (by kernel_rfl)) ?_
  intro W base args ds gs before hval0 hW _ hsz _
  have hval : ∀ (j : Nat) t v, Try.f5.params[j]? = some t → args[j]? = some v → Value.okWide Try.prog W .any base t v := hval0
  have hW' := hW
  obtain ⟨p, q, hA0, hV, rfl, _, _⟩ := hW
  have hA : DataW.TrodAll enc Try.prog W 0 (fun _ => true) true Try.f5.params.toList args.toList ds p := hA0
  rw [Try.params5] at hA hval
  obtain ⟨v0, vs0, d0, ds0, p0, q0, ha0, rfl, rfl, t0, r0⟩ := trodAll_cons hA
  obtain ⟨v1, vs1, d1, ds1, p1, q1, ha1, rfl, rfl, t1, r1⟩ := trodAll_cons r0
  obtain ⟨v2, vs2, d2, ds2, p2, q2, ha2, rfl, rfl, t2, r2⟩ := trodAll_cons r1
  obtain ⟨rfl, rfl, rfl⟩ := trodAll_nil r2
  subst ha2
  subst ha1
  obtain rfl : args = #[v0, v1, v2] := by cases args; simp_all
  obtain ⟨rfl, rfl⟩ := trodVars_none hV
  have k0 := t0
  have lt0 : ∀ x ∈ p0, x.block < W.heap.size := by obtain ⟨m, hm⟩ := k0; exact DataW.trod_lt m _ _ _ hm
  obtain ⟨a0, c0, z0, rfl, h0, g0⟩ := Stp.open_pool (hval 0 30 v0 rfl rfl) t0
  have k1 := t1
  have lt1 : ∀ x ∈ p1, x.block < W.heap.size := by obtain ⟨m, hm⟩ := k1; exact DataW.trod_lt m _ _ _ hm
  obtain ⟨a1, rfl, h1⟩ := Stp.open_backend (hval 1 38 v1 rfl rfl) t1
  obtain ⟨a2, rfl, rfl, rfl, h2⟩ := open_int Try.underlying23 (hval 2 23 v2 rfl rfl) t2
  have s0 := Stp.pool_len k0 hsz (j := 0) (by rw [Try.params5]; rfl) rfl
  clear hA0 hval0
  refine (walk_RingWith a0 c0 z0 a1 a2 W h0 g0 s0 h1 h2).mono fun e W' ⟨he, hnx⟩ => ?_
  subst he
  exact ⟨_, rfl, ⟨_, _, _, [], _, [], hW', trodAll_cons_mk (shut_bool Try.underlying4 _) trodAll_mk0, (trodAll_cons_mk (Below.trod Stp.laidOut (by kernel_rfl) (of_decide_eq_true (by kernel_rfl)) k0 hnx lt0) (trodAll_cons_mk (Below.trod Stp.laidOut (by kernel_rfl) (of_decide_eq_true (by kernel_rfl)) k1 hnx lt1) (trodAll_cons_mk (shut_int Try.underlying23 h2) trodAll_mk0))), rfl, hnx.frame _, fun h => by cases h⟩⟩

theorem ringWith_holds : Rows.RingWithSaid :=
  OpenClaim.holds_of_wide 5 Try.f5 rfl rfl rfl rfl rfl rfl rfl ⟨rfl, rfl, rfl, rfl, rfl⟩ rfl rfl rfl rfl rfl (by kernel_rfl) Try.func5 (by kernel_rfl)
    (of_decide_eq_true (by kernel_rfl)) (by unfold Func.isWrapper; first | (rw [if_pos (by decide +kernel)]; kernel_rfl) | (rw [if_neg (by decide +kernel)]; exact ⟨rfl, rfl⟩))
    (fun os started H enc _ => lifted_RingWith os started H enc)

#print axioms ringWith_holds
end Go.Proofs.Ytppbbhijlkfioaa
