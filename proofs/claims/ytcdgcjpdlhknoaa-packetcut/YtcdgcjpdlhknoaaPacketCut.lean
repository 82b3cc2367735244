/-
  PacketCut: for every p and n the law PacketCut answers true: a packet that is cut is refused. No condition.
-/
import Derived.Test.YtcdgcjpdlhknoaaRows
import Derived.Test.YtcdgcjpdlhknoaaStc
import Derived.Test.YtcdgcjpdlhknoaaPktN
import Derived.ProofKit
import Derived.OpenShut
import Derived.ChangeMaps5
namespace Go.Proofs.Ytcdgcjpdlhknoaa
open Go.ChangeShapes Go.WideShapes Go.ChangeAt Go.RowKit Go.Shelf
open Go.ChangeMaps (open_string shut_string)
open Pkt Txt

set_option maxRecDepth 100000 in
set_option maxHeartbeats 4000000 in
theorem walk_PacketCut (V : Int) (x y : ByteArray) (F T p f : Int) (n : Int) (h0 : Stc.KeyOk V x y F T p) (_g0 : (Lit.int .i64 f).wf = true) (_h1 : (Lit.int .i64 n).wf = true) (w : World) :
    Calls Try.prog 9 #[pktV V x y F T p f, .int .i64 n] w fun e W' => e = .returned (.bool true) ∧ Below w.heap.size w W' := by
  cases hF : few x y with
  | false =>
    have HF := Lib.hid (Few_any V x y F T p false hF)
    have P0 := Lib.hid (packed_new w V x y F T p f)
    have BB := Lib.hid (below_alloc w (.cells (pktC V x y F T p f) 26))
    go_enter Try.func9, Try.ntmps9
    go_wp2_with fail
    refine (works_any _).mono ?_
    rintro e1 w1 ⟨rfl, hb⟩
    have P0n := Lib.hid ((P0.out.kept hb))
    have BBn := Lib.hid (below2 BB.out hb)
    clear hb P0 BB
    have P0 := P0n
    clear P0n
    have BB := BBn
    clear BBn
    obtain ⟨k0, k1, k2, k3, k4, k5, k6⟩ := P0.out.cells
    go_wp2_with fail
    refine (HF.out _).mono ?_
    rintro e2 w2 ⟨rfl, hb⟩
    have P0n := Lib.hid ((P0.out.kept hb))
    have BBn := Lib.hid (below2 BB.out hb)
    clear hb P0 BB
    have P0 := P0n
    clear P0n
    have BB := BBn
    clear BBn
    clear k0 k1 k2 k3 k4 k5 k6
    obtain ⟨k0, k1, k2, k3, k4, k5, k6⟩ := P0.out.cells
    go_wp2_with fail
    go_ret
    exact ⟨rfl, BB.out⟩
  | true =>
  have HF := Lib.hid (Few_any V x y F T p true hF)
  have fx := few_yes hF
  by_cases h : okP V x y F T p f
  · have H1 := Lib.hid (Put_ok V x y F T p f h).1
    have zS := putW_size V x y F T p f h
    have zm := most_le p
    have zh : hl V ≤ 40 := by unfold hl; split <;> omega
    have zT : (putW V x y F T p f).size ≤ 60 := by omega
    by_cases hn0 : n < 0
    · have dn : decide (n < 0) = true := decide_eq_true hn0
      clear h zS zm zh h0 hF fx hn0
      generalize putW V x y F T p f = S at *
      have P0 := Lib.hid (packed_new w V x y F T p f)
      have BB := Lib.hid (below_alloc w (.cells (pktC V x y F T p f) 26))
      go_enter Try.func9, Try.ntmps9
      go_wp2_with fail
      refine (works_any _).mono ?_
      rintro e1 w1 ⟨rfl, hb⟩
      have P0n := Lib.hid ((P0.out.kept hb))
      have BBn := Lib.hid (below2 BB.out hb)
      clear hb P0 BB
      have P0 := P0n
      clear P0n
      have BB := BBn
      clear BBn
      obtain ⟨k0, k1, k2, k3, k4, k5, k6⟩ := P0.out.cells
      go_wp2_with fail
      refine (HF.out _).mono ?_
      rintro e2 w2 ⟨rfl, hb⟩
      have P0n := Lib.hid ((P0.out.kept hb))
      have BBn := Lib.hid (below2 BB.out hb)
      clear hb P0 BB
      have P0 := P0n
      clear P0n
      have BB := BBn
      clear BBn
      clear k0 k1 k2 k3 k4 k5 k6
      obtain ⟨k0, k1, k2, k3, k4, k5, k6⟩ := P0.out.cells
      go_wp2_with fail
      refine (H1.out _).mono ?_
      rintro e3 w3 ⟨rfl, hb⟩
      have P0n := Lib.hid ((P0.out.kept hb))
      have BBn := Lib.hid (below2 BB.out hb)
      clear hb P0 BB
      have P0 := P0n
      clear P0n
      have BB := BBn
      clear BBn
      clear k0 k1 k2 k3 k4 k5 k6
      go_wp2_with fail
      go_ret
      exact ⟨rfl, BB.out⟩
    have dn : decide (n < 0) = false := decide_eq_false hn0
    obtain ⟨m, rfl⟩ := Int.eq_ofNat_of_zero_le (show 0 ≤ n by omega)
    by_cases hm : (putW V x y F T p f).size ≤ m
    · have dm : decide ((putW V x y F T p f).size ≤ m) = true := decide_eq_true hm
      have dm2 : decide (((putW V x y F T p f).size : Int) ≤ (m : Int)) = true := decide_eq_true (by omega)
      clear h zS zm zh h0 hF fx hn0 hm
      generalize putW V x y F T p f = S at *
      have P0 := Lib.hid (packed_new w V x y F T p f)
      have BB := Lib.hid (below_alloc w (.cells (pktC V x y F T p f) 26))
      go_enter Try.func9, Try.ntmps9
      go_wp2_with fail
      refine (works_any _).mono ?_
      rintro e1 w1 ⟨rfl, hb⟩
      have P0n := Lib.hid ((P0.out.kept hb))
      have BBn := Lib.hid (below2 BB.out hb)
      clear hb P0 BB
      have P0 := P0n
      clear P0n
      have BB := BBn
      clear BBn
      obtain ⟨k0, k1, k2, k3, k4, k5, k6⟩ := P0.out.cells
      go_wp2_with fail
      refine (HF.out _).mono ?_
      rintro e2 w2 ⟨rfl, hb⟩
      have P0n := Lib.hid ((P0.out.kept hb))
      have BBn := Lib.hid (below2 BB.out hb)
      clear hb P0 BB
      have P0 := P0n
      clear P0n
      have BB := BBn
      clear BBn
      clear k0 k1 k2 k3 k4 k5 k6
      obtain ⟨k0, k1, k2, k3, k4, k5, k6⟩ := P0.out.cells
      go_wp2_with fail
      refine (H1.out _).mono ?_
      rintro e3 w3 ⟨rfl, hb⟩
      have P0n := Lib.hid ((P0.out.kept hb))
      have BBn := Lib.hid (below2 BB.out hb)
      clear hb P0 BB
      have P0 := P0n
      clear P0n
      have BB := BBn
      clear BBn
      clear k0 k1 k2 k3 k4 k5 k6
      go_wp2_with fail
      go_ret
      exact ⟨rfl, BB.out⟩
    have dm : decide ((putW V x y F T p f).size ≤ m) = false := decide_eq_false hm
    have dm2 : decide (((putW V x y F T p f).size : Int) ≤ (m : Int)) = false := decide_eq_false (by omega)
    obtain ⟨c, hc, h2⟩ := Parse_cut V x y F T p f h m (by omega)
    have H2 := Lib.hid h2
    have hlt : m ≤ (putW V x y F T p f).size := by omega
    have CC := pkt_cmp 0 ⟨#[]⟩ ⟨#[]⟩ 0 0 0 0 0 ⟨#[]⟩ ⟨#[]⟩ 0 0 0 0 true (by simp)
    clear h zS zm zh h0 hF fx hn0 hm h2
    generalize putW V x y F T p f = S at *
    rcases hc with rfl | rfl
    all_goals
      have P0 := Lib.hid (packed_new w V x y F T p f)
      have BB := Lib.hid (below_alloc w (.cells (pktC V x y F T p f) 26))
      go_enter Try.func9, Try.ntmps9
      go_wp2_with fail
      refine (works_any _).mono ?_
      rintro e1 w1 ⟨rfl, hb⟩
      have P0n := Lib.hid ((P0.out.kept hb))
      have BBn := Lib.hid (below2 BB.out hb)
      clear hb P0 BB
      have P0 := P0n
      clear P0n
      have BB := BBn
      clear BBn
      obtain ⟨k0, k1, k2, k3, k4, k5, k6⟩ := P0.out.cells
      go_wp2_with fail
      refine (HF.out _).mono ?_
      rintro e2 w2 ⟨rfl, hb⟩
      have P0n := Lib.hid ((P0.out.kept hb))
      have BBn := Lib.hid (below2 BB.out hb)
      clear hb P0 BB
      have P0 := P0n
      clear P0n
      have BB := BBn
      clear BBn
      clear k0 k1 k2 k3 k4 k5 k6
      obtain ⟨k0, k1, k2, k3, k4, k5, k6⟩ := P0.out.cells
      go_wp2_with fail
      refine (H1.out _).mono ?_
      rintro e3 w3 ⟨rfl, hb⟩
      have P0n := Lib.hid ((P0.out.kept hb))
      have BBn := Lib.hid (below2 BB.out hb)
      clear hb P0 BB
      have P0 := P0n
      clear P0n
      have BB := BBn
      clear BBn
      clear k0 k1 k2 k3 k4 k5 k6
      go_wp2_with fail
      refine (H2.out _).mono ?_
      rintro e4 w4 ⟨rfl, hb⟩
      have al := Lib.hid (below_alloc w4 (.cells (pktC 0 ⟨#[]⟩ ⟨#[]⟩ 0 0 0 0) 26))
      have BBn := Lib.hid (below2 (below2 BB.out hb) al.out)
      have P4 := Lib.hid (packed_new w4 0 ⟨#[]⟩ ⟨#[]⟩ 0 0 0 0)
      clear hb BB al
      have BB := BBn
      clear BBn
      obtain ⟨q0, q1, q2, q3, q4, q5, q6⟩ := P4.out.cells
      go_wp2_with fail
      go_ret
      exact ⟨rfl, BB.out⟩
  · have H1 := Lib.hid (Put_not V x y F T p f h0.p h).1
    have he : (errW V F T p f != 0) = true := bne_iff_ne.2 (errW_ne V F T p f)
    clear h h0
    generalize errW V F T p f = e at *
    have P0 := Lib.hid (packed_new w V x y F T p f)
    have BB := Lib.hid (below_alloc w (.cells (pktC V x y F T p f) 26))
    go_enter Try.func9, Try.ntmps9
    go_wp2_with fail
    refine (works_any _).mono ?_
    rintro e1 w1 ⟨rfl, hb⟩
    have P0n := Lib.hid ((P0.out.kept hb))
    have BBn := Lib.hid (below2 BB.out hb)
    clear hb P0 BB
    have P0 := P0n
    clear P0n
    have BB := BBn
    clear BBn
    obtain ⟨k0, k1, k2, k3, k4, k5, k6⟩ := P0.out.cells
    go_wp2_with fail
    refine (HF.out _).mono ?_
    rintro e2 w2 ⟨rfl, hb⟩
    have P0n := Lib.hid ((P0.out.kept hb))
    have BBn := Lib.hid (below2 BB.out hb)
    clear hb P0 BB
    have P0 := P0n
    clear P0n
    have BB := BBn
    clear BBn
    clear k0 k1 k2 k3 k4 k5 k6
    obtain ⟨k0, k1, k2, k3, k4, k5, k6⟩ := P0.out.cells
    go_wp2_with fail
    refine (H1.out _).mono ?_
    rintro e3 w3 ⟨rfl, hb⟩
    have P0n := Lib.hid ((P0.out.kept hb))
    have BBn := Lib.hid (below2 BB.out hb)
    clear hb P0 BB
    have P0 := P0n
    clear P0n
    have BB := BBn
    clear BBn
    clear k0 k1 k2 k3 k4 k5 k6
    go_wp2_with fail
    go_ret
    exact ⟨rfl, BB.out⟩
theorem own_PacketCut : ownKnob Try.prog.godebug = none := by kernel_rfl
set_option maxRecDepth 100000 in
set_option maxHeartbeats 800000 in
theorem lifted_PacketCut (os : Os) (started : os.Started) (H : Type) (enc : TypeId × Value → H) :
    ReturnsInHanded {} Try.checked os 9 .any (Rows.packetCutSpec.pre6 enc Try.prog Try.f9 Rows.packetCutRow.domain false) (Rows.packetCutSpec.post enc Try.prog Try.f9 false true false false) := by
  refine returnsInHanded_of_change (C := Try.checked) own_PacketCut started (by kernel_rfl) Try.func9
    (ChangeSpec.witness6 (enc := enc) (C := Try.checked) false ⟨#[], #[.agg #[.int .i64 0, .string ⟨#[]⟩, .string ⟨#[]⟩, .int .i64 0, .int .i64 0, .int .i64 0, .int .i64 0], .int .i64 0], []⟩ 8 (by kernel_rfl) (by kernel_rfl) (by kernel_rfl) (by kernel_rfl)) ?_
  intro W base args ds gs before hval0 hW _ _
  have hval : ∀ (j : Nat) t v, Try.f9.params[j]? = some t → args[j]? = some v → Value.okWide Try.prog W .any base t v := hval0
  have hW' := hW
  obtain ⟨p, q, hA0, hV, rfl, _, _⟩ := hW
  have hA : DataW.TrodAll enc Try.prog W 0 (fun _ => true) true Try.f9.params.toList args.toList ds p := hA0
  rw [Try.params9] at hA hval
  obtain ⟨v0, vs0, d0, ds0, p0, q0, ha0, rfl, rfl, t0, r0⟩ := trodAll_cons hA
  obtain ⟨v1, vs1, d1, ds1, p1, q1, ha1, rfl, rfl, t1, r1⟩ := trodAll_cons r0
  obtain ⟨rfl, rfl, rfl⟩ := trodAll_nil r1
  subst ha1
  obtain rfl : args = #[v0, v1] := by cases args; simp_all
  obtain ⟨rfl, rfl⟩ := trodVars_none hV
  obtain ⟨a0v, a0x, a0y, a0f, a0t, a0p, a0g, rfl, rfl, rfl, h0, g0⟩ := Stc.open_pkt (hval 0 26 v0 rfl rfl) t0
  obtain ⟨a1, rfl, rfl, rfl, h1⟩ := open_int Try.underlying3 (hval 1 3 v1 rfl rfl) t1
  clear hA0 hval0
  simp only [List.append_nil] at hW'
  refine (walk_PacketCut a0v a0x a0y a0f a0t a0p a0g a1 h0 g0 h1 W).mono fun e W' ⟨he, hnx⟩ => ?_
  subst he
  exact ⟨_, rfl, ⟨_, _, _, [], [], [], hW', trodAll_cons_mk (shut_bool Try.underlying4 _) trodAll_mk0, (trodAll_cons_mk (Stc.shut_pkt h0 g0) (trodAll_cons_mk (shut_int Try.underlying3 h1) trodAll_mk0)), rfl, hnx.frame _, fun h => by cases h⟩⟩

theorem packetCut_holds : Rows.PacketCutSaid :=
  OpenClaim.holds_of_wide 9 Try.f9 rfl rfl rfl rfl rfl rfl rfl ⟨rfl, rfl, rfl, rfl, rfl⟩ rfl rfl rfl rfl rfl (by kernel_rfl) Try.func9 (by kernel_rfl)
    (of_decide_eq_true (by kernel_rfl)) (by unfold Func.isWrapper; first | (rw [if_pos (by decide +kernel)]; kernel_rfl) | (rw [if_neg (by decide +kernel)]; exact ⟨rfl, rfl⟩))
    (fun os started H enc _ => lifted_PacketCut os started H enc)

#print axioms packetCut_holds
end Go.Proofs.Ytcdgcjpdlhknoaa
