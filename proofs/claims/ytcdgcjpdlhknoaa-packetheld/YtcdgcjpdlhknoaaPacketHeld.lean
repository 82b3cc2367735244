/-
  PacketHeld: for every s the law PacketHeld answers true: what is parsed is put, and parsed again, in no more bytes; its key is told by its bytes. No condition.
-/
import Derived.Test.YtcdgcjpdlhknoaaRows
import Derived.Test.YtcdgcjpdlhknoaaStc
import Derived.Test.YtcdgcjpdlhknoaaPktN
import Derived.ProofKit
import Derived.OpenShut
import Derived.ChangeMaps5
namespace Go.Proofs.Ytcdgcjpdlhknoaa
open Go.ChangeShapes Go.WideShapes Go.ChangeAt Go.RowKit Go.Shelf
open Go.ChangeMaps (open_string shut_string)
open Pkt Txt

set_option maxRecDepth 100000 in
set_option maxHeartbeats 4000000 in
theorem walk_PacketHeld (a0 : ByteArray) (_h0 : a0.size ≤ maxLen) (w : World) :
    Calls Try.prog 7 #[.string a0] w fun e W' => e = .returned (.bool true) ∧ Below w.heap.size w W' := by
  by_cases g0 : (300 : Int) < (a0.size : Int)
  · have d0 : decide ((300 : Int) < (a0.size : Int)) = true := decide_eq_true g0
    go_enter Try.func7, Try.ntmps7
    go_wp2_with fail
    refine (works_any _).mono ?_
    rintro e1 w1 ⟨rfl, hb⟩
    have BBn := Lib.hid (hb)
    clear hb 
    have BB := BBn
    clear BBn
    go_wp2_with fail
    go_ret
    exact ⟨rfl, BB.out⟩
  have d0 : decide ((300 : Int) < (a0.size : Int)) = false := decide_eq_false g0
  obtain ⟨V, x, y, F, T, p, f, e, h1, _, h3⟩ := Parse_spec a0 (by omega)
  have H1 := Lib.hid h1
  clear h1
  rcases h3 with ⟨he, rfl, rfl, rfl, rfl, rfl, rfl, rfl⟩ | ⟨rfl, h, hz⟩
  · have he2 : (e != 0) = true := bne_iff_ne.2 he
    have CC := pkt_cmp 0 ⟨#[]⟩ ⟨#[]⟩ 0 0 0 0 0 ⟨#[]⟩ ⟨#[]⟩ 0 0 0 0 true (by simp)
    clear he
    go_enter Try.func7, Try.ntmps7
    go_wp2_with fail
    refine (works_any _).mono ?_
    rintro e1 w1 ⟨rfl, hb⟩
    have BBn := Lib.hid (hb)
    clear hb 
    have BB := BBn
    clear BBn
    go_wp2_with fail
    refine (H1.out _).mono ?_
    rintro e2 w2 ⟨rfl, hb⟩
    have al := Lib.hid (below_alloc w2 (.cells (pktC 0 ⟨#[]⟩ ⟨#[]⟩ 0 0 0 0) 26))
    have BBn := Lib.hid (below2 (below2 BB.out hb) al.out)
    have P2 := Lib.hid (packed_new w2 0 ⟨#[]⟩ ⟨#[]⟩ 0 0 0 0)
    clear hb BB al
    have BB := BBn
    clear BBn
    obtain ⟨k0, k1, k2, k3, k4, k5, k6⟩ := P2.out.cells
    go_wp2_with fail
    go_ret
    exact ⟨rfl, BB.out⟩
  · have H2 := Lib.hid (Put_ok V x y F T p f h).1
    have H3 := Lib.hid (Parse_put0 V x y F T p f h)
    have H4 := Lib.hid (bytes_told V x y F T p (okP_right h))
    have H5 := Lib.hid (of_told V x y F T p (okP_right h))
    have zS := putW_size V x y F T p f h
    have CP := pkt_cmp V x y F T p f V x y F T p f true (by simp)
    have CC := key_cmp V x y F T p V x y F T p true (by simp)
    have zT : decide ((putW V x y F T p f).size ≤ a0.size) = true := decide_eq_true (by omega)
    clear h zS hz
    generalize putW V x y F T p f = S at *
    generalize recS V x y F T p = R at *
    go_enter Try.func7, Try.ntmps7
    go_wp2_with fail
    refine (works_any _).mono ?_
    rintro e1 w1 ⟨rfl, hb⟩
    have BBn := Lib.hid (hb)
    clear hb 
    have BB := BBn
    clear BBn
    go_wp2_with fail
    refine (H1.out _).mono ?_
    rintro e2 w2 ⟨rfl, hb⟩
    have al := Lib.hid (below_alloc w2 (.cells (pktC V x y F T p f) 26))
    have BBn := Lib.hid (below2 (below2 BB.out hb) al.out)
    have P2 := Lib.hid (packed_new w2 V x y F T p f)
    clear hb BB al
    have BB := BBn
    clear BBn
    obtain ⟨k0, k1, k2, k3, k4, k5, k6⟩ := P2.out.cells
    go_wp2_with fail
    refine (H2.out _).mono ?_
    rintro e3 w3 ⟨rfl, hb⟩
    have P2n := Lib.hid ((P2.out.kept hb))
    have BBn := Lib.hid (below2 BB.out hb)
    clear hb P2 BB
    have P2 := P2n
    clear P2n
    have BB := BBn
    clear BBn
    clear k0 k1 k2 k3 k4 k5 k6
    go_wp2_with fail
    refine (H3.out _).mono ?_
    rintro e4 w4 ⟨rfl, hb⟩
    have al := Lib.hid (below_alloc w4 (.cells (pktC V x y F T p f) 26))
    have P2n := Lib.hid ((P2.out.kept hb).kept al.out)
    have BBn := Lib.hid (below2 (below2 BB.out hb) al.out)
    have P4 := Lib.hid (packed_new w4 V x y F T p f)
    clear hb P2 BB al
    have P2 := P2n
    clear P2n
    have BB := BBn
    clear BBn
    obtain ⟨k0, k1, k2, k3, k4, k5, k6⟩ := P2.out.cells
    go_wp2_with fail
    refine (H4.out _).mono ?_
    rintro e5 w5 ⟨rfl, hb⟩
    have P2n := Lib.hid ((P2.out.kept hb))
    have P4n := Lib.hid ((P4.out.kept hb))
    have BBn := Lib.hid (below2 BB.out hb)
    clear hb P2 P4 BB
    have P2 := P2n
    clear P2n
    have P4 := P4n
    clear P4n
    have BB := BBn
    clear BBn
    clear k0 k1 k2 k3 k4 k5 k6
    go_wp2_with fail
    refine (H5.out _).mono ?_
    rintro e6 w6 ⟨rfl, hb⟩
    have al := Lib.hid (below_alloc w6 (.cells (keyC V x y F T p) 24))
    have P2n := Lib.hid ((P2.out.kept hb).kept al.out)
    have P4n := Lib.hid ((P4.out.kept hb).kept al.out)
    have BBn := Lib.hid (below2 (below2 BB.out hb) al.out)
    have K6 := Lib.hid (keyed_new w6 V x y F T p)
    clear hb P2 P4 BB al
    have P2 := P2n
    clear P2n
    have P4 := P4n
    clear P4n
    have BB := BBn
    clear BBn
    obtain ⟨k0, k1, k2, k3, k4, k5, k6⟩ := P2.out.cells
    obtain ⟨q0, q1, q2, q3, q4, q5, q6⟩ := P4.out.cells
    obtain ⟨c0, c1, c2, c3, c4, c5⟩ := K6.out.cells
    go_wp2_with fail
    go_ret
    exact ⟨rfl, BB.out⟩
theorem own_PacketHeld : ownKnob Try.prog.godebug = none := by kernel_rfl
set_option maxRecDepth 100000 in
set_option maxHeartbeats 800000 in
theorem lifted_PacketHeld (os : Os) (started : os.Started) (H : Type) (enc : TypeId × Value → H) :
    ReturnsInHanded {} Try.checked os 7 .any (Rows.packetHeldSpec.pre6 enc Try.prog Try.f7 Rows.packetHeldRow.domain false) (Rows.packetHeldSpec.post enc Try.prog Try.f7 false true false false) := by
  refine returnsInHanded_of_change (C := Try.checked) own_PacketHeld started (by kernel_rfl) Try.func7
    (ChangeSpec.witness6 (enc := enc) (C := Try.checked) false ⟨#[], #[.string ⟨#[]⟩], []⟩ 8 (by kernel_rfl) (by kernel_rfl) (by kernel_rfl) (by kernel_rfl)) ?_
  intro W base args ds gs before hval0 hW _ _
  have hval : ∀ (j : Nat) t v, Try.f7.params[j]? = some t → args[j]? = some v → Value.okWide Try.prog W .any base t v := hval0
  have hW' := hW
  obtain ⟨p, q, hA0, hV, rfl, _, _⟩ := hW
  have hA : DataW.TrodAll enc Try.prog W 0 (fun _ => true) true Try.f7.params.toList args.toList ds p := hA0
  rw [Try.params7] at hA hval
  obtain ⟨v0, vs0, d0, ds0, p0, q0, ha0, rfl, rfl, t0, r0⟩ := trodAll_cons hA
  obtain ⟨rfl, rfl, rfl⟩ := trodAll_nil r0
  obtain rfl : args = #[v0] := by cases args; simp_all
  obtain ⟨rfl, rfl⟩ := trodVars_none hV
  obtain ⟨a0, rfl, rfl, rfl, h0⟩ := open_string Try.underlying9 (hval 0 9 v0 rfl rfl) t0
  clear hA0 hval0
  simp only [List.append_nil] at hW'
  refine (walk_PacketHeld a0 h0 W).mono fun e W' ⟨he, hnx⟩ => ?_
  subst he
  exact ⟨_, rfl, ⟨_, _, _, [], [], [], hW', trodAll_cons_mk (shut_bool Try.underlying4 _) trodAll_mk0, (trodAll_cons_mk (shut_string Try.underlying9 h0) trodAll_mk0), rfl, hnx.frame _, fun h => by cases h⟩⟩

theorem packetHeld_holds : Rows.PacketHeldSaid :=
  OpenClaim.holds_of_wide 7 Try.f7 rfl rfl rfl rfl rfl rfl rfl ⟨rfl, rfl, rfl, rfl, rfl⟩ rfl rfl rfl rfl rfl (by kernel_rfl) Try.func7 (by kernel_rfl)
    (of_decide_eq_true (by kernel_rfl)) (by unfold Func.isWrapper; first | (rw [if_pos (by decide +kernel)]; kernel_rfl) | (rw [if_neg (by decide +kernel)]; exact ⟨rfl, rfl⟩))
    (fun os started H enc _ => lifted_PacketHeld os started H enc)

#print axioms packetHeld_holds
end Go.Proofs.Ytcdgcjpdlhknoaa
