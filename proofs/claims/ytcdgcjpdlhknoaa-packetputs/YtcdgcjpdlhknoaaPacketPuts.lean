/-
  PacketPuts: for every p the law PacketPuts answers true: a packet, as bytes, and what is wrong, is just what the document says; so is whether it closes. No condition.
-/
import Derived.Test.YtcdgcjpdlhknoaaRows
import Derived.Test.YtcdgcjpdlhknoaaStc
import Derived.Test.YtcdgcjpdlhknoaaPktN
import Derived.ProofKit
import Derived.OpenShut
import Derived.ChangeMaps5
namespace Go.Proofs.Ytcdgcjpdlhknoaa
open Go.ChangeShapes Go.WideShapes Go.ChangeAt Go.RowKit Go.Shelf
open Go.ChangeMaps (open_string shut_string)
open Pkt Txt

theorem held7 {w W W' : World} {h : Nat} {V : Int} {x y : ByteArray} {F T p f : Int} (hS : Below w.heap.size w W ∧ Packed W h V x y F T p f ∧ W.cell? ⟨h, 0, none⟩ = some (.int .i64 V) ∧ W.cell? ⟨h, 1, none⟩ = some (.string x) ∧ W.cell? ⟨h, 2, none⟩ = some (.string y) ∧ W.cell? ⟨h, 3, none⟩ = some (.int .i64 F) ∧ W.cell? ⟨h, 4, none⟩ = some (.int .i64 T) ∧ W.cell? ⟨h, 5, none⟩ = some (.int .i64 p) ∧ W.cell? ⟨h, 6, none⟩ = some (.int .i64 f)) (hb : Below W.heap.size W W') :
    Below w.heap.size w W' ∧ Packed W' h V x y F T p f ∧ W'.cell? ⟨h, 0, none⟩ = some (.int .i64 V) ∧ W'.cell? ⟨h, 1, none⟩ = some (.string x) ∧ W'.cell? ⟨h, 2, none⟩ = some (.string y) ∧ W'.cell? ⟨h, 3, none⟩ = some (.int .i64 F) ∧ W'.cell? ⟨h, 4, none⟩ = some (.int .i64 T) ∧ W'.cell? ⟨h, 5, none⟩ = some (.int .i64 p) ∧ W'.cell? ⟨h, 6, none⟩ = some (.int .i64 f) :=
  have h1 := hS.2.1.kept hb
  ⟨below2 hS.1 hb, h1, h1.cells⟩

set_option maxRecDepth 100000 in
set_option maxHeartbeats 4000000 in
theorem walk_PacketPuts (V : Int) (x y : ByteArray) (F T p f : Int) (h0 : Stc.KeyOk V x y F T p) (_g0 : (Lit.int .i64 f).wf = true) (w : World) :
    Calls Try.prog 4 #[pktV V x y F T p f] w fun e W' => e = .returned (.bool true) ∧ Below w.heap.size w W' := by
  cases hF : few x y with
  | false =>
    have HF := Lib.hid (Few_any V x y F T p false hF)
    have P0 := Lib.hid (packed_new w V x y F T p f)
    have BB := Lib.hid (below_alloc w (.cells (pktC V x y F T p f) 26))
    go_enter Try.func4, Try.ntmps4
    go_wp2_with fail
    refine (works_any _).mono ?_
    rintro e1 w1 ⟨rfl, hb⟩
    have P0n := Lib.hid ((P0.out.kept hb))
    have BBn := Lib.hid (below2 BB.out hb)
    clear hb P0 BB
    have P0 := P0n
    clear P0n
    have BB := BBn
    clear BBn
    obtain ⟨k0, k1, k2, k3, k4, k5, k6⟩ := P0.out.cells
    go_wp2_with fail
    refine (HF.out _).mono ?_
    rintro e2 w2 ⟨rfl, hb⟩
    have P0n := Lib.hid ((P0.out.kept hb))
    have BBn := Lib.hid (below2 BB.out hb)
    clear hb P0 BB
    have P0 := P0n
    clear P0n
    have BB := BBn
    clear BBn
    clear k0 k1 k2 k3 k4 k5 k6
    obtain ⟨k0, k1, k2, k3, k4, k5, k6⟩ := P0.out.cells
    go_wp2_with fail
    go_ret
    exact ⟨rfl, BB.out⟩
  | true =>
  have HF := Lib.hid (Few_any V x y F T p true hF)
  have fx := few_yes hF
  obtain ⟨R, e, h1, h2⟩ : ∃ (R : ByteArray) (e : Int), Tells 14 #[pktV V x y F T p f] (txV R e) ∧ Tells 15 #[pktV V x y F T p f] (txV R e) := by
    by_cases h : okP V x y F T p f
    · exact ⟨_, _, (Put_ok V x y F T p f h).1, (Put_ok V x y F T p f h).2⟩
    · exact ⟨_, _, (Put_not V x y F T p f h0.p h).1, (Put_not V x y F T p f h0.p h).2⟩
  have H1 := Lib.hid h1
  have H2 := Lib.hid h2
  have H3 := Lib.hid (Closing_is V x y F T p f)
  have H4 := Lib.hid (refClosing_any V x y F T p f)
  have CT := (text_cmp R R).trans (decide_eq_true rfl)
  generalize closes p f = cl at *
  clear h1 h2
  have P0 := Lib.hid (packed_new w V x y F T p f)
  have BB := Lib.hid (below_alloc w (.cells (pktC V x y F T p f) 26))
  go_enter Try.func4, Try.ntmps4
  go_wp2_with fail
  refine (works_any _).mono ?_
  rintro e1 w1 ⟨rfl, hb⟩
  have P0n := Lib.hid ((P0.out.kept hb))
  have BBn := Lib.hid (below2 BB.out hb)
  clear hb P0 BB
  have P0 := P0n
  clear P0n
  have BB := BBn
  clear BBn
  obtain ⟨k0, k1, k2, k3, k4, k5, k6⟩ := P0.out.cells
  go_wp2_with fail
  refine (HF.out _).mono ?_
  rintro e2 w2 ⟨rfl, hb⟩
  have P0n := Lib.hid ((P0.out.kept hb))
  have BBn := Lib.hid (below2 BB.out hb)
  clear hb P0 BB
  have P0 := P0n
  clear P0n
  have BB := BBn
  clear BBn
  clear k0 k1 k2 k3 k4 k5 k6
  obtain ⟨k0, k1, k2, k3, k4, k5, k6⟩ := P0.out.cells
  go_wp2_with fail
  refine (H1.out _).mono ?_
  rintro e3 w3 ⟨rfl, hb⟩
  have P0n := Lib.hid ((P0.out.kept hb))
  have BBn := Lib.hid (below2 BB.out hb)
  clear hb P0 BB
  have P0 := P0n
  clear P0n
  have BB := BBn
  clear BBn
  clear k0 k1 k2 k3 k4 k5 k6
  obtain ⟨k0, k1, k2, k3, k4, k5, k6⟩ := P0.out.cells
  go_wp2_with fail
  refine (H2.out _).mono ?_
  rintro e4 w4 ⟨rfl, hb⟩
  have P0n := Lib.hid ((P0.out.kept hb))
  have BBn := Lib.hid (below2 BB.out hb)
  clear hb P0 BB
  have P0 := P0n
  clear P0n
  have BB := BBn
  clear BBn
  clear k0 k1 k2 k3 k4 k5 k6
  obtain ⟨k0, k1, k2, k3, k4, k5, k6⟩ := P0.out.cells
  go_wp2_with fail
  go_region_held3 (fun W => Below w.heap.size w W ∧ Packed W w.heap.size V x y F T p f ∧ W.cell? ⟨w.heap.size, 0, none⟩ = some (.int .i64 V) ∧ W.cell? ⟨w.heap.size, 1, none⟩ = some (.string x) ∧ W.cell? ⟨w.heap.size, 2, none⟩ = some (.string y) ∧ W.cell? ⟨w.heap.size, 3, none⟩ = some (.int .i64 F) ∧ W.cell? ⟨w.heap.size, 4, none⟩ = some (.int .i64 T) ∧ W.cell? ⟨w.heap.size, 5, none⟩ = some (.int .i64 p) ∧ W.cell? ⟨w.heap.size, 6, none⟩ = some (.int .i64 f))
    (first | exact ⟨BB.out.drew, P0.out, k0, k1, k2, k3, k4, k5, k6⟩ | exact held7 (by assumption) hb5)
    (first | (go_at_call 16; refine (H3.out _).mono ?_; rintro e5 w5 ⟨rfl, hb5⟩) | (go_at_call 17; refine (H4.out _).mono ?_; rintro e5 w5 ⟨rfl, hb5⟩))
  all_goals rename_i hHeld
  all_goals obtain ⟨hB, _⟩ := hHeld
  all_goals go_wp2_with fail
  all_goals cases cl
  all_goals go_ret
  all_goals exact ⟨rfl, hB⟩
theorem own_PacketPuts : ownKnob Try.prog.godebug = none := by kernel_rfl
set_option maxRecDepth 100000 in
set_option maxHeartbeats 800000 in
theorem lifted_PacketPuts (os : Os) (started : os.Started) (H : Type) (enc : TypeId × Value → H) :
    ReturnsInHanded {} Try.checked os 4 .any (Rows.packetPutsSpec.pre6 enc Try.prog Try.f4 Rows.packetPutsRow.domain false) (Rows.packetPutsSpec.post enc Try.prog Try.f4 false true false false) := by
  refine returnsInHanded_of_change (C := Try.checked) own_PacketPuts started (by kernel_rfl) Try.func4
    (ChangeSpec.witness6 (enc := enc) (C := Try.checked) false ⟨#[], #[.agg #[.int .i64 0, .string ⟨#[]⟩, .string ⟨#[]⟩, .int .i64 0, .int .i64 0, .int .i64 0, .int .i64 0]], []⟩ 8 (by kernel_rfl) (by kernel_rfl) (by kernel_rfl) (by kernel_rfl)) ?_
  intro W base args ds gs before hval0 hW _ _
  have hval : ∀ (j : Nat) t v, Try.f4.params[j]? = some t → args[j]? = some v → Value.okWide Try.prog W .any base t v := hval0
  have hW' := hW
  obtain ⟨p, q, hA0, hV, rfl, _, _⟩ := hW
  have hA : DataW.TrodAll enc Try.prog W 0 (fun _ => true) true Try.f4.params.toList args.toList ds p := hA0
  rw [Try.params4] at hA hval
  obtain ⟨v0, vs0, d0, ds0, p0, q0, ha0, rfl, rfl, t0, r0⟩ := trodAll_cons hA
  obtain ⟨rfl, rfl, rfl⟩ := trodAll_nil r0
  obtain rfl : args = #[v0] := by cases args; simp_all
  obtain ⟨rfl, rfl⟩ := trodVars_none hV
  obtain ⟨a0v, a0x, a0y, a0f, a0t, a0p, a0g, rfl, rfl, rfl, h0, g0⟩ := Stc.open_pkt (hval 0 26 v0 rfl rfl) t0
  clear hA0 hval0
  simp only [List.append_nil] at hW'
  refine (walk_PacketPuts a0v a0x a0y a0f a0t a0p a0g h0 g0 W).mono fun e W' ⟨he, hnx⟩ => ?_
  subst he
  exact ⟨_, rfl, ⟨_, _, _, [], [], [], hW', trodAll_cons_mk (shut_bool Try.underlying4 _) trodAll_mk0, (trodAll_cons_mk (Stc.shut_pkt h0 g0) trodAll_mk0), rfl, hnx.frame _, fun h => by cases h⟩⟩

theorem packetPuts_holds : Rows.PacketPutsSaid :=
  OpenClaim.holds_of_wide 4 Try.f4 rfl rfl rfl rfl rfl rfl rfl ⟨rfl, rfl, rfl, rfl, rfl⟩ rfl rfl rfl rfl rfl (by kernel_rfl) Try.func4 (by kernel_rfl)
    (of_decide_eq_true (by kernel_rfl)) (by unfold Func.isWrapper; first | (rw [if_pos (by decide +kernel)]; kernel_rfl) | (rw [if_neg (by decide +kernel)]; exact ⟨rfl, rfl⟩))
    (fun os started H enc _ => lifted_PacketPuts os started H enc)

#print axioms packetPuts_holds
end Go.Proofs.Ytcdgcjpdlhknoaa
