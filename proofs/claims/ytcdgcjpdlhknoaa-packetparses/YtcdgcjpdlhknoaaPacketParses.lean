/-
  PacketParses: for every s the law PacketParses answers true: the packet that a text begins with, and what is wrong, is just what the document says. No condition.
-/
import Derived.Test.YtcdgcjpdlhknoaaRows
import Derived.Test.YtcdgcjpdlhknoaaStc
import Derived.Test.YtcdgcjpdlhknoaaPktN
import Derived.ProofKit
import Derived.OpenShut
import Derived.ChangeMaps5
namespace Go.Proofs.Ytcdgcjpdlhknoaa
open Go.ChangeShapes Go.WideShapes Go.ChangeAt Go.RowKit Go.Shelf
open Go.ChangeMaps (open_string shut_string)
open Pkt Txt

set_option maxRecDepth 100000 in
set_option maxHeartbeats 4000000 in
theorem walk_PacketParses (a0 : ByteArray) (_h0 : a0.size ≤ maxLen) (w : World) :
    Calls Try.prog 3 #[.string a0] w fun e W' => e = .returned (.bool true) ∧ Below w.heap.size w W' := by
  by_cases g0 : (300 : Int) < (a0.size : Int)
  · have d0 : decide ((300 : Int) < (a0.size : Int)) = true := decide_eq_true g0
    go_enter Try.func3, Try.ntmps3
    go_wp2_with fail
    refine (works_any _).mono ?_
    rintro e1 w1 ⟨rfl, hb⟩
    have BBn := Lib.hid (hb)
    clear hb 
    have BB := BBn
    clear BBn
    go_wp2_with fail
    go_ret
    exact ⟨rfl, BB.out⟩
  have d0 : decide ((300 : Int) < (a0.size : Int)) = false := decide_eq_false g0
  obtain ⟨V, x, y, F, T, p, f, e, h1, h2, _⟩ := Parse_spec a0 (by omega)
  have H1 := Lib.hid h1
  have H2 := Lib.hid h2
  clear h1 h2
  go_enter Try.func3, Try.ntmps3
  go_wp2_with fail
  refine (works_any _).mono ?_
  rintro e1 w1 ⟨rfl, hb⟩
  have BBn := Lib.hid (hb)
  clear hb 
  have BB := BBn
  clear BBn
  go_wp2_with fail
  refine (H1.out _).mono ?_
  rintro e2 w2 ⟨rfl, hb⟩
  have al := Lib.hid (below_alloc w2 (.cells (pktC V x y F T p f) 26))
  have BBn := Lib.hid (below2 (below2 BB.out hb) al.out)
  have P2 := Lib.hid (packed_new w2 V x y F T p f)
  clear hb BB al
  have BB := BBn
  clear BBn
  go_wp2_with fail
  refine (H2.out _).mono ?_
  rintro e3 w3 ⟨rfl, hb⟩
  have al := Lib.hid (below_alloc w3 (.cells (pktC V x y F T p f) 26))
  have P2n := Lib.hid ((P2.out.kept hb).kept al.out)
  have BBn := Lib.hid (below2 (below2 BB.out hb) al.out)
  have P3 := Lib.hid (packed_new w3 V x y F T p f)
  clear hb P2 BB al
  have P2 := P2n
  clear P2n
  have BB := BBn
  clear BBn
  obtain ⟨k0, k1, k2, k3, k4, k5, k6⟩ := P2.out.cells
  obtain ⟨q0, q1, q2, q3, q4, q5, q6⟩ := P3.out.cells
  have CC := pkt_cmp V x y F T p f V x y F T p f true (by simp)
  go_wp2_with fail
  go_ret
  exact ⟨rfl, BB.out⟩
theorem own_PacketParses : ownKnob Try.prog.godebug = none := by kernel_rfl
set_option maxRecDepth 100000 in
set_option maxHeartbeats 800000 in
theorem lifted_PacketParses (os : Os) (started : os.Started) (H : Type) (enc : TypeId × Value → H) :
    ReturnsInHanded {} Try.checked os 3 .any (Rows.packetParsesSpec.pre6 enc Try.prog Try.f3 Rows.packetParsesRow.domain false) (Rows.packetParsesSpec.post enc Try.prog Try.f3 false true false false) := by
  refine returnsInHanded_of_change (C := Try.checked) own_PacketParses started (by kernel_rfl) Try.func3
    (ChangeSpec.witness6 (enc := enc) (C := Try.checked) false ⟨#[], #[.string ⟨#[]⟩], []⟩ 8 (by kernel_rfl) (by kernel_rfl) (by kernel_rfl) (by kernel_rfl)) ?_
  intro W base args ds gs before hval0 hW _ _
  have hval : ∀ (j : Nat) t v, Try.f3.params[j]? = some t → args[j]? = some v → Value.okWide Try.prog W .any base t v := hval0
  have hW' := hW
  obtain ⟨p, q, hA0, hV, rfl, _, _⟩ := hW
  have hA : DataW.TrodAll enc Try.prog W 0 (fun _ => true) true Try.f3.params.toList args.toList ds p := hA0
  rw [Try.params3] at hA hval
  obtain ⟨v0, vs0, d0, ds0, p0, q0, ha0, rfl, rfl, t0, r0⟩ := trodAll_cons hA
  obtain ⟨rfl, rfl, rfl⟩ := trodAll_nil r0
  obtain rfl : args = #[v0] := by cases args; simp_all
  obtain ⟨rfl, rfl⟩ := trodVars_none hV
  obtain ⟨a0, rfl, rfl, rfl, h0⟩ := open_string Try.underlying9 (hval 0 9 v0 rfl rfl) t0
  clear hA0 hval0
  simp only [List.append_nil] at hW'
  refine (walk_PacketParses a0 h0 W).mono fun e W' ⟨he, hnx⟩ => ?_
  subst he
  exact ⟨_, rfl, ⟨_, _, _, [], [], [], hW', trodAll_cons_mk (shut_bool Try.underlying4 _) trodAll_mk0, (trodAll_cons_mk (shut_string Try.underlying9 h0) trodAll_mk0), rfl, hnx.frame _, fun h => by cases h⟩⟩

theorem packetParses_holds : Rows.PacketParsesSaid :=
  OpenClaim.holds_of_wide 3 Try.f3 rfl rfl rfl rfl rfl rfl rfl ⟨rfl, rfl, rfl, rfl, rfl⟩ rfl rfl rfl rfl rfl (by kernel_rfl) Try.func3 (by kernel_rfl)
    (of_decide_eq_true (by kernel_rfl)) (by unfold Func.isWrapper; first | (rw [if_pos (by decide +kernel)]; kernel_rfl) | (rw [if_neg (by decide +kernel)]; exact ⟨rfl, rfl⟩))
    (fun os started H enc _ => lifted_PacketParses os started H enc)

#print axioms packetParses_holds
end Go.Proofs.Ytcdgcjpdlhknoaa
