/-
  PacketKeys: for every k and b the law PacketKeys answers true: a key's bytes, and the key of bytes, are just what the document says. No condition.
-/
import Derived.Test.YtcdgcjpdlhknoaaRows
import Derived.Test.YtcdgcjpdlhknoaaStc
import Derived.Test.YtcdgcjpdlhknoaaPktN
import Derived.Test.YtcdgcjpdlhknoaaPktZ
import Derived.ProofKit
import Derived.OpenShut
import Derived.ChangeMaps5
namespace Go.Proofs.Ytcdgcjpdlhknoaa
open Go.ChangeShapes Go.WideShapes Go.ChangeAt Go.RowKit Go.Shelf
open Go.ChangeMaps (open_string shut_string)
open Pkt Txt

set_option maxRecDepth 100000 in
set_option maxHeartbeats 4000000 in
theorem walk_PacketKeys (V : Int) (x y : ByteArray) (F T p : Int) (B : ByteArray) (_h0 : Stc.KeyOk V x y F T p) (_h1 : B.size ≤ maxLen) (w : World) :
    Calls Try.prog 5 #[keyV V x y F T p, .string B] w fun e W' => e = .returned (.bool true) ∧ Below w.heap.size w W' := by
  cases hF : few x y with
  | false =>
    have HF := Lib.hid (Few_any V x y F T p false hF)
    have P0 := Lib.hid (keyed_new w V x y F T p)
    have BB := Lib.hid (below_alloc w (.cells (keyC V x y F T p) 24))
    go_enter Try.func5, Try.ntmps5
    go_wp2_with fail
    refine (works_any _).mono ?_
    rintro e1 w1 ⟨rfl, hb⟩
    have P0n := Lib.hid ((P0.out.kept hb))
    have BBn := Lib.hid (below2 BB.out hb)
    clear hb P0 BB
    have P0 := P0n
    clear P0n
    have BB := BBn
    clear BBn
    obtain ⟨k0, k1, k2, k3, k4, k5⟩ := P0.out.cells
    go_wp2_with fail
    refine (HF.out _).mono ?_
    rintro e2 w2 ⟨rfl, hb⟩
    have P0n := Lib.hid ((P0.out.kept hb))
    have BBn := Lib.hid (below2 BB.out hb)
    clear hb P0 BB
    have P0 := P0n
    clear P0n
    have BB := BBn
    clear BBn
    clear k0 k1 k2 k3 k4 k5
    obtain ⟨k0, k1, k2, k3, k4, k5⟩ := P0.out.cells
    go_wp2_with fail
    go_ret
    exact ⟨rfl, BB.out⟩
  | true =>
  have HF := Lib.hid (Few_any V x y F T p true hF)
  by_cases g1 : (300 : Int) < (B.size : Int)
  · have d1 : decide ((300 : Int) < (B.size : Int)) = true := decide_eq_true g1
    have P0 := Lib.hid (keyed_new w V x y F T p)
    have BB := Lib.hid (below_alloc w (.cells (keyC V x y F T p) 24))
    go_enter Try.func5, Try.ntmps5
    go_wp2_with fail
    refine (works_any _).mono ?_
    rintro e1 w1 ⟨rfl, hb⟩
    have P0n := Lib.hid ((P0.out.kept hb))
    have BBn := Lib.hid (below2 BB.out hb)
    clear hb P0 BB
    have P0 := P0n
    clear P0n
    have BB := BBn
    clear BBn
    obtain ⟨k0, k1, k2, k3, k4, k5⟩ := P0.out.cells
    go_wp2_with fail
    refine (HF.out _).mono ?_
    rintro e2 w2 ⟨rfl, hb⟩
    have P0n := Lib.hid ((P0.out.kept hb))
    have BBn := Lib.hid (below2 BB.out hb)
    clear hb P0 BB
    have P0 := P0n
    clear P0n
    have BB := BBn
    clear BBn
    clear k0 k1 k2 k3 k4 k5
    obtain ⟨k0, k1, k2, k3, k4, k5⟩ := P0.out.cells
    go_wp2_with fail
    go_ret
    exact ⟨rfl, BB.out⟩
  have d1 : decide ((300 : Int) < (B.size : Int)) = false := decide_eq_false g1
  obtain ⟨R, ok, h1, h2⟩ : ∃ (R : ByteArray) (ok : Bool), Tells 18 #[keyV V x y F T p] (.tuple #[.string R, .bool ok]) ∧ Tells 19 #[keyV V x y F T p] (.tuple #[.string R, .bool ok]) := by
    by_cases h : right V x y F T p
    · exact ⟨_, _, bytes_told V x y F T p h, refBytes_yes V x y F T p h⟩
    · exact ⟨_, _, bytes_none V x y F T p h, refBytes_no V x y F T p h⟩
  obtain ⟨V', x', y', F', T', p', is, h3, h4⟩ : ∃ (V' : Int) (x' y' : ByteArray) (F' T' p' : Int) (is : Bool), Tells 20 #[.string B] (.tuple #[keyV V' x' y' F' T' p', .bool is]) ∧ Tells 21 #[.string B] (.tuple #[keyV V' x' y' F' T' p', .bool is]) := by
    by_cases h : ∃ V x y F T p, right V x y F T p ∧ recS V x y F T p = B
    · obtain ⟨V, x, y, F, T, p, h, rfl⟩ := h
      exact ⟨_, _, _, _, _, _, _, of_told V x y F T p h, refOf_yes V x y F T p h⟩
    · have h' : ∀ V x y F T p, right V x y F T p → recS V x y F T p ≠ B := fun V x y F T p h1 h2 => h ⟨V, x, y, F, T, p, h1, h2⟩
      exact ⟨_, _, _, _, _, _, _, of_none B h', refOf_no B h'⟩
  have H1 := Lib.hid h1
  have H2 := Lib.hid h2
  have H3 := Lib.hid h3
  have H4 := Lib.hid h4
  have CT := (text_cmp R R).trans (decide_eq_true rfl)
  have CC := key_cmp V' x' y' F' T' p' V' x' y' F' T' p' true (by simp)
  clear h1 h2 h3 h4
  have P0 := Lib.hid (keyed_new w V x y F T p)
  have BB := Lib.hid (below_alloc w (.cells (keyC V x y F T p) 24))
  go_enter Try.func5, Try.ntmps5
  go_wp2_with fail
  refine (works_any _).mono ?_
  rintro e1 w1 ⟨rfl, hb⟩
  have P0n := Lib.hid ((P0.out.kept hb))
  have BBn := Lib.hid (below2 BB.out hb)
  clear hb P0 BB
  have P0 := P0n
  clear P0n
  have BB := BBn
  clear BBn
  obtain ⟨k0, k1, k2, k3, k4, k5⟩ := P0.out.cells
  go_wp2_with fail
  refine (HF.out _).mono ?_
  rintro e2 w2 ⟨rfl, hb⟩
  have P0n := Lib.hid ((P0.out.kept hb))
  have BBn := Lib.hid (below2 BB.out hb)
  clear hb P0 BB
  have P0 := P0n
  clear P0n
  have BB := BBn
  clear BBn
  clear k0 k1 k2 k3 k4 k5
  obtain ⟨k0, k1, k2, k3, k4, k5⟩ := P0.out.cells
  go_wp2_with fail
  refine (H1.out _).mono ?_
  rintro e3 w3 ⟨rfl, hb⟩
  have P0n := Lib.hid ((P0.out.kept hb))
  have BBn := Lib.hid (below2 BB.out hb)
  clear hb P0 BB
  have P0 := P0n
  clear P0n
  have BB := BBn
  clear BBn
  clear k0 k1 k2 k3 k4 k5
  obtain ⟨k0, k1, k2, k3, k4, k5⟩ := P0.out.cells
  go_wp2_with fail
  refine (H2.out _).mono ?_
  rintro e4 w4 ⟨rfl, hb⟩
  have P0n := Lib.hid ((P0.out.kept hb))
  have BBn := Lib.hid (below2 BB.out hb)
  clear hb P0 BB
  have P0 := P0n
  clear P0n
  have BB := BBn
  clear BBn
  clear k0 k1 k2 k3 k4 k5
  go_wp2_with fail
  refine (H3.out _).mono ?_
  rintro e5 w5 ⟨rfl, hb⟩
  have al := Lib.hid (below_alloc w5 (.cells (keyC V' x' y' F' T' p') 24))
  have BBn := Lib.hid (below2 (below2 BB.out hb) al.out)
  have P5 := Lib.hid (keyed_new w5 V' x' y' F' T' p')
  clear hb BB al
  have BB := BBn
  clear BBn
  go_wp2_with fail
  refine (H4.out _).mono ?_
  rintro e6 w6 ⟨rfl, hb⟩
  have al := Lib.hid (below_alloc w6 (.cells (keyC V' x' y' F' T' p') 24))
  have P5n := Lib.hid ((P5.out.kept hb).kept al.out)
  have BBn := Lib.hid (below2 (below2 BB.out hb) al.out)
  have P6 := Lib.hid (keyed_new w6 V' x' y' F' T' p')
  clear hb P5 BB al
  have P5 := P5n
  clear P5n
  have BB := BBn
  clear BBn
  obtain ⟨k0, k1, k2, k3, k4, k5⟩ := P5.out.cells
  obtain ⟨q0, q1, q2, q3, q4, q5⟩ := P6.out.cells
  cases ok <;> cases is
  all_goals go_wp2_with fail
  all_goals go_ret
  all_goals exact ⟨rfl, BB.out⟩
theorem own_PacketKeys : ownKnob Try.prog.godebug = none := by kernel_rfl
set_option maxRecDepth 100000 in
set_option maxHeartbeats 800000 in
theorem lifted_PacketKeys (os : Os) (started : os.Started) (H : Type) (enc : TypeId × Value → H) :
    ReturnsInHanded {} Try.checked os 5 .any (Rows.packetKeysSpec.pre6 enc Try.prog Try.f5 Rows.packetKeysRow.domain false) (Rows.packetKeysSpec.post enc Try.prog Try.f5 false true false false) := by
  refine returnsInHanded_of_change (C := Try.checked) own_PacketKeys started (by kernel_rfl) Try.func5
    (ChangeSpec.witness6 (enc := enc) (C := Try.checked) false ⟨#[], #[.agg #[.int .i64 0, .string ⟨#[]⟩, .string ⟨#[]⟩, .int .i64 0, .int .i64 0, .int .i64 0], .string ⟨#[]⟩], []⟩ 8 (by kernel_rfl) (by kernel_rfl) (by kernel_rfl) (by kernel_rfl)) ?_
  intro W base args ds gs before hval0 hW _ _
  have hval : ∀ (j : Nat) t v, Try.f5.params[j]? = some t → args[j]? = some v → Value.okWide Try.prog W .any base t v := hval0
  have hW' := hW
  obtain ⟨p, q, hA0, hV, rfl, _, _⟩ := hW
  have hA : DataW.TrodAll enc Try.prog W 0 (fun _ => true) true Try.f5.params.toList args.toList ds p := hA0
  rw [Try.params5] at hA hval
  obtain ⟨v0, vs0, d0, ds0, p0, q0, ha0, rfl, rfl, t0, r0⟩ := trodAll_cons hA
  obtain ⟨v1, vs1, d1, ds1, p1, q1, ha1, rfl, rfl, t1, r1⟩ := trodAll_cons r0
  obtain ⟨rfl, rfl, rfl⟩ := trodAll_nil r1
  subst ha1
  obtain rfl : args = #[v0, v1] := by cases args; simp_all
  obtain ⟨rfl, rfl⟩ := trodVars_none hV
  obtain ⟨a0v, a0x, a0y, a0f, a0t, a0p, rfl, rfl, rfl, h0⟩ := Stc.open_key (hval 0 24 v0 rfl rfl) t0
  obtain ⟨a1, rfl, rfl, rfl, h1⟩ := open_string Try.underlying9 (hval 1 9 v1 rfl rfl) t1
  clear hA0 hval0
  simp only [List.append_nil] at hW'
  refine (walk_PacketKeys a0v a0x a0y a0f a0t a0p a1 h0 h1 W).mono fun e W' ⟨he, hnx⟩ => ?_
  subst he
  exact ⟨_, rfl, ⟨_, _, _, [], [], [], hW', trodAll_cons_mk (shut_bool Try.underlying4 _) trodAll_mk0, (trodAll_cons_mk (Stc.shut_key h0) (trodAll_cons_mk (shut_string Try.underlying9 h1) trodAll_mk0)), rfl, hnx.frame _, fun h => by cases h⟩⟩

theorem packetKeys_holds : Rows.PacketKeysSaid :=
  OpenClaim.holds_of_wide 5 Try.f5 rfl rfl rfl rfl rfl rfl rfl ⟨rfl, rfl, rfl, rfl, rfl⟩ rfl rfl rfl rfl rfl (by kernel_rfl) Try.func5 (by kernel_rfl)
    (of_decide_eq_true (by kernel_rfl)) (by unfold Func.isWrapper; first | (rw [if_pos (by decide +kernel)]; kernel_rfl) | (rw [if_neg (by decide +kernel)]; exact ⟨rfl, rfl⟩))
    (fun os started H enc _ => lifted_PacketKeys os started H enc)

#print axioms packetKeys_holds
end Go.Proofs.Ytcdgcjpdlhknoaa
