/-
  PacketApart: for every k, l and b the law PacketApart answers true: unlike keys have unlike bytes; whatever bytes are a key's are just its own. No condition.
-/
import Derived.Test.YtcdgcjpdlhknoaaRows
import Derived.Test.YtcdgcjpdlhknoaaStc
import Derived.Test.YtcdgcjpdlhknoaaPktN
import Derived.ProofKit
import Derived.OpenShut
import Derived.ChangeMaps5
namespace Go.Proofs.Ytcdgcjpdlhknoaa
open Go.ChangeShapes Go.WideShapes Go.ChangeAt Go.RowKit Go.Shelf
open Go.ChangeMaps (open_string shut_string)
open Pkt Txt

set_option maxRecDepth 100000 in
set_option maxHeartbeats 4000000 in
theorem walk_PacketApart (V : Int) (x y : ByteArray) (F T p : Int) (V' : Int) (x' y' : ByteArray) (F' T' p' : Int) (B : ByteArray) (_h0 : Stc.KeyOk V x y F T p) (_h1 : Stc.KeyOk V' x' y' F' T' p') (_h2 : B.size ≤ maxLen) (w : World) :
    Calls Try.prog 8 #[keyV V x y F T p, keyV V' x' y' F' T' p', .string B] w fun e W' => e = .returned (.bool true) ∧ Below w.heap.size w W' := by
  cases hF : few x y with
  | false =>
    have HF := Lib.hid (Few_any V x y F T p false hF)
    have P0 := Lib.hid ((keyed_new w V x y F T p).alloc (.cells (keyC V' x' y' F' T' p') 24))
    have Q0 := Lib.hid (keyed_new (w.alloc (.cells (keyC V x y F T p) 24)) V' x' y' F' T' p')
    rw [World.size_alloc] at Q0
    have BB := Lib.hid (below2 (below_alloc w (.cells (keyC V x y F T p) 24)) (below_alloc _ (.cells (keyC V' x' y' F' T' p') 24)))
    go_enter Try.func8, Try.ntmps8
    go_wp2_with fail
    refine (works_any _).mono ?_
    rintro e1 w1 ⟨rfl, hb⟩
    have P0n := Lib.hid ((P0.out.kept hb))
    have Q0n := Lib.hid ((Q0.out.kept hb))
    have BBn := Lib.hid (below2 BB.out hb)
    clear hb P0 Q0 BB
    have P0 := P0n
    clear P0n
    have Q0 := Q0n
    clear Q0n
    have BB := BBn
    clear BBn
    obtain ⟨k0, k1, k2, k3, k4, k5⟩ := P0.out.cells
    obtain ⟨q0, q1, q2, q3, q4, q5⟩ := Q0.out.cells
    go_wp2_with fail
    refine (HF.out _).mono ?_
    rintro e2 w2 ⟨rfl, hb⟩
    have P0n := Lib.hid ((P0.out.kept hb))
    have Q0n := Lib.hid ((Q0.out.kept hb))
    have BBn := Lib.hid (below2 BB.out hb)
    clear hb P0 Q0 BB
    have P0 := P0n
    clear P0n
    have Q0 := Q0n
    clear Q0n
    have BB := BBn
    clear BBn
    clear k0 k1 k2 k3 k4 k5
    clear q0 q1 q2 q3 q4 q5
    obtain ⟨k0, k1, k2, k3, k4, k5⟩ := P0.out.cells
    obtain ⟨q0, q1, q2, q3, q4, q5⟩ := Q0.out.cells
    go_wp2_with fail
    go_ret
    exact ⟨rfl, BB.out⟩
  | true =>
  have HF := Lib.hid (Few_any V x y F T p true hF)
  cases hG : few x' y' with
  | false =>
    have HG := Lib.hid (Few_any V' x' y' F' T' p' false hG)
    have P0 := Lib.hid ((keyed_new w V x y F T p).alloc (.cells (keyC V' x' y' F' T' p') 24))
    have Q0 := Lib.hid (keyed_new (w.alloc (.cells (keyC V x y F T p) 24)) V' x' y' F' T' p')
    rw [World.size_alloc] at Q0
    have BB := Lib.hid (below2 (below_alloc w (.cells (keyC V x y F T p) 24)) (below_alloc _ (.cells (keyC V' x' y' F' T' p') 24)))
    go_enter Try.func8, Try.ntmps8
    go_wp2_with fail
    refine (works_any _).mono ?_
    rintro e1 w1 ⟨rfl, hb⟩
    have P0n := Lib.hid ((P0.out.kept hb))
    have Q0n := Lib.hid ((Q0.out.kept hb))
    have BBn := Lib.hid (below2 BB.out hb)
    clear hb P0 Q0 BB
    have P0 := P0n
    clear P0n
    have Q0 := Q0n
    clear Q0n
    have BB := BBn
    clear BBn
    obtain ⟨k0, k1, k2, k3, k4, k5⟩ := P0.out.cells
    obtain ⟨q0, q1, q2, q3, q4, q5⟩ := Q0.out.cells
    go_wp2_with fail
    refine (HF.out _).mono ?_
    rintro e2 w2 ⟨rfl, hb⟩
    have P0n := Lib.hid ((P0.out.kept hb))
    have Q0n := Lib.hid ((Q0.out.kept hb))
    have BBn := Lib.hid (below2 BB.out hb)
    clear hb P0 Q0 BB
    have P0 := P0n
    clear P0n
    have Q0 := Q0n
    clear Q0n
    have BB := BBn
    clear BBn
    clear k0 k1 k2 k3 k4 k5
    clear q0 q1 q2 q3 q4 q5
    obtain ⟨k0, k1, k2, k3, k4, k5⟩ := P0.out.cells
    obtain ⟨q0, q1, q2, q3, q4, q5⟩ := Q0.out.cells
    go_wp2_with fail
    refine (HG.out _).mono ?_
    rintro e3 w3 ⟨rfl, hb⟩
    have P0n := Lib.hid ((P0.out.kept hb))
    have Q0n := Lib.hid ((Q0.out.kept hb))
    have BBn := Lib.hid (below2 BB.out hb)
    clear hb P0 Q0 BB
    have P0 := P0n
    clear P0n
    have Q0 := Q0n
    clear Q0n
    have BB := BBn
    clear BBn
    clear k0 k1 k2 k3 k4 k5
    clear q0 q1 q2 q3 q4 q5
    obtain ⟨k0, k1, k2, k3, k4, k5⟩ := P0.out.cells
    obtain ⟨q0, q1, q2, q3, q4, q5⟩ := Q0.out.cells
    go_wp2_with fail
    go_ret
    exact ⟨rfl, BB.out⟩
  | true =>
  have HG := Lib.hid (Few_any V' x' y' F' T' p' true hG)
  by_cases g1 : (300 : Int) < (B.size : Int)
  · have d1 : decide ((300 : Int) < (B.size : Int)) = true := decide_eq_true g1
    have P0 := Lib.hid ((keyed_new w V x y F T p).alloc (.cells (keyC V' x' y' F' T' p') 24))
    have Q0 := Lib.hid (keyed_new (w.alloc (.cells (keyC V x y F T p) 24)) V' x' y' F' T' p')
    rw [World.size_alloc] at Q0
    have BB := Lib.hid (below2 (below_alloc w (.cells (keyC V x y F T p) 24)) (below_alloc _ (.cells (keyC V' x' y' F' T' p') 24)))
    go_enter Try.func8, Try.ntmps8
    go_wp2_with fail
    refine (works_any _).mono ?_
    rintro e1 w1 ⟨rfl, hb⟩
    have P0n := Lib.hid ((P0.out.kept hb))
    have Q0n := Lib.hid ((Q0.out.kept hb))
    have BBn := Lib.hid (below2 BB.out hb)
    clear hb P0 Q0 BB
    have P0 := P0n
    clear P0n
    have Q0 := Q0n
    clear Q0n
    have BB := BBn
    clear BBn
    obtain ⟨k0, k1, k2, k3, k4, k5⟩ := P0.out.cells
    obtain ⟨q0, q1, q2, q3, q4, q5⟩ := Q0.out.cells
    go_wp2_with fail
    refine (HF.out _).mono ?_
    rintro e2 w2 ⟨rfl, hb⟩
    have P0n := Lib.hid ((P0.out.kept hb))
    have Q0n := Lib.hid ((Q0.out.kept hb))
    have BBn := Lib.hid (below2 BB.out hb)
    clear hb P0 Q0 BB
    have P0 := P0n
    clear P0n
    have Q0 := Q0n
    clear Q0n
    have BB := BBn
    clear BBn
    clear k0 k1 k2 k3 k4 k5
    clear q0 q1 q2 q3 q4 q5
    obtain ⟨k0, k1, k2, k3, k4, k5⟩ := P0.out.cells
    obtain ⟨q0, q1, q2, q3, q4, q5⟩ := Q0.out.cells
    go_wp2_with fail
    refine (HG.out _).mono ?_
    rintro e3 w3 ⟨rfl, hb⟩
    have P0n := Lib.hid ((P0.out.kept hb))
    have Q0n := Lib.hid ((Q0.out.kept hb))
    have BBn := Lib.hid (below2 BB.out hb)
    clear hb P0 Q0 BB
    have P0 := P0n
    clear P0n
    have Q0 := Q0n
    clear Q0n
    have BB := BBn
    clear BBn
    clear k0 k1 k2 k3 k4 k5
    clear q0 q1 q2 q3 q4 q5
    obtain ⟨k0, k1, k2, k3, k4, k5⟩ := P0.out.cells
    obtain ⟨q0, q1, q2, q3, q4, q5⟩ := Q0.out.cells
    go_wp2_with fail
    go_ret
    exact ⟨rfl, BB.out⟩
  have d1 : decide ((300 : Int) < (B.size : Int)) = false := decide_eq_false g1
  clear hF hG g1
  obtain ⟨R, ok, R', also, h1, h2, hcc⟩ : ∃ (R : ByteArray) (ok : Bool) (R' : ByteArray) (also : Bool), Tells 18 #[keyV V x y F T p] (.tuple #[.string R, .bool ok]) ∧ Tells 18 #[keyV V' x' y' F' T' p'] (.tuple #[.string R', .bool also]) ∧
      (ok = true → also = true → ((V = V' ∧ x = x' ∧ y = y' ∧ F = F' ∧ T = T' ∧ p = p') ↔ decide (R = R') = true)) := by
    by_cases h : right V x y F T p
    · by_cases h' : right V' x' y' F' T' p'
      · refine ⟨_, _, _, _, bytes_told V x y F T p h, bytes_told V' x' y' F' T' p' h', fun _ _ => ?_⟩
        rw [decide_eq_true_iff]
        constructor
        · rintro ⟨rfl, rfl, rfl, rfl, rfl, rfl⟩; rfl
        · exact right_apart h h'
      · exact ⟨_, _, _, _, bytes_told V x y F T p h, bytes_none V' x' y' F' T' p' h', fun _ e => by cases e⟩
    · by_cases h' : right V' x' y' F' T' p'
      · exact ⟨_, _, _, _, bytes_none V x y F T p h, bytes_told V' x' y' F' T' p' h', fun e => by cases e⟩
      · exact ⟨_, _, _, _, bytes_none V x y F T p h, bytes_none V' x' y' F' T' p' h', fun e => by cases e⟩
  have H1 := Lib.hid h1
  have H2 := Lib.hid h2
  have CT := text_cmp R R'
  have CC := Lib.hid (fun e1 e2 => key_cmp V x y F T p V' x' y' F' T' p' (decide (R = R')) (hcc e1 e2))
  clear h1 h2 hcc
  generalize decide (R = R') = c at *
  by_cases hO : ∃ V x y F T p, right V x y F T p ∧ recS V x y F T p = B
  · obtain ⟨Vm, xm, ym, Fm, Tm, pm, hm, rfl⟩ := hO
    have H3 := Lib.hid (of_told Vm xm ym Fm Tm pm hm)
    have H4 := Lib.hid (bytes_told Vm xm ym Fm Tm pm hm)
    clear hm
    generalize recS Vm xm ym Fm Tm pm = B at *
    have CB := (text_cmp B B).trans (decide_eq_true rfl)
    have P0 := Lib.hid ((keyed_new w V x y F T p).alloc (.cells (keyC V' x' y' F' T' p') 24))
    have Q0 := Lib.hid (keyed_new (w.alloc (.cells (keyC V x y F T p) 24)) V' x' y' F' T' p')
    rw [World.size_alloc] at Q0
    have BB := Lib.hid (below2 (below_alloc w (.cells (keyC V x y F T p) 24)) (below_alloc _ (.cells (keyC V' x' y' F' T' p') 24)))
    go_enter Try.func8, Try.ntmps8
    go_wp2_with fail
    refine (works_any _).mono ?_
    rintro e1 w1 ⟨rfl, hb⟩
    have P0n := Lib.hid ((P0.out.kept hb))
    have Q0n := Lib.hid ((Q0.out.kept hb))
    have BBn := Lib.hid (below2 BB.out hb)
    clear hb P0 Q0 BB
    have P0 := P0n
    clear P0n
    have Q0 := Q0n
    clear Q0n
    have BB := BBn
    clear BBn
    obtain ⟨k0, k1, k2, k3, k4, k5⟩ := P0.out.cells
    obtain ⟨q0, q1, q2, q3, q4, q5⟩ := Q0.out.cells
    go_wp2_with fail
    refine (HF.out _).mono ?_
    rintro e2 w2 ⟨rfl, hb⟩
    have P0n := Lib.hid ((P0.out.kept hb))
    have Q0n := Lib.hid ((Q0.out.kept hb))
    have BBn := Lib.hid (below2 BB.out hb)
    clear hb P0 Q0 BB
    have P0 := P0n
    clear P0n
    have Q0 := Q0n
    clear Q0n
    have BB := BBn
    clear BBn
    clear k0 k1 k2 k3 k4 k5
    clear q0 q1 q2 q3 q4 q5
    obtain ⟨k0, k1, k2, k3, k4, k5⟩ := P0.out.cells
    obtain ⟨q0, q1, q2, q3, q4, q5⟩ := Q0.out.cells
    go_wp2_with fail
    refine (HG.out _).mono ?_
    rintro e3 w3 ⟨rfl, hb⟩
    have P0n := Lib.hid ((P0.out.kept hb))
    have Q0n := Lib.hid ((Q0.out.kept hb))
    have BBn := Lib.hid (below2 BB.out hb)
    clear hb P0 Q0 BB
    have P0 := P0n
    clear P0n
    have Q0 := Q0n
    clear Q0n
    have BB := BBn
    clear BBn
    clear k0 k1 k2 k3 k4 k5
    clear q0 q1 q2 q3 q4 q5
    obtain ⟨k0, k1, k2, k3, k4, k5⟩ := P0.out.cells
    obtain ⟨q0, q1, q2, q3, q4, q5⟩ := Q0.out.cells
    go_wp2_with fail
    refine (H1.out _).mono ?_
    rintro e4 w4 ⟨rfl, hb⟩
    have P0n := Lib.hid ((P0.out.kept hb))
    have Q0n := Lib.hid ((Q0.out.kept hb))
    have BBn := Lib.hid (below2 BB.out hb)
    clear hb P0 Q0 BB
    have P0 := P0n
    clear P0n
    have Q0 := Q0n
    clear Q0n
    have BB := BBn
    clear BBn
    clear k0 k1 k2 k3 k4 k5
    clear q0 q1 q2 q3 q4 q5
    obtain ⟨k0, k1, k2, k3, k4, k5⟩ := P0.out.cells
    obtain ⟨q0, q1, q2, q3, q4, q5⟩ := Q0.out.cells
    go_wp2_with fail
    refine (H2.out _).mono ?_
    rintro e5 w5 ⟨rfl, hb⟩
    have P0n := Lib.hid ((P0.out.kept hb))
    have Q0n := Lib.hid ((Q0.out.kept hb))
    have BBn := Lib.hid (below2 BB.out hb)
    clear hb P0 Q0 BB
    have P0 := P0n
    clear P0n
    have Q0 := Q0n
    clear Q0n
    have BB := BBn
    clear BBn
    clear k0 k1 k2 k3 k4 k5
    clear q0 q1 q2 q3 q4 q5
    obtain ⟨k0, k1, k2, k3, k4, k5⟩ := P0.out.cells
    obtain ⟨q0, q1, q2, q3, q4, q5⟩ := Q0.out.cells
    cases ok with
    | false =>
      clear CC
      go_wp2_with fail
      refine (H3.out _).mono ?_
      rintro e6 w6 ⟨rfl, hb⟩
      have al := Lib.hid (below_alloc w6 (.cells (keyC Vm xm ym Fm Tm pm) 24))
      have BBn := Lib.hid (below2 (below2 BB.out hb) al.out)
      have M6 := Lib.hid (keyed_new w6 Vm xm ym Fm Tm pm)
      clear hb BB al
      have BB := BBn
      clear BBn
      obtain ⟨c0, c1, c2, c3, c4, c5⟩ := M6.out.cells
      go_wp2_with fail
      refine (H4.out _).mono ?_
      rintro e7 w7 ⟨rfl, hb⟩
      have M6n := Lib.hid ((M6.out.kept hb))
      have BBn := Lib.hid (below2 BB.out hb)
      clear hb M6 BB
      have M6 := M6n
      clear M6n
      have BB := BBn
      clear BBn
      go_wp2_with fail
      go_ret
      exact ⟨rfl, BB.out⟩
    | true =>
      cases also with
      | false =>
        clear CC
        go_wp2_with fail
        refine (H3.out _).mono ?_
        rintro e6 w6 ⟨rfl, hb⟩
        have al := Lib.hid (below_alloc w6 (.cells (keyC Vm xm ym Fm Tm pm) 24))
        have BBn := Lib.hid (below2 (below2 BB.out hb) al.out)
        have M6 := Lib.hid (keyed_new w6 Vm xm ym Fm Tm pm)
        clear hb BB al
        have BB := BBn
        clear BBn
        obtain ⟨c0, c1, c2, c3, c4, c5⟩ := M6.out.cells
        go_wp2_with fail
        refine (H4.out _).mono ?_
        rintro e7 w7 ⟨rfl, hb⟩
        have M6n := Lib.hid ((M6.out.kept hb))
        have BBn := Lib.hid (below2 BB.out hb)
        clear hb M6 BB
        have M6 := M6n
        clear M6n
        have BB := BBn
        clear BBn
        go_wp2_with fail
        go_ret
        exact ⟨rfl, BB.out⟩
      | true =>
        have CX := CC.out rfl rfl
        clear CC
        cases c
        all_goals
          go_wp2_with fail
          refine (H3.out _).mono ?_
          rintro e6 w6 ⟨rfl, hb⟩
          have al := Lib.hid (below_alloc w6 (.cells (keyC Vm xm ym Fm Tm pm) 24))
          have BBn := Lib.hid (below2 (below2 BB.out hb) al.out)
          have M6 := Lib.hid (keyed_new w6 Vm xm ym Fm Tm pm)
          clear hb BB al
          have BB := BBn
          clear BBn
          obtain ⟨c0, c1, c2, c3, c4, c5⟩ := M6.out.cells
          go_wp2_with fail
          refine (H4.out _).mono ?_
          rintro e7 w7 ⟨rfl, hb⟩
          have M6n := Lib.hid ((M6.out.kept hb))
          have BBn := Lib.hid (below2 BB.out hb)
          clear hb M6 BB
          have M6 := M6n
          clear M6n
          have BB := BBn
          clear BBn
          go_wp2_with fail
          go_ret
          exact ⟨rfl, BB.out⟩
  · have H3 := Lib.hid (of_none B (fun V x y F T p h1 h2 => hO ⟨V, x, y, F, T, p, h1, h2⟩))
    have CZ := key_cmp 0 ⟨#[]⟩ ⟨#[]⟩ 0 0 0 0 ⟨#[]⟩ ⟨#[]⟩ 0 0 0 true (by simp)
    clear hO
    have P0 := Lib.hid ((keyed_new w V x y F T p).alloc (.cells (keyC V' x' y' F' T' p') 24))
    have Q0 := Lib.hid (keyed_new (w.alloc (.cells (keyC V x y F T p) 24)) V' x' y' F' T' p')
    rw [World.size_alloc] at Q0
    have BB := Lib.hid (below2 (below_alloc w (.cells (keyC V x y F T p) 24)) (below_alloc _ (.cells (keyC V' x' y' F' T' p') 24)))
    go_enter Try.func8, Try.ntmps8
    go_wp2_with fail
    refine (works_any _).mono ?_
    rintro e1 w1 ⟨rfl, hb⟩
    have P0n := Lib.hid ((P0.out.kept hb))
    have Q0n := Lib.hid ((Q0.out.kept hb))
    have BBn := Lib.hid (below2 BB.out hb)
    clear hb P0 Q0 BB
    have P0 := P0n
    clear P0n
    have Q0 := Q0n
    clear Q0n
    have BB := BBn
    clear BBn
    obtain ⟨k0, k1, k2, k3, k4, k5⟩ := P0.out.cells
    obtain ⟨q0, q1, q2, q3, q4, q5⟩ := Q0.out.cells
    go_wp2_with fail
    refine (HF.out _).mono ?_
    rintro e2 w2 ⟨rfl, hb⟩
    have P0n := Lib.hid ((P0.out.kept hb))
    have Q0n := Lib.hid ((Q0.out.kept hb))
    have BBn := Lib.hid (below2 BB.out hb)
    clear hb P0 Q0 BB
    have P0 := P0n
    clear P0n
    have Q0 := Q0n
    clear Q0n
    have BB := BBn
    clear BBn
    clear k0 k1 k2 k3 k4 k5
    clear q0 q1 q2 q3 q4 q5
    obtain ⟨k0, k1, k2, k3, k4, k5⟩ := P0.out.cells
    obtain ⟨q0, q1, q2, q3, q4, q5⟩ := Q0.out.cells
    go_wp2_with fail
    refine (HG.out _).mono ?_
    rintro e3 w3 ⟨rfl, hb⟩
    have P0n := Lib.hid ((P0.out.kept hb))
    have Q0n := Lib.hid ((Q0.out.kept hb))
    have BBn := Lib.hid (below2 BB.out hb)
    clear hb P0 Q0 BB
    have P0 := P0n
    clear P0n
    have Q0 := Q0n
    clear Q0n
    have BB := BBn
    clear BBn
    clear k0 k1 k2 k3 k4 k5
    clear q0 q1 q2 q3 q4 q5
    obtain ⟨k0, k1, k2, k3, k4, k5⟩ := P0.out.cells
    obtain ⟨q0, q1, q2, q3, q4, q5⟩ := Q0.out.cells
    go_wp2_with fail
    refine (H1.out _).mono ?_
    rintro e4 w4 ⟨rfl, hb⟩
    have P0n := Lib.hid ((P0.out.kept hb))
    have Q0n := Lib.hid ((Q0.out.kept hb))
    have BBn := Lib.hid (below2 BB.out hb)
    clear hb P0 Q0 BB
    have P0 := P0n
    clear P0n
    have Q0 := Q0n
    clear Q0n
    have BB := BBn
    clear BBn
    clear k0 k1 k2 k3 k4 k5
    clear q0 q1 q2 q3 q4 q5
    obtain ⟨k0, k1, k2, k3, k4, k5⟩ := P0.out.cells
    obtain ⟨q0, q1, q2, q3, q4, q5⟩ := Q0.out.cells
    go_wp2_with fail
    refine (H2.out _).mono ?_
    rintro e5 w5 ⟨rfl, hb⟩
    have P0n := Lib.hid ((P0.out.kept hb))
    have Q0n := Lib.hid ((Q0.out.kept hb))
    have BBn := Lib.hid (below2 BB.out hb)
    clear hb P0 Q0 BB
    have P0 := P0n
    clear P0n
    have Q0 := Q0n
    clear Q0n
    have BB := BBn
    clear BBn
    clear k0 k1 k2 k3 k4 k5
    clear q0 q1 q2 q3 q4 q5
    obtain ⟨k0, k1, k2, k3, k4, k5⟩ := P0.out.cells
    obtain ⟨q0, q1, q2, q3, q4, q5⟩ := Q0.out.cells
    cases ok with
    | false =>
      clear CC
      go_wp2_with fail
      refine (H3.out _).mono ?_
      rintro e6 w6 ⟨rfl, hb⟩
      have al := Lib.hid (below_alloc w6 (.cells (keyC 0 ⟨#[]⟩ ⟨#[]⟩ 0 0 0) 24))
      have BBn := Lib.hid (below2 (below2 BB.out hb) al.out)
      have M6 := Lib.hid (keyed_new w6 0 ⟨#[]⟩ ⟨#[]⟩ 0 0 0)
      clear hb BB al
      have BB := BBn
      clear BBn
      obtain ⟨c0, c1, c2, c3, c4, c5⟩ := M6.out.cells
      go_wp2_with fail
      go_ret
      exact ⟨rfl, BB.out⟩
    | true =>
      cases also with
      | false =>
        clear CC
        go_wp2_with fail
        refine (H3.out _).mono ?_
        rintro e6 w6 ⟨rfl, hb⟩
        have al := Lib.hid (below_alloc w6 (.cells (keyC 0 ⟨#[]⟩ ⟨#[]⟩ 0 0 0) 24))
        have BBn := Lib.hid (below2 (below2 BB.out hb) al.out)
        have M6 := Lib.hid (keyed_new w6 0 ⟨#[]⟩ ⟨#[]⟩ 0 0 0)
        clear hb BB al
        have BB := BBn
        clear BBn
        obtain ⟨c0, c1, c2, c3, c4, c5⟩ := M6.out.cells
        go_wp2_with fail
        go_ret
        exact ⟨rfl, BB.out⟩
      | true =>
        have CX := CC.out rfl rfl
        clear CC
        cases c
        all_goals
          go_wp2_with fail
          refine (H3.out _).mono ?_
          rintro e6 w6 ⟨rfl, hb⟩
          have al := Lib.hid (below_alloc w6 (.cells (keyC 0 ⟨#[]⟩ ⟨#[]⟩ 0 0 0) 24))
          have BBn := Lib.hid (below2 (below2 BB.out hb) al.out)
          have M6 := Lib.hid (keyed_new w6 0 ⟨#[]⟩ ⟨#[]⟩ 0 0 0)
          clear hb BB al
          have BB := BBn
          clear BBn
          obtain ⟨c0, c1, c2, c3, c4, c5⟩ := M6.out.cells
          go_wp2_with fail
          go_ret
          exact ⟨rfl, BB.out⟩
theorem own_PacketApart : ownKnob Try.prog.godebug = none := by kernel_rfl
set_option maxRecDepth 100000 in
set_option maxHeartbeats 800000 in
theorem lifted_PacketApart (os : Os) (started : os.Started) (H : Type) (enc : TypeId × Value → H) :
    ReturnsInHanded {} Try.checked os 8 .any (Rows.packetApartSpec.pre6 enc Try.prog Try.f8 Rows.packetApartRow.domain false) (Rows.packetApartSpec.post enc Try.prog Try.f8 false true false false) := by
  refine returnsInHanded_of_change (C := Try.checked) own_PacketApart started (by kernel_rfl) Try.func8
    (ChangeSpec.witness6 (enc := enc) (C := Try.checked) false ⟨#[], #[.agg #[.int .i64 0, .string ⟨#[]⟩, .string ⟨#[]⟩, .int .i64 0, .int .i64 0, .int .i64 0], .agg #[.int .i64 0, .string ⟨#[]⟩, .string ⟨#[]⟩, .int .i64 0, .int .i64 0, .int .i64 0], .string ⟨#[]⟩], []⟩ 8 (by kernel_rfl) (by kernel_rfl) (by kernel_rfl) (by kernel_rfl)) ?_
  intro W base args ds gs before hval0 hW _ _
  have hval : ∀ (j : Nat) t v, Try.f8.params[j]? = some t → args[j]? = some v → Value.okWide Try.prog W .any base t v := hval0
  have hW' := hW
  obtain ⟨p, q, hA0, hV, rfl, _, _⟩ := hW
  have hA : DataW.TrodAll enc Try.prog W 0 (fun _ => true) true Try.f8.params.toList args.toList ds p := hA0
  rw [Try.params8] at hA hval
  obtain ⟨v0, vs0, d0, ds0, p0, q0, ha0, rfl, rfl, t0, r0⟩ := trodAll_cons hA
  obtain ⟨v1, vs1, d1, ds1, p1, q1, ha1, rfl, rfl, t1, r1⟩ := trodAll_cons r0
  obtain ⟨v2, vs2, d2, ds2, p2, q2, ha2, rfl, rfl, t2, r2⟩ := trodAll_cons r1
  obtain ⟨rfl, rfl, rfl⟩ := trodAll_nil r2
  subst ha2
  subst ha1
  obtain rfl : args = #[v0, v1, v2] := by cases args; simp_all
  obtain ⟨rfl, rfl⟩ := trodVars_none hV
  obtain ⟨a0v, a0x, a0y, a0f, a0t, a0p, rfl, rfl, rfl, h0⟩ := Stc.open_key (hval 0 24 v0 rfl rfl) t0
  obtain ⟨a1v, a1x, a1y, a1f, a1t, a1p, rfl, rfl, rfl, h1⟩ := Stc.open_key (hval 1 24 v1 rfl rfl) t1
  obtain ⟨a2, rfl, rfl, rfl, h2⟩ := open_string Try.underlying9 (hval 2 9 v2 rfl rfl) t2
  clear hA0 hval0
  simp only [List.append_nil] at hW'
  refine (walk_PacketApart a0v a0x a0y a0f a0t a0p a1v a1x a1y a1f a1t a1p a2 h0 h1 h2 W).mono fun e W' ⟨he, hnx⟩ => ?_
  subst he
  exact ⟨_, rfl, ⟨_, _, _, [], [], [], hW', trodAll_cons_mk (shut_bool Try.underlying4 _) trodAll_mk0, (trodAll_cons_mk (Stc.shut_key h0) (trodAll_cons_mk (Stc.shut_key h1) (trodAll_cons_mk (shut_string Try.underlying9 h2) trodAll_mk0))), rfl, hnx.frame _, fun h => by cases h⟩⟩

theorem packetApart_holds : Rows.PacketApartSaid :=
  OpenClaim.holds_of_wide 8 Try.f8 rfl rfl rfl rfl rfl rfl rfl ⟨rfl, rfl, rfl, rfl, rfl⟩ rfl rfl rfl rfl rfl (by kernel_rfl) Try.func8 (by kernel_rfl)
    (of_decide_eq_true (by kernel_rfl)) (by unfold Func.isWrapper; first | (rw [if_pos (by decide +kernel)]; kernel_rfl) | (rw [if_neg (by decide +kernel)]; exact ⟨rfl, rfl⟩))
    (fun os started H enc _ => lifted_PacketApart os started H enc)

#print axioms packetApart_holds
end Go.Proofs.Ytcdgcjpdlhknoaa
