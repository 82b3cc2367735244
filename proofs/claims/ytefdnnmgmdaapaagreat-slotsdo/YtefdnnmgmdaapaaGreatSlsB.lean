/-
  Package slots: Fill as a contract.
-/
import Derived.Test.YtefdnnmgmdaapaaGreatSlsA
import Derived.Test.YtefdnnmgmdaapaaGreatPolQ
import Derived.Test.YtefdnnmgmdaapaaGreatBPtp
namespace Go.Proofs.YtefdnnmgmdaapaaGreat.Sls
open Go.RowKit Go.Shelf RowG Trn Slo
open Pol (Bk polV chk chkV below_alloc)
open Pts (ptsV ofL hsh)

attribute [local go_sem] Oper.semAt_some

open Classical in
/-- May a pool be? -/
noncomputable def rightB (z : List Bk) : Bool := decide (chk z)
open Classical in
theorem right_iff (z : List Bk) : chk z ↔ rightB z = true := by unfold rightB; rw [decide_eq_true_iff]

theorem at_spoilt (w : World) : (method 277 54 (.agg #[]) "gangplank/slots.filled").run Tryz.prog w = .ok (75, .agg #[]) w := by kernel_rfl
theorem at_built (w : World) : (method 277 78 (.agg #[]) "gangplank/slots.filled").run Tryz.prog w = .ok (77, .agg #[]) w := by kernel_rfl
theorem at_ready (v : Value) (w : World) : (method 277 64 v "gangplank/slots.filled").run Tryz.prog w = .ok (76, v) w := by kernel_rfl

set_option maxHeartbeats 400000 in
theorem spoilt_filled (a : Option Addr) (c : Nat) (z : List Bk) (w : World) :
    Calls Tryz.prog 75 #[.agg #[], polV a c z] w fun e W' => e = .returned (.tuple #[.nilIface, .bool false]) ∧ Below w.heap.size w W' := by
  have al := Lib.hid (below_alloc w (.cells #[] 54))
  go_enter Tryz.func75, Tryz.ntmps75
  go_wp2_with fail
  go_ret2
  exact ⟨rfl, al.out⟩
set_option maxHeartbeats 400000 in
theorem ready_filled (pa : Option Addr) (pc : Nat) (x : List Bk) (ca : Option Addr) (cc n : Nat) (a : Option Addr) (c : Nat) (z : List Bk) (w : World) :
    Calls Tryz.prog 76 #[.agg #[polV pa pc x, .slice ca n cc], polV a c z] w fun e W' => e = .returned (.tuple #[.nilIface, .bool false]) ∧ Below w.heap.size w W' := by
  have al := Lib.hid (below_alloc w (.cells #[polV pa pc x, .slice ca n cc] 64))
  go_enter Tryz.func76, Tryz.ntmps76
  go_wp2_with fail
  go_ret2
  exact ⟨rfl, al.out⟩
set_option maxHeartbeats 400000 in
theorem built_no (a : Option Addr) (c : Nat) (z : List Bk) (w : World) (h : Pol.Lies w a c z) (hr : rightB z = false) :
    Calls Tryz.prog 77 #[.agg #[], polV a c z] w fun e W' => e = .returned (.tuple #[.nilIface, .bool false]) ∧ Below w.heap.size w W' := by
  have al := Lib.hid (below_alloc w (.cells #[] 78))
  have C := Lib.hid (Pol.Check_told a c z (rightB z) (right_iff z) _ (h.kept al.out))
  rw [hr] at C
  clear h hr
  go_enter Tryz.func77, Tryz.ntmps77
  go_wp2_with fail
  refine C.out.mono ?_
  rintro e w1 ⟨rfl, hb⟩
  have HB := Lib.hid (below2 al.out hb)
  clear hb C al
  simp only [chkV]
  go_wp2_with fail
  go_ret2
  exact ⟨rfl, HB.out⟩
set_option maxHeartbeats 400000 in
theorem built_yes (a : Option Addr) (c : Nat) (z : List Bk) (w : World) (h : Pol.Lies w a c z) (hr : rightB z = true) :
    Calls Tryz.prog 77 #[.agg #[], polV a c z] w fun e W' => ∃ pa pc ca cc, e = .returned (.tuple #[.iface 64 (.agg #[polV pa pc z, ptsV ca cc (ofL hsh z)]), .bool true]) ∧ Pol.Lies W' pa pc z ∧ Pts.Lies W' ca cc (ofL hsh z) ∧ Below w.heap.size w W' := by
  have al := Lib.hid (below_alloc w (.cells #[] 78))
  have hl : z.length ≤ 32 := ((right_iff z).2 hr).1
  have H := Lib.hid (h.kept al.out)
  have C := Lib.hid (Pol.Check_told a c z (rightB z) (right_iff z) _ H.out)
  rw [hr] at C
  have E0 := fun w2 (h2 : Pol.Lies w2 a c z) => Lib.hid (Pts.Of_told a c z w2 h2 (by omega))
  generalize ofL hsh z = L at *
  clear h hr
  go_enter Tryz.func77, Tryz.ntmps77
  go_wp2_with fail
  refine C.out.mono ?_
  rintro e w1 ⟨rfl, hb⟩
  have HB := Lib.hid (below2 al.out hb)
  have H1 := Lib.hid (H.out.kept hb)
  clear hb C al H
  simp only [chkV]
  have D := Lib.hid (Pol.Clone_any a c z w1 H1.out (by omega))
  go_wp2_with fail
  refine D.out.mono ?_
  rintro e w2 ⟨v, rfl, ho, hb⟩
  obtain ⟨pa, pc, rfl, hp⟩ := ho.lies
  have HB2 := Lib.hid (below2 HB.out hb)
  have H2 := Lib.hid (H1.out.kept hb)
  have P2 := Lib.hid hp
  clear hb D HB H1 hp ho
  have E := E0 w2 H2.out
  have P3 := Lib.hid (fun W (hb : Below w2.heap.size w2 W) => P2.out.kept hb)
  clear P2 H2 E0
  go_wp2_with fail
  refine E.out.mono ?_
  rintro e w3 ⟨v, rfl, ⟨ca, cc, rfl, hL⟩, hb⟩
  have HB3 := Lib.hid (below2 HB2.out hb)
  have P4 := Lib.hid (P3.out _ hb)
  have L4 := Lib.hid hL
  clear hb E HB2 hL P3
  go_wp2_with fail
  go_ret2
  exact ⟨_, _, _, _, rfl, P4.out, L4.out, HB3.out⟩

theorem fill_notB {l : List (Slot (List Bk))} {i : Int} {z : List Bk} (h : at' l i = .built) (hr : rightB z = false) : fill rightB l i z = (l, false) := by
  unfold fill; rw [h]; exact if_neg (by rw [hr]; decide)
theorem is_built {l : List (Slot (List Bk))} {i : Int} (h : at' l i = .built) : Is l i := by
  unfold at' at h
  split at h
  · assumption
  · cases h
theorem fill_yesB {l : List (Slot (List Bk))} {i : Int} {z : List Bk} (h : at' l i = .built) (hr : rightB z = true) : fill rightB l i z = putL l i (.ready z) := by
  unfold fill putL; rw [h, if_pos (is_built h)]; exact if_pos hr
theorem Does.stay {f : Foot} {l : List (Slot (List Bk))} {r : List (Slot (List Bk)) × Bool} {w w' : World} {b : Bool} (hr : r = (l, b)) (h : Held w f l) (hb : Below w.heap.size w w') : Does f r w (.returned (.bool b)) w' := by
  subst hr; exact ⟨rfl, h.kept hb, .of_below hb⟩
set_option maxHeartbeats 400000 in
theorem Fill_told (f : Foot) (l : List (Slot (List Bk))) (i : Int) (a : Option Addr) (c : Nat) (z : List Bk) (w : World) (h : Held w f l) (hz : Pol.Lies w a c z) :
    Calls Tryz.prog 16 #[f.v, .int .i64 i, polV a c z] w (Does f (fill rightB l i z) w) := by
  have HH := Lib.hid h
  obtain ⟨m, rfl, hm⟩ := h
  have A := Lib.hid (at_told f m i w hm)
  have HA := Lib.hid (abs_at m i)
  have m0 := at_spoilt
  have m1 := at_built
  have m2 := at_ready
  cases hx : atM m i with
  | spoilt =>
    rw [hx] at A HA
    have D := Lib.hid (fun W (hb : Below w.heap.size w W) => Does.stay (fill_not (right := rightB) (p := z) (by rw [HA.out]; intro e; cases e)) HH.out hb)
    have C := Lib.hid (spoilt_filled a c z)
    rw [show SlM.spoilt.v = spoiltV from rfl] at A
    generalize fill rightB (m.map SlM.abs) i z = r at *
    clear hx HA hm hz m1 m2 HH
    go_enter Tryz.func16, Tryz.ntmps16
    go_wp2_with fail
    refine A.out.mono ?_
    rintro e w1 ⟨rfl, rfl⟩
    go_wp2_with fail
    refine (C.out _).mono ?_
    rintro e w2 ⟨rfl, hb⟩
    have HB := Lib.hid hb
    clear hb C A
    go_wp2_with fail
    go_ret
    exact D.out _ HB.out
  | ready pa pc y ca cc =>
    rw [hx] at A HA
    have D := Lib.hid (fun W (hb : Below w.heap.size w W) => Does.stay (fill_not (right := rightB) (p := z) (by rw [HA.out]; intro e; cases e)) HH.out hb)
    obtain ⟨n, hn⟩ : ∃ n, (ofL hsh y).length = n := ⟨_, rfl⟩
    have C := Lib.hid (ready_filled pa pc y ca cc n a c z)
    rw [show (SlM.ready pa pc y ca cc).v = .iface 64 (.agg #[polV pa pc y, .slice ca n cc]) by rw [← hn]; rfl] at A
    generalize fill rightB (m.map SlM.abs) i z = r at *
    clear hn
    clear hx HA hm hz m1 m0 HH
    go_enter Tryz.func16, Tryz.ntmps16
    go_wp2_with fail
    refine A.out.mono ?_
    rintro e w1 ⟨rfl, rfl⟩
    go_wp2_with fail
    refine (C.out _).mono ?_
    rintro e w2 ⟨rfl, hb⟩
    have HB := Lib.hid hb
    clear hb C A
    go_wp2_with fail
    go_ret
    exact D.out _ HB.out
  | built =>
    rw [hx] at A HA
    rw [show SlM.built.v = builtV from rfl] at A
    cases hr : rightB z with
    | false =>
      have D := Lib.hid (fun W (hb : Below w.heap.size w W) => Does.stay (fill_notB HA.out hr) HH.out hb)
      have C := Lib.hid (built_no a c z w hz hr)
      generalize fill rightB (m.map SlM.abs) i z = r at *
      clear hx HA hm hz m0 m2 HH hr
      go_enter Tryz.func16, Tryz.ntmps16
      go_wp2_with fail
      refine A.out.mono ?_
      rintro e w1 ⟨rfl, rfl⟩
      go_wp2_with fail
      refine C.out.mono ?_
      rintro e w2 ⟨rfl, hb⟩
      have HB := Lib.hid hb
      clear hb C A
      go_wp2_with fail
      go_ret
      exact D.out _ HB.out
    | true =>
      have HE := Lib.hid (fill_yesB HA.out hr)
      have C := Lib.hid (built_yes a c z w hz hr)
      have hl : z.length ≤ 32 := ((right_iff z).2 hr).1
      have HM := Lib.hid hm
      clear hx HA hz m0 m2 HH hr hm
      go_enter Tryz.func16, Tryz.ntmps16
      go_wp2_with fail
      refine A.out.mono ?_
      rintro e w1 ⟨rfl, rfl⟩
      go_wp2_with fail
      refine C.out.mono ?_
      rintro e w2 ⟨pa, pc, ca, cc, rfl, h1, h2, hb⟩
      have HB := Lib.hid hb
      have M2 := HM.out.kept hb
      have G := Lib.hid (put_told f m i (.ready pa pc z ca cc) w2 M2 (M2.ready h1 h2 hl))
      rw [show (SlM.ready pa pc z ca cc).abs = .ready z from rfl, ← HE.out, show (SlM.ready pa pc z ca cc).v = .iface 64 (.agg #[polV pa pc z, ptsV ca cc (ofL hsh z)]) from rfl] at G
      generalize fill rightB (m.map SlM.abs) i z = r at *
      generalize ofL hsh z = L at *
      clear hb C A M2 h1 h2 hl HE HM
      go_wp2_with fail
      refine G.out.mono ?_
      rintro e w3 ⟨rfl, h3, h4⟩
      have H3 := Lib.hid h3
      have H4 := Lib.hid (show Turned f.has w1 w3 from (Turned.of_below HB.out).trans h4)
      clear h3 h4 G
      go_wp2_with fail
      go_ret
      exact ⟨rfl, H3.out, H4.out⟩
end Go.Proofs.YtefdnnmgmdaapaaGreat.Sls
