/-
  Law 16's own do (package gangplanklaw16), over the program's slots.
-/
import Derived.Test.YtefdnnmgmdaapaaGreatSlsB
import Derived.Test.YtefdnnmgmdaapaaGreatSloI
namespace Go.Proofs.YtefdnnmgmdaapaaGreat.Sls
open Go.RowKit Go.Shelf RowG Trn Slo
open Pol (Bk polV)

attribute [local go_sem] Oper.semAt_some

/-- A row of backends, as the acts have it, is one as pools have it. -/
theorem pol_lies {W : World} {a : Option Addr} {c : Nat} {z : List Bk} (h : RowG.Lies bkK W a c z) : Pol.Lies W a c z :=
  ⟨h.max, h.len, fun hn => by
    obtain ⟨b, off, e, hc⟩ := h.cell hn
    exact ⟨b, off, e, fun i x hi => ⟨hc i x hi 0 _ rfl, hc i x hi 1 _ rfl⟩⟩⟩
set_option maxHeartbeats 800000 in
theorem do_any (f : Foot) (l : List (Slot (List Bk))) (x : ActM) (w : World) (h : Held w f l) (hz : Pol.Lies w x.p x.c x.pool) :
    Calls Tryz.prog 8 #[f.v, actV x] w (Does f (Slo.act rightB l x.act) w) := by
  obtain ⟨bel, x0, x1, x2⟩ := act_box w x
  have HH := h.kept bel
  have hzk := hz.kept bel
  obtain ⟨k, i, pa, pc, P⟩ := x
  have BE := Lib.hid bel
  clear bel h hz
  dsimp only at x0 x1 x2 HH hzk BE
  by_cases h0 : k = 0
  · subst h0
    have C := Lib.hid (Begin_told f l i _ HH)
    rw [show Slo.begin l i = Slo.act rightB l (ActM.act ⟨0, i, pa, pc, P⟩) from rfl] at C
    generalize Slo.act rightB l (ActM.act ⟨0, i, pa, pc, P⟩) = r at *
    clear HH hzk
    go_enter Tryz.func8, Tryz.ntmps8
    go_wp2_with fail
    refine C.out.mono ?_
    rintro e w1 ⟨rfl, h1, h2⟩
    have H1 := Lib.hid h1
    have H2 := Lib.hid (show Turned f.has w w1 from (Turned.of_below BE.out).trans h2)
    clear h1 h2 C
    go_wp2_with fail
    go_ret
    exact ⟨rfl, H1.out, H2.out⟩
  by_cases h1 : k = 1
  · subst h1
    have C := Lib.hid (Fill_told f l i pa pc P _ HH hzk)
    rw [show Slo.fill rightB l i P = Slo.act rightB l (ActM.act ⟨1, i, pa, pc, P⟩) from rfl] at C
    generalize Slo.act rightB l (ActM.act ⟨1, i, pa, pc, P⟩) = r at *
    clear HH hzk
    go_enter Tryz.func8, Tryz.ntmps8
    go_wp2_with fail
    refine C.out.mono ?_
    rintro e w1 ⟨rfl, h1, h2⟩
    have H1 := Lib.hid h1
    have H2 := Lib.hid (show Turned f.has w w1 from (Turned.of_below BE.out).trans h2)
    clear h1 h2 C
    go_wp2_with fail
    go_ret
    exact ⟨rfl, H1.out, H2.out⟩
  · have C := Lib.hid (Spoil_told f l i _ HH)
    rw [show Slo.spoil l i = Slo.act rightB l (ActM.act ⟨k, i, pa, pc, P⟩) by
      unfold Slo.act
      rw [if_neg (show ¬ (ActM.act ⟨k, i, pa, pc, P⟩).kind = 0 from h0), if_neg (show ¬ (ActM.act ⟨k, i, pa, pc, P⟩).kind = 1 from h1)]] at C
    generalize Slo.act rightB l (ActM.act ⟨k, i, pa, pc, P⟩) = r at *
    have e0 : (k == 0) = false := beq_false_of_ne h0
    have e1 : (k == 1) = false := beq_false_of_ne h1
    clear HH hzk h0 h1
    go_enter Tryz.func8, Tryz.ntmps8
    go_wp2_with fail
    refine C.out.mono ?_
    rintro e w1 ⟨rfl, h1, h2⟩
    have H1 := Lib.hid h1
    have H2 := Lib.hid (show Turned f.has w w1 from (Turned.of_below BE.out).trans h2)
    clear h1 h2 C
    go_wp2_with fail
    go_ret
    exact ⟨rfl, H1.out, H2.out⟩
end Go.Proofs.YtefdnnmgmdaapaaGreat.Sls
