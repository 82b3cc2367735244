/-
  Law 16's own told (package gangplanklaw16).
-/
import Derived.Test.YtefdnnmgmdaapaaGreatSloG
import Derived.Test.YtefdnnmgmdaapaaGreatSloHp
namespace Go.Proofs.YtefdnnmgmdaapaaGreat.Slo
open Go.RowKit Go.Shelf Go.WideShapes RowG

attribute [local go_sem] Oper.semAt_some

/-- What an act makes of slots as they lie. -/
def actSM (right : List (Int × Int) → Bool) (l : List SlotM) (x : ActM) : List SlotM × Bool := if x.k = 0 then beginM l x.i else if x.k = 1 then fillM l x.i x.p x.c x.pool (right x.pool) else spoilM l x.i
theorem abs_act (right : List (Int × Int) → Bool) (l : List SlotM) (x : ActM) : absL (actSM right l x).1 = (act right (absL l) x.act).1 ∧ (actSM right l x).2 = (act right (absL l) x.act).2 := by
  unfold actSM act
  by_cases h0 : x.k = 0
  · rw [if_pos h0, if_pos (show x.act.kind = 0 from h0)]; exact abs_begin l x.i
  · rw [if_neg h0, if_neg (show ¬ x.act.kind = 0 from h0)]
    by_cases h1 : x.k = 1
    · rw [if_pos h1, if_pos (show x.act.kind = 1 from h1)]; exact abs_fill right l x.i x.p x.c x.pool
    · rw [if_neg h1, if_neg (show ¬ x.act.kind = 1 from h1)]; exact abs_spoil l x.i
theorem Tells.of {B : Nat} {l l' : List SlotM} {u' : Value} {v : Value} {w w0 W : World} {e : Ending} (hb : Below w.heap.size w w0) (hg : Gives B W v l) (h : Below w0.heap.size w0 W) (hl : l' = l) (he : e = .returned (.tuple #[v, u'])) : Tells B l' u' w e W := ⟨v, he, hl ▸ hg, hb.trans (h.mono hb.size)⟩
set_option maxHeartbeats 400000 in
/-- What the document tells of an act, given what reference 8's Check tells of its pool. -/
theorem told_any (right : List (Int × Int) → Bool) (a : Option Addr) (cap : Nat) (l : List SlotM) (x : ActM) (w : World) (h : Lies slotK w a cap l) (hl : l.length ≤ 1000000000) (B : Nat) (hB : ∀ b off, a = some ⟨b, off, none⟩ → B ≤ b) (hBw : B ≤ w.heap.size)
    (hP : ∀ W', Below w.heap.size w W' → Calls Tryz.prog 39 #[actP x] W' fun e W2 => e = .returned (.int .i64 (if right x.pool = true then 0 else 10)) ∧ Below W'.heap.size W' W2) :
    Calls Tryz.prog 9 #[rowV a cap l, actV x] w (Tells B (actSM right l x).1 (.bool (actSM right l x).2) w) := by
  obtain ⟨bel, x0, x1, x2⟩ := act_box w x
  have hk := h.kept bel
  have hp := hP _ bel
  obtain ⟨k, i, pa, pc, P⟩ := x
  have BE := Lib.hid bel
  clear bel h hP
  dsimp only at x0 x1 x2 hp BE hk
  by_cases h0 : k = 0
  · subst h0
    have C := Lib.hid (refBegin_any _ _ _ _ hk hl B hB (by have := BE.out.size; omega) i)
    have HE := Lib.hid (show actSM right l ⟨0, i, pa, pc, P⟩ = beginM l i from if_pos rfl)
    clear hk hp
    generalize beginM l i = r at *
    go_enter Tryz.func9, Tryz.ntmps9
    go_wp2_with fail
    refine C.out.mono ?_
    rintro e w1 ⟨v, rfl, hg, hb⟩
    have HG := Lib.hid hg
    have HB := Lib.hid hb
    obtain ⟨a1, cap1, rfl, -⟩ := hg
    clear hb
    go_wp2_with fail
    refine bodyPost_ret (v := .tuple #[_, _]) (by simp [results, Tryz.results9, go_sem]; exact ⟨rfl, rfl⟩) rfl ?_
    exact Tells.of BE.out HG.out HB.out (by rw [HE.out]) (by rw [HE.out])
  by_cases h1 : k = 1
  · subst h1
    have C := Lib.hid (refFill_any _ _ _ _ hk hl B hB (by have := BE.out.size; omega) i pa pc P (right P) hp)
    have HE := Lib.hid (show actSM right l ⟨1, i, pa, pc, P⟩ = fillM l i pa pc P (right P) from rfl)
    clear hk hp
    generalize fillM l i pa pc P (right P) = r at *
    go_enter Tryz.func9, Tryz.ntmps9
    go_wp2_with fail
    refine C.out.mono ?_
    rintro e w1 ⟨v, rfl, hg, hb⟩
    have HG := Lib.hid hg
    have HB := Lib.hid hb
    obtain ⟨a1, cap1, rfl, -⟩ := hg
    clear hb
    go_wp2_with fail
    refine bodyPost_ret (v := .tuple #[_, _]) (by simp [results, Tryz.results9, go_sem]; exact ⟨rfl, rfl⟩) rfl ?_
    exact Tells.of BE.out HG.out HB.out (by rw [HE.out]) (by rw [HE.out])
  · have C := Lib.hid (refSpoil_any _ _ _ _ hk hl B hB (by have := BE.out.size; omega) i)
    have HE := Lib.hid (show actSM right l ⟨k, i, pa, pc, P⟩ = spoilM l i by unfold actSM; rw [if_neg h0, if_neg h1])
    have e0 : (k == 0) = false := beq_false_of_ne h0
    have e1 : (k == 1) = false := beq_false_of_ne h1
    clear hk hp h0 h1
    generalize spoilM l i = r at *
    go_enter Tryz.func9, Tryz.ntmps9
    go_wp2_with fail
    refine C.out.mono ?_
    rintro e w1 ⟨v, rfl, hg, hb⟩
    have HG := Lib.hid hg
    have HB := Lib.hid hb
    obtain ⟨a1, cap1, rfl, -⟩ := hg
    clear hb
    go_wp2_with fail
    refine bodyPost_ret (v := .tuple #[_, _]) (by simp [results, Tryz.results9, go_sem]; exact ⟨rfl, rfl⟩) rfl ?_
    exact Tells.of BE.out HG.out HB.out (by rw [HE.out]) (by rw [HE.out])
end Go.Proofs.YtefdnnmgmdaapaaGreat.Slo
