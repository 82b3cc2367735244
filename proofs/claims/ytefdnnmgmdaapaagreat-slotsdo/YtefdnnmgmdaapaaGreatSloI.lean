/-
  Acts with pools, as they are drawn: how they are opened (over any program).
-/
import Derived.Test.YtefdnnmgmdaapaaGreatSloHp
import Derived.Test.YtefdnnmgmdaapaaGreatRowN
namespace Go.Proofs.YtefdnnmgmdaapaaGreat.Slo
open Go.ChangeShapes Go.WideShapes Go.RowKit Go.Shelf Go.Deep RowG
/-- A backend's two cells. -/
def bkK : Kind (Int × Int) := ⟨2, fun x => [.int .i64 x.1, .int .i64 x.2], by decide, fun _ => rfl, fun x u hu => by
  simp at hu; rcases hu with rfl | rfl <;> rfl⟩
def BkOk (x : Int × Int) : Prop := (Lit.int .i64 x.1).wf = true ∧ (Lit.int .i64 x.2).wf = true
structure ActOk (w : World) (x : ActM) : Prop where
  k : (Lit.int .i64 x.k).wf = true
  i : (Lit.int .i64 x.i).wf = true
  lies : RowG.Lies bkK w x.p x.c x.pool
  pool : ∀ y ∈ x.pool, BkOk y
section
variable {P : Program} {H : Type} {enc : TypeId × Value → H} {w : World} {base : Nat} {spare : Nat → Bool} {held : Bool} {e ti ts tb : TypeId} {f0 f1 f2 g0' g1' : Field}
/-- A backend is opened. -/
theorem trod_bk (hu : P.underlying tb = some (.struct #[g0', g1'])) (ce : P.cellsOf tb = 2) (hi : P.underlying ti = some (.int .i64)) (ci : P.cellsOf ti = 1)
    (t0 : g0'.type = ti ∧ g0'.offset = 0) (t1 : g1'.type = ti ∧ g1'.offset = 1)
    (n : Nat) (cs : List Value) (x : DataW H × List MemPlace) (h : DataW.trod enc P w base spare held n tb cs = some x) : ∃ y : Int × Int, cs = bkK.enc y ∧ BkOk y := by
  obtain ⟨ys, k, _, rfl, hl, hn, hf⟩ := DataW.trod_struct hu h
  rw [ce] at hl
  match cs, hl with
  | [c0, c1], _ =>
    match ys, hn with
    | [y0, y1], _ =>
      have g0 := hf 0 g0' rfl
      have g1 := hf 1 g1' rfl
      rw [t0.1, t0.2, ci] at g0
      rw [t1.1, t1.2, ci] at g1
      obtain ⟨A, e0, _, w0⟩ := DataW.trod_int hi (x := y0) g0
      obtain ⟨B, e1, _, w1⟩ := DataW.trod_int hi (x := y1) g1
      simp at e0 e1
      subst e0; subst e1
      exact ⟨(A, B), rfl, w0, w1⟩
/-- An act is opened. -/
theorem trod_actM (hu : P.underlying e = some (.struct #[f0, f1, f2])) (ce : P.cellsOf e = 3) (hi : P.underlying ti = some (.int .i64)) (ci : P.cellsOf ti = 1) (hs : P.underlying ts = some (.slice tb)) (cs' : P.cellsOf ts = 1)
    (hb : P.underlying tb = some (.struct #[g0', g1'])) (cb : P.cellsOf tb = 2) (s0 : g0'.type = ti ∧ g0'.offset = 0) (s1 : g1'.type = ti ∧ g1'.offset = 1)
    (t0 : f0.type = ti ∧ f0.offset = 0) (t1 : f1.type = ti ∧ f1.offset = 1) (t2 : f2.type = ts ∧ f2.offset = 2)
    (n : Nat) (cs : List Value) (x : DataW H × List MemPlace) (h : DataW.trod enc P w base spare held n e cs = some x) : ∃ y : ActM, cs = actM.enc y ∧ ActOk w y := by
  obtain ⟨ys, k, _, rfl, hl, hn, hf⟩ := DataW.trod_struct hu h
  rw [ce] at hl
  match cs, hl with
  | [c0, c1, c2], _ =>
    match ys, hn with
    | [y0, y1, y2], _ =>
      have g0 := hf 0 f0 rfl
      have g1 := hf 1 f1 rfl
      have g2 := hf 2 f2 rfl
      rw [t0.1, t0.2, ci] at g0
      rw [t1.1, t1.2, ci] at g1
      rw [t2.1, t2.2, cs'] at g2
      obtain ⟨A, e0, _, w0⟩ := DataW.trod_int hi (x := y0) g0
      obtain ⟨B, e1, _, w1⟩ := DataW.trod_int hi (x := y1) g1
      obtain ⟨p, c, l, e2, h2, o2⟩ := trod_rows (K := bkK) (Ok := BkOk) hs cb (trod_bk hb cb hi ci s0 s1) _ _ y2 g2
      simp at e0 e1 e2
      subst e0; subst e1; subst e2
      exact ⟨⟨A, B, p, c, l⟩, rfl, w0, w1, h2, o2⟩
end
set_option maxRecDepth 100000 in
/-- This program's acts. -/
theorem trod_act16 {H : Type} {enc : TypeId × Value → H} {w : World} {base : Nat} {spare : Nat → Bool} {held : Bool} (n : Nat) (cs : List Value) (x : DataW H × List MemPlace) (h : DataW.trod enc Tryz.prog w base spare held n 33 cs = some x) : ∃ y : ActM, cs = actM.enc y ∧ ActOk w y :=
  trod_actM (ti := 3) (ts := 31) (tb := 46) rfl rfl rfl rfl rfl rfl rfl rfl ⟨rfl, rfl⟩ ⟨rfl, rfl⟩ ⟨rfl, rfl⟩ ⟨rfl, rfl⟩ ⟨rfl, rfl⟩ n cs x h
end Go.Proofs.YtefdnnmgmdaapaaGreat.Slo
