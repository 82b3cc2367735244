/-
  Rows of things that hold rows themselves, over any program: how a row in a cell is opened; acts with pins as such things.
-/
import Derived.Test.YtbamodkgagcmnaaGreatCelR
import Derived.Test.YtbamodkgagcmnaaGreatEpoP
set_option maxRecDepth 100000
namespace Go.Proofs.YtbamodkgagcmnaaGreat.RowG
open Go.ChangeShapes Go.WideShapes Go.RowKit Go.Shelf Go.Deep
section
variable {α : Type} {K : Kind α} {Ok : α → Prop} {P : Program} {H : Type} {enc : TypeId × Value → H} {w : World} {base : Nat} {spare : Nat → Bool} {held : Bool} {t e : TypeId}
/-- A cell that is a row. -/
theorem trod_rows [Inhabited α] (ht : P.underlying t = some (.slice e)) (he : P.cellsOf e = K.c) (hel : ∀ n cs x, DataW.trod enc P w base spare held n e cs = some x → ∃ y : α, cs = K.enc y ∧ Ok y)
    (n : Nat) (cs : List Value) (x : DataW H × List MemPlace) (hf : DataW.trod enc P w base spare held n t cs = some x) :
    ∃ (a : Option Addr) (cap : Nat) (xs : List α), cs = [rowV a cap xs] ∧ Lies K w a cap xs ∧ ∀ x ∈ xs, Ok x := by
  rcases open_slice ht hf with ⟨rfl, _⟩ | ⟨ad, len, cap, m, n', D, Pl, rfl, _, hl, hm, hmm, _, hall⟩
  · exact ⟨none, 0, [], rfl, lies_nil w, fun x hx => by cases hx⟩
  · have hlm : len ≤ m := by rw [hmm]; split <;> omega
    have each : ∀ i, i < len → ∃ x : α, w.cells? base (ad.add (i * K.c)) K.c = some (K.enc x) ∧ Ok x := by
      intro i hi
      obtain ⟨cs, h1, h2⟩ := hall i (by omega)
      obtain ⟨y, rfl, ho⟩ := hel n' cs _ h2
      rw [he] at h1
      exact ⟨y, h1, ho⟩
    obtain ⟨q, hq⟩ := choose_lt each
    refine ⟨some ad, cap, (List.range len).map q, by simp [rowV], ⟨hm, by simpa using hl, fun hne => ?_⟩, ?_⟩
    · have hpos : 0 < len := by
        cases len with
        | zero => simp at hne
        | succ k => omega
      have cell : ∀ i, i < len → ∀ j, j < K.c → w.cell? ((ad.add (i * K.c)).add j) = (K.enc (q i))[j]? := fun i hi j hj => by
        obtain ⟨_, hlen, hcell⟩ := World.cells?_some (hq i hi).1
        exact hcell j hj
      obtain ⟨b, off, spot⟩ := ad
      have hspot : spot = none := by
        have h0 := cell 0 hpos 0 K.pos
        rw [List.getElem?_eq_getElem (by rw [K.len]; exact K.pos)] at h0
        simpa [Addr.add] using World.cell?_spot h0
      subst hspot
      refine ⟨b, off, rfl, fun i x hi j u hj => ?_⟩
      rw [List.getElem?_map] at hi
      cases hr : (List.range len)[i]? with
      | none => rw [hr] at hi; cases hi
      | some k =>
        rw [hr] at hi
        obtain ⟨hlt, hk⟩ := List.getElem?_eq_some_iff.1 hr
        rw [List.getElem_range] at hk
        subst hk
        simp at hi
        subst hi
        have hlt' : i < len := by simpa using hlt
        have hjl : j < K.c := by rw [← K.len (q i)]; exact (List.getElem?_eq_some_iff.1 hj).1
        have := cell i hlt' j hjl
        rw [Addr.add_lit, Addr.add_lit, hj] at this
        exact this
    · intro x hx
      obtain ⟨i, hi, rfl⟩ := List.mem_map.1 hx
      exact (hq i (List.mem_range.1 hi)).2
end
end Go.Proofs.YtbamodkgagcmnaaGreat.RowG
namespace Go.Proofs.YtbamodkgagcmnaaGreat.Epo
open Go.ChangeShapes Go.WideShapes Go.RowKit Go.Shelf Go.Deep RowG
/-- An act as it lies in memory: its pins are a row of their own. -/
structure ActM where
  k : Int
  slot : Int
  at' : Int
  p : Option Addr
  c : Nat
  pins : List Int
instance : Inhabited ActM := ⟨⟨0, 0, 0, none, 0, []⟩⟩
abbrev ActM.act (x : ActM) : Act := ⟨x.k, x.slot, x.at', x.pins⟩
def actM : Kind ActM := ⟨4, fun x => [.int .i64 x.k, .int .i64 x.slot, .int .i64 x.at', rowV x.p x.c x.pins], by decide, fun _ => rfl, fun x u hu => by
  simp at hu; rcases hu with rfl | rfl | rfl | rfl <;> rfl⟩
structure ActOk (w : World) (x : ActM) : Prop where
  k : (Lit.int .i64 x.k).wf = true
  slot : (Lit.int .i64 x.slot).wf = true
  at' : (Lit.int .i64 x.at').wf = true
  lies : Lies numK w x.p x.c x.pins
  pins : ∀ y ∈ x.pins, (Lit.int .i64 y).wf = true
section
variable {P : Program} {H : Type} {enc : TypeId × Value → H} {w : World} {base : Nat} {spare : Nat → Bool} {held : Bool} {e ti ts : TypeId} {f0 f1 f2 f3 : Field}
/-- An act is opened. -/
theorem trod_actM (hu : P.underlying e = some (.struct #[f0, f1, f2, f3])) (ce : P.cellsOf e = 4) (hi : P.underlying ti = some (.int .i64)) (ci : P.cellsOf ti = 1) (hs : P.underlying ts = some (.slice ti)) (cs' : P.cellsOf ts = 1)
    (t0 : f0.type = ti ∧ f0.offset = 0) (t1 : f1.type = ti ∧ f1.offset = 1) (t2 : f2.type = ti ∧ f2.offset = 2) (t3 : f3.type = ts ∧ f3.offset = 3)
    (n : Nat) (cs : List Value) (x : DataW H × List MemPlace) (h : DataW.trod enc P w base spare held n e cs = some x) : ∃ y : ActM, cs = actM.enc y ∧ ActOk w y := by
  obtain ⟨ys, k, _, rfl, hl, hn, hf⟩ := DataW.trod_struct hu h
  rw [ce] at hl
  match cs, hl with
  | [c0, c1, c2, c3], _ =>
    match ys, hn with
    | [y0, y1, y2, y3], _ =>
      have g0 := hf 0 f0 rfl
      have g1 := hf 1 f1 rfl
      have g2 := hf 2 f2 rfl
      have g3 := hf 3 f3 rfl
      rw [t0.1, t0.2, ci] at g0
      rw [t1.1, t1.2, ci] at g1
      rw [t2.1, t2.2, ci] at g2
      rw [t3.1, t3.2, cs'] at g3
      obtain ⟨A, e0, _, w0⟩ := DataW.trod_int hi (x := y0) g0
      obtain ⟨B, e1, _, w1⟩ := DataW.trod_int hi (x := y1) g1
      obtain ⟨C, e2, _, w2⟩ := DataW.trod_int hi (x := y2) g2
      obtain ⟨p, c, l, e3, h3, o3⟩ := trod_rows (K := numK) (Ok := fun y => (Lit.int .i64 y).wf = true) hs ci (trod_num hi) _ _ y3 g3
      simp at e0 e1 e2 e3
      subst e0; subst e1; subst e2; subst e3
      exact ⟨⟨A, B, C, p, c, l⟩, rfl, w0, w1, w2, h3, o3⟩
/-- An act at a place, cell by cell. -/
theorem lies_actM {W : World} {a : Option Addr} {cap : Nat} {T : List ActM} (h : Lies actM W a cap T) {k : Nat} (hk : k < T.length) :
    ∃ b off, a = some ⟨b, off, none⟩ ∧ W.cell? ⟨b, off + k * 4, none⟩ = some (.int .i64 T[k].k) ∧ W.cell? ⟨b, off + k * 4 + 1, none⟩ = some (.int .i64 T[k].slot) ∧ W.cell? ⟨b, off + k * 4 + 2, none⟩ = some (.int .i64 T[k].at') ∧ W.cell? ⟨b, off + k * 4 + 3, none⟩ = some (rowV T[k].p T[k].c T[k].pins) := by
  obtain ⟨b, off, e, hc⟩ := h.at hk
  exact ⟨b, off, e, hc 0 _ rfl, hc 1 _ rfl, hc 2 _ rfl, hc 3 _ rfl⟩
end
end Go.Proofs.YtbamodkgagcmnaaGreat.Epo
