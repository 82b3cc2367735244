/-
  Rows of things, over any program: how a parameter that is such a row is opened, and how many it may hold; a table's entries as such things.
-/
import Derived.Test.YtefdnnmgmdaapaaGreatRowG
import Derived.Test.YtefdnnmgmdaapaaGreatTabP
import Derived.ChangeMaps5
import Derived.Deep.Strs
import Derived.Carry
namespace Go.Proofs.YtefdnnmgmdaapaaGreat.RowG
open Go.RowKit Go.Shelf Go.WideShapes Go.ChangeShapes Go.Deep
section
variable {α : Type} {K : Kind α} {Ok : α → Prop} {P : Program} {H : Type} {enc : TypeId × Value → H} {w : World} {base : Nat} {spare : Nat → Bool} {held : Bool} {t e : TypeId}
/-- A parameter that is a row. -/
theorem open_rows [Inhabited α] (ht : P.underlying t = some (.slice e)) (he : P.cellsOf e = K.c) (hel : ∀ n cs x, DataW.trod enc P w base spare held n e cs = some x → ∃ y : α, cs = K.enc y ∧ Ok y)
    {r : Reach} {b0 : Nat} {v : Value} {d : DataW H} {ps : List MemPlace} (hv : Value.okWide P w r b0 t v) (h : DataW.Trod enc P w base spare held t v d ps) :
    ∃ (a : Option Addr) (cap : Nat) (xs : List α), v = rowV a cap xs ∧ Lies K w a cap xs ∧ ∀ x ∈ xs, Ok x := by
  obtain ⟨a, len, cap, rfl⟩ := okWide_slice ht hv
  obtain ⟨fuel, hf⟩ := h
  rcases open_slice ht hf with ⟨hc, _⟩ | ⟨ad, l, c, m, n, D, Pl, hc, _, hl, hm, hmm, _, hall⟩
  · simp [Value.cells] at hc
    obtain ⟨rfl, rfl, rfl⟩ := hc
    exact ⟨none, 0, [], rfl, lies_nil w, fun x hx => by cases hx⟩
  · simp [Value.cells] at hc
    obtain ⟨rfl, rfl, rfl⟩ := hc
    have hlm : len ≤ m := by rw [hmm]; split <;> omega
    have each : ∀ i, i < len → ∃ x : α, w.cells? base (ad.add (i * K.c)) K.c = some (K.enc x) ∧ Ok x := by
      intro i hi
      obtain ⟨cs, h1, h2⟩ := hall i (by omega)
      obtain ⟨y, rfl, ho⟩ := hel n cs _ h2
      rw [he] at h1
      exact ⟨y, h1, ho⟩
    obtain ⟨q, hq⟩ := choose_lt each
    refine ⟨some ad, cap, (List.range len).map q, by simp [rowV], ⟨hm, by simpa using hl, fun hne => ?_⟩, ?_⟩
    · have hpos : 0 < len := by
        cases len with
        | zero => simp at hne
        | succ k => omega
      have cell : ∀ i, i < len → ∀ j, j < K.c → w.cell? ((ad.add (i * K.c)).add j) = (K.enc (q i))[j]? := fun i hi j hj => by
        obtain ⟨_, hlen, hcell⟩ := World.cells?_some (hq i hi).1
        exact hcell j hj
      obtain ⟨b, off, spot⟩ := ad
      have hspot : spot = none := by
        have h0 := cell 0 hpos 0 K.pos
        rw [List.getElem?_eq_getElem (by rw [K.len]; exact K.pos)] at h0
        simpa [Addr.add] using World.cell?_spot h0
      subst hspot
      refine ⟨b, off, rfl, fun i x hi j u hj => ?_⟩
      rw [List.getElem?_map] at hi
      cases hr : (List.range len)[i]? with
      | none => rw [hr] at hi; cases hi
      | some k =>
        rw [hr] at hi
        obtain ⟨hlt, hk⟩ := List.getElem?_eq_some_iff.1 hr
        rw [List.getElem_range] at hk
        subst hk
        simp at hi
        subst hi
        have hlt' : i < len := by simpa using hlt
        have hjl : j < K.c := by rw [← K.len (q i)]; exact (List.getElem?_eq_some_iff.1 hj).1
        have := cell i hlt' j hjl
        rw [Addr.add_lit, Addr.add_lit, hj] at this
        exact this
    · intro x hx
      obtain ⟨i, hi, rfl⟩ := List.mem_map.1 hx
      exact (hq i (List.mem_range.1 hi)).2
/-- How many things a row may hold that came in. -/
theorem rows_len (ht : P.underlying t = some (.slice e)) {a : Option Addr} {cap : Nat} {xs : List α} {d : DataW H} {ps : List MemPlace} (h : DataW.Trod enc P w base spare held t (rowV a cap xs) d ps)
    {ts : List TypeId} {ds : List (DataW H)} (hz : (DataW.weightsEach P ts ds).all (· ≤ reachBytes) = true) {j : Nat} (hts : ts[j]? = some t) (hd : ds[j]? = some d) : xs.length * P.bytesOf e ≤ 140737488351232 := by
  obtain ⟨fuel, hf⟩ := h
  rcases open_slice ht hf with ⟨hc, _⟩ | ⟨ad, l, c, m, n, D, Pl, hc, _, _, _, _, hx, _⟩
  · simp [Value.cells] at hc
    obtain ⟨_, rfl, _⟩ := hc
    simp
  · simp [Value.cells] at hc
    obtain ⟨_, rfl, _⟩ := hc
    simp only [Prod.mk.injEq] at hx
    obtain ⟨rfl, _⟩ := hx
    have := sized_slice hz hts hd ht
    simp only [List.length_map, List.length_range, reachBytes] at this
    exact Nat.le_trans (Nat.mul_le_mul_right _ (Nat.le_add_right _ _)) this
end

instance : Inhabited Tab.Ent := ⟨Tab.ent0⟩
/-- An entry's cells. -/
def entK : Kind Tab.Ent := ⟨4, fun x => [.int .i64 x.st, .string x.key, .int .i64 x.be, .int .i64 x.dl], by decide, fun _ => rfl, fun x u hu => by
  simp at hu; rcases hu with rfl | rfl | rfl | rfl <;> rfl⟩
/-- What an entry keeps to. -/
structure EntOk (x : Tab.Ent) : Prop where
  st : (Lit.int .i64 x.st).wf = true
  key : x.key.size ≤ maxLen
  be : (Lit.int .i64 x.be).wf = true
  dl : (Lit.int .i64 x.dl).wf = true
section
variable {P : Program} {H : Type} {enc : TypeId × Value → H} {w : World} {base : Nat} {spare : Nat → Bool} {held : Bool} {e ti ts : TypeId} {f0 f1 f2 f3 : Field}
/-- An entry is opened. -/
theorem trod_ent (hu : P.underlying e = some (.struct #[f0, f1, f2, f3])) (ce : P.cellsOf e = 4) (hi : P.underlying ti = some (.int .i64)) (hs : P.underlying ts = some .string) (ci : P.cellsOf ti = 1) (cs' : P.cellsOf ts = 1)
    (t0 : f0.type = ti ∧ f0.offset = 0) (t1 : f1.type = ts ∧ f1.offset = 1) (t2 : f2.type = ti ∧ f2.offset = 2) (t3 : f3.type = ti ∧ f3.offset = 3)
    (n : Nat) (cs : List Value) (x : DataW H × List MemPlace) (h : DataW.trod enc P w base spare held n e cs = some x) : ∃ y : Tab.Ent, cs = entK.enc y ∧ EntOk y := by
  obtain ⟨ys, k, _, rfl, hl, hn, hf⟩ := DataW.trod_struct hu h
  rw [ce] at hl
  match cs, hl with
  | [c0, c1, c2, c3], _ =>
    match ys, hn with
    | [y0, y1, y2, y3], _ =>
      have g0 := hf 0 f0 rfl
      have g1 := hf 1 f1 rfl
      have g2 := hf 2 f2 rfl
      have g3 := hf 3 f3 rfl
      rw [t0.1, t0.2, ci] at g0
      rw [t1.1, t1.2, cs'] at g1
      rw [t2.1, t2.2, ci] at g2
      rw [t3.1, t3.2, ci] at g3
      obtain ⟨V, e0, _, w0⟩ := DataW.trod_int hi (x := y0) g0
      obtain ⟨s, e1, _, w1⟩ := DataW.trod_string hs (x := y1) g1
      obtain ⟨B, e2, _, w2⟩ := DataW.trod_int hi (x := y2) g2
      obtain ⟨D, e3, _, w3⟩ := DataW.trod_int hi (x := y3) g3
      simp at e0 e1 e2 e3
      subst e0; subst e1; subst e2; subst e3
      exact ⟨⟨V, s, B, D⟩, rfl, w0, w1, w2, w3⟩
/-- An entry at a place, cell by cell. -/
theorem Lies.ent {W : World} {a : Option Addr} {cap : Nat} {T : List Tab.Ent} (h : Lies entK W a cap T) {k : Nat} (hk : k < T.length) :
    ∃ b off, a = some ⟨b, off, none⟩ ∧ W.cell? ⟨b, off + k * 4, none⟩ = some (.int .i64 T[k].st) ∧ W.cell? ⟨b, off + k * 4 + 1, none⟩ = some (.string T[k].key) ∧ W.cell? ⟨b, off + k * 4 + 2, none⟩ = some (.int .i64 T[k].be) ∧ W.cell? ⟨b, off + k * 4 + 3, none⟩ = some (.int .i64 T[k].dl) := by
  obtain ⟨b, off, e, hc⟩ := h.at hk
  exact ⟨b, off, e, hc 0 _ rfl, hc 1 _ rfl, hc 2 _ rfl, hc 3 _ rfl⟩
/-- A world in which an entry stands at a place of a row. -/
def put4 (W : World) (g i : Nat) (x : Tab.Ent) : World := (((W.setCell ⟨g, i * 4, none⟩ (.int .i64 x.st)).setCell ⟨g, i * 4 + 1, none⟩ (.string x.key)).setCell ⟨g, i * 4 + 2, none⟩ (.int .i64 x.be)).setCell ⟨g, i * 4 + 3, none⟩ (.int .i64 x.dl)
theorem Row.put4 {Ty : TypeId} {W : World} {g cap : Nat} {T : List Tab.Ent} (h : Row entK Ty W g cap T) {i : Nat} (hi : i < T.length) (x : Tab.Ent) : Row entK Ty (put4 W g i x) g cap (T.set i x) := h.put hi x
theorem below_put4 {B : Nat} {w W : World} (h : Below B w W) {g : Nat} (hg : B ≤ g) (i : Nat) (x : Tab.Ent) : Below B w (put4 W g i x) := below_putC (entK.enc x) h hg (i * 4)
theorem Row.ent {Ty : TypeId} {W : World} {g cap : Nat} {T : List Tab.Ent} (h : Row entK Ty W g cap T) {k : Nat} (hk : k < T.length) :
    W.cell? ⟨g, k * 4, none⟩ = some (.int .i64 T[k].st) ∧ W.cell? ⟨g, k * 4 + 1, none⟩ = some (.string T[k].key) ∧ W.cell? ⟨g, k * 4 + 2, none⟩ = some (.int .i64 T[k].be) ∧ W.cell? ⟨g, k * 4 + 3, none⟩ = some (.int .i64 T[k].dl) :=
  ⟨h.cell hk (j := 0) rfl, h.cell hk (j := 1) rfl, h.cell hk (j := 2) rfl, h.cell hk (j := 3) rfl⟩
end
end Go.Proofs.YtefdnnmgmdaapaaGreat.RowG
