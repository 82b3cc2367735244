/-
  The document's model (package gangplankref17): in, Check, Small.
-/
import Derived.Test.YtbamodkgagcmnaaGreatBTabM
import Derived.WalkMore
import Derived.Lib.Hide
import Derived.Below
import Derived.Test.YtbamodkgagcmnaaGreatModGM
set_option maxRecDepth 100000
namespace Go.Proofs.YtbamodkgagcmnaaGreat.Mod
open Go.RowKit Go.Shelf Go.WideShapes

attribute [local go_sem] Oper.semAt_some

/-- A configuration. -/
structure Cfg where
  W : Int
  S : Int
  cap : Int
  idle : Int
  K : Int
deriving DecidableEq
abbrev cfgV (c : Cfg) : Value := .agg #[.int .i64 c.W, .int .i64 c.S, .int .i64 c.cap, .int .i64 c.idle, .int .i64 c.K]
def inB (n lo hi : Int) : Bool := decide (lo ≤ n ∧ n ≤ hi)
/-- May it be made so? -/
def okB (c : Cfg) : Bool := inB c.W 1 64 && (inB c.S 1 16 && (inB c.cap 1 64 && (inB c.idle 0 1000000 && inB c.K 2 8)))
def smallB (c : Cfg) : Bool := decide (c.W ≤ 6) && (decide (c.S ≤ 6) && decide (c.cap ≤ 12))
/-- 0: it may; 1: it may not. -/
def errOf (b : Bool) : Int := if b = true then 0 else 1
end Go.Proofs.YtbamodkgagcmnaaGreat.Mod

set_option maxRecDepth 100000
namespace Go.Proofs.YtbamodkgagcmnaaGreat.Mod
open Go.RowKit Go.Shelf Go.WideShapes RowG Trn

attribute [local go_sem] Oper.semAt_some

/-- A table as it lies. -/
structure TabM where
  p : Option Addr
  c : Nat
  T : List Tab.Ent
instance : Inhabited TabM := ⟨⟨none, 0, []⟩⟩
abbrev tabV (x : TabM) : Value := rowV x.p x.c x.T
def tabK : Kind TabM := ⟨1, fun x => [tabV x], by decide, fun _ => rfl, fun x u hu => by
  simp at hu; subst hu; rfl⟩
/-- A model: its configuration, its pool, its tables, its places. -/
abbrev modC (c : Cfg) (pv tv lv : Value) : Array Value := #[.int .i64 c.W, .int .i64 c.S, .int .i64 c.cap, .int .i64 c.idle, .int .i64 c.K, pv, tv, lv]
abbrev modV (c : Cfg) (pv tv lv : Value) : Value := .agg (modC c pv tv lv)
abbrev sl (a : Option Addr) (n c : Nat) : Value := .slice a n c
def ModBox (W : World) (g : Nat) (c : Cfg) (pv tv lv : Value) : Prop := W.heap[g]? = some (.cells (modC c pv tv lv) 36 (0, 0))
theorem ModBox.cells {W : World} {g : Nat} {c : Cfg} {pv tv lv : Value} (h : ModBox W g c pv tv lv) : (W.cell? ⟨g, 0, none⟩ = some (.int .i64 c.W) ∧ W.cell? ⟨g, 1, none⟩ = some (.int .i64 c.S) ∧ W.cell? ⟨g, 2, none⟩ = some (.int .i64 c.cap) ∧ W.cell? ⟨g, 3, none⟩ = some (.int .i64 c.idle) ∧ W.cell? ⟨g, 4, none⟩ = some (.int .i64 c.K) ∧ W.cell? ⟨g, 5, none⟩ = some (pv) ∧ W.cell? ⟨g, 6, none⟩ = some (tv) ∧ W.cell? ⟨g, 7, none⟩ = some (lv)) ∧ (∀ o, W.frozen? ⟨g, o, none⟩ = false) := by
  unfold ModBox at h
  refine ⟨⟨?_, ?_, ?_, ?_, ?_, ?_, ?_, ?_⟩, fun o => ?_⟩ <;> simp [World.cell?, World.frozen?, h]
theorem ModBox.kept {W W' : World} {g : Nat} {c : Cfg} {pv tv lv : Value} (h : ModBox W g c pv tv lv) {n : Nat} (hb : Below n W W') (hg : g < n) : ModBox W' g c pv tv lv := (hb.block g hg).trans h
theorem ModBox.tables {W : World} {g : Nat} {c : Cfg} {pv tv lv : Value} (h : ModBox W g c pv tv lv) (v : Value) : ModBox (W.setCell ⟨g, 6, none⟩ v) g c pv v lv := heap_setCell_same _ g 6 _ _ v h
theorem ModBox.beside {W : World} {g g' o : Nat} {c : Cfg} {pv tv lv : Value} (h : ModBox W g c pv tv lv) (hg : g' ≠ g) (v : Value) : ModBox (W.setCell ⟨g', o, none⟩ v) g c pv tv lv := (Below.heap_setCell _ _ _ _ fun e => hg e.symm).trans h
def putMod (W : World) (g : Nat) (c : Cfg) (pv tv lv : Value) : World := ((((((((W.setCell ⟨g, 0, none⟩ (.int .i64 c.W)).setCell ⟨g, 1, none⟩ (.int .i64 c.S)).setCell ⟨g, 2, none⟩ (.int .i64 c.cap)).setCell ⟨g, 3, none⟩ (.int .i64 c.idle)).setCell ⟨g, 4, none⟩ (.int .i64 c.K)).setCell ⟨g, 5, none⟩ (pv)).setCell ⟨g, 6, none⟩ (tv)).setCell ⟨g, 7, none⟩ (lv))
theorem ModBox.put {W : World} {g : Nat} {c c' : Cfg} {pv tv lv pv' tv' lv' : Value} (h : ModBox W g c' pv' tv' lv') : ModBox (putMod W g c pv tv lv) g c pv tv lv := by
  have h0 := heap_setCell_same _ g 0 _ _ (.int .i64 c.W) h
  have h1 := heap_setCell_same _ g 1 _ _ (.int .i64 c.S) h0
  have h2 := heap_setCell_same _ g 2 _ _ (.int .i64 c.cap) h1
  have h3 := heap_setCell_same _ g 3 _ _ (.int .i64 c.idle) h2
  have h4 := heap_setCell_same _ g 4 _ _ (.int .i64 c.K) h3
  have h5 := heap_setCell_same _ g 5 _ _ pv h4
  have h6 := heap_setCell_same _ g 6 _ _ tv h5
  have h7 := heap_setCell_same _ g 7 _ _ lv h6
  unfold ModBox putMod
  rw [h7]
  simp
theorem putMod_below {n : Nat} {w W : World} (hb : Below n w W) {g : Nat} (hg : n ≤ g) (c : Cfg) (pv tv lv : Value) : Below n w (putMod W g c pv tv lv) :=
  (((((((hb.setCell (p := ⟨g, 0, none⟩) hg _).setCell (p := ⟨g, 1, none⟩) hg _).setCell (p := ⟨g, 2, none⟩) hg _).setCell (p := ⟨g, 3, none⟩) hg _).setCell (p := ⟨g, 4, none⟩) hg _).setCell (p := ⟨g, 5, none⟩) hg _).setCell (p := ⟨g, 6, none⟩) hg _).setCell (p := ⟨g, 7, none⟩) hg _
theorem mod_rest (W : World) (g : Nat) (c : Cfg) (pv tv lv : Value) (k : Nat) (hk : k ≠ g) : (putMod W g c pv tv lv).heap[k]? = W.heap[k]? := by
  have h : Turned (fun k => k = g) W (putMod W g c pv tv lv) := ((((((((Turned.refl (fun k => k = g) W).setCell (a := ⟨g, 0, none⟩) rfl _).setCell (a := ⟨g, 1, none⟩) rfl _).setCell (a := ⟨g, 2, none⟩) rfl _).setCell (a := ⟨g, 3, none⟩) rfl _).setCell (a := ⟨g, 4, none⟩) rfl _).setCell (a := ⟨g, 5, none⟩) rfl _).setCell (a := ⟨g, 6, none⟩) rfl _).setCell (a := ⟨g, 7, none⟩) rfl _
  by_cases hl : k < W.heap.size
  · exact h.rest k hl hk
  · have e : (putMod W g c pv tv lv).heap.size = W.heap.size := by simp [putMod, World.setCell]
    rw [Array.getElem?_eq_none (by omega), Array.getElem?_eq_none (by omega)]
/-- Another table at a place, if there is such a one. -/
def setZ (ts : List TabM) (i : Int) (x : TabM) : List TabM := if 0 ≤ i then ts.set i.toNat x else ts
theorem take_more {α : Type} {T : List α} {k : Nat} {x : α} (h : T[k]? = some x) : T.take (k + 1) = T.take k ++ [x] := by rw [List.take_add_one, h]; rfl
theorem tab_cell {W : World} {a : Option Addr} {cap : Nat} {ts : List TabM} (h : Lies tabK W a cap ts) {k : Nat} (hk : k < ts.length) : ∃ b off, a = some ⟨b, off, none⟩ ∧ W.cell? ⟨b, off + k, none⟩ = some (tabV ts[k]) := by
  obtain ⟨b, off, e, hc⟩ := h.at hk
  refine ⟨b, off, e, ?_⟩
  have := hc 0 _ rfl
  rwa [show off + k * tabK.c + 0 = off + k by rw [show k * tabK.c = k from Nat.mul_one k]; rfl] at this
end Go.Proofs.YtbamodkgagcmnaaGreat.Mod
