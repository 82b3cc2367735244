/-
  The document's model (package gangplankref17): in, Check, Small.
-/
import Derived.Test.YtbamodkgagcmnaaGreatBTabD
import Derived.WalkMore
import Derived.Lib.Hide
import Derived.Below
import Derived.Test.YtbamodkgagcmnaaGreatModGD
import Derived.WalkKit
set_option maxRecDepth 100000
namespace Go.Proofs.YtbamodkgagcmnaaGreat.Mod
open Go.RowKit Go.Shelf Go.WideShapes

attribute [local go_sem] Oper.semAt_some

/-- A configuration. -/
structure Cfg where
  W : Int
  S : Int
  cap : Int
  idle : Int
  K : Int
deriving DecidableEq
abbrev cfgV (c : Cfg) : Value := .agg #[.int .i64 c.W, .int .i64 c.S, .int .i64 c.cap, .int .i64 c.idle, .int .i64 c.K]
def inB (n lo hi : Int) : Bool := decide (lo ≤ n ∧ n ≤ hi)
/-- May it be made so? -/
def okB (c : Cfg) : Bool := inB c.W 1 64 && (inB c.S 1 16 && (inB c.cap 1 64 && (inB c.idle 0 1000000 && inB c.K 2 8)))
def smallB (c : Cfg) : Bool := decide (c.W ≤ 6) && (decide (c.S ≤ 6) && decide (c.cap ≤ 12))
/-- 0: it may; 1: it may not. -/
def errOf (b : Bool) : Int := if b = true then 0 else 1
end Go.Proofs.YtbamodkgagcmnaaGreat.Mod

set_option maxRecDepth 100000
namespace Go.Proofs.YtbamodkgagcmnaaGreat.Mod
open Go.RowKit Go.Shelf Go.WideShapes RowG Trn

attribute [local go_sem] Oper.semAt_some

/-- A table as it lies. -/
structure TabM where
  p : Option Addr
  c : Nat
  T : List Tab.Ent
instance : Inhabited TabM := ⟨⟨none, 0, []⟩⟩
abbrev tabV (x : TabM) : Value := rowV x.p x.c x.T
def tabK : Kind TabM := ⟨1, fun x => [tabV x], by decide, fun _ => rfl, fun x u hu => by
  simp at hu; subst hu; rfl⟩
/-- A model: its configuration, its pool, its tables, its places. -/
abbrev modC (c : Cfg) (pv tv lv : Value) : Array Value := #[.int .i64 c.W, .int .i64 c.S, .int .i64 c.cap, .int .i64 c.idle, .int .i64 c.K, pv, tv, lv]
abbrev modV (c : Cfg) (pv tv lv : Value) : Value := .agg (modC c pv tv lv)
abbrev sl (a : Option Addr) (n c : Nat) : Value := .slice a n c
def ModBox (W : World) (g : Nat) (c : Cfg) (pv tv lv : Value) : Prop := W.heap[g]? = some (.cells (modC c pv tv lv) 36 (0, 0))
theorem ModBox.cells {W : World} {g : Nat} {c : Cfg} {pv tv lv : Value} (h : ModBox W g c pv tv lv) : (W.cell? ⟨g, 0, none⟩ = some (.int .i64 c.W) ∧ W.cell? ⟨g, 1, none⟩ = some (.int .i64 c.S) ∧ W.cell? ⟨g, 2, none⟩ = some (.int .i64 c.cap) ∧ W.cell? ⟨g, 3, none⟩ = some (.int .i64 c.idle) ∧ W.cell? ⟨g, 4, none⟩ = some (.int .i64 c.K) ∧ W.cell? ⟨g, 5, none⟩ = some (pv) ∧ W.cell? ⟨g, 6, none⟩ = some (tv) ∧ W.cell? ⟨g, 7, none⟩ = some (lv)) ∧ (∀ o, W.frozen? ⟨g, o, none⟩ = false) := by
  unfold ModBox at h
  refine ⟨⟨?_, ?_, ?_, ?_, ?_, ?_, ?_, ?_⟩, fun o => ?_⟩ <;> simp [World.cell?, World.frozen?, h]
theorem ModBox.kept {W W' : World} {g : Nat} {c : Cfg} {pv tv lv : Value} (h : ModBox W g c pv tv lv) {n : Nat} (hb : Below n W W') (hg : g < n) : ModBox W' g c pv tv lv := (hb.block g hg).trans h
theorem ModBox.tables {W : World} {g : Nat} {c : Cfg} {pv tv lv : Value} (h : ModBox W g c pv tv lv) (v : Value) : ModBox (W.setCell ⟨g, 6, none⟩ v) g c pv v lv := heap_setCell_same _ g 6 _ _ v h
theorem ModBox.beside {W : World} {g g' o : Nat} {c : Cfg} {pv tv lv : Value} (h : ModBox W g c pv tv lv) (hg : g' ≠ g) (v : Value) : ModBox (W.setCell ⟨g', o, none⟩ v) g c pv tv lv := (Below.heap_setCell _ _ _ _ fun e => hg e.symm).trans h
def putMod (W : World) (g : Nat) (c : Cfg) (pv tv lv : Value) : World := ((((((((W.setCell ⟨g, 0, none⟩ (.int .i64 c.W)).setCell ⟨g, 1, none⟩ (.int .i64 c.S)).setCell ⟨g, 2, none⟩ (.int .i64 c.cap)).setCell ⟨g, 3, none⟩ (.int .i64 c.idle)).setCell ⟨g, 4, none⟩ (.int .i64 c.K)).setCell ⟨g, 5, none⟩ (pv)).setCell ⟨g, 6, none⟩ (tv)).setCell ⟨g, 7, none⟩ (lv))
theorem ModBox.put {W : World} {g : Nat} {c c' : Cfg} {pv tv lv pv' tv' lv' : Value} (h : ModBox W g c' pv' tv' lv') : ModBox (putMod W g c pv tv lv) g c pv tv lv := by
  have h0 := heap_setCell_same _ g 0 _ _ (.int .i64 c.W) h
  have h1 := heap_setCell_same _ g 1 _ _ (.int .i64 c.S) h0
  have h2 := heap_setCell_same _ g 2 _ _ (.int .i64 c.cap) h1
  have h3 := heap_setCell_same _ g 3 _ _ (.int .i64 c.idle) h2
  have h4 := heap_setCell_same _ g 4 _ _ (.int .i64 c.K) h3
  have h5 := heap_setCell_same _ g 5 _ _ pv h4
  have h6 := heap_setCell_same _ g 6 _ _ tv h5
  have h7 := heap_setCell_same _ g 7 _ _ lv h6
  unfold ModBox putMod
  rw [h7]
  simp
theorem putMod_below {n : Nat} {w W : World} (hb : Below n w W) {g : Nat} (hg : n ≤ g) (c : Cfg) (pv tv lv : Value) : Below n w (putMod W g c pv tv lv) :=
  (((((((hb.setCell (p := ⟨g, 0, none⟩) hg _).setCell (p := ⟨g, 1, none⟩) hg _).setCell (p := ⟨g, 2, none⟩) hg _).setCell (p := ⟨g, 3, none⟩) hg _).setCell (p := ⟨g, 4, none⟩) hg _).setCell (p := ⟨g, 5, none⟩) hg _).setCell (p := ⟨g, 6, none⟩) hg _).setCell (p := ⟨g, 7, none⟩) hg _
theorem mod_rest (W : World) (g : Nat) (c : Cfg) (pv tv lv : Value) (k : Nat) (hk : k ≠ g) : (putMod W g c pv tv lv).heap[k]? = W.heap[k]? := by
  have h : Turned (fun k => k = g) W (putMod W g c pv tv lv) := ((((((((Turned.refl (fun k => k = g) W).setCell (a := ⟨g, 0, none⟩) rfl _).setCell (a := ⟨g, 1, none⟩) rfl _).setCell (a := ⟨g, 2, none⟩) rfl _).setCell (a := ⟨g, 3, none⟩) rfl _).setCell (a := ⟨g, 4, none⟩) rfl _).setCell (a := ⟨g, 5, none⟩) rfl _).setCell (a := ⟨g, 6, none⟩) rfl _).setCell (a := ⟨g, 7, none⟩) rfl _
  by_cases hl : k < W.heap.size
  · exact h.rest k hl hk
  · have e : (putMod W g c pv tv lv).heap.size = W.heap.size := by simp [putMod, World.setCell]
    rw [Array.getElem?_eq_none (by omega), Array.getElem?_eq_none (by omega)]
/-- Another table at a place, if there is such a one. -/
def setZ (ts : List TabM) (i : Int) (x : TabM) : List TabM := if 0 ≤ i then ts.set i.toNat x else ts
theorem take_more {α : Type} {T : List α} {k : Nat} {x : α} (h : T[k]? = some x) : T.take (k + 1) = T.take k ++ [x] := by rw [List.take_add_one, h]; rfl
theorem tab_cell {W : World} {a : Option Addr} {cap : Nat} {ts : List TabM} (h : Lies tabK W a cap ts) {k : Nat} (hk : k < ts.length) : ∃ b off, a = some ⟨b, off, none⟩ ∧ W.cell? ⟨b, off + k, none⟩ = some (tabV ts[k]) := by
  obtain ⟨b, off, e, hc⟩ := h.at hk
  refine ⟨b, off, e, ?_⟩
  have := hc 0 _ rfl
  rwa [show off + k * tabK.c + 0 = off + k by rw [show k * tabK.c = k from Nat.mul_one k]; rfl] at this
end Go.Proofs.YtbamodkgagcmnaaGreat.Mod

set_option maxRecDepth 100000
namespace Go.Proofs.YtbamodkgagcmnaaGreat.Cel
open Go

/-- An act, and what it tells. -/
structure Act where
  k : Int
  i : Int
  a : Int
  b : Int
structure Told where
  n : Int
  ok : Bool
deriving DecidableEq
/-- Cells, locks (whose; -1: free), and how often they were called. -/
structure St where
  cells : List Int
  locks : List Int
  shared : Nat
/-- What goes round. -/
abbrev wr (n : Int) : Int := IntKind.i64.wrap n
/-- How many. -/
def size (n : Int) : Nat := (min (max n 0) 1024).toNat
def new (n m : Int) : St := ⟨List.replicate (size n) 0, List.replicate (size m) (-1), 0⟩
/-- Is there such a one? -/
def Has (l : List Int) (i : Int) : Prop := 0 ≤ i ∧ i < (l.length : Int)
instance (l : List Int) (i : Int) : Decidable (Has l i) := inferInstanceAs (Decidable (_ ∧ _))
/-- What stands there. -/
def at' (l : List Int) (i : Int) : Int := l.getD i.toNat 0
theorem Has.lt {l : List Int} {i : Int} (h : Has l i) : i.toNat < l.length := by have := h.1; have := h.2; omega
def load (s : St) (i : Int) : St × Int := if Has s.cells i then (⟨s.cells, s.locks, s.shared + 1⟩, at' s.cells i) else (s, 0)
def store (s : St) (i v : Int) : St := if Has s.cells i then ⟨s.cells.set i.toNat v, s.locks, s.shared + 1⟩ else s
def add (s : St) (i d : Int) : St × Int := if Has s.cells i then (⟨s.cells.set i.toNat (wr (at' s.cells i + d)), s.locks, s.shared + 1⟩, wr (at' s.cells i + d)) else (s, 0)
def swap (s : St) (i o v : Int) : St × Bool := if Has s.cells i then (if at' s.cells i = o then (⟨s.cells.set i.toNat v, s.locks, s.shared + 1⟩, true) else (⟨s.cells, s.locks, s.shared + 1⟩, false)) else (s, false)
def lock (s : St) (i who : Int) : St × Bool := if Has s.locks i then (if at' s.locks i < 0 ∧ 0 ≤ who then (⟨s.cells, s.locks.set i.toNat who, s.shared + 1⟩, true) else (⟨s.cells, s.locks, s.shared + 1⟩, false)) else (s, false)
def unlock (s : St) (i who : Int) : St × Bool := if Has s.locks i then (if 0 ≤ at' s.locks i ∧ at' s.locks i = who then (⟨s.cells, s.locks.set i.toNat (-1), s.shared + 1⟩, true) else (⟨s.cells, s.locks, s.shared + 1⟩, false)) else (s, false)
def owner (s : St) (i : Int) : Int := if Has s.locks i then at' s.locks i else -1
/-- An act. -/
def act (s : St) (x : Act) : St × Told :=
  if x.k = 0 then ((load s x.i).1, ⟨(load s x.i).2, false⟩)
  else if x.k = 1 then (store s x.i x.a, ⟨0, false⟩)
  else if x.k = 2 then ((add s x.i x.a).1, ⟨(add s x.i x.a).2, false⟩)
  else if x.k = 3 then ((swap s x.i x.a x.b).1, ⟨0, (swap s x.i x.a x.b).2⟩)
  else if x.k = 4 then ((lock s x.i x.a).1, ⟨0, (lock s x.i x.a).2⟩)
  else if x.k = 5 then ((unlock s x.i x.a).1, ⟨0, (unlock s x.i x.a).2⟩)
  else (s, ⟨owner s x.i, false⟩)
def runs (s : St) (l : List Act) : St := l.foldl (fun s x => (act s x).1) s
/-- What every act keeps to: how many there are, whose locks may be, how often it is counted. -/
structure Keeps (s t : St) : Prop where
  cells : t.cells.length = s.cells.length
  locks : t.locks.length = s.locks.length
  shared : s.shared ≤ t.shared ∧ t.shared ≤ s.shared + 1
  own : (∀ x ∈ s.locks, -1 ≤ x) → ∀ x ∈ t.locks, -1 ≤ x
theorem Keeps.refl (s : St) : Keeps s s := ⟨rfl, rfl, ⟨Nat.le_refl _, by omega⟩, id⟩
theorem keeps_set {s : St} {n : Nat} {v : Int} {L : List Int} {i : Nat} (hv : -1 ≤ v) (hL : L = s.locks.set i v ∨ L = s.locks) {C : List Int} (hC : C.length = s.cells.length) (hn : n = s.shared + 1) : Keeps s ⟨C, L, n⟩ := by
  refine ⟨hC, ?_, ⟨by show s.shared ≤ n; omega, by show n ≤ s.shared + 1; omega⟩, fun h x hx => ?_⟩
  · rcases hL with rfl | rfl
    · simp
    · rfl
  · rcases hL with rfl | rfl
    · rcases List.mem_or_eq_of_mem_set hx with hx | rfl
      · exact h x hx
      · exact hv
    · exact h x hx
theorem act_keeps (s : St) (x : Act) : Keeps s (act s x).1 := by
  unfold act
  split
  · unfold load; split
    · exact keeps_set (i := 0) (v := 0) (by omega) (.inr rfl) rfl rfl
    · exact Keeps.refl s
  split
  · unfold store; split
    · exact keeps_set (i := 0) (v := 0) (by omega) (.inr rfl) (by simp) rfl
    · exact Keeps.refl s
  split
  · unfold add; split
    · exact keeps_set (i := 0) (v := 0) (by omega) (.inr rfl) (by simp) rfl
    · exact Keeps.refl s
  split
  · unfold swap; split
    · split
      · exact keeps_set (i := 0) (v := 0) (by omega) (.inr rfl) (by simp) rfl
      · exact keeps_set (i := 0) (v := 0) (by omega) (.inr rfl) rfl rfl
    · exact Keeps.refl s
  split
  · unfold lock; split
    · split
      · rename_i h
        exact keeps_set (i := x.i.toNat) (v := x.a) (by have := h.2; omega) (.inl rfl) rfl rfl
      · exact keeps_set (i := 0) (v := 0) (by omega) (.inr rfl) rfl rfl
    · exact Keeps.refl s
  split
  · unfold unlock; split
    · split
      · exact keeps_set (i := x.i.toNat) (v := -1) (by omega) (.inl rfl) rfl rfl
      · exact keeps_set (i := 0) (v := 0) (by omega) (.inr rfl) rfl rfl
    · exact Keeps.refl s
  · exact Keeps.refl s
theorem Has.set {l : List Int} {i : Int} (h : Has l i) (j : Nat) (v : Int) : Has (l.set j v) i := ⟨h.1, by rw [List.length_set]; exact h.2⟩
/-- Many acts. -/
structure Ran (s t : St) (n : Nat) : Prop where
  cells : t.cells.length = s.cells.length
  locks : t.locks.length = s.locks.length
  shared : s.shared ≤ t.shared ∧ t.shared ≤ s.shared + n
  own : (∀ x ∈ s.locks, -1 ≤ x) → ∀ x ∈ t.locks, -1 ≤ x
theorem Ran.more {s t : St} {n : Nat} (h : Ran s t n) (x : Act) : Ran s (act t x).1 (n + 1) := by
  have k := act_keeps t x
  refine ⟨k.cells.trans h.cells, k.locks.trans h.locks, ⟨by have := h.shared; have := k.shared; omega, by have := h.shared; have := k.shared; omega⟩, fun ho => k.own (h.own ho)⟩
theorem Ran.wide {s t : St} {n m : Nat} (h : Ran s t n) (hm : n ≤ m) : Ran s t m := ⟨h.cells, h.locks, ⟨h.shared.1, by have := h.shared; omega⟩, h.own⟩
/-- Those acts alone that are not done to i. -/
def runsBut (i : Int) (s : St) (l : List Act) : St := l.foldl (fun s x => if x.i = i then s else (act s x).1) s
/-- A sum that goes round. -/
def sumW (z : Int) (l : List Int) : Int := l.foldl (fun s x => wr (s + x)) z
end Go.Proofs.YtbamodkgagcmnaaGreat.Cel

set_option maxRecDepth 100000
namespace Go.Proofs.YtbamodkgagcmnaaGreat.RowG
open Go.ChangeShapes Go.WideShapes Go.RowKit

instance : Inhabited Cel.Act := ⟨⟨0, 0, 0, 0⟩⟩
/-- An act's cells. -/
def actK : Kind Cel.Act := ⟨4, fun x => [.int .i64 x.k, .int .i64 x.i, .int .i64 x.a, .int .i64 x.b], by decide, fun _ => rfl, fun x u hu => by
  simp at hu; rcases hu with rfl | rfl | rfl | rfl <;> rfl⟩
/-- A number's one cell. -/
def numK : Kind Int := ⟨1, fun x => [.int .i64 x], by decide, fun _ => rfl, fun x u hu => by
  simp at hu; rcases hu with rfl; rfl⟩
structure ActOk (x : Cel.Act) : Prop where
  k : (Lit.int .i64 x.k).wf = true
  i : (Lit.int .i64 x.i).wf = true
  a : (Lit.int .i64 x.a).wf = true
  b : (Lit.int .i64 x.b).wf = true
section
variable {P : Program} {H : Type} {enc : TypeId × Value → H} {w : World} {base : Nat} {spare : Nat → Bool} {held : Bool} {e ti : TypeId} {f0 f1 f2 f3 : Field}
/-- An act at a place, cell by cell. -/
theorem Lies.act {W : World} {a : Option Addr} {cap : Nat} {T : List Cel.Act} (h : Lies actK W a cap T) {k : Nat} (hk : k < T.length) :
    ∃ b off, a = some ⟨b, off, none⟩ ∧ W.cell? ⟨b, off + k * 4, none⟩ = some (.int .i64 T[k].k) ∧ W.cell? ⟨b, off + k * 4 + 1, none⟩ = some (.int .i64 T[k].i) ∧ W.cell? ⟨b, off + k * 4 + 2, none⟩ = some (.int .i64 T[k].a) ∧ W.cell? ⟨b, off + k * 4 + 3, none⟩ = some (.int .i64 T[k].b) := by
  obtain ⟨b, off, e, hc⟩ := h.at hk
  exact ⟨b, off, e, hc 0 _ rfl, hc 1 _ rfl, hc 2 _ rfl, hc 3 _ rfl⟩
/-- A number at a place. -/
theorem Lies.num {W : World} {a : Option Addr} {cap : Nat} {T : List Int} (h : Lies numK W a cap T) {k : Nat} (hk : k < T.length) : ∃ b off, a = some ⟨b, off, none⟩ ∧ W.cell? ⟨b, off + k, none⟩ = some (.int .i64 T[k]) := by
  obtain ⟨b, off, e, hc⟩ := h.at hk
  refine ⟨b, off, e, ?_⟩
  have := hc 0 _ rfl
  simpa [numK] using this
theorem Row.num {Ty : TypeId} {W : World} {g cap : Nat} {T : List Int} (h : Row numK Ty W g cap T) {k : Nat} (hk : k < T.length) : W.cell? ⟨g, k, none⟩ = some (.int .i64 T[k]) := by
  have := h.cell hk (j := 0) rfl
  simpa [numK] using this
theorem Row.put1 {Ty : TypeId} {W : World} {g cap : Nat} {T : List Int} (h : Row numK Ty W g cap T) {k : Nat} (hk : k < T.length) (x : Int) : Row numK Ty (W.setCell ⟨g, k, none⟩ (.int .i64 x)) g cap (T.set k x) := by
  have := h.put hk x
  simpa [numK, putC] using this
end
end Go.Proofs.YtbamodkgagcmnaaGreat.RowG
