/-
  Cells and locks, plain facts: what each act does to them, and what holds of them.
-/
import Derived.WalkKit
import Derived.Test.YtbamodkgagcmnaaGreatBTabM
set_option maxRecDepth 100000
namespace Go.Proofs.YtbamodkgagcmnaaGreat.Cel
open Go

/-- An act, and what it tells. -/
structure Act where
  k : Int
  i : Int
  a : Int
  b : Int
structure Told where
  n : Int
  ok : Bool
deriving DecidableEq
/-- Cells, locks (whose; -1: free), and how often they were called. -/
structure St where
  cells : List Int
  locks : List Int
  shared : Nat
/-- What goes round. -/
abbrev wr (n : Int) : Int := IntKind.i64.wrap n
/-- How many. -/
def size (n : Int) : Nat := (min (max n 0) 1024).toNat
def new (n m : Int) : St := ⟨List.replicate (size n) 0, List.replicate (size m) (-1), 0⟩
/-- Is there such a one? -/
def Has (l : List Int) (i : Int) : Prop := 0 ≤ i ∧ i < (l.length : Int)
instance (l : List Int) (i : Int) : Decidable (Has l i) := inferInstanceAs (Decidable (_ ∧ _))
/-- What stands there. -/
def at' (l : List Int) (i : Int) : Int := l.getD i.toNat 0
theorem Has.lt {l : List Int} {i : Int} (h : Has l i) : i.toNat < l.length := by have := h.1; have := h.2; omega
def load (s : St) (i : Int) : St × Int := if Has s.cells i then (⟨s.cells, s.locks, s.shared + 1⟩, at' s.cells i) else (s, 0)
def store (s : St) (i v : Int) : St := if Has s.cells i then ⟨s.cells.set i.toNat v, s.locks, s.shared + 1⟩ else s
def add (s : St) (i d : Int) : St × Int := if Has s.cells i then (⟨s.cells.set i.toNat (wr (at' s.cells i + d)), s.locks, s.shared + 1⟩, wr (at' s.cells i + d)) else (s, 0)
def swap (s : St) (i o v : Int) : St × Bool := if Has s.cells i then (if at' s.cells i = o then (⟨s.cells.set i.toNat v, s.locks, s.shared + 1⟩, true) else (⟨s.cells, s.locks, s.shared + 1⟩, false)) else (s, false)
def lock (s : St) (i who : Int) : St × Bool := if Has s.locks i then (if at' s.locks i < 0 ∧ 0 ≤ who then (⟨s.cells, s.locks.set i.toNat who, s.shared + 1⟩, true) else (⟨s.cells, s.locks, s.shared + 1⟩, false)) else (s, false)
def unlock (s : St) (i who : Int) : St × Bool := if Has s.locks i then (if 0 ≤ at' s.locks i ∧ at' s.locks i = who then (⟨s.cells, s.locks.set i.toNat (-1), s.shared + 1⟩, true) else (⟨s.cells, s.locks, s.shared + 1⟩, false)) else (s, false)
def owner (s : St) (i : Int) : Int := if Has s.locks i then at' s.locks i else -1
/-- An act. -/
def act (s : St) (x : Act) : St × Told :=
  if x.k = 0 then ((load s x.i).1, ⟨(load s x.i).2, false⟩)
  else if x.k = 1 then (store s x.i x.a, ⟨0, false⟩)
  else if x.k = 2 then ((add s x.i x.a).1, ⟨(add s x.i x.a).2, false⟩)
  else if x.k = 3 then ((swap s x.i x.a x.b).1, ⟨0, (swap s x.i x.a x.b).2⟩)
  else if x.k = 4 then ((lock s x.i x.a).1, ⟨0, (lock s x.i x.a).2⟩)
  else if x.k = 5 then ((unlock s x.i x.a).1, ⟨0, (unlock s x.i x.a).2⟩)
  else (s, ⟨owner s x.i, false⟩)
def runs (s : St) (l : List Act) : St := l.foldl (fun s x => (act s x).1) s
/-- What every act keeps to: how many there are, whose locks may be, how often it is counted. -/
structure Keeps (s t : St) : Prop where
  cells : t.cells.length = s.cells.length
  locks : t.locks.length = s.locks.length
  shared : s.shared ≤ t.shared ∧ t.shared ≤ s.shared + 1
  own : (∀ x ∈ s.locks, -1 ≤ x) → ∀ x ∈ t.locks, -1 ≤ x
theorem Keeps.refl (s : St) : Keeps s s := ⟨rfl, rfl, ⟨Nat.le_refl _, by omega⟩, id⟩
theorem keeps_set {s : St} {n : Nat} {v : Int} {L : List Int} {i : Nat} (hv : -1 ≤ v) (hL : L = s.locks.set i v ∨ L = s.locks) {C : List Int} (hC : C.length = s.cells.length) (hn : n = s.shared + 1) : Keeps s ⟨C, L, n⟩ := by
  refine ⟨hC, ?_, ⟨by show s.shared ≤ n; omega, by show n ≤ s.shared + 1; omega⟩, fun h x hx => ?_⟩
  · rcases hL with rfl | rfl
    · simp
    · rfl
  · rcases hL with rfl | rfl
    · rcases List.mem_or_eq_of_mem_set hx with hx | rfl
      · exact h x hx
      · exact hv
    · exact h x hx
theorem act_keeps (s : St) (x : Act) : Keeps s (act s x).1 := by
  unfold act
  split
  · unfold load; split
    · exact keeps_set (i := 0) (v := 0) (by omega) (.inr rfl) rfl rfl
    · exact Keeps.refl s
  split
  · unfold store; split
    · exact keeps_set (i := 0) (v := 0) (by omega) (.inr rfl) (by simp) rfl
    · exact Keeps.refl s
  split
  · unfold add; split
    · exact keeps_set (i := 0) (v := 0) (by omega) (.inr rfl) (by simp) rfl
    · exact Keeps.refl s
  split
  · unfold swap; split
    · split
      · exact keeps_set (i := 0) (v := 0) (by omega) (.inr rfl) (by simp) rfl
      · exact keeps_set (i := 0) (v := 0) (by omega) (.inr rfl) rfl rfl
    · exact Keeps.refl s
  split
  · unfold lock; split
    · split
      · rename_i h
        exact keeps_set (i := x.i.toNat) (v := x.a) (by have := h.2; omega) (.inl rfl) rfl rfl
      · exact keeps_set (i := 0) (v := 0) (by omega) (.inr rfl) rfl rfl
    · exact Keeps.refl s
  split
  · unfold unlock; split
    · split
      · exact keeps_set (i := x.i.toNat) (v := -1) (by omega) (.inl rfl) rfl rfl
      · exact keeps_set (i := 0) (v := 0) (by omega) (.inr rfl) rfl rfl
    · exact Keeps.refl s
  · exact Keeps.refl s
theorem Has.set {l : List Int} {i : Int} (h : Has l i) (j : Nat) (v : Int) : Has (l.set j v) i := ⟨h.1, by rw [List.length_set]; exact h.2⟩
/-- Many acts. -/
structure Ran (s t : St) (n : Nat) : Prop where
  cells : t.cells.length = s.cells.length
  locks : t.locks.length = s.locks.length
  shared : s.shared ≤ t.shared ∧ t.shared ≤ s.shared + n
  own : (∀ x ∈ s.locks, -1 ≤ x) → ∀ x ∈ t.locks, -1 ≤ x
theorem Ran.more {s t : St} {n : Nat} (h : Ran s t n) (x : Act) : Ran s (act t x).1 (n + 1) := by
  have k := act_keeps t x
  refine ⟨k.cells.trans h.cells, k.locks.trans h.locks, ⟨by have := h.shared; have := k.shared; omega, by have := h.shared; have := k.shared; omega⟩, fun ho => k.own (h.own ho)⟩
theorem Ran.wide {s t : St} {n m : Nat} (h : Ran s t n) (hm : n ≤ m) : Ran s t m := ⟨h.cells, h.locks, ⟨h.shared.1, by have := h.shared; omega⟩, h.own⟩
/-- Those acts alone that are not done to i. -/
def runsBut (i : Int) (s : St) (l : List Act) : St := l.foldl (fun s x => if x.i = i then s else (act s x).1) s
/-- A sum that goes round. -/
def sumW (z : Int) (l : List Int) : Int := l.foldl (fun s x => wr (s + x)) z
end Go.Proofs.YtbamodkgagcmnaaGreat.Cel

set_option maxRecDepth 100000
namespace Go.Proofs.YtbamodkgagcmnaaGreat.RowG
open Go.ChangeShapes Go.WideShapes Go.RowKit

instance : Inhabited Cel.Act := ⟨⟨0, 0, 0, 0⟩⟩
/-- An act's cells. -/
def actK : Kind Cel.Act := ⟨4, fun x => [.int .i64 x.k, .int .i64 x.i, .int .i64 x.a, .int .i64 x.b], by decide, fun _ => rfl, fun x u hu => by
  simp at hu; rcases hu with rfl | rfl | rfl | rfl <;> rfl⟩
/-- A number's one cell. -/
def numK : Kind Int := ⟨1, fun x => [.int .i64 x], by decide, fun _ => rfl, fun x u hu => by
  simp at hu; rcases hu with rfl; rfl⟩
structure ActOk (x : Cel.Act) : Prop where
  k : (Lit.int .i64 x.k).wf = true
  i : (Lit.int .i64 x.i).wf = true
  a : (Lit.int .i64 x.a).wf = true
  b : (Lit.int .i64 x.b).wf = true
section
variable {P : Program} {H : Type} {enc : TypeId × Value → H} {w : World} {base : Nat} {spare : Nat → Bool} {held : Bool} {e ti : TypeId} {f0 f1 f2 f3 : Field}
/-- An act at a place, cell by cell. -/
theorem Lies.act {W : World} {a : Option Addr} {cap : Nat} {T : List Cel.Act} (h : Lies actK W a cap T) {k : Nat} (hk : k < T.length) :
    ∃ b off, a = some ⟨b, off, none⟩ ∧ W.cell? ⟨b, off + k * 4, none⟩ = some (.int .i64 T[k].k) ∧ W.cell? ⟨b, off + k * 4 + 1, none⟩ = some (.int .i64 T[k].i) ∧ W.cell? ⟨b, off + k * 4 + 2, none⟩ = some (.int .i64 T[k].a) ∧ W.cell? ⟨b, off + k * 4 + 3, none⟩ = some (.int .i64 T[k].b) := by
  obtain ⟨b, off, e, hc⟩ := h.at hk
  exact ⟨b, off, e, hc 0 _ rfl, hc 1 _ rfl, hc 2 _ rfl, hc 3 _ rfl⟩
/-- A number at a place. -/
theorem Lies.num {W : World} {a : Option Addr} {cap : Nat} {T : List Int} (h : Lies numK W a cap T) {k : Nat} (hk : k < T.length) : ∃ b off, a = some ⟨b, off, none⟩ ∧ W.cell? ⟨b, off + k, none⟩ = some (.int .i64 T[k]) := by
  obtain ⟨b, off, e, hc⟩ := h.at hk
  refine ⟨b, off, e, ?_⟩
  have := hc 0 _ rfl
  simpa [numK] using this
theorem Row.num {Ty : TypeId} {W : World} {g cap : Nat} {T : List Int} (h : Row numK Ty W g cap T) {k : Nat} (hk : k < T.length) : W.cell? ⟨g, k, none⟩ = some (.int .i64 T[k]) := by
  have := h.cell hk (j := 0) rfl
  simpa [numK] using this
theorem Row.put1 {Ty : TypeId} {W : World} {g cap : Nat} {T : List Int} (h : Row numK Ty W g cap T) {k : Nat} (hk : k < T.length) (x : Int) : Row numK Ty (W.setCell ⟨g, k, none⟩ (.int .i64 x)) g cap (T.set k x) := by
  have := h.put hk x
  simpa [numK, putC] using this
end
end Go.Proofs.YtbamodkgagcmnaaGreat.RowG
