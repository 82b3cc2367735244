/-
  The document's Shard and Decide (package gangplankref17), given what their callees tell.
-/
import Derived.Test.YtbamodkgagcmnaaGreatModPM
import Derived.Test.YtbamodkgagcmnaaGreatBTabM
import Derived.Test.YtbamodkgagcmnaaGreatTrnM
import Derived.BigQuiet
import Derived.WalkSmall
set_option maxRecDepth 100000
namespace Go.Proofs.YtbamodkgagcmnaaGreat.Mod
open Go.RowKit Go.Shelf Go.WideShapes RowG Trn

attribute [local go_sem] Oper.semAt_some

/-! ### answers, and tables as values -/
abbrev ansV (x : Ans) : Value := .agg #[.int .i64 x.err, .int .i64 x.backend, .bool x.made, .int .i64 x.count]
abbrev ansC (x : Ans) : Array Value := #[.int .i64 x.err, .int .i64 x.backend, .bool x.made, .int .i64 x.count]
/-- A box that holds an answer. -/
def AnsBox (W : World) (g : Nat) (x : Ans) : Prop := W.heap[g]? = some (.cells (ansC x) 39 (0, 0))
def putAns (W : World) (g : Nat) (x : Ans) : World := (((W.setCell ⟨g, 0, none⟩ (.int .i64 x.err)).setCell ⟨g, 1, none⟩ (.int .i64 x.backend)).setCell ⟨g, 2, none⟩ (.bool x.made)).setCell ⟨g, 3, none⟩ (.int .i64 x.count)
theorem AnsBox.cells {W : World} {g : Nat} {x : Ans} (h : AnsBox W g x) : (W.cell? ⟨g, 0, none⟩ = some (.int .i64 x.err) ∧ W.cell? ⟨g, 1, none⟩ = some (.int .i64 x.backend) ∧ W.cell? ⟨g, 2, none⟩ = some (.bool x.made) ∧ W.cell? ⟨g, 3, none⟩ = some (.int .i64 x.count)) ∧ (∀ o, W.frozen? ⟨g, o, none⟩ = false) := by
  unfold AnsBox at h
  refine ⟨⟨?_, ?_, ?_, ?_⟩, fun o => ?_⟩ <;> simp [World.cell?, World.frozen?, h]
theorem AnsBox.put {W : World} {g : Nat} {x : Ans} (h : AnsBox W g x) (y : Ans) : AnsBox (putAns W g y) g y := by
  have h1 := heap_setCell_same _ g 0 _ _ (.int .i64 y.err) h
  have h2 := heap_setCell_same _ g 1 _ _ (.int .i64 y.backend) h1
  have h3 := heap_setCell_same _ g 2 _ _ (.bool y.made) h2
  have h4 := heap_setCell_same _ g 3 _ _ (.int .i64 y.count) h3
  exact h4
theorem AnsBox.kept {W W' : World} {g : Nat} {x : Ans} (h : AnsBox W g x) (hb : Below W.heap.size W W') : AnsBox W' g x := (hb.block g (heap_lt h)).trans h
theorem putAns_turned (W : World) (g : Nat) (y : Ans) : Turned (fun k => k = g) W (putAns W g y) :=
  ((((Turned.refl (fun k => k = g) W).setCell (a := ⟨g, 0, none⟩) rfl _).setCell (a := ⟨g, 1, none⟩) rfl _).setCell (a := ⟨g, 2, none⟩) rfl _).setCell (a := ⟨g, 3, none⟩) rfl _
/-- A value that is a table. -/
def TabIs (W : World) (v : Value) (T : List Tab.Ent) : Prop := ∃ a cap, v = rowV a cap T ∧ Lies entK W a cap T
theorem TabIs.kept {W W' : World} {v : Value} {T : List Tab.Ent} (h : TabIs W v T) (hb : Below W.heap.size W W') : TabIs W' v T := by
  obtain ⟨a, cap, e, hl⟩ := h
  exact ⟨a, cap, e, hl.kept hb⟩
/-- A table lies in no box of an answer. -/
theorem tab_apart {W : World} {g : Nat} {x : Ans} (h : AnsBox W g x) {a : Option Addr} {cap : Nat} {T : List Tab.Ent} (hl : Lies entK W a cap T) (hn : T ≠ []) (b off : Nat) (e : a = some ⟨b, off, none⟩) : b ≠ g := by
  intro hb
  obtain ⟨b', off', e', hc⟩ := hl.cell hn
  rw [e] at e'; cases e'
  subst hb
  cases T with
  | nil => exact hn rfl
  | cons y T =>
    have c1 := hc 0 y rfl 1 _ rfl
    unfold AnsBox at h
    simp [World.cell?, h] at c1
    match off, c1 with
    | 0, c1 => simp at c1
    | 1, c1 => simp at c1
    | 2, c1 => simp at c1
    | (n + 3), c1 => simp at c1
theorem TabIs.turned {W : World} {g : Nat} {x : Ans} {v : Value} {T : List Tab.Ent} (h : TabIs W v T) (hx : AnsBox W g x) (y : Ans) : TabIs (putAns W g y) v T := by
  obtain ⟨a, cap, e, hl⟩ := h
  exact ⟨a, cap, e, (putAns_turned W g y).lies hl fun hn b off e => tab_apart hx hl hn b off e⟩
/-- What a call tells: a table, and an answer. -/
def Deals (r : List Tab.Ent × Ans) (w : World) (e : Ending) (W' : World) : Prop := ∃ v, e = .returned (.tuple #[v, ansV r.2]) ∧ TabIs W' v r.1 ∧ Below w.heap.size w W'
theorem Deals.of {w W : World} {g : Nat} {x : Ans} {v : Value} {r : List Tab.Ent × Ans} {T : List Tab.Ent} {y : Ans} (he : r = (T, y)) (hg : w.heap.size ≤ g) (hb : Below w.heap.size w W) (hx : AnsBox W g x) (hv : TabIs W v T) : Deals r w (.returned (.tuple #[v, ansV y])) (putAns W g y) := by
  subst he
  exact ⟨v, rfl, hv.turned hx y, (putAns_turned W g y).below hb hb.size fun k hk => by subst hk; exact hg⟩

/-! ### Shard -/
def shardZ (s : Nat) (n : Int) : Int := if n < 1 then 0 else ((s / 4294967296 % n.toNat : Nat) : Int)
/-! ### Decide -/
section
variable (home : ByteArray → Nat → Nat) (a : Option Addr) (cap : Nat) (T : List Tab.Ent) (pa : Option Addr) (pc : Nat) (P : List (Int × Int)) (k : ByteArray) (c : Bool) (now idle : Int) (w : World) (s : Nat) (fd : Int → Int) (pk : Int)
/-- What its callees tell. -/
structure Asked : Prop where
  tab : Lies entK w a cap T
  find : ∀ W, Below w.heap.size w W → Calls Tryz.prog 59 #[rowV a cap T, .string k] W fun e W' => e = .returned (.int .i64 (Tab.zOf (Tab.find home T k))) ∧ W' = W
  has : ∀ id W, Below w.heap.size w W → Calls Tryz.prog 60 #[.slice pa P.length pc, .int .i64 id] W fun e W' => e = .returned (.int .i64 (fd id)) ∧ W' = W
  is : ∀ id, hasId P id = decide (0 ≤ fd id)
  sum : ∀ W, Below w.heap.size w W → Calls Tryz.prog 62 #[.string k] W fun e W' => e = .returned (.int .u64 (s : Nat)) ∧ W' = W
  pick : ∀ W, Below w.heap.size w W → Calls Tryz.prog 61 #[.slice pa P.length pc, .int .u64 (s : Nat)] W fun e W' => e = .returned (.int .i64 pk) ∧ Below W.heap.size W W'
  del : ∀ W, Below w.heap.size w W → Calls Tryz.prog 63 #[rowV a cap T, .string k] W fun e W' => ∃ v b, e = .returned (.tuple #[v, .bool b]) ∧ TabIs W' v (del home T k) ∧ Below W.heap.size W W'
  put : ∀ id dl W, Below w.heap.size w W → Calls Tryz.prog 64 #[rowV a cap T, .string k, .int .i64 id, .int .i64 dl] W fun e W' => ∃ v, e = .returned (.tuple #[v, .int .i64 (if (Tab.put home T k id dl).isSome then 0 else 12)]) ∧ TabIs W' v ((Tab.put home T k id dl).getD T) ∧ Below W.heap.size W W'
end
variable {home : ByteArray → Nat → Nat} {a : Option Addr} {cap : Nat} {T : List Tab.Ent} {pa : Option Addr} {pc : Nat} {P : List (Int × Int)} {k : ByteArray} {w : World} {s : Nat} {fd : Int → Int} {pk : Int}
theorem below_ans (w : World) : AnsBox (w.alloc (.cells #[.int .i64 0, .int .i64 0, .bool false, .int .i64 0] 39)) w.heap.size ⟨0, 0, false, 0⟩ ∧ Below w.heap.size w (w.alloc (.cells #[.int .i64 0, .int .i64 0, .bool false, .int .i64 0] 39)) :=
  ⟨World.alloc_heap_new w _, (Below.refl _ w).alloc (Nat.le_refl _) _⟩
end Go.Proofs.YtbamodkgagcmnaaGreat.Mod
