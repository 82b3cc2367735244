/-
  Package model: what New makes as one thing in memory: its block, its shards' row, the pool and the tables that they name; has, at.
-/
import Derived.Test.YtbamodkgagcmnaaGreatTrnM
import Derived.Test.YtbamodkgagcmnaaGreatBTabM
import Derived.Test.YtbamodkgagcmnaaGreatBPolM
import Derived.WalkMore
import Derived.BigQuiet
set_option maxRecDepth 100000
namespace Go.Proofs.YtbamodkgagcmnaaGreat.Mdl
open Go.RowKit Go.Shelf RowG Trn
open Pol (polV)
open Go.Proofs.YtbamodkgagcmnaaGreat.Mod (Bk Mo)

attribute [local go_sem] Oper.semAt_some

/-- A shard as it lies: its table's row, and its place. -/
structure ShM where
  p : Option Addr
  c : Nat
  T : List Tab.Ent
  n : Nat
instance : Inhabited ShM := ⟨⟨none, 0, [], 0⟩⟩
abbrev shV (x : ShM) : Value := .agg #[rowV x.p x.c x.T, .int .i64 (x.n : Nat)]
def shK : Kind ShM := ⟨2, fun x => [rowV x.p x.c x.T, .int .i64 (x.n : Nat)], by decide, fun _ => rfl, fun x u hu => by
  simp at hu; rcases hu with rfl | rfl <;> rfl⟩
/-- What is in a shard. -/
structure ShM.Good (W : World) (x : ShM) : Prop where
  lies : Lies entK W x.p x.c x.T
  len : x.T.length ≤ 64
  keys : ∀ y ∈ x.T, y.key.size ≤ 60
  small : x.n ≤ 64
theorem ShM.Good.kept {W W' : World} {x : ShM} (h : x.Good W) (hb : Below W.heap.size W W') : x.Good W' := ⟨h.lies.kept hb, h.len, h.keys, h.small⟩

/-- Which blocks a model takes. -/
structure Foot where
  p : Nat
  g : Nat
def Foot.has (f : Foot) (k : Nat) : Prop := k = f.p ∨ k = f.g
def Foot.from' (f : Foot) (B : Nat) : Prop := B ≤ f.p ∧ B ≤ f.g
abbrev Foot.v (f : Foot) : Value := .pointer (some ⟨f.p, 0, none⟩)
abbrev boxC (idle : Int) (pa : Option Addr) (pc : Nat) (P : List Bk) (g n sc : Nat) : Array Value := #[.int .i64 idle, polV pa pc P, .slice (some ⟨g, 0, none⟩) n sc]
/-- What New made lies there. -/
structure Lay (W : World) (f : Foot) (idle : Int) (pa : Option Addr) (pc : Nat) (P : List Bk) (sc : Nat) (m : List ShM) : Prop where
  box : W.heap[f.p]? = some (.cells (boxC idle pa pc P f.g m.length sc) 89 (0, 0))
  row : Row shK 92 W f.g sc m
  even : ∀ k v, W.cell? ⟨f.g, 2 * k, none⟩ = some v → ∃ a n c, v = .slice a n c
  odd : ∀ k v, W.cell? ⟨f.g, 2 * k + 1, none⟩ = some v → ∃ n, v = .int .i64 n
  pool : Pol.Lies W pa pc P
  few : P.length ≤ 32
  good : ∀ x ∈ m, x.Good W
  many : m.length ≤ 16
  ne : f.p ≠ f.g
/-- The plain model. -/
def plain (P : List Bk) (m : List ShM) : Mo := ⟨P, m.map (·.T), m.map (·.n)⟩
/-- What New made lies there, and is this. -/
def Held (W : World) (f : Foot) (idle : Int) (mo : Mo) : Prop := ∃ pa pc P sc m, mo = plain P m ∧ Lay W f idle pa pc P sc m
section
variable {W W' : World} {f : Foot} {idle : Int} {pa : Option Addr} {pc : Nat} {P : List Bk} {sc : Nat} {m : List ShM} {mo : Mo}
theorem Lay.kept (h : Lay W f idle pa pc P sc m) (hb : Below W.heap.size W W') : Lay W' f idle pa pc P sc m := by
  have hlt := h.row.lt
  have e : W'.heap[f.g]? = W.heap[f.g]? := hb.block f.g hlt
  have cell : ∀ k, W'.cell? ⟨f.g, k, none⟩ = W.cell? ⟨f.g, k, none⟩ := fun k => World.cell?_of_block (w := W) e
  exact ⟨(hb.block f.p (heap_lt h.box)).trans h.box, h.row.kept hb, fun k v hv => h.even k v (by rwa [cell] at hv), fun k v hv => h.odd k v (by rwa [cell] at hv), h.pool.kept hb, h.few, fun x hx => (h.good x hx).kept hb, h.many, h.ne⟩
theorem Held.kept (h : Held W f idle mo) (hb : Below W.heap.size W W') : Held W' f idle mo := by
  obtain ⟨pa, pc, P, sc, m, e, hl⟩ := h
  exact ⟨pa, pc, P, sc, m, e, hl.kept hb⟩
/-- Another thing's doings. -/
theorem Held.beside {S : Nat → Prop} (h : Held W f idle mo) (ht : Turned S W W') (hs : ∀ k, k < W.heap.size → ¬ S k) : Held W' f idle mo :=
  h.kept ⟨ht.os, ht.tape, ht.output, ht.size, fun k hk => ht.rest k hk (hs k hk)⟩
/-- A table lies elsewhere. -/
theorem Lay.tab_apart (h : Lay W f idle pa pc P sc m) {a : Option Addr} {cap : Nat} {T : List Tab.Ent} (hl : Lies entK W a cap T) (hn : T ≠ []) (b off : Nat) (e : a = some ⟨b, off, none⟩) : ¬ f.has b := by
  obtain ⟨b', off', e', hc⟩ := hl.cell hn
  rw [e] at e'; cases e'
  cases T with
  | nil => exact absurd rfl hn
  | cons y T =>
    have c1 : W.cell? ⟨b, off + 1, none⟩ = some (.string y.key) := by
      have := hc 0 y rfl 1 (.string y.key) rfl
      simpa using this
    rintro (rfl | rfl)
    · have hb := h.box
      simp [World.cell?, hb] at c1
      match off, c1 with
      | 0, c1 => simp at c1
      | 1, c1 => simp at c1
      | (n + 2), c1 => simp at c1
    · rcases Nat.mod_two_eq_zero_or_one (off + 1) with h2 | h2
      · obtain ⟨a, n, c, e⟩ := h.even ((off + 1) / 2) (.string y.key) (by rw [show 2 * ((off + 1) / 2) = off + 1 by omega]; exact c1)
        cases e
      · obtain ⟨n, e⟩ := h.odd ((off + 1) / 2) (.string y.key) (by rw [show 2 * ((off + 1) / 2) + 1 = off + 1 by omega]; exact c1)
        cases e
/-- A pool lies elsewhere. -/
theorem Lay.pool_apart (h : Lay W f idle pa pc P sc m) {a : Option Addr} {cap : Nat} {z : List Bk} (hl : Pol.Lies W a cap z) (hn : z ≠ []) (b off : Nat) (e : a = some ⟨b, off, none⟩) : ¬ f.has b := by
  obtain ⟨b', off', e', hc⟩ := hl.cell hn
  rw [e] at e'; cases e'
  cases z with
  | nil => exact absurd rfl hn
  | cons y z =>
    obtain ⟨c0, c1⟩ := hc 0 y rfl
    rw [Nat.zero_mul, Nat.add_zero] at c0 c1
    rintro (rfl | rfl)
    · have hb := h.box
      simp [World.cell?, hb] at c0 c1
      match off, c0, c1 with
      | 0, c0, c1 => simp at c1
      | 1, c0, c1 => simp at c0
      | 2, c0, c1 => simp at c0
      | (n + 3), c0, c1 => simp at c0
    · rcases Nat.mod_two_eq_zero_or_one off with h2 | h2
      · obtain ⟨a, n, c, e⟩ := h.even (off / 2) _ (by rw [show 2 * (off / 2) = off by omega]; exact c0)
        cases e
      · obtain ⟨a, n, c, e⟩ := h.even ((off + 1) / 2) _ (by rw [show 2 * ((off + 1) / 2) = off + 1 by omega]; exact c1)
        cases e
theorem pol_turned {S : Nat → Prop} {a : Option Addr} {cap : Nat} {xs : List Bk} (h : Turned S W W') (hl : Pol.Lies W a cap xs) (ha : xs ≠ [] → ∀ b off, a = some ⟨b, off, none⟩ → ¬ S b) : Pol.Lies W' a cap xs :=
  ⟨hl.max, hl.len, fun hn => by
    obtain ⟨b, off, e, hc⟩ := hl.cell hn
    refine ⟨b, off, e, fun i x hi => ?_⟩
    obtain ⟨c0, c1⟩ := hc i x hi
    exact ⟨h.cell c0 (ha hn b off e), h.cell c1 (ha hn b off e)⟩⟩
theorem ShM.Good.turned {x : ShM} (hx : x.Good W) (h : Lay W f idle pa pc P sc m) (ht : Turned f.has W W') : x.Good W' :=
  ⟨ht.lies hx.lies fun hn b off e => h.tab_apart hx.lies hn b off e, hx.len, hx.keys, hx.small⟩
/-- What its block holds. -/
theorem Lay.cells (h : Lay W f idle pa pc P sc m) : (W.cell? ⟨f.p, 0, none⟩ = some (.int .i64 idle) ∧ W.cell? ⟨f.p, 1, none⟩ = some (polV pa pc P) ∧ W.cell? ⟨f.p, 2, none⟩ = some (.slice (some ⟨f.g, 0, none⟩) m.length sc)) ∧ (W.frozen? ⟨f.p, 0, none⟩ = false ∧ W.frozen? ⟨f.p, 1, none⟩ = false ∧ W.frozen? ⟨f.p, 2, none⟩ = false) := box3_cells h.box
theorem Lay.shard (h : Lay W f idle pa pc P sc m) {k : Nat} (hk : k < m.length) : (W.cell? ⟨f.g, k * 2, none⟩ = some (rowV m[k].p m[k].c m[k].T) ∧ W.cell? ⟨f.g, k * 2 + 1, none⟩ = some (.int .i64 (m[k].n : Nat))) ∧ ∀ o, W.frozen? ⟨f.g, o, none⟩ = false :=
  ⟨⟨h.row.cell hk (j := 0) (u := rowV m[k].p m[k].c m[k].T) rfl, h.row.cell hk (j := 1) (u := .int .i64 (m[k].n : Nat)) rfl⟩, fun o => h.row.free o⟩
/-- Another shard at a place. -/
def putW (W : World) (g k : Nat) (x : ShM) : World := (W.setCell ⟨g, k * 2, none⟩ (rowV x.p x.c x.T)).setCell ⟨g, k * 2 + 1, none⟩ (.int .i64 (x.n : Nat))
theorem putW_turned (W : World) (f : Foot) (k : Nat) (x : ShM) : Turned f.has W (putW W f.g k x) := ((Turned.refl f.has W).setCell (a := ⟨f.g, k * 2, none⟩) (.inr rfl) _).setCell (a := ⟨f.g, k * 2 + 1, none⟩) (.inr rfl) _
theorem cell_set {W : World} {b : Nat} {cs : Array Value} {t : TypeId} (hg : W.heap[b]? = some (.cells cs t (0, 0))) (i j : Nat) (v u : Value) (h : (W.setCell ⟨b, i, none⟩ v).cell? ⟨b, j, none⟩ = some u) : (j = i ∧ u = v) ∨ W.cell? ⟨b, j, none⟩ = some u := by
  have h1 := heap_setCell_same W b i cs t v hg
  simp only [World.cell?, h1] at h
  by_cases e : j = i
  · subst e
    left
    refine ⟨rfl, ?_⟩
    by_cases hl : j < cs.size
    · simp [hl] at h
      exact h.symm
    · simp [hl] at h
  · right
    rw [Array.getElem?_setIfInBounds_ne (fun e' => e e'.symm)] at h
    simpa [World.cell?, hg] using h
theorem Lay.put (h : Lay W f idle pa pc P sc m) {k : Nat} (hk : k < m.length) {x : ShM} (hx : x.Good W) : Lay (putW W f.g k x) f idle pa pc P sc (m.set k x) := by
  have ht := putW_turned W f k x
  have eb : (putW W f.g k x).heap[f.p]? = W.heap[f.p]? := by
    unfold putW
    rw [heap_setCell_other _ ⟨f.g, k * 2 + 1, none⟩ f.p _ h.ne, heap_setCell_other _ ⟨f.g, k * 2, none⟩ f.p _ h.ne]
  obtain ⟨cur, hg, -⟩ := h.row
  have hg2 := heap_setCell_same W f.g (k * 2) cur _ (rowV x.p x.c x.T) hg
  refine ⟨?_, h.row.put hk x, fun j v hv => ?_, fun j v hv => ?_, pol_turned ht h.pool fun hn b off e => h.pool_apart h.pool hn b off e, h.few, fun y hy => ?_, by simpa using h.many, h.ne⟩
  · rw [eb, h.box, List.length_set]
  · unfold putW at hv
    rcases cell_set hg2 _ _ _ _ hv with ⟨e, rfl⟩ | hv
    · omega
    · rcases cell_set hg _ _ _ _ hv with ⟨e, rfl⟩ | hv
      · exact ⟨_, _, _, rfl⟩
      · exact h.even j v hv
  · unfold putW at hv
    rcases cell_set hg2 _ _ _ _ hv with ⟨e, rfl⟩ | hv
    · exact ⟨_, rfl⟩
    · rcases cell_set hg _ _ _ _ hv with ⟨e, rfl⟩ | hv
      · omega
      · exact h.odd j v hv
  · rcases List.mem_or_eq_of_mem_set hy with hy | rfl
    · exact (h.good y hy).turned h ht
    · exact hx.turned h ht
/-- Another pool. -/
theorem Lay.pools (h : Lay W f idle pa pc P sc m) {pa' : Option Addr} {pc' : Nat} {P' : List Bk} (hp : Pol.Lies W pa' pc' P') (hl : P'.length ≤ 32) : Lay (W.setCell ⟨f.p, 1, none⟩ (polV pa' pc' P')) f idle pa' pc' P' sc m ∧ Turned f.has W (W.setCell ⟨f.p, 1, none⟩ (polV pa' pc' P')) := by
  have ht : Turned f.has W (W.setCell ⟨f.p, 1, none⟩ (polV pa' pc' P')) := (Turned.refl f.has W).setCell (a := ⟨f.p, 1, none⟩) (.inl rfl) _
  have e : (W.setCell ⟨f.p, 1, none⟩ (polV pa' pc' P')).heap[f.g]? = W.heap[f.g]? := heap_setCell_other _ ⟨f.p, 1, none⟩ f.g _ (Ne.symm h.ne)
  have cell : ∀ k, (W.setCell ⟨f.p, 1, none⟩ (polV pa' pc' P')).cell? ⟨f.g, k, none⟩ = W.cell? ⟨f.g, k, none⟩ := fun k => World.cell?_of_block (w := W) e
  refine ⟨⟨?_, row_turned h.row e, fun k v hv => h.even k v (by rwa [cell] at hv), fun k v hv => h.odd k v (by rwa [cell] at hv), pol_turned ht hp fun hn b off e => h.pool_apart hp hn b off e, hl, fun x hx => (h.good x hx).turned h ht, h.many, h.ne⟩, ht⟩
  have := heap_setCell_same _ f.p 1 _ _ (polV pa' pc' P') h.box
  simpa using this
end
end Go.Proofs.YtbamodkgagcmnaaGreat.Mdl
