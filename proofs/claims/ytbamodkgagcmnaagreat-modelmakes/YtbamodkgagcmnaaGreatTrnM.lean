/-
  A balancer, plain facts (over any home of keys, any ring, any shards, any check of pools): what each operation does, and what holds of many.
-/
import Derived.Test.YtbamodkgagcmnaaGreatModPM
import Derived.Test.YtbamodkgagcmnaaGreatBTabM
set_option maxRecDepth 100000
namespace Go.Proofs.YtbamodkgagcmnaaGreat.Mod
open Go Tab

/-- An operation: a packet's flow (its key, and whether it closes; none: malformed), a pool, a shard; what time it is, and the deadline that a flow gets. -/
structure Op where
  kind : Int
  flow : Option (ByteArray × Bool)
  pool : List Bk
  shard : Int
  now : Int
  dl : Int
/-- A balancer. -/
structure Mo where
  pool : List Bk
  tables : List (List Ent)
  places : List Nat
/-- How many there are of all tables together. -/
def total (ts : List (List Ent)) : Nat := (ts.map (count 1)).sum
/-- The places that Expire looks at. -/
abbrev looks (T : List Ent) (place : Nat) : List Nat := places T.length (norm T.length (place : Int)) (span 4 T.length)
def nextOf (T : List Ent) (place : Nat) : Nat := nextP T.length (norm T.length (place : Int)) (span 4 T.length)
section
variable (home : ByteArray → Nat → Nat) (pick : List Bk → ByteArray → Int) (shardOf : ByteArray → Nat → Nat) (good : List Bk → Bool)
def doOp (m : Mo) (o : Op) : Mo × Ans :=
  if o.kind = 0 then match o.flow with
    | none => (m, ⟨9, 0, false, 0⟩)
    | some (k, c) =>
      let i := shardOf k m.tables.length
      let r := deals home pick (m.tables.getD i []) m.pool k c o.now o.dl
      (⟨m.pool, m.tables.set i r.1, m.places⟩, r.2)
  else if o.kind = 1 then if good o.pool = true then (⟨o.pool, m.tables, m.places⟩, ⟨0, 0, false, 0⟩) else (m, ⟨10, 0, false, 0⟩)
  else if o.kind = 2 then
    if 0 ≤ o.shard ∧ o.shard < (m.tables.length : Int) then
      let T := m.tables.getD o.shard.toNat []
      let p := m.places.getD o.shard.toNat 0
      (⟨m.pool, m.tables.set o.shard.toNat (Tab.stepT home o.now (looks T p) T), m.places.set o.shard.toNat (nextOf T p)⟩, ⟨0, 0, false, (dueN o.now (looks T p) T : Nat)⟩)
    else (m, ⟨1, 0, false, 0⟩)
  else if o.kind = 3 then (m, ⟨0, 0, false, (total m.tables : Nat)⟩)
  else (m, ⟨1, 0, false, 0⟩)
def runs (m : Mo) (l : List Op) : Mo := l.foldl (fun m o => (doOp home pick shardOf good m o).1) m
def new (n cap : Nat) : Mo := ⟨[], List.replicate n (Tab.new cap), List.replicate n 0⟩
/-- What holds of a balancer. -/
structure Inv (n cap : Nat) (m : Mo) : Prop where
  len : m.tables.length = n
  places : m.places.length = n
  cap : ∀ T ∈ m.tables, T.length = cap
  right : ∀ T ∈ m.tables, Right home T
  shard : ∀ i (hi : i < m.tables.length) q, q < (m.tables[i]).length → (ent m.tables[i] q).st = 1 → shardOf (ent m.tables[i] q).key n = i
  pool : good m.pool = true
variable {home pick shardOf good}
variable {n cap : Nat} {m : Mo}
theorem Inv.at (h : Inv home shardOf good n cap m) {i : Nat} (hi : i < n) : ∃ hi' : i < m.tables.length, m.tables.getD i [] = m.tables[i] ∧ Right home m.tables[i] ∧ (m.tables[i]).length = cap := by
  have hi' : i < m.tables.length := by rw [h.len]; exact hi
  exact ⟨hi', by rw [List.getD_eq_getElem?_getD, List.getElem?_eq_getElem hi']; rfl, h.right _ (List.getElem_mem hi'), h.cap _ (List.getElem_mem hi')⟩
/-- Another table at a place. -/
theorem Inv.table (h : Inv home shardOf good n cap m) {i : Nat} {U : List Ent} (ps : List Nat) (hps : ps.length = n) (hr : Right home U) (hc : U.length = cap) (hs : ∀ q, q < U.length → (ent U q).st = 1 → shardOf (ent U q).key n = i) :
    Inv home shardOf good n cap ⟨m.pool, m.tables.set i U, ps⟩ := by
  refine ⟨by simpa using h.len, hps, fun T hT => ?_, fun T hT => ?_, fun j hj q hq h1 => ?_, h.pool⟩
  · rcases List.mem_or_eq_of_mem_set hT with hT | rfl
    · exact h.cap T hT
    · exact hc
  · rcases List.mem_or_eq_of_mem_set hT with hT | rfl
    · exact h.right T hT
    · exact hr
  · have hj' : j < m.tables.length := by simpa using hj
    by_cases e : i = j
    · subst e
      simp only [List.getElem_set_self] at hq h1 ⊢
      exact hs q hq h1
    · simp only [List.getElem_set_ne e] at hq h1 ⊢
      exact h.shard j hj' q hq h1
end

/-- How many flows there are whose time is not over. -/
def fresh (now : Int) (T : List Ent) : Nat := (T.filter fun e => e.st == 1 && decide (now ≤ e.dl)).length
theorem fresh_le (now : Int) (T : List Ent) : fresh now T ≤ count 1 T := by
  unfold fresh count
  induction T with
  | nil => exact Nat.le_refl _
  | cons e T ih =>
    rw [List.filter_cons, List.filter_cons]
    by_cases h1 : e.st == 1
    · by_cases h2 : now ≤ e.dl
      · rw [if_pos (by simp only [h1, decide_eq_true h2, Bool.and_self]), if_pos h1]; simp only [List.length_cons]; omega
      · rw [if_neg (by simp only [decide_eq_false h2, Bool.and_false]; decide), if_pos h1]; simp only [List.length_cons]; omega
    · rw [if_neg (by simp only [Bool.not_eq_true] at h1; rw [h1]; simp), if_neg h1]; exact ih
section
variable {home : ByteArray → Nat → Nat} {now : Int} {T U : List Ent}
end
end Go.Proofs.YtbamodkgagcmnaaGreat.Mod

set_option maxRecDepth 100000
namespace Go.Proofs.YtbamodkgagcmnaaGreat.Trn
open Go.RowKit Go.Shelf RowG

/-- But for some blocks all lies as it lay. -/
structure Turned (S : Nat → Prop) (W W' : World) : Prop where
  os : W'.os = W.os
  tape : W'.tape = W.tape
  output : W'.output = W.output
  size : W.heap.size ≤ W'.heap.size
  rest : ∀ k, k < W.heap.size → ¬ S k → W'.heap[k]? = W.heap[k]?
theorem Turned.refl (S : Nat → Prop) (W : World) : Turned S W W := ⟨rfl, rfl, rfl, Nat.le_refl _, fun _ _ _ => rfl⟩
theorem Turned.trans {S : Nat → Prop} {A B C : World} (h : Turned S A B) (k : Turned S B C) : Turned S A C :=
  ⟨k.os.trans h.os, k.tape.trans h.tape, k.output.trans h.output, Nat.le_trans h.size k.size, fun i hi hn => (k.rest i (Nat.lt_of_lt_of_le hi h.size) hn).trans (h.rest i hi hn)⟩
theorem Turned.mono {S S' : Nat → Prop} {A B : World} (h : Turned S A B) (hs : ∀ k, S k → S' k) : Turned S' A B :=
  ⟨h.os, h.tape, h.output, h.size, fun i hi hn => h.rest i hi fun hk => hn (hs i hk)⟩
theorem Turned.setCell {S : Nat → Prop} {A B : World} (h : Turned S A B) {a : Addr} (ha : S a.block) (v : Value) : Turned S A (B.setCell a v) :=
  h.trans ⟨rfl, rfl, rfl, by simp [World.setCell], fun k _ hn => Below.heap_setCell _ _ _ _ fun e => hn (e ▸ ha)⟩
theorem Turned.of_below {S : Nat → Prop} {A B : World} (h : Below A.heap.size A B) : Turned S A B := ⟨h.os, h.tape, h.output, h.size, fun k hk _ => h.block k hk⟩
theorem Turned.below {S : Nat → Prop} {A B W : World} {n : Nat} (hb : Below n W A) (h : Turned S A B) (hn : n ≤ A.heap.size) (hs : ∀ k, S k → n ≤ k) : Below n W B :=
  hb.trans ⟨h.os, h.tape, h.output, h.size, fun k hk => h.rest k (by omega) fun hk' => by have := hs k hk'; omega⟩
theorem Turned.lies {S : Nat → Prop} {α : Type} {K : Kind α} {W W' : World} {a : Option Addr} {cap : Nat} {xs : List α} (h : Turned S W W') (hl : Lies K W a cap xs) (ha : xs ≠ [] → ∀ b off, a = some ⟨b, off, none⟩ → ¬ S b) : Lies K W' a cap xs :=
  ⟨hl.max, hl.len, fun hn => by
    obtain ⟨b, off, e, hc⟩ := hl.cell hn
    refine ⟨b, off, e, fun i x hi j u hj => ?_⟩
    have c0 := hc i x hi j u hj
    exact (World.cell?_of_block (w := W) (h.rest b (World.block_lt_of_cell? W _ c0) (ha hn b off e))).trans c0⟩
theorem heap_lt {W : World} {k : Nat} {o : Obj} (h : W.heap[k]? = some o) : k < W.heap.size := by
  rcases Nat.lt_or_ge k W.heap.size with h' | h'
  · exact h'
  · rw [Array.getElem?_eq_none h'] at h; cases h
theorem row_turned {α : Type} {K : Kind α} {T : TypeId} {W W' : World} {g cap : Nat} {xs : List α} (h : Row K T W g cap xs) (e : W'.heap[g]? = W.heap[g]?) : Row K T W' g cap xs := by
  obtain ⟨cur, hg, r⟩ := h
  exact ⟨cur, e.trans hg, r⟩
theorem box2_cells {W : World} {a : Nat} {x y : Value} {S : TypeId} (h : W.heap[a]? = some (.cells #[x, y] S (0, 0))) :
    W.cell? ⟨a, 0, none⟩ = some x ∧ W.cell? ⟨a, 1, none⟩ = some y ∧ W.frozen? ⟨a, 0, none⟩ = false ∧ W.frozen? ⟨a, 1, none⟩ = false := by
  refine ⟨?_, ?_, ?_, ?_⟩ <;> simp [World.cell?, World.frozen?, h]
theorem box3_cells {W : World} {a : Nat} {x y z : Value} {S : TypeId} (h : W.heap[a]? = some (.cells #[x, y, z] S (0, 0))) :
    (W.cell? ⟨a, 0, none⟩ = some x ∧ W.cell? ⟨a, 1, none⟩ = some y ∧ W.cell? ⟨a, 2, none⟩ = some z) ∧ (W.frozen? ⟨a, 0, none⟩ = false ∧ W.frozen? ⟨a, 1, none⟩ = false ∧ W.frozen? ⟨a, 2, none⟩ = false) := by
  refine ⟨⟨?_, ?_, ?_⟩, ?_, ?_, ?_⟩ <;> simp [World.cell?, World.frozen?, h]

theorem Turned.cell {S : Nat → Prop} {W W' : World} {a : Addr} {v : Value} (h : Turned S W W') (hc : W.cell? a = some v) (ha : ¬ S a.block) : W'.cell? a = some v :=
  (World.cell?_of_block (w := W) (h.rest a.block (World.block_lt_of_cell? W _ hc) ha)).trans hc
end Go.Proofs.YtbamodkgagcmnaaGreat.Trn
