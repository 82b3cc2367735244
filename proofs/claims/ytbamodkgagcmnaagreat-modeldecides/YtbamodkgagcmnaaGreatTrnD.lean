/-
  What becomes of a packet, and of a balancer, plain facts (over any home of keys, any ring, any shards).
-/
import Derived.Test.YtbamodkgagcmnaaGreatTabTD
import Derived.Test.YtbamodkgagcmnaaGreatBTabD
set_option maxRecDepth 100000
namespace Go.Proofs.YtbamodkgagcmnaaGreat.Mod
open Go Tab

abbrev Bk := Int × Int
structure Ans where
  err : Int
  backend : Int
  made : Bool
  count : Int
deriving DecidableEq
/-- Has a pool a backend of that Id? -/
def hasId (p : List Bk) (id : Int) : Bool := p.any fun x => x.1 == id
section
variable (home : ByteArray → Nat → Nat) (pick : List Bk → ByteArray → Int)
/-- Whose a flow is that is known: in time, and of the pool. -/
def known (T : List Ent) (p : List Bk) (k : ByteArray) (now : Int) : Option Int := match find home T k with
  | some a => if now ≤ (ent T a).dl ∧ hasId p (ent T a).be = true then some (ent T a).be else none
  | none => none
/-- A table without a flow. -/
def del (T : List Ent) (k : ByteArray) : List Ent := match find home T k with
  | some a => Tab.settle home (T.set a tomb)
  | none => T
/-- What becomes of a packet; dl: the deadline that its flow gets. -/
def deals (T : List Ent) (p : List Bk) (k : ByteArray) (closing : Bool) (now dl : Int) : List Ent × Ans :=
  if known home T p k now = none ∧ p = [] then (T, ⟨11, 0, false, 0⟩)
  else if closing = true then (del home T k, ⟨0, (known home T p k now).getD (pick p k), false, 0⟩)
  else match put home T k ((known home T p k now).getD (pick p k)) dl with
    | some U => (U, ⟨0, (known home T p k now).getD (pick p k), (known home T p k now).isNone, 0⟩)
    | none => (T, ⟨12, 0, false, 0⟩)
variable {home pick} {T U : List Ent} {p : List Bk} {k : ByteArray} {now dl : Int}
theorem known_some {id : Int} (h : known home T p k now = some id) : ∃ a, find home T k = some a ∧ now ≤ (ent T a).dl ∧ hasId p id = true ∧ (ent T a).be = id := by
  unfold known at h
  split at h
  · rename_i a ha
    split at h
    · rename_i hc
      simp only [Option.some.injEq] at h
      subst h
      exact ⟨a, ha, hc.1, hc.2, rfl⟩
    · cases h
  · cases h
theorem known_yes {a : Nat} (h : find home T k = some a) (h1 : now ≤ (ent T a).dl) (h2 : hasId p (ent T a).be = true) : known home T p k now = some (ent T a).be := by
  unfold known; rw [h]; exact if_pos ⟨h1, h2⟩
theorem known_no {a : Nat} (h : find home T k = some a) (h1 : ¬ (now ≤ (ent T a).dl ∧ hasId p (ent T a).be = true)) : known home T p k now = none := by
  unfold known; rw [h]; exact if_neg h1
theorem deals_none (h : known home T p k now = none) (hp : p = []) (c : Bool) (dl : Int) : deals home pick T p k c now dl = (T, ⟨11, 0, false, 0⟩) := by
  unfold deals; rw [if_pos ⟨h, hp⟩]
theorem deals_closes (h : ¬ (known home T p k now = none ∧ p = [])) (dl : Int) : deals home pick T p k true now dl = (del home T k, ⟨0, (known home T p k now).getD (pick p k), false, 0⟩) := by
  unfold deals; rw [if_neg h, if_pos rfl]
theorem deals_put (h : ¬ (known home T p k now = none ∧ p = [])) (hu : put home T k ((known home T p k now).getD (pick p k)) dl = some U) : deals home pick T p k false now dl = (U, ⟨0, (known home T p k now).getD (pick p k), (known home T p k now).isNone, 0⟩) := by
  unfold deals; rw [if_neg h, if_neg (by decide), hu]
theorem deals_full (h : ¬ (known home T p k now = none ∧ p = [])) (hu : put home T k ((known home T p k now).getD (pick p k)) dl = none) : deals home pick T p k false now dl = (T, ⟨12, 0, false, 0⟩) := by
  unfold deals; rw [if_neg h, if_neg (by decide), hu]
/-- Where a flow goes to that was let in is one of the pool. -/
theorem deals_in (hpick : p ≠ [] → hasId p (pick p k) = true) (h : ¬ (known home T p k now = none ∧ p = [])) : hasId p ((known home T p k now).getD (pick p k)) = true := by
  cases hk : known home T p k now with
  | some id => obtain ⟨_, _, _, h1, _⟩ := known_some hk; exact h1
  | none => exact hpick fun e => h ⟨hk, e⟩
theorem del_right (hr : Right home T) : Right home (del home T k) ∧ find home (del home T k) k = none := by
  unfold del
  split
  · rename_i a ha
    obtain ⟨h1, h2⟩ := hr.bury ha
    obtain ⟨_, s2, _, _, s5⟩ := settle_same h1
    exact ⟨s2, (s5 k).1.1 h2⟩
  · rename_i ha; exact ⟨hr, ha⟩
/-- A flow that is made goes to where the ring says; what closes is gone; what fails changes nothing. -/
theorem makes (hpick : p ≠ [] → hasId p (pick p k) = true) {u : List Ent} {a : Ans} {c : Bool} (h : deals home pick T p k c now dl = (u, a)) :
    (a.err ≠ 0 ∧ u = T ∧ a.made = false ∧ ((a.err = 11 ∧ p = []) ∨ (a.err = 12 ∧ find home T k = none))) ∨
    (a.err = 0 ∧ hasId p a.backend = true ∧ (a.made = true → c = false ∧ a.backend = pick p k) ∧ (c = true → u = del home T k ∧ (find home u k = none ∨ ¬ Right home T)) ∧
      (c = false → put home T k a.backend dl = some u ∧ (find home T k = none → a.made = true) ∧ ∃ q, q < u.length ∧ find home u k = some q ∧ ent u q = live k a.backend dl)) := by
  by_cases hn : known home T p k now = none ∧ p = []
  · rw [deals_none hn.1 hn.2] at h
    injection h with h1 h2; subst h1; subst h2
    exact .inl ⟨by decide, rfl, rfl, .inl ⟨rfl, hn.2⟩⟩
  have hin := deals_in hpick hn
  cases c with
  | true =>
    rw [deals_closes hn] at h
    injection h with h1 h2; subst h1; subst h2
    refine .inr ⟨rfl, hin, (fun h => by cases h), fun _ => ⟨rfl, ?_⟩, (fun h => by cases h)⟩
    by_cases hr : Right home T
    · exact .inl (del_right hr).2
    · exact .inr hr
  | false =>
    cases hu : put home T k ((known home T p k now).getD (pick p k)) dl with
    | none =>
      rw [deals_full hn hu] at h
      injection h with h1 h2; subst h1; subst h2
      exact .inl ⟨by decide, rfl, rfl, .inr ⟨rfl, (put_none hu).1⟩⟩
    | some U =>
      rw [deals_put hn hu] at h
      injection h with h1 h2; subst h1; subst h2
      refine .inr ⟨rfl, hin, fun hm => ⟨rfl, ?_⟩, fun h => (by cases h), fun _ => ⟨hu, fun hf => ?_, ?_⟩⟩
      · have : known home T p k now = none := by simpa using hm
        show (known home T p k now).getD (pick p k) = _
        rw [this]; rfl
      · show (known home T p k now).isNone = true
        unfold known; rw [hf]; rfl
      · obtain ⟨q, hq, e, hf, _⟩ := put_some hu
        refine ⟨q, by rw [put_length hu]; exact hq, hf, ?_⟩
        rw [e, ent_set _ _ _ hq, if_pos rfl]
end
end Go.Proofs.YtbamodkgagcmnaaGreat.Mod

set_option maxRecDepth 100000
namespace Go.Proofs.YtbamodkgagcmnaaGreat.Mod
open Go Tab

/-- An operation: a packet's flow (its key, and whether it closes; none: malformed), a pool, a shard; what time it is, and the deadline that a flow gets. -/
structure Op where
  kind : Int
  flow : Option (ByteArray × Bool)
  pool : List Bk
  shard : Int
  now : Int
  dl : Int
/-- A balancer. -/
structure Mo where
  pool : List Bk
  tables : List (List Ent)
  places : List Nat
/-- How many there are of all tables together. -/
def total (ts : List (List Ent)) : Nat := (ts.map (count 1)).sum
/-- The places that Expire looks at. -/
abbrev looks (T : List Ent) (place : Nat) : List Nat := places T.length (norm T.length (place : Int)) (span 4 T.length)
def nextOf (T : List Ent) (place : Nat) : Nat := nextP T.length (norm T.length (place : Int)) (span 4 T.length)
section
variable (home : ByteArray → Nat → Nat) (pick : List Bk → ByteArray → Int) (shardOf : ByteArray → Nat → Nat) (good : List Bk → Bool)
def doOp (m : Mo) (o : Op) : Mo × Ans :=
  if o.kind = 0 then match o.flow with
    | none => (m, ⟨9, 0, false, 0⟩)
    | some (k, c) =>
      let i := shardOf k m.tables.length
      let r := deals home pick (m.tables.getD i []) m.pool k c o.now o.dl
      (⟨m.pool, m.tables.set i r.1, m.places⟩, r.2)
  else if o.kind = 1 then if good o.pool = true then (⟨o.pool, m.tables, m.places⟩, ⟨0, 0, false, 0⟩) else (m, ⟨10, 0, false, 0⟩)
  else if o.kind = 2 then
    if 0 ≤ o.shard ∧ o.shard < (m.tables.length : Int) then
      let T := m.tables.getD o.shard.toNat []
      let p := m.places.getD o.shard.toNat 0
      (⟨m.pool, m.tables.set o.shard.toNat (Tab.stepT home o.now (looks T p) T), m.places.set o.shard.toNat (nextOf T p)⟩, ⟨0, 0, false, (dueN o.now (looks T p) T : Nat)⟩)
    else (m, ⟨1, 0, false, 0⟩)
  else if o.kind = 3 then (m, ⟨0, 0, false, (total m.tables : Nat)⟩)
  else (m, ⟨1, 0, false, 0⟩)
def runs (m : Mo) (l : List Op) : Mo := l.foldl (fun m o => (doOp home pick shardOf good m o).1) m
def new (n cap : Nat) : Mo := ⟨[], List.replicate n (Tab.new cap), List.replicate n 0⟩
/-- What holds of a balancer. -/
structure Inv (n cap : Nat) (m : Mo) : Prop where
  len : m.tables.length = n
  places : m.places.length = n
  cap : ∀ T ∈ m.tables, T.length = cap
  right : ∀ T ∈ m.tables, Right home T
  shard : ∀ i (hi : i < m.tables.length) q, q < (m.tables[i]).length → (ent m.tables[i] q).st = 1 → shardOf (ent m.tables[i] q).key n = i
  pool : good m.pool = true
variable {home pick shardOf good}
variable {n cap : Nat} {m : Mo}
theorem Inv.at (h : Inv home shardOf good n cap m) {i : Nat} (hi : i < n) : ∃ hi' : i < m.tables.length, m.tables.getD i [] = m.tables[i] ∧ Right home m.tables[i] ∧ (m.tables[i]).length = cap := by
  have hi' : i < m.tables.length := by rw [h.len]; exact hi
  exact ⟨hi', by rw [List.getD_eq_getElem?_getD, List.getElem?_eq_getElem hi']; rfl, h.right _ (List.getElem_mem hi'), h.cap _ (List.getElem_mem hi')⟩
/-- Another table at a place. -/
theorem Inv.table (h : Inv home shardOf good n cap m) {i : Nat} {U : List Ent} (ps : List Nat) (hps : ps.length = n) (hr : Right home U) (hc : U.length = cap) (hs : ∀ q, q < U.length → (ent U q).st = 1 → shardOf (ent U q).key n = i) :
    Inv home shardOf good n cap ⟨m.pool, m.tables.set i U, ps⟩ := by
  refine ⟨by simpa using h.len, hps, fun T hT => ?_, fun T hT => ?_, fun j hj q hq h1 => ?_, h.pool⟩
  · rcases List.mem_or_eq_of_mem_set hT with hT | rfl
    · exact h.cap T hT
    · exact hc
  · rcases List.mem_or_eq_of_mem_set hT with hT | rfl
    · exact h.right T hT
    · exact hr
  · have hj' : j < m.tables.length := by simpa using hj
    by_cases e : i = j
    · subst e
      simp only [List.getElem_set_self] at hq h1 ⊢
      exact hs q hq h1
    · simp only [List.getElem_set_ne e] at hq h1 ⊢
      exact h.shard j hj' q hq h1
end

/-- How many flows there are whose time is not over. -/
def fresh (now : Int) (T : List Ent) : Nat := (T.filter fun e => e.st == 1 && decide (now ≤ e.dl)).length
theorem fresh_le (now : Int) (T : List Ent) : fresh now T ≤ count 1 T := by
  unfold fresh count
  induction T with
  | nil => exact Nat.le_refl _
  | cons e T ih =>
    rw [List.filter_cons, List.filter_cons]
    by_cases h1 : e.st == 1
    · by_cases h2 : now ≤ e.dl
      · rw [if_pos (by simp only [h1, decide_eq_true h2, Bool.and_self]), if_pos h1]; simp only [List.length_cons]; omega
      · rw [if_neg (by simp only [decide_eq_false h2, Bool.and_false]; decide), if_pos h1]; simp only [List.length_cons]; omega
    · rw [if_neg (by simp only [Bool.not_eq_true] at h1; rw [h1]; simp), if_neg h1]; exact ih
section
variable {home : ByteArray → Nat → Nat} {now : Int} {T U : List Ent}
end
end Go.Proofs.YtbamodkgagcmnaaGreat.Mod

set_option maxRecDepth 100000
namespace Go.Proofs.YtbamodkgagcmnaaGreat.Trn
open Go.RowKit Go.Shelf RowG

/-- But for some blocks all lies as it lay. -/
structure Turned (S : Nat → Prop) (W W' : World) : Prop where
  os : W'.os = W.os
  tape : W'.tape = W.tape
  output : W'.output = W.output
  size : W.heap.size ≤ W'.heap.size
  rest : ∀ k, k < W.heap.size → ¬ S k → W'.heap[k]? = W.heap[k]?
theorem Turned.refl (S : Nat → Prop) (W : World) : Turned S W W := ⟨rfl, rfl, rfl, Nat.le_refl _, fun _ _ _ => rfl⟩
theorem Turned.trans {S : Nat → Prop} {A B C : World} (h : Turned S A B) (k : Turned S B C) : Turned S A C :=
  ⟨k.os.trans h.os, k.tape.trans h.tape, k.output.trans h.output, Nat.le_trans h.size k.size, fun i hi hn => (k.rest i (Nat.lt_of_lt_of_le hi h.size) hn).trans (h.rest i hi hn)⟩
theorem Turned.mono {S S' : Nat → Prop} {A B : World} (h : Turned S A B) (hs : ∀ k, S k → S' k) : Turned S' A B :=
  ⟨h.os, h.tape, h.output, h.size, fun i hi hn => h.rest i hi fun hk => hn (hs i hk)⟩
theorem Turned.setCell {S : Nat → Prop} {A B : World} (h : Turned S A B) {a : Addr} (ha : S a.block) (v : Value) : Turned S A (B.setCell a v) :=
  h.trans ⟨rfl, rfl, rfl, by simp [World.setCell], fun k _ hn => Below.heap_setCell _ _ _ _ fun e => hn (e ▸ ha)⟩
theorem Turned.of_below {S : Nat → Prop} {A B : World} (h : Below A.heap.size A B) : Turned S A B := ⟨h.os, h.tape, h.output, h.size, fun k hk _ => h.block k hk⟩
theorem Turned.below {S : Nat → Prop} {A B W : World} {n : Nat} (hb : Below n W A) (h : Turned S A B) (hn : n ≤ A.heap.size) (hs : ∀ k, S k → n ≤ k) : Below n W B :=
  hb.trans ⟨h.os, h.tape, h.output, h.size, fun k hk => h.rest k (by omega) fun hk' => by have := hs k hk'; omega⟩
theorem Turned.lies {S : Nat → Prop} {α : Type} {K : Kind α} {W W' : World} {a : Option Addr} {cap : Nat} {xs : List α} (h : Turned S W W') (hl : Lies K W a cap xs) (ha : xs ≠ [] → ∀ b off, a = some ⟨b, off, none⟩ → ¬ S b) : Lies K W' a cap xs :=
  ⟨hl.max, hl.len, fun hn => by
    obtain ⟨b, off, e, hc⟩ := hl.cell hn
    refine ⟨b, off, e, fun i x hi j u hj => ?_⟩
    have c0 := hc i x hi j u hj
    exact (World.cell?_of_block (w := W) (h.rest b (World.block_lt_of_cell? W _ c0) (ha hn b off e))).trans c0⟩
theorem heap_lt {W : World} {k : Nat} {o : Obj} (h : W.heap[k]? = some o) : k < W.heap.size := by
  rcases Nat.lt_or_ge k W.heap.size with h' | h'
  · exact h'
  · rw [Array.getElem?_eq_none h'] at h; cases h
theorem row_turned {α : Type} {K : Kind α} {T : TypeId} {W W' : World} {g cap : Nat} {xs : List α} (h : Row K T W g cap xs) (e : W'.heap[g]? = W.heap[g]?) : Row K T W' g cap xs := by
  obtain ⟨cur, hg, r⟩ := h
  exact ⟨cur, e.trans hg, r⟩
theorem box2_cells {W : World} {a : Nat} {x y : Value} {S : TypeId} (h : W.heap[a]? = some (.cells #[x, y] S (0, 0))) :
    W.cell? ⟨a, 0, none⟩ = some x ∧ W.cell? ⟨a, 1, none⟩ = some y ∧ W.frozen? ⟨a, 0, none⟩ = false ∧ W.frozen? ⟨a, 1, none⟩ = false := by
  refine ⟨?_, ?_, ?_, ?_⟩ <;> simp [World.cell?, World.frozen?, h]
theorem box3_cells {W : World} {a : Nat} {x y z : Value} {S : TypeId} (h : W.heap[a]? = some (.cells #[x, y, z] S (0, 0))) :
    (W.cell? ⟨a, 0, none⟩ = some x ∧ W.cell? ⟨a, 1, none⟩ = some y ∧ W.cell? ⟨a, 2, none⟩ = some z) ∧ (W.frozen? ⟨a, 0, none⟩ = false ∧ W.frozen? ⟨a, 1, none⟩ = false ∧ W.frozen? ⟨a, 2, none⟩ = false) := by
  refine ⟨⟨?_, ?_, ?_⟩, ?_, ?_, ?_⟩ <;> simp [World.cell?, World.frozen?, h]

theorem Turned.cell {S : Nat → Prop} {W W' : World} {a : Addr} {v : Value} (h : Turned S W W') (hc : W.cell? a = some v) (ha : ¬ S a.block) : W'.cell? a = some v :=
  (World.cell?_of_block (w := W) (h.rest a.block (World.block_lt_of_cell? W _ hc) ha)).trans hc
end Go.Proofs.YtbamodkgagcmnaaGreat.Trn
