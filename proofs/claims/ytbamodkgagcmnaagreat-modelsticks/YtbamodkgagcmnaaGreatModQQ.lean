/-
  A balancer, plain facts (over any home of keys, any ring, any shards, any check of pools): what each operation does, and what holds of many.
-/
import Derived.Test.YtbamodkgagcmnaaGreatModPQ
set_option maxRecDepth 100000
namespace Go.Proofs.YtbamodkgagcmnaaGreat.Mod
open Go Tab

/-- An operation: a packet's flow (its key, and whether it closes; none: malformed), a pool, a shard; what time it is, and the deadline that a flow gets. -/
structure Op where
  kind : Int
  flow : Option (ByteArray × Bool)
  pool : List Bk
  shard : Int
  now : Int
  dl : Int
/-- A balancer. -/
structure Mo where
  pool : List Bk
  tables : List (List Ent)
  places : List Nat
/-- How many there are of all tables together. -/
def total (ts : List (List Ent)) : Nat := (ts.map (count 1)).sum
theorem sum_set (f : List Ent → Nat) : ∀ (ts : List (List Ent)) (i : Nat) (hi : i < ts.length) (t : List Ent), ((ts.set i t).map f).sum + f ts[i] = (ts.map f).sum + f t
  | [], i, hi, _ => by simp at hi
  | x :: ts, 0, _, t => by simp; omega
  | x :: ts, i + 1, hi, t => by
    have := sum_set f ts i (by simpa using hi) t
    simp only [List.set_cons_succ, List.map_cons, List.sum_cons, List.getElem_cons_succ]
    omega
/-- The places that Expire looks at. -/
abbrev looks (T : List Ent) (place : Nat) : List Nat := places T.length (norm T.length (place : Int)) (span 4 T.length)
def nextOf (T : List Ent) (place : Nat) : Nat := nextP T.length (norm T.length (place : Int)) (span 4 T.length)
section
variable (home : ByteArray → Nat → Nat) (pick : List Bk → ByteArray → Int) (shardOf : ByteArray → Nat → Nat) (good : List Bk → Bool)
def doOp (m : Mo) (o : Op) : Mo × Ans :=
  if o.kind = 0 then match o.flow with
    | none => (m, ⟨9, 0, false, 0⟩)
    | some (k, c) =>
      let i := shardOf k m.tables.length
      let r := deals home pick (m.tables.getD i []) m.pool k c o.now o.dl
      (⟨m.pool, m.tables.set i r.1, m.places⟩, r.2)
  else if o.kind = 1 then if good o.pool = true then (⟨o.pool, m.tables, m.places⟩, ⟨0, 0, false, 0⟩) else (m, ⟨10, 0, false, 0⟩)
  else if o.kind = 2 then
    if 0 ≤ o.shard ∧ o.shard < (m.tables.length : Int) then
      let T := m.tables.getD o.shard.toNat []
      let p := m.places.getD o.shard.toNat 0
      (⟨m.pool, m.tables.set o.shard.toNat (Tab.stepT home o.now (looks T p) T), m.places.set o.shard.toNat (nextOf T p)⟩, ⟨0, 0, false, (dueN o.now (looks T p) T : Nat)⟩)
    else (m, ⟨1, 0, false, 0⟩)
  else if o.kind = 3 then (m, ⟨0, 0, false, (total m.tables : Nat)⟩)
  else (m, ⟨1, 0, false, 0⟩)
def runs (m : Mo) (l : List Op) : Mo := l.foldl (fun m o => (doOp home pick shardOf good m o).1) m
def new (n cap : Nat) : Mo := ⟨[], List.replicate n (Tab.new cap), List.replicate n 0⟩
/-- What holds of a balancer. -/
structure Inv (n cap : Nat) (m : Mo) : Prop where
  len : m.tables.length = n
  places : m.places.length = n
  cap : ∀ T ∈ m.tables, T.length = cap
  right : ∀ T ∈ m.tables, Right home T
  shard : ∀ i (hi : i < m.tables.length) q, q < (m.tables[i]).length → (ent m.tables[i] q).st = 1 → shardOf (ent m.tables[i] q).key n = i
  pool : good m.pool = true
variable {home pick shardOf good}
theorem runs_take {m : Mo} {l : List Op} {k : Nat} (h : k < l.length) : runs home pick shardOf good m (l.take (k + 1)) = (doOp home pick shardOf good (runs home pick shardOf good m (l.take k)) l[k]).1 := by
  unfold runs
  rw [List.take_succ_eq_append_getElem h, List.foldl_append]; rfl
theorem inv_new (n cap : Nat) (hg : good [] = true) : Inv home shardOf good n cap (new n cap) := by
  refine ⟨by simp [new], by simp [new], fun T hT => ?_, fun T hT => ?_, fun i hi q hq hs => ?_, hg⟩
  · rw [List.eq_of_mem_replicate hT]; simp [Tab.new]
  · rw [List.eq_of_mem_replicate hT]; exact (has_new home cap).right
  · simp only [new, List.getElem_replicate] at hs
    rw [new_ent] at hs
    exact absurd hs (by decide)
variable {n cap : Nat} {m : Mo}
theorem Inv.at (h : Inv home shardOf good n cap m) {i : Nat} (hi : i < n) : ∃ hi' : i < m.tables.length, m.tables.getD i [] = m.tables[i] ∧ Right home m.tables[i] ∧ (m.tables[i]).length = cap := by
  have hi' : i < m.tables.length := by rw [h.len]; exact hi
  exact ⟨hi', by rw [List.getD_eq_getElem?_getD, List.getElem?_eq_getElem hi']; rfl, h.right _ (List.getElem_mem hi'), h.cap _ (List.getElem_mem hi')⟩
/-- Another table at a place. -/
theorem Inv.table (h : Inv home shardOf good n cap m) {i : Nat} {U : List Ent} (ps : List Nat) (hps : ps.length = n) (hr : Right home U) (hc : U.length = cap) (hs : ∀ q, q < U.length → (ent U q).st = 1 → shardOf (ent U q).key n = i) :
    Inv home shardOf good n cap ⟨m.pool, m.tables.set i U, ps⟩ := by
  refine ⟨by simpa using h.len, hps, fun T hT => ?_, fun T hT => ?_, fun j hj q hq h1 => ?_, h.pool⟩
  · rcases List.mem_or_eq_of_mem_set hT with hT | rfl
    · exact h.cap T hT
    · exact hc
  · rcases List.mem_or_eq_of_mem_set hT with hT | rfl
    · exact h.right T hT
    · exact hr
  · have hj' : j < m.tables.length := by simpa using hj
    by_cases e : i = j
    · subst e
      simp only [List.getElem_set_self] at hq h1 ⊢
      exact hs q hq h1
    · simp only [List.getElem_set_ne e] at hq h1 ⊢
      exact h.shard j hj' q hq h1
/-- Live entries are told by their keys. -/
theorem find_live {T : List Ent} {k : ByteArray} (h : find home T k ≠ none) : ∃ q, q < T.length ∧ Hit (ent T q) k := by
  cases hf : find home T k with
  | none => exact absurd hf h
  | some q => exact ⟨q, find_some hf⟩
theorem inv_do (hsh : ∀ k, shardOf k n < n ∨ n = 0) (h : Inv home shardOf good n cap m) (hn : 0 < n) (o : Op) : Inv home shardOf good n cap (doOp home pick shardOf good m o).1 := by
  unfold doOp
  split
  · split
    · exact h
    · rename_i k c hfl
      simp only [h.len]
      have hi : shardOf k n < n := by rcases hsh k with h' | h' <;> omega
      obtain ⟨hi', e, hr, hc⟩ := h.at hi
      rw [e]
      generalize hd : deals home pick m.tables[shardOf k n] m.pool k c o.now o.dl = r
      obtain ⟨u, a⟩ := r
      obtain ⟨k1, k2, k3⟩ := deals_keys hr hd
      refine h.table _ h.places k1 (k2.trans hc) fun q hq hs => ?_
      rcases k3 q hq hs with hk | hk
      · rw [show (ent u q).key = k from hk]
      · obtain ⟨b, hb, hh⟩ := find_live hk
        have := h.shard _ hi' b hb hh.1
        rw [hh.2] at this
        exact this
  split
  · split
    · rename_i hg
      exact ⟨h.len, h.places, h.cap, h.right, h.shard, hg⟩
    · exact h
  split
  · split
    · rename_i hs
      have hi : o.shard.toNat < n := by rw [h.len] at hs; omega
      obtain ⟨hi', e, hr, hc⟩ := h.at hi
      simp only [e]
      have st := stepped (now := o.now) hr (looks m.tables[o.shard.toNat] (m.places.getD o.shard.toNat 0)) (fun a ha => places_mem (span_le _ _) ha)
      refine h.table _ (by simpa using h.places) st.right (st.len.trans hc) fun q hq h1 => ?_
      have hf := st.right q hq h1
      cases hft : find home m.tables[o.shard.toNat] (ent (Tab.stepT home o.now (looks m.tables[o.shard.toNat] (m.places.getD o.shard.toNat 0)) m.tables[o.shard.toNat]) q).key with
      | none =>
        rw [st.gone _ hft] at hf; cases hf
      | some b =>
        obtain ⟨hb, hh⟩ := find_some hft
        have := h.shard _ hi' b hb hh.1
        rw [hh.2] at this
        exact this
    · exact h
  split
  · exact h
  · exact h
/-- What fails changes nothing; what is counted, or is no operation, neither; Expire tells 4 at most. -/
theorem do_fails (hsh : ∀ k, shardOf k n < n ∨ n = 0) (h : Inv home shardOf good n cap m) (hn : 0 < n) (hpick : ∀ p k, good p = true → p ≠ [] → hasId p (pick p k) = true) (o : Op) :
    ((doOp home pick shardOf good m o).2.err ≠ 0 → (doOp home pick shardOf good m o).1 = m) ∧ (o.kind = 3 → (doOp home pick shardOf good m o).1 = m) ∧ (o.kind = 2 → (doOp home pick shardOf good m o).2.count ≤ 4 ∧ 0 ≤ (doOp home pick shardOf good m o).2.count) := by
  unfold doOp
  split
  · rename_i h0
    split
    · exact ⟨fun _ => rfl, fun h3 => by omega, fun h2 => by omega⟩
    · rename_i k c hfl
      simp only [h.len]
      have hi : shardOf k n < n := by rcases hsh k with h' | h' <;> omega
      obtain ⟨hi', e, hr, hc⟩ := h.at hi
      rw [e]
      generalize hd : deals home pick m.tables[shardOf k n] m.pool k c o.now o.dl = r
      obtain ⟨u, a⟩ := r
      refine ⟨fun he => ?_, fun h3 => by omega, fun h2 => by omega⟩
      rcases makes (fun hp => hpick m.pool k h.pool hp) hd with ⟨_, h2, _⟩ | ⟨h1, _⟩
      · subst h2
        show (⟨m.pool, m.tables.set (shardOf k n) m.tables[shardOf k n], m.places⟩ : Mo) = m
        rw [List.set_getElem_self]
      · exact absurd h1 he
  split
  · rename_i h1
    split
    · exact ⟨fun he => absurd rfl he, fun h3 => by omega, fun h2 => by omega⟩
    · exact ⟨fun _ => rfl, fun h3 => by omega, fun h2 => by omega⟩
  split
  · rename_i h2
    split
    · refine ⟨fun he => absurd rfl he, fun h3 => by omega, fun _ => ?_⟩
      have hle : dueN o.now (looks (m.tables.getD o.shard.toNat []) (m.places.getD o.shard.toNat 0)) (m.tables.getD o.shard.toNat []) ≤ 4 := by
        have key : ∀ (l : List Nat) (T : List Ent), (sweep o.now l T).2 ≤ l.length := by
          intro l
          induction l with
          | nil => intro T; exact Nat.le_refl _
          | cons a l ih =>
            intro T
            rw [sweep_cons]
            split
            · have := ih (T.set a tomb); simp; omega
            · have := ih T; simp; omega
        have h1 := key (looks (m.tables.getD o.shard.toNat []) (m.places.getD o.shard.toNat 0)) (m.tables.getD o.shard.toNat [])
        have h2 : (looks (m.tables.getD o.shard.toNat []) (m.places.getD o.shard.toNat 0)).length = span 4 (m.tables.getD o.shard.toNat []).length := by simp [looks, places]
        have h3 : span 4 (m.tables.getD o.shard.toNat []).length ≤ 4 := by unfold span; omega
        unfold dueN
        omega
      show ((dueN o.now _ _ : Nat) : Int) ≤ 4 ∧ 0 ≤ ((dueN o.now _ _ : Nat) : Int)
      omega
    · exact ⟨fun _ => rfl, fun _ => rfl, fun _ => by show (0 : Int) ≤ 4 ∧ (0 : Int) ≤ 0; decide⟩
  split
  · rename_i h3
    exact ⟨fun _ => rfl, fun _ => rfl, fun h2 => by omega⟩
  · exact ⟨fun _ => rfl, fun _ => rfl, fun h2 => by omega⟩
/-- How many flows there are behind an operation. -/
theorem do_total (hsh : ∀ k, shardOf k n < n ∨ n = 0) (h : Inv home shardOf good n cap m) (hn : 0 < n) (o : Op) :
    (o.kind = 0 → total (doOp home pick shardOf good m o).1.tables ≤ total m.tables + 1 ∧ total m.tables ≤ total (doOp home pick shardOf good m o).1.tables + 1 ∧ (total (doOp home pick shardOf good m o).1.tables = total m.tables + 1 → (doOp home pick shardOf good m o).2.made = true)) ∧
    (o.kind = 2 → (total (doOp home pick shardOf good m o).1.tables : Int) + (doOp home pick shardOf good m o).2.count = total m.tables) ∧
    (o.kind ≠ 0 → o.kind ≠ 2 → total (doOp home pick shardOf good m o).1.tables = total m.tables) := by
  unfold doOp
  split
  · rename_i h0
    split
    · exact ⟨fun _ => ⟨Nat.le_succ _, Nat.le_succ _, fun h => absurd h (by show ¬ total m.tables = total m.tables + 1; omega)⟩, fun h2 => by omega, fun h => absurd h0 h⟩
    · rename_i k c hfl
      simp only [h.len]
      have hi : shardOf k n < n := by rcases hsh k with h' | h' <;> omega
      obtain ⟨hi', e, hr, hc⟩ := h.at hi
      rw [e]
      generalize hd : deals home pick m.tables[shardOf k n] m.pool k c o.now o.dl = r
      obtain ⟨u, a⟩ := r
      obtain ⟨c1, c2, c3⟩ := counts hr hd
      have hs := sum_set (count 1) m.tables (shardOf k n) hi' u
      refine ⟨fun _ => ?_, fun h2 => by omega, fun h => absurd h0 h⟩
      show total (m.tables.set (shardOf k n) u) ≤ total m.tables + 1 ∧ total m.tables ≤ total (m.tables.set (shardOf k n) u) + 1 ∧ (total (m.tables.set (shardOf k n) u) = total m.tables + 1 → a.made = true)
      unfold total
      exact ⟨by omega, by omega, fun h => c3 (by omega)⟩
  split
  · rename_i h1
    refine ⟨fun h => by omega, fun h2 => by omega, fun _ _ => ?_⟩
    split <;> rfl
  split
  · rename_i h2
    split
    · rename_i hs
      have hi : o.shard.toNat < n := by rw [h.len] at hs; omega
      obtain ⟨hi', e, hr, hc⟩ := h.at hi
      simp only [e]
      have st := stepped (now := o.now) hr (looks m.tables[o.shard.toNat] (m.places.getD o.shard.toNat 0)) (fun a ha => places_mem (span_le _ _) ha)
      have hsum := sum_set (count 1) m.tables o.shard.toNat hi' (Tab.stepT home o.now (looks m.tables[o.shard.toNat] (m.places.getD o.shard.toNat 0)) m.tables[o.shard.toNat])
      have := st.cnt
      refine ⟨fun h => by omega, fun _ => ?_, fun _ h => absurd h2 h⟩
      unfold total
      omega
    · exact ⟨fun h => by omega, fun _ => by show ((total m.tables : Nat) : Int) + 0 = _; omega, fun _ _ => rfl⟩
  split
  · exact ⟨fun h => by omega, fun h => by omega, fun _ _ => rfl⟩
  · exact ⟨fun h => by omega, fun h => by omega, fun _ _ => rfl⟩
end

/-- How many flows there are whose time is not over. -/
def fresh (now : Int) (T : List Ent) : Nat := (T.filter fun e => e.st == 1 && decide (now ≤ e.dl)).length
theorem fresh_le (now : Int) (T : List Ent) : fresh now T ≤ count 1 T := by
  unfold fresh count
  induction T with
  | nil => exact Nat.le_refl _
  | cons e T ih =>
    rw [List.filter_cons, List.filter_cons]
    by_cases h1 : e.st == 1
    · by_cases h2 : now ≤ e.dl
      · rw [if_pos (by simp only [h1, decide_eq_true h2, Bool.and_self]), if_pos h1]; simp only [List.length_cons]; omega
      · rw [if_neg (by simp only [decide_eq_false h2, Bool.and_false]; decide), if_pos h1]; simp only [List.length_cons]; omega
    · rw [if_neg (by simp only [Bool.not_eq_true] at h1; rw [h1]; simp), if_neg h1]; exact ih
section
variable {home : ByteArray → Nat → Nat} {now : Int} {T U : List Ent}
theorem fresh_same (hT : Right home T) (hU : Right home U) (h : ∀ k, (∃ a, find home T k = some a ∧ ¬ Due (ent T a) now) ↔ (∃ a, find home U k = some a ∧ ¬ Due (ent U a) now)) : fresh now T = fresh now U := by
  have nodup : ∀ {X : List Ent}, Right home X → ((X.filter fun e => e.st == 1 && decide (now ≤ e.dl)).map (·.key)).Nodup := by
    intro X hX
    have : (X.filter fun e => e.st == 1 && decide (now ≤ e.dl)) = (X.filter fun e => e.st == 1).filter fun e => decide (now ≤ e.dl) := by
      rw [List.filter_filter]; congr 1; funext e; rw [Bool.and_comm]
    rw [this]
    exact hX.keys.sublist (List.Sublist.map _ List.filter_sublist)
  have mem : ∀ {X : List Ent}, Right home X → ∀ k, k ∈ (X.filter fun e => e.st == 1 && decide (now ≤ e.dl)).map (·.key) ↔ ∃ a, find home X k = some a ∧ ¬ Due (ent X a) now := by
    intro X hX k
    rw [List.mem_map]
    constructor
    · rintro ⟨e, he, rfl⟩
      rw [List.mem_filter] at he
      obtain ⟨a, ha, rfl⟩ := List.getElem_of_mem he.1
      have h2 := he.2
      simp only [Bool.and_eq_true, beq_iff_eq, decide_eq_true_eq] at h2
      refine ⟨a, ?_, fun hd => ?_⟩
      · have := hX a ha (by rw [ent_at ha]; exact h2.1)
        rwa [ent_at ha] at this
      · rw [ent_at ha] at hd
        have := hd.2; omega
    · rintro ⟨a, hf, hd⟩
      obtain ⟨ha, hh⟩ := find_some hf
      refine ⟨ent X a, List.mem_filter.2 ⟨by rw [ent_at ha]; exact List.getElem_mem ha, ?_⟩, hh.2⟩
      simp only [Bool.and_eq_true, beq_iff_eq, decide_eq_true_eq]
      refine ⟨hh.1, ?_⟩
      exact Decidable.byContradiction fun hlt => hd ⟨hh.1, by omega⟩
  have hp := (List.perm_ext_iff_of_nodup (nodup hT) (nodup hU)).2 fun k => by rw [mem hT, mem hU, h]
  have := hp.length_eq
  simpa [fresh] using this
/-- What is due alone is gone. -/
theorem stepped_fresh {k : Nat} (hr : Right home T) (h : Tab.Stepped home now T U k) : fresh now U = fresh now T := by
  refine fresh_same h.right hr fun key => ⟨?_, ?_⟩
  · rintro ⟨b, hb, hd⟩
    cases hf : find home T key with
    | none => rw [h.gone key hf] at hb; cases hb
    | some a =>
      refine ⟨a, rfl, ?_⟩
      rcases h.kept key a hf with ⟨c, hc, he⟩ | ⟨hn, _⟩
      · rw [hc] at hb; cases hb
        rwa [he] at hd
      · rw [hn] at hb; cases hb
  · rintro ⟨a, ha, hd⟩
    rcases h.kept key a ha with ⟨c, hc, he⟩ | ⟨_, h2, _⟩
    · exact ⟨c, hc, by rw [he]; exact hd⟩
    · exact absurd h2 hd
/-- Expired again and again a table loses no more than is due. -/
theorem step_due (hr : Right home T) (l : List Nat) (hl : ∀ a ∈ l, a < T.length) : dueN now l T + (count 1 (Tab.stepT home now l T) - fresh now (Tab.stepT home now l T)) = count 1 T - fresh now T := by
  have st := stepped (now := now) hr l hl
  have h1 := st.cnt
  have h2 := stepped_fresh hr st
  have h3 := fresh_le now (Tab.stepT home now l T)
  omega
theorem all_due (hr : Right home T) : dueN now (places T.length 0 T.length) T = count 1 T - fresh now T := by
  have hl : ∀ a ∈ places T.length 0 T.length, a < T.length := fun a ha => places_mem (Nat.le_refl _) ha
  have h1 := step_due (now := now) hr _ hl
  have st := stepped (now := now) hr _ hl
  have : count 1 (Tab.stepT home now (places T.length 0 T.length) T) = fresh now (Tab.stepT home now (places T.length 0 T.length) T) := by
    generalize hU : Tab.stepT home now (places T.length 0 T.length) T = U at *
    unfold count fresh
    congr 1
    apply List.filter_congr
    intro e he
    obtain ⟨a, ha, rfl⟩ := List.getElem_of_mem he
    have hnd : ¬ Due (ent U a) now := by
      rw [← hU]
      exact all_not_due hr 0 a (by rw [← st.len]; exact ha)
    rw [ent_at ha] at hnd
    cases hs : U[a].st == 1 with
    | false => rfl
    | true =>
      have hle : now ≤ U[a].dl := Decidable.byContradiction fun hlt => hnd ⟨by simpa using hs, by omega⟩
      simp [hle]
  omega
end
end Go.Proofs.YtbamodkgagcmnaaGreat.Mod
