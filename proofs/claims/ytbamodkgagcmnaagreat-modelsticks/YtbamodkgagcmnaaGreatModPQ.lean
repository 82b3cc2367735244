/-
  What becomes of a packet, and of a balancer, plain facts (over any home of keys, any ring, any shards).
-/
import Derived.Test.YtbamodkgagcmnaaGreatTabTQ
set_option maxRecDepth 100000
namespace Go.Proofs.YtbamodkgagcmnaaGreat.Mod
open Go Tab

abbrev Bk := Int × Int
structure Ans where
  err : Int
  backend : Int
  made : Bool
  count : Int
deriving DecidableEq
/-- Has a pool a backend of that Id? -/
def hasId (p : List Bk) (id : Int) : Bool := p.any fun x => x.1 == id
theorem hasId_iff {p : List Bk} {id : Int} : hasId p id = true ↔ ∃ x ∈ p, x.1 = id := by simp [hasId]
section
variable (home : ByteArray → Nat → Nat) (pick : List Bk → ByteArray → Int)
/-- Whose a flow is that is known: in time, and of the pool. -/
def known (T : List Ent) (p : List Bk) (k : ByteArray) (now : Int) : Option Int := match find home T k with
  | some a => if now ≤ (ent T a).dl ∧ hasId p (ent T a).be = true then some (ent T a).be else none
  | none => none
/-- A table without a flow. -/
def del (T : List Ent) (k : ByteArray) : List Ent := match find home T k with
  | some a => Tab.settle home (T.set a tomb)
  | none => T
/-- What becomes of a packet; dl: the deadline that its flow gets. -/
def deals (T : List Ent) (p : List Bk) (k : ByteArray) (closing : Bool) (now dl : Int) : List Ent × Ans :=
  if known home T p k now = none ∧ p = [] then (T, ⟨11, 0, false, 0⟩)
  else if closing = true then (del home T k, ⟨0, (known home T p k now).getD (pick p k), false, 0⟩)
  else match put home T k ((known home T p k now).getD (pick p k)) dl with
    | some U => (U, ⟨0, (known home T p k now).getD (pick p k), (known home T p k now).isNone, 0⟩)
    | none => (T, ⟨12, 0, false, 0⟩)
variable {home pick} {T U : List Ent} {p : List Bk} {k : ByteArray} {now dl : Int}
theorem known_some {id : Int} (h : known home T p k now = some id) : ∃ a, find home T k = some a ∧ now ≤ (ent T a).dl ∧ hasId p id = true ∧ (ent T a).be = id := by
  unfold known at h
  split at h
  · rename_i a ha
    split at h
    · rename_i hc
      simp only [Option.some.injEq] at h
      subst h
      exact ⟨a, ha, hc.1, hc.2, rfl⟩
    · cases h
  · cases h
theorem known_yes {a : Nat} (h : find home T k = some a) (h1 : now ≤ (ent T a).dl) (h2 : hasId p (ent T a).be = true) : known home T p k now = some (ent T a).be := by
  unfold known; rw [h]; exact if_pos ⟨h1, h2⟩
theorem known_no {a : Nat} (h : find home T k = some a) (h1 : ¬ (now ≤ (ent T a).dl ∧ hasId p (ent T a).be = true)) : known home T p k now = none := by
  unfold known; rw [h]; exact if_neg h1
theorem deals_none (h : known home T p k now = none) (hp : p = []) (c : Bool) (dl : Int) : deals home pick T p k c now dl = (T, ⟨11, 0, false, 0⟩) := by
  unfold deals; rw [if_pos ⟨h, hp⟩]
theorem deals_closes (h : ¬ (known home T p k now = none ∧ p = [])) (dl : Int) : deals home pick T p k true now dl = (del home T k, ⟨0, (known home T p k now).getD (pick p k), false, 0⟩) := by
  unfold deals; rw [if_neg h, if_pos rfl]
theorem deals_put (h : ¬ (known home T p k now = none ∧ p = [])) (hu : put home T k ((known home T p k now).getD (pick p k)) dl = some U) : deals home pick T p k false now dl = (U, ⟨0, (known home T p k now).getD (pick p k), (known home T p k now).isNone, 0⟩) := by
  unfold deals; rw [if_neg h, if_neg (by decide), hu]
theorem deals_full (h : ¬ (known home T p k now = none ∧ p = [])) (hu : put home T k ((known home T p k now).getD (pick p k)) dl = none) : deals home pick T p k false now dl = (T, ⟨12, 0, false, 0⟩) := by
  unfold deals; rw [if_neg h, if_neg (by decide), hu]
/-- What was put there may be put there again. -/
theorem put_again {a : Nat} (h : find home T k = some a) (id dl : Int) : ∃ U, put home T k id dl = some U := put_room (.inl (by rw [h]; simp))

/-- Where a flow goes to that was let in is one of the pool. -/
theorem deals_in (hpick : p ≠ [] → hasId p (pick p k) = true) (h : ¬ (known home T p k now = none ∧ p = [])) : hasId p ((known home T p k now).getD (pick p k)) = true := by
  cases hk : known home T p k now with
  | some id => obtain ⟨_, _, _, h1, _⟩ := known_some hk; exact h1
  | none => exact hpick fun e => h ⟨hk, e⟩
/-- A flow stays with its backend: what is told, step by step. -/
theorem sticks {p' : List Bk} (hpick : p ≠ [] → hasId p (pick p k) = true) {u : List Ent} {a : Ans} (h : deals home pick T p k false now dl = (u, a)) :
    (a.err ≠ 0 ∧ u = T ∧ a.backend = 0 ∧ a.made = false) ∨
    (a.err = 0 ∧ p ≠ [] ∧ (∀ t, t ≤ dl → ∀ dl', ∃ v, deals home pick u p k false t dl' = (v, ⟨0, a.backend, false, 0⟩)) ∧ (∀ t, t ≤ dl → ∀ dl', ∃ v, deals home pick u p k true t dl' = (v, ⟨0, a.backend, false, 0⟩)) ∧
      (∀ t dl', hasId p' a.backend = false → ∃ v b, deals home pick u p' k false t dl' = (v, b) ∧ ((p' = [] ∧ b.backend = 0) ∨ (p' ≠ [] ∧ b.backend = pick p' k))) ∧
      (∀ t, dl < t → ∀ dl', ∃ v, deals home pick u p k false t dl' = (v, ⟨0, pick p k, true, 0⟩))) := by
  by_cases hn : known home T p k now = none ∧ p = []
  · rw [deals_none hn.1 hn.2] at h
    injection h with h1 h2; subst h1; subst h2
    exact .inl ⟨by decide, rfl, rfl, rfl⟩
  have hin := deals_in hpick hn
  have hp : p ≠ [] := fun e => by rw [e] at hin; simp [hasId] at hin
  cases hu : put home T k ((known home T p k now).getD (pick p k)) dl with
  | none =>
    rw [deals_full hn hu] at h
    injection h with h1 h2; subst h1; subst h2
    exact .inl ⟨by decide, rfl, rfl, rfl⟩
  | some U =>
    rw [deals_put hn hu] at h
    injection h with h1 h2; subst h1; subst h2
    generalize (known home T p k now).getD (pick p k) = id at *
    obtain ⟨q, hq, e, hf, _⟩ := put_some hu
    have hE : ent U q = live k id dl := by rw [e, ent_set _ _ _ hq, if_pos rfl]
    have yes : ∀ t, t ≤ dl → known home U p k t = some id := fun t ht => by
      have := known_yes (p := p) (now := t) hf (by rw [hE]; exact ht) (by rw [hE]; exact hin)
      rwa [hE] at this
    have no : ∀ t (p' : List Bk), ¬ (t ≤ dl ∧ hasId p' id = true) → known home U p' k t = none := fun t p' ht => known_no hf (by rw [hE]; exact ht)
    refine .inr ⟨rfl, hp, fun t ht dl' => ?_, fun t ht dl' => ?_, fun t dl' hp' => ?_, fun t ht dl' => ?_⟩
    · obtain ⟨v, hv⟩ := put_again hf id dl'
      have hy := yes t ht
      refine ⟨v, ?_⟩
      rw [deals_put (U := v) (by rw [hy]; simp) (by rw [hy]; exact hv), hy]; rfl
    · have hy := yes t ht
      refine ⟨del home U k, ?_⟩
      rw [deals_closes (by rw [hy]; simp), hy]; rfl
    · have hy := no t p' (fun h => by rw [hp'] at h; exact absurd h.2 (by decide))
      by_cases he : p' = []
      · exact ⟨U, ⟨11, 0, false, 0⟩, deals_none hy he false dl', .inl ⟨he, rfl⟩⟩
      · obtain ⟨v, hv⟩ := put_again hf (pick p' k) dl'
        refine ⟨v, _, deals_put (U := v) (fun h => he h.2) (by rw [hy]; exact hv), .inr ⟨he, ?_⟩⟩
        show (known home U p' k t).getD (pick p' k) = _
        rw [hy]; rfl
    · have hy := no t p (fun h => by omega)
      obtain ⟨v, hv⟩ := put_again hf (pick p k) dl'
      refine ⟨v, ?_⟩
      rw [deals_put (U := v) (fun h => hp h.2) (by rw [hy]; exact hv), hy]; rfl
theorem del_right (hr : Right home T) : Right home (del home T k) ∧ find home (del home T k) k = none := by
  unfold del
  split
  · rename_i a ha
    obtain ⟨h1, h2⟩ := hr.bury ha
    obtain ⟨_, s2, _, _, s5⟩ := settle_same h1
    exact ⟨s2, (s5 k).1.1 h2⟩
  · rename_i ha; exact ⟨hr, ha⟩
/-- A flow that is made goes to where the ring says; what closes is gone; what fails changes nothing. -/
theorem makes (hpick : p ≠ [] → hasId p (pick p k) = true) {u : List Ent} {a : Ans} {c : Bool} (h : deals home pick T p k c now dl = (u, a)) :
    (a.err ≠ 0 ∧ u = T ∧ a.made = false ∧ ((a.err = 11 ∧ p = []) ∨ (a.err = 12 ∧ find home T k = none))) ∨
    (a.err = 0 ∧ hasId p a.backend = true ∧ (a.made = true → c = false ∧ a.backend = pick p k) ∧ (c = true → u = del home T k ∧ (find home u k = none ∨ ¬ Right home T)) ∧
      (c = false → put home T k a.backend dl = some u ∧ (find home T k = none → a.made = true) ∧ ∃ q, q < u.length ∧ find home u k = some q ∧ ent u q = live k a.backend dl)) := by
  by_cases hn : known home T p k now = none ∧ p = []
  · rw [deals_none hn.1 hn.2] at h
    injection h with h1 h2; subst h1; subst h2
    exact .inl ⟨by decide, rfl, rfl, .inl ⟨rfl, hn.2⟩⟩
  have hin := deals_in hpick hn
  cases c with
  | true =>
    rw [deals_closes hn] at h
    injection h with h1 h2; subst h1; subst h2
    refine .inr ⟨rfl, hin, (fun h => by cases h), fun _ => ⟨rfl, ?_⟩, (fun h => by cases h)⟩
    by_cases hr : Right home T
    · exact .inl (del_right hr).2
    · exact .inr hr
  | false =>
    cases hu : put home T k ((known home T p k now).getD (pick p k)) dl with
    | none =>
      rw [deals_full hn hu] at h
      injection h with h1 h2; subst h1; subst h2
      exact .inl ⟨by decide, rfl, rfl, .inr ⟨rfl, (put_none hu).1⟩⟩
    | some U =>
      rw [deals_put hn hu] at h
      injection h with h1 h2; subst h1; subst h2
      refine .inr ⟨rfl, hin, fun hm => ⟨rfl, ?_⟩, fun h => (by cases h), fun _ => ⟨hu, fun hf => ?_, ?_⟩⟩
      · have : known home T p k now = none := by simpa using hm
        show (known home T p k now).getD (pick p k) = _
        rw [this]; rfl
      · show (known home T p k now).isNone = true
        unfold known; rw [hf]; rfl
      · obtain ⟨q, hq, e, hf, _⟩ := put_some hu
        refine ⟨q, by rw [put_length hu]; exact hq, hf, ?_⟩
        rw [e, ent_set _ _ _ hq, if_pos rfl]
/-- How many flows there are behind it. -/
theorem counts (hr : Right home T) {u : List Ent} {a : Ans} {c : Bool} (h : deals home pick T p k c now dl = (u, a)) :
    count 1 u ≤ count 1 T + 1 ∧ count 1 T ≤ count 1 u + 1 ∧ (count 1 u = count 1 T + 1 → a.made = true) := by
  by_cases hn : known home T p k now = none ∧ p = []
  · rw [deals_none hn.1 hn.2] at h
    injection h with h1 h2; subst h1; subst h2
    exact ⟨by omega, by omega, fun h => by omega⟩
  cases c with
  | true =>
    rw [deals_closes hn] at h
    injection h with h1 h2; subst h1; subst h2
    unfold del
    split
    · rename_i q hq
      have h1 := bury_count hq
      have h2 := (settle_same (hr.bury hq).1).2.2.1
      exact ⟨by omega, by omega, fun h => by omega⟩
    · exact ⟨by omega, by omega, fun h => by omega⟩
  | false =>
    cases hu : put home T k ((known home T p k now).getD (pick p k)) dl with
    | none =>
      rw [deals_full hn hu] at h
      injection h with h1 h2; subst h1; subst h2
      exact ⟨by omega, by omega, fun h => by omega⟩
    | some U =>
      rw [deals_put hn hu] at h
      injection h with h1 h2; subst h1; subst h2
      have hc := put_count hu
      cases hf : find home T k with
      | some q =>
        rw [hf] at hc
        simp at hc
        exact ⟨by omega, by omega, fun h => by omega⟩
      | none =>
        rw [hf] at hc
        simp at hc
        refine ⟨by omega, by omega, fun _ => ?_⟩
        show (known home T p k now).isNone = true
        unfold known; rw [hf]; rfl
/-- A live entry behind it was there, or is the packet's. -/
theorem deals_keys (hr : Right home T) {u : List Ent} {a : Ans} {c : Bool} (h : deals home pick T p k c now dl = (u, a)) :
    Right home u ∧ u.length = T.length ∧ ∀ q, q < u.length → (ent u q).st = 1 → (ent u q).key = k ∨ find home T (ent u q).key ≠ none := by
  have same : ∀ q, q < T.length → (ent T q).st = 1 → (ent T q).key = k ∨ find home T (ent T q).key ≠ none := fun q hq hs => .inr (by rw [hr q hq hs]; simp)
  by_cases hn : known home T p k now = none ∧ p = []
  · rw [deals_none hn.1 hn.2] at h
    injection h with h1 h2; subst h1; subst h2
    exact ⟨hr, rfl, same⟩
  cases c with
  | true =>
    rw [deals_closes hn] at h
    injection h with h1 h2; subst h1; subst h2
    unfold del
    split
    · rename_i b hb
      have hB := hr.bury hb
      obtain ⟨s1, s2, _, _, _⟩ := settle_same hB.1
      refine ⟨s2, by rw [s1, List.length_set], fun q hq hs => ?_⟩
      obtain ⟨e, he, hx⟩ := settle_from hB.1 hs (by rw [s1] at hq; exact hq) rfl
      rw [List.length_set] at he
      rw [← hx] at hs ⊢
      obtain ⟨_, h2⟩ := bury_ent hb hs
      rw [h2] at hs ⊢
      exact same e he hs
    · exact ⟨hr, rfl, same⟩
  | false =>
    cases hu : put home T k ((known home T p k now).getD (pick p k)) dl with
    | none =>
      rw [deals_full hn hu] at h
      injection h with h1 h2; subst h1; subst h2
      exact ⟨hr, rfl, same⟩
    | some U =>
      rw [deals_put hn hu] at h
      injection h with h1 h2; subst h1; subst h2
      refine ⟨hr.puts hu, put_length hu, fun q hq hs => ?_⟩
      by_cases hk : (ent U q).key = k
      · exact .inl hk
      · right
        have hh : Hit (ent U q) (ent U q).key := ⟨hs, rfl⟩
        have ht := put_ent hu (Ne.symm hk) hh
        rw [put_length hu] at hq
        have : find home T (ent U q).key = some q := hr.finds hq ht
        rw [this]; simp
end
end Go.Proofs.YtbamodkgagcmnaaGreat.Mod
