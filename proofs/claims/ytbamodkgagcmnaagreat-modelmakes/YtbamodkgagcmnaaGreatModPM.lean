/-
  What becomes of a packet, and of a balancer, plain facts (over any home of keys, any ring, any shards).
-/
import Derived.Test.YtbamodkgagcmnaaGreatTabTM
set_option maxRecDepth 100000
namespace Go.Proofs.YtbamodkgagcmnaaGreat.Mod
open Go Tab

abbrev Bk := Int × Int
structure Ans where
  err : Int
  backend : Int
  made : Bool
  count : Int
deriving DecidableEq
/-- Has a pool a backend of that Id? -/
def hasId (p : List Bk) (id : Int) : Bool := p.any fun x => x.1 == id
theorem hasId_iff {p : List Bk} {id : Int} : hasId p id = true ↔ ∃ x ∈ p, x.1 = id := by simp [hasId]
section
variable (home : ByteArray → Nat → Nat) (pick : List Bk → ByteArray → Int)
/-- Whose a flow is that is known: in time, and of the pool. -/
def known (T : List Ent) (p : List Bk) (k : ByteArray) (now : Int) : Option Int := match find home T k with
  | some a => if now ≤ (ent T a).dl ∧ hasId p (ent T a).be = true then some (ent T a).be else none
  | none => none
/-- A table without a flow. -/
def del (T : List Ent) (k : ByteArray) : List Ent := match find home T k with
  | some a => Tab.settle home (T.set a tomb)
  | none => T
/-- What becomes of a packet; dl: the deadline that its flow gets. -/
def deals (T : List Ent) (p : List Bk) (k : ByteArray) (closing : Bool) (now dl : Int) : List Ent × Ans :=
  if known home T p k now = none ∧ p = [] then (T, ⟨11, 0, false, 0⟩)
  else if closing = true then (del home T k, ⟨0, (known home T p k now).getD (pick p k), false, 0⟩)
  else match put home T k ((known home T p k now).getD (pick p k)) dl with
    | some U => (U, ⟨0, (known home T p k now).getD (pick p k), (known home T p k now).isNone, 0⟩)
    | none => (T, ⟨12, 0, false, 0⟩)
variable {home pick} {T U : List Ent} {p : List Bk} {k : ByteArray} {now dl : Int}
theorem known_some {id : Int} (h : known home T p k now = some id) : ∃ a, find home T k = some a ∧ now ≤ (ent T a).dl ∧ hasId p id = true ∧ (ent T a).be = id := by
  unfold known at h
  split at h
  · rename_i a ha
    split at h
    · rename_i hc
      simp only [Option.some.injEq] at h
      subst h
      exact ⟨a, ha, hc.1, hc.2, rfl⟩
    · cases h
  · cases h
theorem known_yes {a : Nat} (h : find home T k = some a) (h1 : now ≤ (ent T a).dl) (h2 : hasId p (ent T a).be = true) : known home T p k now = some (ent T a).be := by
  unfold known; rw [h]; exact if_pos ⟨h1, h2⟩
theorem known_no {a : Nat} (h : find home T k = some a) (h1 : ¬ (now ≤ (ent T a).dl ∧ hasId p (ent T a).be = true)) : known home T p k now = none := by
  unfold known; rw [h]; exact if_neg h1
theorem deals_none (h : known home T p k now = none) (hp : p = []) (c : Bool) (dl : Int) : deals home pick T p k c now dl = (T, ⟨11, 0, false, 0⟩) := by
  unfold deals; rw [if_pos ⟨h, hp⟩]
theorem deals_closes (h : ¬ (known home T p k now = none ∧ p = [])) (dl : Int) : deals home pick T p k true now dl = (del home T k, ⟨0, (known home T p k now).getD (pick p k), false, 0⟩) := by
  unfold deals; rw [if_neg h, if_pos rfl]
theorem deals_put (h : ¬ (known home T p k now = none ∧ p = [])) (hu : put home T k ((known home T p k now).getD (pick p k)) dl = some U) : deals home pick T p k false now dl = (U, ⟨0, (known home T p k now).getD (pick p k), (known home T p k now).isNone, 0⟩) := by
  unfold deals; rw [if_neg h, if_neg (by decide), hu]
theorem deals_full (h : ¬ (known home T p k now = none ∧ p = [])) (hu : put home T k ((known home T p k now).getD (pick p k)) dl = none) : deals home pick T p k false now dl = (T, ⟨12, 0, false, 0⟩) := by
  unfold deals; rw [if_neg h, if_neg (by decide), hu]
/-- Where a flow goes to that was let in is one of the pool. -/
theorem deals_in (hpick : p ≠ [] → hasId p (pick p k) = true) (h : ¬ (known home T p k now = none ∧ p = [])) : hasId p ((known home T p k now).getD (pick p k)) = true := by
  cases hk : known home T p k now with
  | some id => obtain ⟨_, _, _, h1, _⟩ := known_some hk; exact h1
  | none => exact hpick fun e => h ⟨hk, e⟩
theorem del_right (hr : Right home T) : Right home (del home T k) ∧ find home (del home T k) k = none := by
  unfold del
  split
  · rename_i a ha
    obtain ⟨h1, h2⟩ := hr.bury ha
    obtain ⟨_, s2, _, _, s5⟩ := settle_same h1
    exact ⟨s2, (s5 k).1.1 h2⟩
  · rename_i ha; exact ⟨hr, ha⟩
/-- A flow that is made goes to where the ring says; what closes is gone; what fails changes nothing. -/
theorem makes (hpick : p ≠ [] → hasId p (pick p k) = true) {u : List Ent} {a : Ans} {c : Bool} (h : deals home pick T p k c now dl = (u, a)) :
    (a.err ≠ 0 ∧ u = T ∧ a.made = false ∧ ((a.err = 11 ∧ p = []) ∨ (a.err = 12 ∧ find home T k = none))) ∨
    (a.err = 0 ∧ hasId p a.backend = true ∧ (a.made = true → c = false ∧ a.backend = pick p k) ∧ (c = true → u = del home T k ∧ (find home u k = none ∨ ¬ Right home T)) ∧
      (c = false → put home T k a.backend dl = some u ∧ (find home T k = none → a.made = true) ∧ ∃ q, q < u.length ∧ find home u k = some q ∧ ent u q = live k a.backend dl)) := by
  by_cases hn : known home T p k now = none ∧ p = []
  · rw [deals_none hn.1 hn.2] at h
    injection h with h1 h2; subst h1; subst h2
    exact .inl ⟨by decide, rfl, rfl, .inl ⟨rfl, hn.2⟩⟩
  have hin := deals_in hpick hn
  cases c with
  | true =>
    rw [deals_closes hn] at h
    injection h with h1 h2; subst h1; subst h2
    refine .inr ⟨rfl, hin, (fun h => by cases h), fun _ => ⟨rfl, ?_⟩, (fun h => by cases h)⟩
    by_cases hr : Right home T
    · exact .inl (del_right hr).2
    · exact .inr hr
  | false =>
    cases hu : put home T k ((known home T p k now).getD (pick p k)) dl with
    | none =>
      rw [deals_full hn hu] at h
      injection h with h1 h2; subst h1; subst h2
      exact .inl ⟨by decide, rfl, rfl, .inr ⟨rfl, (put_none hu).1⟩⟩
    | some U =>
      rw [deals_put hn hu] at h
      injection h with h1 h2; subst h1; subst h2
      refine .inr ⟨rfl, hin, fun hm => ⟨rfl, ?_⟩, fun h => (by cases h), fun _ => ⟨hu, fun hf => ?_, ?_⟩⟩
      · have : known home T p k now = none := by simpa using hm
        show (known home T p k now).getD (pick p k) = _
        rw [this]; rfl
      · show (known home T p k now).isNone = true
        unfold known; rw [hf]; rfl
      · obtain ⟨q, hq, e, hf, _⟩ := put_some hu
        refine ⟨q, by rw [put_length hu]; exact hq, hf, ?_⟩
        rw [e, ent_set _ _ _ hq, if_pos rfl]
end
end Go.Proofs.YtbamodkgagcmnaaGreat.Mod
