/-
  Slots, plain (over any pools): what is done to them, and what is read of one.
-/
import Derived.WalkKit
namespace Go.Proofs.YtefdnnmgmdaapaaGreat.Slo

inductive Slot (π : Type)
  | spoilt
  | built
  | ready (p : π)
/-- Something that is done: 0 Begin, 1 Fill, others: Spoil. -/
structure Act (π : Type) where
  kind : Int
  i : Int
  pool : π
variable {π : Type} (right : π → Bool)
def new (n : Int) : List (Slot π) := List.replicate (max 0 (min n 8)).toNat .spoilt
/-- Is there such a slot? -/
def Is (l : List (Slot π)) (i : Int) : Prop := 0 ≤ i ∧ i < l.length
instance (l : List (Slot π)) (i : Int) : Decidable (Is l i) := inferInstanceAs (Decidable (_ ∧ _))
/-- The slot at a place (spoilt, if there is none). -/
def at' (l : List (Slot π)) (i : Int) : Slot π := if Is l i then l.getD i.toNat .spoilt else .spoilt
def begin (l : List (Slot π)) (i : Int) : List (Slot π) × Bool := if Is l i then (l.set i.toNat .built, true) else (l, false)
def fill (l : List (Slot π)) (i : Int) (p : π) : List (Slot π) × Bool := match at' l i with
  | .built => if right p then (l.set i.toNat (.ready p), true) else (l, false)
  | _ => (l, false)
def spoil (l : List (Slot π)) (i : Int) : List (Slot π) × Bool := if Is l i then (l.set i.toNat .spoilt, true) else (l, false)
/-- What is read of a slot: its pool. -/
def read (l : List (Slot π)) (i : Int) : Option π := match at' l i with
  | .ready p => some p
  | _ => none
def act (l : List (Slot π)) (a : Act π) : List (Slot π) × Bool := if a.kind = 0 then begin l a.i else if a.kind = 1 then fill right l a.i a.pool else spoil l a.i
def runs : List (Slot π) → List (Act π) → List (Slot π)
  | l, [] => l
  | l, a :: as => runs (act right l a).1 as
variable {right} {l : List (Slot π)} {i : Int}
theorem at_set (s : Slot π) (hi : Is l i) (k : Int) : at' (l.set i.toNat s) k = if k = i then s else at' l k := by
  have h1 := hi.1
  have h2 := hi.2
  have hIs : Is (l.set i.toNat s) k ↔ Is l k := by unfold Is; rw [List.length_set]
  unfold at'
  by_cases hk : Is l k
  · rw [if_pos (hIs.2 hk), if_pos hk, List.getD_eq_getElem?_getD, List.getElem?_set]
    have h3 := hk.1
    by_cases e : k = i
    · subst e
      rw [if_pos rfl, if_pos rfl, if_pos (by omega)]; rfl
    · rw [if_neg (by omega), if_neg e, List.getD_eq_getElem?_getD]
  · rw [if_neg fun e => hk (hIs.1 e), if_neg hk, if_neg fun e : k = i => hk (by rw [e]; exact hi)]
theorem at_none (hi : ¬ Is l i) : at' l i = .spoilt := if_neg hi
theorem length_act (a : Act π) : (act right l a).1.length = l.length := by
  unfold act begin fill spoil
  split
  · split <;> simp
  · split
    · split
      · split <;> simp
      · rfl
    · split <;> simp
theorem is_act (a : Act π) (k : Int) : Is (act right l a).1 k ↔ Is l k := by unfold Is; rw [length_act]
/-- A place that an act doesn't name stays. -/
theorem at_act (a : Act π) {k : Int} (hk : a.i ≠ k) : at' (act right l a).1 k = at' l k := by
  by_cases hi : Is l a.i
  · have hs : ∀ s : Slot π, at' (l.set a.i.toNat s) k = at' l k := fun s => by rw [at_set s hi, if_neg fun e => hk e.symm]
    unfold act begin fill spoil
    split
    · exact hs _
    · split
      · split
        · split
          · exact hs _
          · rfl
        · rfl
      · exact hs _
  · unfold act begin fill spoil
    rw [at_none hi]
    simp [if_neg hi]
theorem is_runs {k : Int} : ∀ (as : List (Act π)) (l : List (Slot π)), Is (runs right l as) k ↔ Is l k
  | [], _ => Iff.rfl
  | a :: as, _ => (is_runs as _).trans (is_act a k)
theorem at_runs {k : Int} : ∀ (as : List (Act π)) (l : List (Slot π)), (∀ a, a ∈ as → a.i ≠ k) → at' (runs right l as) k = at' l k
  | [], _, _ => rfl
  | a :: as, _, h => (at_runs as _ fun b hb => h b (List.mem_cons_of_mem _ hb)).trans (at_act a (h a List.mem_cons_self))
theorem is_new {n i : Int} : Is (new (π := π) n) i ↔ 0 ≤ i ∧ i < n ∧ i < 8 := by unfold Is new; rw [List.length_replicate]; omega
/-- A slot that is begun is read no more; it is filled by what is right, once; then it is read. -/
theorem begin_is (hi : Is l i) : (begin l i).2 = true ∧ Is (begin l i).1 i ∧ at' (begin l i).1 i = .built ∧ read (begin l i).1 i = none := by
  have e : (begin l i) = (l.set i.toNat .built, true) := if_pos hi
  rw [e]
  have ea : at' (l.set i.toNat .built) i = .built := by rw [at_set _ hi, if_pos rfl]
  refine ⟨rfl, ⟨hi.1, by rw [List.length_set]; exact hi.2⟩, ea, ?_⟩
  unfold read
  rw [ea]
theorem fill_is {p : π} (hi : Is l i) (hb : at' l i = .built) : (fill right l i p).2 = right p ∧ Is (fill right l i p).1 i ∧ at' (fill right l i p).1 i = (if right p then .ready p else .built) ∧ read (fill right l i p).1 i = if right p then some p else none := by
  by_cases h : right p = true
  · have e : fill right l i p = (l.set i.toNat (.ready p), true) := by unfold fill; rw [hb]; exact if_pos h
    have ea : at' (l.set i.toNat (.ready p)) i = .ready p := by rw [at_set _ hi, if_pos rfl]
    rw [e, h, if_pos rfl, if_pos rfl]
    refine ⟨rfl, ⟨hi.1, by rw [List.length_set]; exact hi.2⟩, ea, ?_⟩
    unfold read; rw [ea]
  · have e : fill right l i p = (l, false) := by unfold fill; rw [hb]; exact if_neg h
    rw [e, if_neg h, if_neg h]
    refine ⟨by simpa using h, hi, hb, ?_⟩
    unfold read; rw [hb]
theorem fill_not {p : π} (hb : at' l i ≠ .built) : fill right l i p = (l, false) := by
  unfold fill
  split
  · contradiction
  · rfl
theorem spoil_is (hi : Is l i) : (spoil l i).2 = true ∧ read (spoil l i).1 i = none := by
  have e : (spoil l i) = (l.set i.toNat .spoilt, true) := if_pos hi
  rw [e]
  refine ⟨rfl, ?_⟩
  unfold read
  rw [at_set _ hi, if_pos rfl]
/-- (SlotsNone) Of a slot that there is not. -/
theorem none_is {p : π} (hi : ¬ Is l i) : begin l i = (l, false) ∧ fill right l i p = (l, false) ∧ spoil l i = (l, false) ∧ read l i = none := by
  refine ⟨if_neg hi, fill_not fun e => ?_, if_neg hi, ?_⟩
  · rw [at_none hi] at e; cases e
  · unfold read; rw [at_none hi]
/-- (SlotsReady) Acts, a Begin, a Fill, another one, acts elsewhere, a Spoil. -/
theorem ready_is (as bs : List (Act π)) (p : π) (hi : Is l i) (hbs : ∀ a, a ∈ bs → a.i ≠ i) :
    let s0 := runs right l as
    let s1 := begin s0 i
    let s2 := fill right s1.1 i p
    let s3 := fill right s2.1 i p
    let s4 := runs right s3.1 bs
    s1.2 = true ∧ read s1.1 i = none ∧ s2.2 = right p ∧ s3.2 = false ∧ read s4 i = (if right p then some p else none) ∧ (spoil s4 i).2 = true ∧ read (spoil s4 i).1 i = none := by
  intro s0 s1 s2 s3 s4
  have h0 : Is s0 i := (is_runs as l).2 hi
  obtain ⟨a1, a2, a3, a4⟩ := begin_is h0
  obtain ⟨b1, b2, b3, b4⟩ := fill_is (right := right) (p := p) a2 a3
  have h3 : s3.2 = false ∧ Is s3.1 i ∧ at' s3.1 i = at' s2.1 i := by
    by_cases h : right p = true
    · have e : s3 = (s2.1, false) := fill_not (by rw [show at' s2.1 i = _ from b3, if_pos h]; intro e; cases e)
      rw [e]; exact ⟨rfl, b2, rfl⟩
    · have e' : at' s2.1 i = .built := by rw [show at' s2.1 i = _ from b3, if_neg h]
      have e : s3 = (s2.1, false) := by
        show fill right s2.1 i p = _
        unfold fill; rw [e']; exact if_neg h
      rw [e]; exact ⟨rfl, b2, rfl⟩
  have h4 : Is s4 i := (is_runs bs _).2 h3.2.1
  have r4 : read s4 i = read s2.1 i := by unfold read; rw [show at' s4 i = at' s3.1 i from at_runs bs _ hbs, h3.2.2]
  exact ⟨a1, a4, b1, h3.1, r4.trans b4, spoil_is h4⟩
/-- (SlotsAnew) Acts at one place change nothing of another one's. -/
theorem read_act (a : Act π) {k : Int} (hk : a.i ≠ k) : read (act right l a).1 k = read l k := by unfold read; rw [at_act a hk]
end Go.Proofs.YtefdnnmgmdaapaaGreat.Slo
