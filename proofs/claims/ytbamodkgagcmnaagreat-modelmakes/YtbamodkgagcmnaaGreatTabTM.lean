/-
  Tables of flows, plain facts: what sweeping some places, all places, in parts and again comes to.
-/
import Derived.Test.YtbamodkgagcmnaaGreatBTabM
set_option maxRecDepth 100000
namespace Go.Proofs.YtbamodkgagcmnaaGreat.Tab

/-- The place where one begins to look. -/
def norm (n : Nat) (h : Int) : Nat := if 0 ≤ h ∧ h < n then h.toNat else 0
/-- How many places are looked at. -/
def span (m : Int) (n : Nat) : Nat := (min (max m 0) n).toNat
/-- The places that are looked at. -/
def places (n h m : Nat) : List Nat := (List.range m).map fun i => (h + i) % n
/-- The place behind the last one. -/
def nextP (n h m : Nat) : Nat := if n = 0 then 0 else (h + m) % n
theorem norm_lt {n : Nat} (h : Int) (hn : 0 < n) : norm n h < n := by
  unfold norm
  split <;> omega
theorem norm_nat {n h : Nat} (hh : h < n) : norm n (h : Int) = h := by
  unfold norm
  rw [if_pos (by omega)]
  omega
theorem norm_zero (h : Int) : norm 0 h = 0 := by
  unfold norm
  split <;> omega
theorem span_le (m : Int) (n : Nat) : span m n ≤ n := by unfold span; omega
theorem nextP_lt {n h m : Nat} (hn : 0 < n) : nextP n h m < n := by
  unfold nextP
  rw [if_neg (by omega)]
  exact Nat.mod_lt _ hn
theorem places_mem {n h m a : Nat} (hm : m ≤ n) (ha : a ∈ places n h m) : a < n := by
  unfold places at ha
  rw [List.mem_map] at ha
  obtain ⟨i, hi, rfl⟩ := ha
  exact Nat.mod_lt _ (by have := List.mem_range.1 hi; omega)
theorem places_succ (n h m : Nat) : places n h (m + 1) = places n h m ++ [(h + m) % n] := by simp [places, List.range_succ]
theorem places_zero (n h : Nat) : places n h 0 = [] := rfl
theorem places_all {n a : Nat} (h : Nat) (ha : a < n) : a ∈ places n h n := way_mem.2 ha
theorem places_app {n h m k : Nat} (hn : 0 < n) : places n h (m + k) = places n h m ++ places n (nextP n h m) k := by
  induction k with
  | zero => simp [places_zero]
  | succ k ih =>
    rw [← Nat.add_assoc, places_succ, ih, places_succ, List.append_assoc]
    congr 3
    unfold nextP
    rw [if_neg (by omega), Nat.mod_add_mod, Nat.add_assoc]
theorem nextP_app {n h m k : Nat} : nextP n (nextP n h m) k = nextP n h (m + k) := by
  unfold nextP
  split
  · rfl
  · rw [Nat.mod_add_mod, Nat.add_assoc]

section
variable {home : ByteArray → Nat → Nat} {now later : Int} {T U : List Ent}
/-- A table of which some places were looked at; how many were due. -/
def stepT (home : ByteArray → Nat → Nat) (now : Int) (l : List Nat) (T : List Ent) : List Ent := if 0 < (sweep now l T).2 then settle home (sweep now l T).1 else T
def dueN (now : Int) (l : List Nat) (T : List Ent) : Nat := (sweep now l T).2
theorem stepT_few {l : List Nat} (hl : ∀ b ∈ l, b < T.length) (h : 2 * count 2 T + 2 * dueN now l T ≤ T.length) : stepT home now l T = (sweep now l T).1 := by
  unfold stepT
  split
  · refine settle_few ?_
    rw [sweep_tombs now l T hl, sweep_length]
    unfold dueN at h
    omega
  · rename_i hz
    exact (sweep_zero now l T (by omega)).symm
theorem stepT_zero (l : List Nat) (h : (sweep now l T).2 = 0) : stepT home now l T = T := by
  unfold stepT
  rw [if_neg (by omega)]
/-- What is so of a table behind it. -/
structure Stepped (home : ByteArray → Nat → Nat) (now : Int) (T U : List Ent) (n : Nat) : Prop where
  len : U.length = T.length
  right : Right home U
  gone : ∀ k, find home T k = none → find home U k = none
  kept : ∀ k a, find home T k = some a → (∃ b, find home U k = some b ∧ ent U b = ent T a) ∨ (find home U k = none ∧ Due (ent T a) now ∧ 0 < n)
  cnt : count 1 U + n = count 1 T
theorem stepped (hr : Right home T) (l : List Nat) (hl : ∀ a ∈ l, a < T.length) : Stepped home now T (stepT home now l T) (dueN now l T) := by
  have hS := sweep_right (now := now) hr l hl
  unfold stepT dueN
  split
  · obtain ⟨s1, s2, s3, -, s5⟩ := settle_same hS.right
    refine ⟨by rw [s1, hS.len], s2, fun k hk => (s5 k).1.1 (hS.gone k hk), fun k a hk => ?_, by rw [s3]; exact hS.cnt⟩
    rcases hS.kept k a hk with ⟨h1, h2⟩ | ⟨h1, h2, h3⟩
    · cases hf : find home (settle home (sweep now l T).1) k with
      | none => rw [(s5 k).1.2 hf] at h1; cases h1
      | some b => exact .inl ⟨b, rfl, by rw [(s5 k).2 a b h1 hf, h2]⟩
    · exact .inr ⟨(s5 k).1.1 h1, h2, h3⟩
  · rename_i hz
    have hz' : (sweep now l T).2 = 0 := by omega
    refine ⟨rfl, hr, fun k hk => hk, fun k a hk => .inl ⟨a, hk, rfl⟩, by omega⟩
/-- A live entry of a table that was settled was there. -/
theorem settle_from (hr : Right home T) {e : Ent} (he : e.st = 1) {a : Nat} (ha : a < T.length) (hx : ent (settle home T) a = e) : ∃ b, b < T.length ∧ ent T b = e := by
  unfold settle at hx
  split at hx
  · have hm := (hr.tidyHas.same e he).1 ⟨a, ha, hx⟩
    obtain ⟨b, hb, hbe⟩ := List.getElem_of_mem (List.mem_filter.1 hm).1
    exact ⟨b, hb, by rw [ent_at hb, hbe]⟩
  · exact ⟨a, ha, hx⟩
/-- All places: none is due any more. -/
theorem all_not_due (hr : Right home T) (h : Nat) (a : Nat) (ha : a < T.length) : ¬ Due (ent (stepT home now (places T.length h T.length) T) a) now := by
  have hl : ∀ b ∈ places T.length h T.length, b < T.length := fun b hb => places_mem (Nat.le_refl _) hb
  have hn : ∀ b, b < T.length → ¬ Due (ent (sweep now (places T.length h T.length) T).1 b) now := fun b hb => sweep_not_due now _ T b hl (.inl (places_all h hb))
  have hS := sweep_right (now := now) hr _ hl
  unfold stepT
  split
  · intro hd
    obtain ⟨b, hb, e⟩ := settle_from hS.right hd.1 (a := a) (by rw [hS.len]; exact ha) rfl
    rw [hS.len] at hb
    exact hn b hb (by rw [e]; exact hd)
  · rename_i hz
    have := hn a ha
    rwa [sweep_zero now _ T (by omega)] at this
/-- Once more nothing is done. -/
theorem all_again (hr : Right home T) : dueN now (places T.length 0 T.length) (stepT home now (places T.length 0 T.length) T) = 0 ∧ stepT home now (places T.length 0 T.length) (stepT home now (places T.length 0 T.length) T) = stepT home now (places T.length 0 T.length) T := by
  have h0 : sweep now (places T.length 0 T.length) (stepT home now (places T.length 0 T.length) T) = (stepT home now (places T.length 0 T.length) T, 0) :=
    sweep_none now _ _ fun a ha => all_not_due hr 0 a (places_mem (Nat.le_refl _) ha)
  exact ⟨by unfold dueN; rw [h0], stepT_zero _ (by rw [h0])⟩
/-- What is found behind all places. -/
theorem all_found (hr : Right home T) (k : ByteArray) : (find home (stepT home now (places T.length 0 T.length) T) k ≠ none ↔ ∃ a, find home T k = some a ∧ ¬ Due (ent T a) now) ∧
    ∀ a b, find home T k = some a → find home (stepT home now (places T.length 0 T.length) T) k = some b → ent (stepT home now (places T.length 0 T.length) T) b = ent T a := by
  have hl : ∀ b ∈ places T.length 0 T.length, b < T.length := fun b hb => places_mem (Nat.le_refl _) hb
  have hS := stepped (now := now) hr _ hl
  have key : ∀ a b, find home T k = some a → find home (stepT home now (places T.length 0 T.length) T) k = some b → ent (stepT home now (places T.length 0 T.length) T) b = ent T a := by
    intro a b h1 h2
    rcases hS.kept k a h1 with ⟨c, h3, h4⟩ | ⟨h3, _, _⟩
    · rw [h2] at h3; cases h3; exact h4
    · rw [h2] at h3; cases h3
  refine ⟨⟨fun hn => ?_, fun ⟨a, h1, h2⟩ hn => ?_⟩, key⟩
  · cases hf : find home T k with
    | none => exact absurd (hS.gone k hf) hn
    | some a =>
      refine ⟨a, rfl, fun hd => ?_⟩
      cases hg : find home (stepT home now (places T.length 0 T.length) T) k with
      | none => exact hn hg
      | some b =>
        have hb := (find_some hg).1
        rw [hS.len] at hb
        exact all_not_due (now := now) hr 0 b hb (by rw [key a b hf hg]; exact hd)
  · rcases hS.kept k a h1 with ⟨c, h3, _⟩ | ⟨_, h4, _⟩
    · rw [hn] at h3; cases h3
    · exact h2 h4
/-- In two steps it comes to the same as in one, unless it is tidied. -/
theorem step_parts (hn : 0 < T.length) {h m k : Nat} (hmk : m + k ≤ T.length) (hf : 2 * count 2 T + 2 * dueN now (places T.length h (m + k)) T ≤ T.length) :
    dueN now (places T.length h m) T + dueN now (places T.length (nextP T.length h m) k) (stepT home now (places T.length h m) T) = dueN now (places T.length h (m + k)) T ∧
    stepT home now (places T.length (nextP T.length h m) k) (stepT home now (places T.length h m) T) = stepT home now (places T.length h (m + k)) T := by
  have hl1 : ∀ b ∈ places T.length h m, b < T.length := fun b hb => places_mem (by omega) hb
  have hl2 : ∀ b ∈ places T.length (nextP T.length h m) k, b < T.length := fun b hb => places_mem (by omega) hb
  have hl3 : ∀ b ∈ places T.length h (m + k), b < T.length := fun b hb => places_mem hmk hb
  have happ := sweep_append now (places T.length (nextP T.length h m) k) (places T.length h m) T
  rw [← places_app hn] at happ
  have hd : dueN now (places T.length h (m + k)) T = (sweep now (places T.length h m) T).2 + (sweep now (places T.length (nextP T.length h m) k) (sweep now (places T.length h m) T).1).2 := by unfold dueN; rw [happ]
  have e1 : stepT home now (places T.length h m) T = (sweep now (places T.length h m) T).1 := stepT_few hl1 (by unfold dueN at hd hf ⊢; omega)
  have e3 : stepT home now (places T.length h (m + k)) T = (sweep now (places T.length h (m + k)) T).1 := stepT_few hl3 hf
  have hlen := sweep_length now (places T.length h m) T
  have e2 : stepT home now (places T.length (nextP T.length h m) k) (sweep now (places T.length h m) T).1 = (sweep now (places T.length (nextP T.length h m) k) (sweep now (places T.length h m) T).1).1 := by
    refine stepT_few (by rw [hlen]; exact hl2) ?_
    rw [sweep_tombs now _ T hl1, hlen]
    unfold dueN at hd hf ⊢
    omega
  rw [e1, e2, e3, hd, happ]
  exact ⟨rfl, rfl⟩
end
end Go.Proofs.YtbamodkgagcmnaaGreat.Tab
