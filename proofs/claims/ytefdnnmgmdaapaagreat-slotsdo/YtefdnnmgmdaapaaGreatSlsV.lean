/-
  Slots, row of acts by row of acts: plain facts; law 16's do over slots that were made since.
-/
import Derived.Test.YtefdnnmgmdaapaaGreatSlsW
import Derived.Test.YtefdnnmgmdaapaaGreatSlsE
namespace Go.Proofs.YtefdnnmgmdaapaaGreat.Sls
open Go.RowKit Go.Shelf RowG Trn Slo
open Pol (Bk polV chk)
open Pts (ofL hsh)
open Rin (succL)

theorem do_stand {w0 w : World} {f : Foot} {l : List (Slot (List Bk))} (h : Stand w0 w f l) (x : ActM) (hz : Pol.Lies w0 x.p x.c x.pool) : Calls Tryz.prog 8 #[f.v, actV x] w fun e W' => e = .returned (.bool (Slo.act rightB l x.act).2) ∧ Stand w0 W' f (Slo.act rightB l x.act).1 := (do_any f l x w h.held (hz.kept h.below)).mono fun _ _ => Does.stand h
theorem runs_snoc (a : Slo.Act (List Bk)) : ∀ (bs : List (Slo.Act (List Bk))) (l : List (Slot (List Bk))), runs rightB l (bs ++ [a]) = (Slo.act rightB (runs rightB l bs) a).1
  | [], _ => rfl
  | b :: bs, l => runs_snoc a bs (Slo.act rightB l b).1
theorem take_next {α : Type} {T : List α} {k : Nat} (hk : k < T.length) : T.take (k + 1) = T.take k ++ [T[k]] := by
  rw [List.take_add_one, List.getElem?_eq_getElem hk]; rfl
/-- The first acts. -/
abbrev firsts (T : List ActM) (k : Nat) : List (Slo.Act (List Bk)) := (T.take k).map ActM.act
theorem firsts_next {T : List ActM} {k : Nat} (hk : k < T.length) : firsts T (k + 1) = firsts T k ++ [T[k].act] := by
  show (T.take (k + 1)).map ActM.act = _
  rw [take_next hk, List.map_append]; rfl
theorem firsts_all (T : List ActM) : firsts T T.length = T.map ActM.act := by unfold firsts; rw [List.take_length]
theorem runs_next {T : List ActM} {k : Nat} (hk : k < T.length) (l : List (Slot (List Bk))) : runs rightB l (firsts T (k + 1)) = (Slo.act rightB (runs rightB l (firsts T k)) T[k].act).1 := by rw [firsts_next hk, runs_snoc]
/-- The first acts elsewhere. -/
abbrev others (T : List ActM) (i : Int) (k : Nat) : List (Slo.Act (List Bk)) := ((T.take k).filter fun x => x.i != i).map ActM.act
theorem others_next {T : List ActM} {i : Int} {k : Nat} (hk : k < T.length) : others T i (k + 1) = if T[k].i = i then others T i k else others T i k ++ [T[k].act] := by
  show ((T.take (k + 1)).filter fun x => x.i != i).map ActM.act = _
  rw [take_next hk, List.filter_append, List.map_append]
  by_cases h : T[k].i = i
  · rw [if_pos h, List.filter_cons, if_neg (by simp [h])]
    simp
  · rw [if_neg h, List.filter_cons, if_pos (by simp [h])]
    rfl
theorem others_ne {T : List ActM} {i : Int} {k : Nat} : ∀ a, a ∈ others T i k → a.i ≠ i := by
  intro a ha
  obtain ⟨x, hx, rfl⟩ := List.mem_map.1 ha
  simpa using (List.mem_filter.1 hx).2
theorem runs_other {T : List ActM} {i : Int} {k : Nat} (hk : k < T.length) (l : List (Slot (List Bk))) (h : T[k].i ≠ i) : runs rightB l (others T i (k + 1)) = (Slo.act rightB (runs rightB l (others T i k)) T[k].act).1 := by rw [others_next hk, if_neg h, runs_snoc]
theorem runs_same {T : List ActM} {i : Int} {k : Nat} (hk : k < T.length) (l : List (Slot (List Bk))) (h : T[k].i = i) : runs rightB l (others T i (k + 1)) = runs rightB l (others T i k) := by rw [others_next hk, if_pos h]
section
variable {l : List (Slot (List Bk))} {i : Int}
theorem pick_none (h : Slo.read l i = none) (x : Int) : pickOf l i x = (0, false) := by unfold pickOf; rw [h]
theorem pick_some {z : List Bk} (h : Slo.read l i = some z) (x : Int) : pickOf l i x = (succL (ofL hsh z) x, true) := by unfold pickOf; rw [h]
theorem has_none (h : Slo.read l i = none) (x : Int) : hasOf l i x = (false, false) := by unfold hasOf; rw [h]
theorem has_some {z : List Bk} (h : Slo.read l i = some z) (x : Int) : hasOf l i x = (hasB z x, true) := by unfold hasOf; rw [h]
theorem size_none (h : Slo.read l i = none) : sizeOf l i = (0, false) := by unfold sizeOf; rw [h]
theorem size_some {z : List Bk} (h : Slo.read l i = some z) : sizeOf l i = ((z.length : Int), true) := by unfold sizeOf; rw [h]
end
/-- Acts, a Begin, two Fills, acts elsewhere, a Spoil. -/
theorem ready_at {l : List (Slot (List Bk))} {i : Int} (hi : Is l i) (T : List ActM) (z : List Bk) (b : Bool) (hb : rightB z = b) :
    ∃ s1 s2 s3, Slo.begin (runs rightB l (firsts T T.length)) i = (s1, true) ∧ Slo.read s1 i = none ∧ Slo.fill rightB s1 i z = (s2, b) ∧ Slo.fill rightB s2 i z = (s3, false) ∧
      Slo.read (runs rightB s3 (others T i T.length)) i = (if b = true then some z else none) ∧ ∃ s5, Slo.spoil (runs rightB s3 (others T i T.length)) i = (s5, true) ∧ Slo.read s5 i = none := by
  subst hb
  obtain ⟨r1, r2, r3, r4, r5, r6, r7⟩ := ready_is (right := rightB) (firsts T T.length) (others T i T.length) z hi others_ne
  exact ⟨_, _, _, Prod.ext rfl r1, r2, Prod.ext rfl r3, Prod.ext rfl r4, r5, _, Prod.ext rfl r6, r7⟩
/-- A hash goes to a backend that the pool has. -/
theorem has_in {z : List Bk} (hc : chk z) (h : Int) : hasB z (succL (ofL hsh z) h) = decide (0 < z.length) := by
  unfold hasB
  cases z with
  | nil => rfl
  | cons y z =>
    rw [decide_eq_true (show 0 < (y :: z).length by simp)]
    refine decide_eq_true ((Pol.find_pos _ _).2 ?_)
    obtain ⟨p, hp, e⟩ := Rin.succL_mem (Rin.ofL_none hsh hc (by simp)) h
    rw [e]
    obtain ⟨x, hx, e⟩ := Rin.ofL_mem hsh hp
    exact ⟨x, hx, e.symm⟩
theorem check_at (a : Option Addr) (c : Nat) (z : List Bk) (b : Bool) (hb : rightB z = b) (w : World) (h : Pol.Lies w a c z) :
    Calls Tryz.prog 78 #[polV a c z] w fun e W' => e = .returned (Pol.chkV b) ∧ Below w.heap.size w W' := Pol.Check_told a c z b (by rw [right_iff, hb]) w h
/-- What a slot that was being built is, filled with a pool. -/
def fullX (b : Bool) (z : List Bk) : Slot (List Bk) := if b = true then .ready z else .built
theorem fill_x0 {z : List Bk} {b : Bool} (hb : rightB z = b) (y : Slot (List Bk)) : Slo.fill rightB [.built, y] 0 z = ([fullX b z, y], b) := by
  subst hb
  show (if rightB z = true then _ else _) = _
  unfold fullX
  cases rightB z <;> rfl
theorem fill_x1 {z : List Bk} {b : Bool} (hb : rightB z = b) (x : Slot (List Bk)) : Slo.fill rightB [x, .built] 1 z = ([x, fullX b z], b) := by
  subst hb
  show (if rightB z = true then _ else _) = _
  unfold fullX
  cases rightB z <;> rfl
end Go.Proofs.YtefdnnmgmdaapaaGreat.Sls
