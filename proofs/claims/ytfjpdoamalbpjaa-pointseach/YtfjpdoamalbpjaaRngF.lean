/-
  A range over a function whose rounds all go on, where what a round keeps hangs on the loop that it is a round of: so a function that is ranged over may itself range over another one, and hand on what it is told.
-/
import Derived.RangeFuncNested
import Derived.RangeFuncBound
import Derived.RangeFuncLeaves
import Derived.Lib.Hide
import Derived.Test.YtfjpdoamalbpjaaProg
namespace Go.Proofs.Ytfjpdoamalbpjaa.Rgn
open Go Go.RowKit

/-- No block has gone, and what sp names lies as it lay, but for block l. -/
structure Keeps (sp : Nat → Obj → Bool) (l : Option Nat) (W W' : World) : Prop where
  size : W.heap.size ≤ W'.heap.size
  same : ∀ k o, W.heap[k]? = some o → some k ≠ l → sp k o = true → W'.heap[k]? = some o
section
variable {sp : Nat → Obj → Bool} {l : Option Nat} {W W' W'' : World}
theorem Keeps.refl (W : World) : Keeps sp l W W := ⟨Nat.le_refl _, fun _ _ h _ _ => h⟩
theorem Keeps.trans (h : Keeps sp l W W') (k : Keeps sp l W' W'') : Keeps sp l W W'' := ⟨Nat.le_trans h.size k.size, fun i o hi hl hs => k.same i o (h.same i o hi hl hs) hl hs⟩
theorem Keeps.but (h : Keeps sp none W W') (l : Nat) : Keeps sp (some l) W W' := ⟨h.size, fun k o hk _ hs => h.same k o hk (by simp) hs⟩
theorem Keeps.below (h : Below W.heap.size W W') : Keeps sp l W W' := ⟨h.size, fun k _ hk _ _ => (h.block k (Array.getElem?_eq_some_iff.1 hk).1).trans hk⟩
theorem Keeps.grown {row : Option Nat} (h : W.grownBy W' row) (hr : ∀ r o, row = some r → W.heap[r]? = some o → sp r o = false) : Keeps sp l W W' :=
  ⟨h.size, fun k o hk _ hs => (h.block k (Array.getElem?_eq_some_iff.1 hk).1 (fun e => by rw [hr k o e.symm hk] at hs; cases hs)).trans hk⟩
theorem Keeps.putObj (W : World) (l : Nat) (o : Obj) : Keeps sp (some l) W (W.putObj l o) := ⟨(grownBy_putObj' W l o).size, fun k o' hk hl _ => (World.putObj_heap_other (fun e => hl (by rw [e]))).trans hk⟩
theorem Keeps.setCell (W : World) (a : Addr) (v : Value) (hs : ∀ o, W.heap[a.block]? = some o → sp a.block o = false) : Keeps sp l W (W.setCell a v) :=
  ⟨by simp [World.setCell], fun k o hk _ h => (Below.heap_setCell _ _ _ k (fun e => by subst e; rw [hs o hk] at h; cases h)).trans hk⟩
end

/-- A function that is ranged over tells just xs, one behind the other, as long as each round goes on. -/
def Through {α : Type} (P : Program) (g : Nat) (lb : Array Value) (encs : α → Array Value) (xs : List α) (sp : Nat → Obj → Bool) (w0 : World) : Prop :=
  ∀ (m l : Nat) (J : List α → World → Prop) (W : World), Below w0.heap.size w0 W → w0.heap.size ≤ l → l < W.heap.size → OwnFrom W.heap.size J →
    (∀ (k : Nat) (pre : List α) (x : α) (W1 : World), J pre W1 → pre.length < xs.length → YieldAt Fence.wide k P l (encs x) W1 fun e W' => e = .returned (.bool true) ∧ J (pre ++ [x]) W' ∧ Keeps sp (some l) W1 W') →
    J [] W → CallsIn Fence.wide m P g (#[.func (.yield l) #[] #[]] ++ lb) W fun e W' => (∃ v, e = .returned v) ∧ J xs W'

theorem OwnFrom.more {β : Type} {B B' : Nat} {I : β → World → Prop} (h : OwnFrom B I) (hB : B ≤ B') : OwnFrom B' I :=
  fun s W W' row hs hg hr => h s W W' row hs hg fun r e => ⟨Nat.le_trans hB (hr r e).1, (hr r e).2⟩

/-- A range over such a function, of a body that always goes on. -/
theorem wpIn_range_through {α : Type} {P : Program} {m : Nat} {g : Operand} {ps : Array Tmp} {assign body : Code} {Q : Exit → Act → World → Prop} {a : Act} {w : World}
    {gf : Nat} {lb : Array Value} (hg : a.eval g = .func (.func gf) #[] lb) (eg : ∀ args w, (callFunc gf args).run P w = .ok (.enter gf args) w)
    {encs : α → Array Value} {xs : List α} {sp : Nat → Obj → Bool} (hT : Through P gf lb encs xs sp w) (hps : ∀ x, (encs x).size = ps.size) (hsp : ∀ k o, w.heap.size ≤ k → o.isCells = false → sp k o = true)
    (I : List α → World → Prop) (hI : OwnFrom w.heap.size I) (h0 : I [] w) (Ax : α → Act → World → Prop) (hAx : ∀ x a', OwnFrom w.heap.size (fun (_ : Unit) W => Ax x a' W))
    (hassign : ∀ (k : Nat) (pre : List α) (x : α) (W : World) (K : Act → World → Prop), I pre W → pre.length < xs.length → (∀ a' W', Keeps sp none W W' → I pre W' → Ax x a' W' → K a' W') →
      assign.wpIn (Fence.wide.inRound (w.heap.size + 1)) k P (Exit.then K (fun _ _ _ => False)) { tmps := (ps.zip (encs x)).foldl (fun t (p, v) => t.setIfInBounds p v) a.tmps, defers := [] } W)
    (hbody : ∀ (k : Nat) (pre : List α) (x : α) (a' : Act) (W : World), I pre W → Ax x a' W → pre.length < xs.length →
      body.wpIn (Fence.wide.inRound (w.heap.size + 1)) k P (fun e _ W' => e = .normal ∧ Keeps sp none W W' ∧ I (pre ++ [x]) W') a' W)
    (hdone : ∀ (W : World), I xs W → W.heap[w.heap.size]? = some (.deferred (some [])) → Q .normal { a with defers := { target := .collected w.heap.size, args := #[] } :: a.defers } W) :
    (Code.rangeFunc g ps assign body).wpIn Fence.wide m P Q a w := by
  refine wpIn_rangeFunc fun fn hfn => ?_
  -- the loop's record, in whatever state
  let rec_ : LoopState → Loop := fun st => { state := st, pending := none, fn := fn, tmps := a.tmps, params := ps, assign := assign, body := body, defers := w.heap.size }
  obtain ⟨V, hV⟩ : ∃ V, (w.alloc (.deferred (some []))).alloc (.loop (rec_ .ready)) = V := ⟨_, rfl⟩
  have hL0 : V.heap[w.heap.size + 1]? = some (.loop (rec_ .ready)) := by
    have := World.alloc_heap_new (w.alloc (.deferred (some []))) (.loop (rec_ .ready)); rw [World.size_alloc, hV] at this; exact this
  have hD0 : V.heap[w.heap.size]? = some (.deferred (some [])) := by
    rw [← hV]; exact (Below.heap_alloc _ _ _ (by simp)).trans (World.alloc_heap_new w _)
  have hb0 : Below w.heap.size w V := by rw [← hV]; exact ((Below.refl _ w).alloc (Nat.le_refl _) _).alloc (by simp) _
  have hz0 : V.heap.size = w.heap.size + 2 := by rw [← hV]; simp
  have hi0 : I [] V := by rw [← hV]; exact hI.alloc _ (hI.alloc _ h0)
  refine ⟨w.heap.size + 1, [{ target := .collected w.heap.size, args := #[] }], V, { target := .fn (.func gf) lb, args := #[.func (.yield (w.heap.size + 1)) #[] #[]] }, V, gf, #[.func (.yield (w.heap.size + 1)) #[] #[]] ++ lb, V, ?enter, ?res, fun _ _ => trivial, ?inv, fun h => absurd h Bool.false_ne_true, ?_⟩
  case enter => rw [← hV]; exact run_enterLoop_outer fn a.tmps ps assign body
  case res => simp only [resolve, hg]; simp [go_sem]
  case inv => simp [invoke, go_sem, eg]
  -- what is so between two rounds: the caller's word, and the two blocks of the loop
  refine (hT (m - 1) (w.heap.size + 1) (fun pre W => I pre W ∧ W.heap[w.heap.size + 1]? = some (.loop (rec_ .ready)) ∧ W.heap[w.heap.size]? = some (.deferred (some []))) V hb0 (by omega) (by rw [hz0]; omega) ?own ?round ⟨hi0, hL0, hD0⟩).mono ?_
  case own =>
    intro s A B row hs hgr hr
    rw [hz0] at hr
    refine ⟨OwnFrom.more hI (by omega) s A B row hs.1 hgr hr, ?_, ?_⟩
    · refine (hgr.block _ (Array.getElem?_eq_some_iff.1 hs.2.1).1 (fun e => ?_)).trans hs.2.1
      have := (hr _ e.symm).1; omega
    · refine (hgr.block _ (Array.getElem?_eq_some_iff.1 hs.2.2).1 (fun e => ?_)).trans hs.2.2
      have := (hr _ e.symm).1; omega
  case round =>
    rintro k pre x W ⟨hi, hl, hd⟩ hlen
    refine ⟨fn, _, assign, body, run_yield (r := rec_ .ready) hl (hps x), roundIn_of_wpIn hfn (hassign k pre x W _ hi hlen ?_)⟩
    intro a' Wa ka ia ax
    have hla := ka.same _ _ hl (by simp) (hsp _ _ (by omega) rfl)
    have hda := ka.same _ _ hd (by simp) (hsp _ _ (Nat.le_refl _) rfl)
    refine ⟨_, run_beginRound hla rfl, wpIn_mono (hbody k pre x a' _ (hI.putObj _ ia (by omega) hla rfl) ((hAx x a').putObj (s := ()) _ ax (by omega) hla rfl) hlen) ?_⟩
    rintro e a2 Wb ⟨rfl, kb, ib⟩
    have hlb := kb.same _ _ (World.putObj_heap_same (Array.getElem?_eq_some_iff.1 hla).1) (by simp) (hsp _ _ (by omega) rfl)
    have hdb := kb.same _ _ ((World.putObj_heap_other (by omega)).trans hda) (by simp) (hsp _ _ (Nat.le_refl _) rfl)
    refine ⟨_, _, run_endRound none hlb, rfl, ⟨hI.putObj _ ib (by omega) hlb rfl, World.putObj_heap_same (Array.getElem?_eq_some_iff.1 hlb).1, (World.putObj_heap_other (by omega)).trans hdb⟩, ?_⟩
    exact (((ka.but _).trans (Keeps.putObj _ _ _)).trans (kb.but _)).trans (Keeps.putObj _ _ _)
  rintro e W2 ⟨⟨v, rfl⟩, hi, hl, hd⟩
  exact ⟨none, _, run_endLoop hl (by simp [rec_]), hdone _ (hI.putObj _ hi (by omega) hl rfl) ((World.putObj_heap_other (by omega)).trans hd)⟩
end Go.Proofs.Ytfjpdoamalbpjaa.Rgn
