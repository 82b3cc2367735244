/-
  Rows of things that take several cells each, over any program: what lies there, what a call has made, what may be written; how a parameter that is such a row is opened.
-/
import Derived.WalkKit
import Derived.WalkMore
import Derived.OwnWalk
import Derived.OwnWalkIn
import Derived.Below
import Derived.Lib.Hide
import Derived.Shelf.Abstract
import Derived.RangeFuncNested
import Derived.Lib.SliceRun
import Derived.Laws.AppendOwn
import Derived.Deep.Slices
import Derived.ProofKit
import Derived.OpenShut
import Derived.SizedLaws
import Derived.Test.YtefdnnmgmdaapaaGreatProg
namespace Go.Proofs.YtefdnnmgmdaapaaGreat.RowG
open Go.RowKit Go.Shelf Go.WideShapes Go.ChangeShapes Go.Deep

/-- A kind of things: how many cells one takes, and which. -/
structure Kind (α : Type) where
  c : Nat
  enc : α → List Value
  pos : 0 < c
  len : ∀ x, (enc x).length = c
  one : ∀ x, ∀ u ∈ enc x, u.oneCell' = true
abbrev rowV {α : Type} (a : Option Addr) (cap : Nat) (xs : List α) : Value := .slice a xs.length cap
section
variable {α : Type} (K : Kind α)
/-- These things lie there. -/
structure Lies (W : World) (a : Option Addr) (cap : Nat) (xs : List α) : Prop where
  max : cap ≤ maxLen
  len : xs.length ≤ cap
  cell : xs ≠ [] → ∃ b off, a = some ⟨b, off, none⟩ ∧ ∀ i x, xs[i]? = some x → ∀ j u, (K.enc x)[j]? = some u → W.cell? ⟨b, off + i * K.c + j, none⟩ = some u
/-- The cells of a row. -/
def flat (xs : List α) : List Value := xs.flatMap K.enc
/-- A row that the call has made: it lies in no block below B. -/
def Own (T : TypeId) (B : Nat) (W : World) (v : Value) (xs : List α) : Prop := W.ownsRow B T K.c v xs.length (flat K xs)
/-- A row that may be written. -/
def Row (T : TypeId) (W : World) (g cap : Nat) (xs : List α) : Prop :=
  ∃ cur : Array Value, W.heap[g]? = some (.cells cur T (0, 0)) ∧ xs.length ≤ cap ∧ cap ≤ maxLen ∧ cur.size = cap * K.c ∧ cur.toList.take (xs.length * K.c) = flat K xs
end
theorem below2 {w0 w1 w2 : World} (h1 : Below w0.heap.size w0 w1) (h2 : Below w1.heap.size w1 w2) : Below w0.heap.size w0 w2 := h1.trans (h2.mono h1.size)
theorem grown_none {W W' : World} (hb : Below W.heap.size W W') : W.grownBy W' none := ⟨hb.os, hb.tape, hb.output, hb.size, fun k hk _ => hb.block k hk⟩
theorem add_at (g j : Nat) : (⟨g, 0, none⟩ : Addr).add j = ⟨g, 0 + j, none⟩ := by cases j <;> simp [Addr.add]
section
variable {α : Type} {K : Kind α} {T : TypeId} {W W' : World} {a : Option Addr} {cap : Nat} {xs : List α}

theorem Lies.kept (h : Lies K W a cap xs) (hb : Below W.heap.size W W') : Lies K W' a cap xs :=
  ⟨h.max, h.len, fun hn => by
    obtain ⟨b, off, e, hc⟩ := h.cell hn
    refine ⟨b, off, e, fun i x hi j u hj => ?_⟩
    have c0 := hc i x hi j u hj
    exact (hb.cell (World.block_lt_of_cell? W _ c0)).trans c0⟩
theorem lies_nil (W : World) : Lies K W none 0 [] := ⟨by unfold maxLen; omega, Nat.le_refl _, fun h => absurd rfl h⟩
theorem Lies.at (h : Lies K W a cap xs) {k : Nat} (hk : k < xs.length) : ∃ b off, a = some ⟨b, off, none⟩ ∧ ∀ j u, (K.enc xs[k])[j]? = some u → W.cell? ⟨b, off + k * K.c + j, none⟩ = some u := by
  obtain ⟨b, off, e, hc⟩ := h.cell (fun e => by rw [e] at hk; exact absurd hk (by simp))
  exact ⟨b, off, e, hc k _ (List.getElem?_eq_getElem hk)⟩
theorem Lies.take (h : Lies K W a cap xs) (n : Nat) : Lies K W a cap (xs.take n) :=
  ⟨h.max, Nat.le_trans (by simp; omega) h.len, fun hn => by
    obtain ⟨b, off, e, hc⟩ := h.cell (fun e => by rw [e] at hn; simp at hn)
    refine ⟨b, off, e, fun i x hi => hc i x ?_⟩
    rw [List.getElem?_take] at hi
    split at hi
    · exact hi
    · cases hi⟩
theorem Lies.drop {b off : Nat} (h : Lies K W (some ⟨b, off, none⟩) cap xs) (n : Nat) : Lies K W (some ⟨b, off + n * K.c, none⟩) (cap - n) (xs.drop n) :=
  ⟨by have := h.max; omega, by have := h.len; simp; omega, fun hn => by
    obtain ⟨b', off', e, hc⟩ := h.cell (fun e => by rw [e] at hn; simp at hn)
    cases e
    refine ⟨b, _, rfl, fun i x hi j u hj => ?_⟩
    rw [List.getElem?_drop] at hi
    have := hc (n + i) x hi j u hj
    rwa [Nat.add_mul, ← Nat.add_assoc] at this⟩

theorem flat_nil : flat K [] = [] := rfl
theorem flat_cons (x : α) (xs : List α) : flat K (x :: xs) = K.enc x ++ flat K xs := by simp [flat]
theorem flat_append (xs ys : List α) : flat K (xs ++ ys) = flat K xs ++ flat K ys := by simp [flat]
theorem flat_length (xs : List α) : (flat K xs).length = xs.length * K.c := by
  induction xs with
  | nil => simp [flat]
  | cons x xs ih => rw [flat_cons, List.length_append, ih, K.len, List.length_cons, Nat.add_mul]; omega
theorem flat_more (xs : List α) (y : α) : flat K (xs ++ [y]) = flat K xs ++ K.enc y := by simp [flat]
theorem flat_get (xs : List α) : ∀ (i : Nat) (x : α), xs[i]? = some x → ∀ j u, (K.enc x)[j]? = some u → (flat K xs)[i * K.c + j]? = some u := by
  induction xs with
  | nil => intro i x h; simp at h
  | cons y xs ih =>
    intro i x h j u hj
    rw [flat_cons]
    have hjl : j < K.c := by rw [← K.len x]; exact (List.getElem?_eq_some_iff.1 hj).1
    cases i with
    | zero =>
      simp at h; subst h
      rw [Nat.zero_mul, Nat.zero_add, List.getElem?_append_left (by rw [K.len]; exact hjl)]; exact hj
    | succ i =>
      have := ih i x (by simpa using h) j u hj
      rw [List.getElem?_append_right (by rw [K.len, Nat.add_mul]; omega), K.len, Nat.add_mul]
      rw [show i * K.c + 1 * K.c + j - K.c = i * K.c + j by omega]
      exact this
theorem flat_one (xs : List α) : ∀ u ∈ flat K xs, u.oneCell' = true := by
  intro u hu
  obtain ⟨x, _, hx⟩ := List.mem_flatMap.1 hu
  exact K.one x u hx
theorem flat_lies {b off : Nat} (h : Lies K W (some ⟨b, off, none⟩) cap xs) (j : Nat) (u : Value) (hj : (flat K xs)[j]? = some u) : W.cell? ⟨b, off + j, none⟩ = some u := by
  have hl : j < xs.length * K.c := by rw [← flat_length]; exact (List.getElem?_eq_some_iff.1 hj).1
  have hk : j / K.c < xs.length := by rw [Nat.div_lt_iff_lt_mul K.pos]; exact hl
  have hm : j % K.c < K.c := Nat.mod_lt _ K.pos
  have ed : j / K.c * K.c + j % K.c = j := by rw [Nat.mul_comm]; exact Nat.div_add_mod j K.c
  obtain ⟨b', off', e, hc⟩ := h.cell (fun e => by rw [e] at hk; exact absurd hk (by simp))
  cases e
  have hjm : (K.enc xs[j / K.c])[j % K.c]? = some ((K.enc xs[j / K.c])[j % K.c]'(by rw [K.len]; exact hm)) := List.getElem?_eq_getElem _
  have f := flat_get xs (j / K.c) _ (List.getElem?_eq_getElem hk) (j % K.c) _ hjm
  have c0 := hc (j / K.c) _ (List.getElem?_eq_getElem hk) (j % K.c) _ hjm
  rw [ed] at f
  rw [Nat.add_assoc, ed] at c0
  rw [f] at hj
  rw [c0]; exact hj

theorem own_nil (B : Nat) (W : World) : Own K T B W (.slice none 0 0) [] := World.ownsRow_nil W B _ _
theorem Own.kept {B : Nat} {v : Value} (h : Own K T B W v xs) (hb : Below W.heap.size W W') : Own K T B W' v xs :=
  World.ownsRow.kept h (grown_none hb) (by cases v.ownBlock <;> simp)
theorem own_less {B B' : Nat} {v : Value} (hB : B ≤ B') (h : Own K T B' W v xs) : Own K T B W v xs := by
  refine ⟨h.1, ?_⟩
  rcases h.2 with h0 | ⟨g, cap, cur, hv, hb, r⟩
  · exact .inl h0
  · exact .inr ⟨g, cap, cur, hv, Nat.le_trans hB hb, r⟩
theorem Own.lies {B : Nat} {v : Value} (h : Own K T B W v xs) : ∃ a cap, v = rowV a cap xs ∧ Lies K W a cap xs := by
  rcases h.2 with ⟨rfl, h0⟩ | ⟨g, cap, cur, rfl, hb, hg, hn, hm, hs, htake⟩
  · have : xs = [] := List.eq_nil_of_length_eq_zero h0
    subst this
    exact ⟨none, 0, rfl, lies_nil W⟩
  · refine ⟨some ⟨g, 0, none⟩, cap, rfl, hm, hn, fun _ => ⟨g, 0, rfl, fun i x hi j u hj => ?_⟩⟩
    have c0 := World.ownsRow.cells h (g := g) rfl _ _ (flat_get xs i x hi j u hj)
    rw [add_at, ← Nat.add_assoc] at c0
    exact c0
/-- What is no row of this kind is none that the call has made. -/
theorem own_ne {B : Nat} {v : Value} (h : Own K T B W v xs) {j : Nat} {o : Obj} (hj : W.heap[j]? = some o) (hno : ∀ cur, o ≠ .cells cur T (0, 0)) : v.ownBlock = none ∨ v.ownBlock ≠ some j := by
  rcases h.2 with ⟨rfl, _⟩ | ⟨g, cap, cur, rfl, _, hg, _⟩
  · exact .inl rfl
  · refine .inr fun e => ?_
    have e' : g = j := by simpa [Value.ownBlock] using e
    subst e'; rw [hg] at hj; cases hj; exact hno cur rfl
theorem Own.row {B : Nat} {v : Value} (h : Own K T B W v xs) (hn : xs ≠ []) : ∃ g cap, v = rowV (some ⟨g, 0, none⟩) cap xs ∧ B ≤ g ∧ Row K T W g cap xs := by
  rcases h.2 with ⟨_, h0⟩ | ⟨g, cap, cur, rfl, hb, r⟩
  · exact absurd (List.eq_nil_of_length_eq_zero h0) hn
  · exact ⟨g, cap, rfl, hb, cur, r⟩
variable {g : Nat}
theorem Row.own {B : Nat} (h : Row K T W g cap xs) (hB : B ≤ g) : Own K T B W (rowV (some ⟨g, 0, none⟩) cap xs) xs := by
  obtain ⟨cur, r⟩ := h
  exact ⟨flat_length xs, .inr ⟨g, cap, cur, rfl, hB, r⟩⟩
theorem Row.lt (h : Row K T W g cap xs) : g < W.heap.size := by
  obtain ⟨cur, hg, _⟩ := h
  rcases Nat.lt_or_ge g W.heap.size with h | h
  · exact h
  · rw [Array.getElem?_eq_none h] at hg; cases hg
theorem Row.len (h : Row K T W g cap xs) : xs.length ≤ cap ∧ cap ≤ maxLen := by
  obtain ⟨cur, _, h1, h2, _⟩ := h; exact ⟨h1, h2⟩
theorem Row.kept (h : Row K T W g cap xs) (hb : Below W.heap.size W W') : Row K T W' g cap xs := by
  have hl := h.lt
  obtain ⟨cur, hg, r⟩ := h
  exact ⟨cur, (hb.block g hl).trans hg, r⟩
theorem Row.cell (h : Row K T W g cap xs) {i : Nat} (hi : i < xs.length) {j : Nat} {u : Value} (hj : (K.enc xs[i])[j]? = some u) : W.cell? ⟨g, i * K.c + j, none⟩ = some u := by
  obtain ⟨cur, hg, h1, h2, h3, h4⟩ := h
  have f := flat_get xs i _ (List.getElem?_eq_getElem hi) j u hj
  have hl : i * K.c + j < xs.length * K.c := by rw [← flat_length]; exact (List.getElem?_eq_some_iff.1 f).1
  rw [← h4, List.getElem?_take_of_lt hl, Array.getElem?_toList] at f
  simp [World.cell?, hg, f]
theorem Row.free (h : Row K T W g cap xs) (o : Nat) : W.frozen? ⟨g, o, none⟩ = false := by
  obtain ⟨cur, hg, _⟩ := h
  simp [World.frozen?, hg]
theorem Row.lies (h : Row K T W g cap xs) : Lies K W (some ⟨g, 0, none⟩) cap xs :=
  ⟨h.len.2, h.len.1, fun _ => ⟨g, 0, rfl, fun i x hi j u hj => by
    obtain ⟨hl, e⟩ := List.getElem?_eq_some_iff.1 hi
    rw [Nat.zero_add]; exact h.cell hl (by rw [e]; exact hj)⟩⟩
/-- A world in which these cells stand from a place of a block on. -/
def putC (W : World) (g : Nat) : Nat → List Value → World
  | _, [] => W
  | o, u :: us => putC (W.setCell ⟨g, o, none⟩ u) g (o + 1) us
def setC (l : Array Value) : Nat → List Value → Array Value
  | _, [] => l
  | o, u :: us => setC (l.setIfInBounds o u) (o + 1) us
theorem putC_heap (us : List Value) : ∀ (W : World) (o : Nat) (cur : Array Value), W.heap[g]? = some (.cells cur T (0, 0)) → (putC W g o us).heap[g]? = some (.cells (setC cur o us) T (0, 0)) := by
  induction us with
  | nil => intro W o cur h; exact h
  | cons u us ih => intro W o cur h; exact ih _ _ _ (heap_setCell_same _ _ _ _ _ _ h)
theorem setC_size (us : List Value) : ∀ (o : Nat) (cur : Array Value), (setC cur o us).size = cur.size := by
  induction us with
  | nil => intro o cur; rfl
  | cons u us ih => intro o cur; show (setC (cur.setIfInBounds o u) (o + 1) us).size = _; rw [ih]; simp
theorem setC_get (us : List Value) : ∀ (o : Nat) (cur : Array Value) (m : Nat), (setC cur o us).toList[m]? = if o ≤ m ∧ m < o + us.length ∧ m < cur.size then us[m - o]? else cur.toList[m]? := by
  induction us with
  | nil => intro o cur m; rw [if_neg (by simp; omega)]; rfl
  | cons u us ih =>
    intro o cur m
    show (setC (cur.setIfInBounds o u) (o + 1) us).toList[m]? = _
    rw [ih, Array.size_setIfInBounds, Array.toList_setIfInBounds, List.length_cons]
    by_cases h0 : m = o
    · subst h0
      rw [if_neg (by omega)]
      by_cases hc : m < cur.size
      · rw [if_pos ⟨Nat.le_refl _, by omega, hc⟩, List.getElem?_set_self (by simpa using hc)]; simp
      · rw [if_neg (by omega), List.getElem?_eq_none (by simp; omega), List.getElem?_eq_none (by simp; omega)]
    · rw [List.getElem?_set_ne (Ne.symm h0)]
      by_cases hc : o + 1 ≤ m ∧ m < o + 1 + us.length ∧ m < cur.size
      · rw [if_pos hc, if_pos (by omega), show m - o = (m - (o + 1)) + 1 by omega, List.getElem?_cons_succ]
      · rw [if_neg hc, if_neg (by omega)]
theorem flat_set (xs : List α) : ∀ (i : Nat) (x : α) (m : Nat), i < xs.length → (flat K (xs.set i x))[m]? = if i * K.c ≤ m ∧ m < i * K.c + K.c then (K.enc x)[m - i * K.c]? else (flat K xs)[m]? := by
  induction xs with
  | nil => intro i x m h; simp at h
  | cons y xs ih =>
    intro i x m hi
    cases i with
    | zero =>
      rw [List.set_cons_zero, flat_cons, flat_cons, Nat.zero_mul, Nat.zero_add, Nat.sub_zero]
      by_cases h : m < K.c
      · rw [if_pos ⟨Nat.zero_le _, h⟩, List.getElem?_append_left (by rw [K.len]; exact h)]
      · rw [if_neg (by omega), List.getElem?_append_right (by rw [K.len]; omega), List.getElem?_append_right (by rw [K.len]; omega), K.len, K.len]
    | succ i =>
      rw [List.set_cons_succ, flat_cons, flat_cons, Nat.add_mul, Nat.one_mul]
      by_cases h : m < K.c
      · rw [List.getElem?_append_left (by rw [K.len]; exact h), List.getElem?_append_left (by rw [K.len]; exact h), if_neg (by omega)]
      · rw [List.getElem?_append_right (by rw [K.len]; omega), List.getElem?_append_right (by rw [K.len]; omega), K.len, ih i x _ (by simpa using hi)]
        by_cases h2 : i * K.c + K.c ≤ m ∧ m < i * K.c + K.c + K.c
        · rw [if_pos (by omega), if_pos h2, show m - K.c - i * K.c = m - (i * K.c + K.c) by omega]
        · rw [if_neg (by omega), if_neg h2]
theorem Row.put (h : Row K T W g cap xs) {i : Nat} (hi : i < xs.length) (x : α) : Row K T (putC W g (i * K.c) (K.enc x)) g cap (xs.set i x) := by
  obtain ⟨cur, hg, h1, h2, h3, h4⟩ := h
  have hic : i * K.c + K.c ≤ xs.length * K.c := by
    have := Nat.mul_le_mul_right K.c (show i + 1 ≤ xs.length by omega)
    rwa [Nat.add_mul, Nat.one_mul] at this
  have hcc : xs.length * K.c ≤ cap * K.c := Nat.mul_le_mul_right _ h1
  refine ⟨setC cur (i * K.c) (K.enc x), putC_heap _ _ _ _ hg, by simpa using h1, h2, by rw [setC_size]; exact h3, ?_⟩
  apply List.ext_getElem?
  intro m
  rw [flat_set xs i x m hi, List.length_set]
  by_cases hm : m < xs.length * K.c
  · rw [List.getElem?_take_of_lt hm, setC_get, K.len]
    by_cases hc : i * K.c ≤ m ∧ m < i * K.c + K.c
    · rw [if_pos ⟨hc.1, hc.2, by omega⟩, if_pos hc]
    · rw [if_neg (by omega), if_neg hc, ← h4, List.getElem?_take_of_lt hm]
  · rw [List.getElem?_eq_none (by simp; omega), if_neg (by omega), List.getElem?_eq_none (by rw [flat_length]; omega)]
theorem Row.put_other (h : Row K T W g cap xs) {a : Addr} (ha : g ≠ a.block) (v : Value) : Row K T (W.setCell a v) g cap xs := by
  obtain ⟨cur, hg, r⟩ := h
  exact ⟨cur, (heap_setCell_other _ _ _ _ ha).trans hg, r⟩
theorem Row.cut (h : Row K T W g cap xs) (i : Nat) : Row K T W g cap (xs.take i) := by
  obtain ⟨cur, hg, h1, h2, h3, h4⟩ := h
  have hl : (xs.take i).length ≤ xs.length := by simp; omega
  refine ⟨cur, hg, by omega, h2, h3, ?_⟩
  have e : flat K (xs.take i) = (flat K xs).take ((xs.take i).length * K.c) := by
    have e1 : flat K xs = flat K (xs.take i) ++ flat K (xs.drop i) := by rw [← flat_append, List.take_append_drop]
    rw [e1]
    exact (List.take_left' (flat_length (xs.take i))).symm
  rw [e, ← h4, List.take_take]
  congr 1
  exact (Nat.min_eq_left (Nat.mul_le_mul_right _ hl)).symm
theorem below_putC (us : List Value) : ∀ {B : Nat} {w W : World} (_ : Below B w W) {g : Nat} (_ : B ≤ g) (o : Nat), Below B w (putC W g o us) := by
  induction us with
  | nil => intro B w W h g hg o; exact h
  | cons u us ih => intro B w W h g hg o; exact ih (h.setCell (p := ⟨g, o, none⟩) hg _) hg _
/-- A row that has just been made. -/
theorem row_new (W : World) (cs : Array Value) (n : Nat) (xs : List α) (hn : xs.length = n) (hm : n ≤ maxLen) (hc : cs.toList = flat K xs) : Row K T (W.alloc (.cells cs T)) W.heap.size n xs := by
  have hs : cs.size = n * K.c := by rw [← Array.length_toList, hc, flat_length, hn]
  exact ⟨cs, World.alloc_heap_new W _, by omega, hm, hs, by rw [hn, ← hs, ← Array.length_toList, List.take_length]; exact hc⟩
/-- A row of so many things that hold nothing ('make'). -/
theorem made_flat (z : Array Value) (x : α) (hz : z.toList = K.enc x) : ∀ n : Nat, (madeCells z (n * K.c)).toList = flat K (List.replicate n x) := by
  intro n
  have hzs : z.size = K.c := by rw [← Array.length_toList, hz, K.len]
  apply List.ext_getElem?
  intro m
  by_cases hm : m < n * K.c
  · have hr : m % K.c < K.c := Nat.mod_lt _ K.pos
    have hd : m / K.c < n := by rw [Nat.div_lt_iff_lt_mul K.pos]; exact hm
    have hx : (K.enc x)[m % K.c]? = some ((K.enc x)[m % K.c]'(by rw [K.len]; exact hr)) := List.getElem?_eq_getElem _
    have f := flat_get (K := K) (List.replicate n x) (m / K.c) x (by simp [hd]) (m % K.c) _ hx
    have ed : m / K.c * K.c + m % K.c = m := by rw [Nat.mul_comm]; exact Nat.div_add_mod m K.c
    rw [ed] at f
    rw [f, ← hx, ← hz]
    unfold madeCells
    simp [hm, hzs, hr]
  · rw [List.getElem?_eq_none (by unfold madeCells; simp; omega), List.getElem?_eq_none (by rw [flat_length]; simp; omega)]
end

section
variable {α : Type} {K : Kind α} {P : Program} {S T : TypeId} {bytes : Nat} {z : Value}
/-- One thing more: the walk's step at 'out = append(out, x)'. -/
theorem wpList_more (hu : P.underlying S = some (.slice T)) (hinfo : (P.info? T).map (fun i => (i.zero, i.size, i.bytes)) = some (some z, K.c, bytes)) (hz : z.cells.size = K.c)
    {w : World} {ops : Array Oper} {rest : List Oper} {o : Oper} {a : Act} {Q : Exit → Act → World → Prop} (hgd : o.guard = none) (s x : Operand)
    (ho : o.op = .call { callee := .builtin .append, args := #[s, x], argTypes := #[S, S] }) (B g : Nat) (xs : List α) (y : α) (v : Value) (hs : a.eval s = v) (hx : a.eval x = .slice (some ⟨g, 0, none⟩) 1 1)
    (hown : Own K T B w v xs) (hy : ∀ j u, (K.enc y)[j]? = some u → w.cell? ⟨g, j, none⟩ = some u) (hm : xs.length + 1 ≤ maxLen) (hl : (xs.length + 1) * bytes ≤ 140737488355328) (hB : B ≤ w.heap.size)
    (h : ∀ v' w', Hid (Own K T B w' v' (xs ++ [y])) → Hid (Below B w w') → wpList P ops Q rest (a.put o.dst v') w') : wpList P ops Q (o :: rest) a w := by
  obtain ⟨i0, hi, hz0, hz1, hz2⟩ := info_parts hinfo
  refine wpList_append_own _ hgd s x S ho B T i0 z K.c bytes hu hi hz0 hz1 hz2 hz K.pos v xs.length (flat K xs) hs hown ⟨g, 0, none⟩ 1 1 (K.enc y) hx ?c0 ?c1 ?c2 hm hl hB ?_
  case c0 => rw [K.len, Nat.one_mul]
  case c1 => intro j u hj; rw [add_at, Nat.zero_add]; exact hy j u hj
  case c2 => exact K.one y
  intro v' w' h1 h2 _
  refine h v' w' ?_ ?_
  · show Own K T B w' v' (xs ++ [y])
    unfold Own
    rw [flat_more, List.length_append]
    exact h1
  · exact (Below.refl B w).grown h2 hB (fun k hk => (World.ownsRow.lt hown k hk).1)
/-- A whole row more: the walk's step at 'append(out, xs...)'. -/
theorem wpList_join (hu : P.underlying S = some (.slice T)) (hinfo : (P.info? T).map (fun i => (i.zero, i.size, i.bytes)) = some (some z, K.c, bytes)) (hz : z.cells.size = K.c)
    {w : World} {ops : Array Oper} {rest : List Oper} {o : Oper} {a : Act} {Q : Exit → Act → World → Prop} (hgd : o.guard = none) (s x : Operand)
    (ho : o.op = .call { callee := .builtin .append, args := #[s, x], argTypes := #[S, S] }) (B : Nat) (xs ys : List α) (v : Value) (b off c : Nat) (hs : a.eval s = v) (hx : a.eval x = .slice (some ⟨b, off, none⟩) ys.length c)
    (hown : Own K T B w v xs) (hy : Lies K w (some ⟨b, off, none⟩) c ys) (hm : xs.length + ys.length ≤ maxLen) (hl : (xs.length + ys.length) * bytes ≤ 140737488355328) (hB : B ≤ w.heap.size)
    (h : ∀ v' w', Hid (Own K T B w' v' (xs ++ ys)) → Hid (Below B w w') → wpList P ops Q rest (a.put o.dst v') w') : wpList P ops Q (o :: rest) a w := by
  obtain ⟨i0, hi, hz0, hz1, hz2⟩ := info_parts hinfo
  refine wpList_append_own _ hgd s x S ho B T i0 z K.c bytes hu hi hz0 hz1 hz2 hz K.pos v xs.length (flat K xs) hs hown ⟨b, off, none⟩ ys.length c (flat K ys) hx ?c0 ?c1 ?c2 hm hl hB ?_
  case c0 => exact flat_length ys
  case c1 => intro j u hj; rw [Addr.add_lit]; exact flat_lies hy j u hj
  case c2 => exact flat_one ys
  intro v' w' h1 h2 _
  refine h v' w' ?_ ?_
  · show Own K T B w' v' (xs ++ ys)
    unfold Own
    rw [flat_append, List.length_append]
    exact h1
  · exact (Below.refl B w).grown h2 hB (fun k hk => (World.ownsRow.lt hown k hk).1)
/-- One thing more, in a round. -/
theorem wpListIn_more (hu : P.underlying S = some (.slice T)) (hinfo : (P.info? T).map (fun i => (i.zero, i.size, i.bytes)) = some (some z, K.c, bytes)) (hz : z.cells.size = K.c)
    {F : Fence} {n : Nat} {w : World} {ops : Array Oper} {rest : List Oper} {o : Oper} {a : Act} {Q : Exit → Act → World → Prop} (hgd : o.guard = none) (s x : Operand)
    (ho : o.op = .call { callee := .builtin .append, args := #[s, x], argTypes := #[S, S] }) (B g : Nat) (xs : List α) (y : α) (v : Value) (hs : a.eval s = v) (hx : a.eval x = .slice (some ⟨g, 0, none⟩) 1 1)
    (hown : Own K T B w v xs) (hy : ∀ j u, (K.enc y)[j]? = some u → w.cell? ⟨g, j, none⟩ = some u) (hm : xs.length + 1 ≤ maxLen) (hl : (xs.length + 1) * bytes ≤ 140737488355328) (hB : B ≤ w.heap.size)
    (h : ∀ v' w', Hid (Own K T B w' v' (xs ++ [y])) → Hid (w.grownBy w' v.ownBlock) → wpListIn F n P ops Q rest (a.put o.dst v') w') : wpListIn F n P ops Q (o :: rest) a w := by
  obtain ⟨i0, hi, hz0, hz1, hz2⟩ := info_parts hinfo
  refine wpListIn_append_own _ hgd s x S ho B T i0 z K.c bytes hu hi hz0 hz1 hz2 hz K.pos v xs.length (flat K xs) hs hown ⟨g, 0, none⟩ 1 1 (K.enc y) hx ?c0 ?c1 ?c2 hm hl hB ?_
  case c0 => rw [K.len, Nat.one_mul]
  case c1 => intro j u hj; rw [add_at, Nat.zero_add]; exact hy j u hj
  case c2 => exact K.one y
  intro v' w' h1 h2 _
  refine h v' w' ?_ h2
  show Own K T B w' v' (xs ++ [y])
  unfold Own
  rw [flat_more, List.length_append]
  exact h1
end
end Go.Proofs.YtefdnnmgmdaapaaGreat.RowG
