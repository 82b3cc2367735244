/-
  What a call turns: some blocks alone, all else lies as it lay; what rows and boxes are then. (Over any program.)
-/
import Derived.Test.YtbamodkgagcmnaaGreatBTab
set_option maxRecDepth 100000
namespace Go.Proofs.YtbamodkgagcmnaaGreat.Trn
open Go.RowKit Go.Shelf RowG

/-- But for some blocks all lies as it lay. -/
structure Turned (S : Nat → Prop) (W W' : World) : Prop where
  os : W'.os = W.os
  tape : W'.tape = W.tape
  output : W'.output = W.output
  size : W.heap.size ≤ W'.heap.size
  rest : ∀ k, k < W.heap.size → ¬ S k → W'.heap[k]? = W.heap[k]?
theorem Turned.refl (S : Nat → Prop) (W : World) : Turned S W W := ⟨rfl, rfl, rfl, Nat.le_refl _, fun _ _ _ => rfl⟩
theorem Turned.trans {S : Nat → Prop} {A B C : World} (h : Turned S A B) (k : Turned S B C) : Turned S A C :=
  ⟨k.os.trans h.os, k.tape.trans h.tape, k.output.trans h.output, Nat.le_trans h.size k.size, fun i hi hn => (k.rest i (Nat.lt_of_lt_of_le hi h.size) hn).trans (h.rest i hi hn)⟩
theorem Turned.mono {S S' : Nat → Prop} {A B : World} (h : Turned S A B) (hs : ∀ k, S k → S' k) : Turned S' A B :=
  ⟨h.os, h.tape, h.output, h.size, fun i hi hn => h.rest i hi fun hk => hn (hs i hk)⟩
theorem Turned.setCell {S : Nat → Prop} {A B : World} (h : Turned S A B) {a : Addr} (ha : S a.block) (v : Value) : Turned S A (B.setCell a v) :=
  h.trans ⟨rfl, rfl, rfl, by simp [World.setCell], fun k _ hn => Below.heap_setCell _ _ _ _ fun e => hn (e ▸ ha)⟩
theorem Turned.of_below {S : Nat → Prop} {A B : World} (h : Below A.heap.size A B) : Turned S A B := ⟨h.os, h.tape, h.output, h.size, fun k hk _ => h.block k hk⟩
theorem Turned.below {S : Nat → Prop} {A B W : World} {n : Nat} (hb : Below n W A) (h : Turned S A B) (hn : n ≤ A.heap.size) (hs : ∀ k, S k → n ≤ k) : Below n W B :=
  hb.trans ⟨h.os, h.tape, h.output, h.size, fun k hk => h.rest k (by omega) fun hk' => by have := hs k hk'; omega⟩
theorem Turned.lies {S : Nat → Prop} {α : Type} {K : Kind α} {W W' : World} {a : Option Addr} {cap : Nat} {xs : List α} (h : Turned S W W') (hl : Lies K W a cap xs) (ha : xs ≠ [] → ∀ b off, a = some ⟨b, off, none⟩ → ¬ S b) : Lies K W' a cap xs :=
  ⟨hl.max, hl.len, fun hn => by
    obtain ⟨b, off, e, hc⟩ := hl.cell hn
    refine ⟨b, off, e, fun i x hi j u hj => ?_⟩
    have c0 := hc i x hi j u hj
    exact (World.cell?_of_block (w := W) (h.rest b (World.block_lt_of_cell? W _ c0) (ha hn b off e))).trans c0⟩
theorem heap_lt {W : World} {k : Nat} {o : Obj} (h : W.heap[k]? = some o) : k < W.heap.size := by
  rcases Nat.lt_or_ge k W.heap.size with h' | h'
  · exact h'
  · rw [Array.getElem?_eq_none h'] at h; cases h
theorem row_turned {α : Type} {K : Kind α} {T : TypeId} {W W' : World} {g cap : Nat} {xs : List α} (h : Row K T W g cap xs) (e : W'.heap[g]? = W.heap[g]?) : Row K T W' g cap xs := by
  obtain ⟨cur, hg, r⟩ := h
  exact ⟨cur, e.trans hg, r⟩
theorem own_same {α : Type} {K : Kind α} {T : TypeId} {B : Nat} {W W' : World} {v : Value} {xs : List α} (h : RowG.Own K T B W v xs) (hs : ∀ g, v.ownBlock = some g → W'.heap[g]? = W.heap[g]?) : RowG.Own K T B W' v xs := by
  refine ⟨h.1, ?_⟩
  rcases h.2 with h0 | ⟨g, cap, cur, hv, hb, hg, r⟩
  · exact .inl h0
  · exact .inr ⟨g, cap, cur, hv, hb, (hs g (by rw [hv]; rfl)).trans hg, r⟩
theorem lies_lt {α : Type} {K : Kind α} {W : World} {a : Option Addr} {cap : Nat} {xs : List α} (hl : Lies K W a cap xs) (hn : xs ≠ []) {b off : Nat} (e : a = some ⟨b, off, none⟩) : b < W.heap.size := by
  obtain ⟨b', off', e', hc⟩ := hl.cell hn
  rw [e] at e'; cases e'
  obtain ⟨x, hx⟩ : ∃ x, xs[0]? = some x := by
    cases xs with
    | nil => exact absurd rfl hn
    | cons x _ => exact ⟨x, rfl⟩
  have h0 : 0 < (K.enc x).length := by rw [K.len]; exact K.pos
  exact World.block_lt_of_cell? W _ (hc 0 x hx 0 _ (List.getElem?_eq_getElem h0))
theorem box2_cells {W : World} {a : Nat} {x y : Value} {S : TypeId} (h : W.heap[a]? = some (.cells #[x, y] S (0, 0))) :
    W.cell? ⟨a, 0, none⟩ = some x ∧ W.cell? ⟨a, 1, none⟩ = some y ∧ W.frozen? ⟨a, 0, none⟩ = false ∧ W.frozen? ⟨a, 1, none⟩ = false := by
  refine ⟨?_, ?_, ?_, ?_⟩ <;> simp [World.cell?, World.frozen?, h]
theorem box3_cells {W : World} {a : Nat} {x y z : Value} {S : TypeId} (h : W.heap[a]? = some (.cells #[x, y, z] S (0, 0))) :
    (W.cell? ⟨a, 0, none⟩ = some x ∧ W.cell? ⟨a, 1, none⟩ = some y ∧ W.cell? ⟨a, 2, none⟩ = some z) ∧ (W.frozen? ⟨a, 0, none⟩ = false ∧ W.frozen? ⟨a, 1, none⟩ = false ∧ W.frozen? ⟨a, 2, none⟩ = false) := by
  refine ⟨⟨?_, ?_, ?_⟩, ?_, ?_, ?_⟩ <;> simp [World.cell?, World.frozen?, h]

theorem Turned.cell {S : Nat → Prop} {W W' : World} {a : Addr} {v : Value} (h : Turned S W W') (hc : W.cell? a = some v) (ha : ¬ S a.block) : W'.cell? a = some v :=
  (World.cell?_of_block (w := W) (h.rest a.block (World.block_lt_of_cell? W _ hc) ha)).trans hc
/-- A row that was made keeps while a box of another kind is laid anew. -/
theorem own_beside {α : Type} {K : Kind α} {T S : TypeId} {B a : Nat} {W W' : World} {v : Value} {xs : List α} {cs : Array Value} (h : RowG.Own K T B W v xs) (ha : W.heap[a]? = some (.cells cs S (0, 0))) (hS : S ≠ T) (hr : ∀ k, k ≠ a → W'.heap[k]? = W.heap[k]?) : RowG.Own K T B W' v xs := by
  refine own_same h fun g hg => hr g fun e => ?_
  rcases RowG.own_ne h ha (fun cur e' => by cases e'; exact hS rfl) with h' | h'
  · rw [hg] at h'; cases h'
  · exact h' (by rw [hg, e])
end Go.Proofs.YtbamodkgagcmnaaGreat.Trn
