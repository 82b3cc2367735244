/-
  Package cells: the counter; has, swap, shares; what New makes as one thing in memory; its methods as contracts.
-/
import Derived.Test.YtiokpccdkpgibaaCelR
import Derived.Laws.LoneSync
import Derived.Test.YtiokpccdkpgibaaProg
namespace Go.Proofs.Ytiokpccdkpgibaa.Cel
open Go.RowKit Go.Shelf RowG

attribute [local go_sem] Oper.semAt_some

/-- Which blocks a thing takes. -/
structure Foot where
  p : Nat
  c : Nat
  o : Nat
def Foot.has (f : Foot) (k : Nat) : Prop := k = f.p ∨ k = f.c ∨ k = f.o
def Foot.from' (f : Foot) (B : Nat) : Prop := B ≤ f.p ∧ B ≤ f.c ∧ B ≤ f.o
/-- But for some blocks all lies as it lay. -/
structure Turned (S : Nat → Prop) (W W' : World) : Prop where
  os : W'.os = W.os
  tape : W'.tape = W.tape
  output : W'.output = W.output
  size : W.heap.size ≤ W'.heap.size
  rest : ∀ k, k < W.heap.size → ¬ S k → W'.heap[k]? = W.heap[k]?
theorem Turned.refl (S : Nat → Prop) (W : World) : Turned S W W := ⟨rfl, rfl, rfl, Nat.le_refl _, fun _ _ _ => rfl⟩
theorem Turned.trans {S : Nat → Prop} {A B C : World} (h : Turned S A B) (k : Turned S B C) : Turned S A C :=
  ⟨k.os.trans h.os, k.tape.trans h.tape, k.output.trans h.output, Nat.le_trans h.size k.size, fun i hi hn => (k.rest i (Nat.lt_of_lt_of_le hi h.size) hn).trans (h.rest i hi hn)⟩
theorem Turned.mono {S S' : Nat → Prop} {A B : World} (h : Turned S A B) (hs : ∀ k, S k → S' k) : Turned S' A B :=
  ⟨h.os, h.tape, h.output, h.size, fun i hi hn => h.rest i hi fun hk => hn (hs i hk)⟩
theorem Turned.setCell {S : Nat → Prop} {A B : World} (h : Turned S A B) {a : Addr} (ha : S a.block) (v : Value) : Turned S A (B.setCell a v) :=
  h.trans ⟨rfl, rfl, rfl, by simp [World.setCell], fun k _ hn => Below.heap_setCell _ _ _ _ fun e => hn (e ▸ ha)⟩
theorem Turned.of_below {S : Nat → Prop} {A B : World} (h : Below A.heap.size A B) : Turned S A B := ⟨h.os, h.tape, h.output, h.size, fun k hk _ => h.block k hk⟩
theorem Turned.below {S : Nat → Prop} {A B W : World} {n : Nat} (hb : Below n W A) (h : Turned S A B) (hn : n ≤ A.heap.size) (hs : ∀ k, S k → n ≤ k) : Below n W B :=
  hb.trans ⟨h.os, h.tape, h.output, h.size, fun k hk => h.rest k (by omega) fun hk' => by have := hs k hk'; omega⟩
theorem Foot.ge {f : Foot} {B : Nat} (h : f.from' B) : ∀ k, f.has k → B ≤ k := fun k hk => by
  rcases hk with rfl | rfl | rfl
  · exact h.1
  · exact h.2.1
  · exact h.2.2
theorem Turned.lies {S : Nat → Prop} {α : Type} {K : Kind α} {W W' : World} {a : Option Addr} {cap : Nat} {xs : List α} (h : Turned S W W') (hl : Lies K W a cap xs) (ha : xs ≠ [] → ∀ b off, a = some ⟨b, off, none⟩ → ¬ S b) : Lies K W' a cap xs :=
  ⟨hl.max, hl.len, fun hn => by
    obtain ⟨b, off, e, hc⟩ := hl.cell hn
    refine ⟨b, off, e, fun i x hi j u hj => ?_⟩
    have c0 := hc i x hi j u hj
    exact (World.cell?_of_block (w := W) (h.rest b (World.block_lt_of_cell? W _ c0) (ha hn b off e))).trans c0⟩
/-- A row that came in lies in none of the blocks that were made since. -/
theorem Foot.apart {α : Type} {K : Kind α} {W : World} {a : Option Addr} {cap : Nat} {xs : List α} {f : Foot} (hl : Lies K W a cap xs) (hf : f.from' W.heap.size) : xs ≠ [] → ∀ b off, a = some ⟨b, off, none⟩ → ¬ f.has b := fun hn b off e hb => by
  obtain ⟨b', off', e', hc⟩ := hl.cell hn
  rw [e] at e'; cases e'
  have h1 := Foot.ge hf b hb
  obtain ⟨x, hx⟩ : ∃ x, xs[0]? = some x := by
    cases xs with
    | nil => exact absurd rfl hn
    | cons x _ => exact ⟨x, rfl⟩
  have h0 : 0 < (K.enc x).length := by rw [K.len]; exact K.pos
  have := World.block_lt_of_cell? W _ (hc 0 x hx 0 _ (List.getElem?_eq_getElem h0))
  have h2 : b < W.heap.size := this
  omega
/-- What New made lies there, and is this. -/
structure Held (W : World) (f : Foot) (s : St) : Prop where
  head : W.heap[f.p]? = some (.cells #[.int .i64 (s.shared : Nat), rowV (some ⟨f.c, 0, none⟩) s.cells.length s.cells, rowV (some ⟨f.o, 0, none⟩) s.locks.length s.locks] 56 (0, 0))
  cells : Row numK 3 W f.c s.cells.length s.cells
  locks : Row numK 3 W f.o s.locks.length s.locks
  ap : f.p ≠ f.c ∧ f.p ≠ f.o ∧ f.c ≠ f.o
theorem heap_lt {W : World} {k : Nat} {o : Obj} (h : W.heap[k]? = some o) : k < W.heap.size := by
  rcases Nat.lt_or_ge k W.heap.size with h' | h'
  · exact h'
  · rw [Array.getElem?_eq_none h'] at h; cases h
theorem row_turned {α : Type} {K : Kind α} {T : TypeId} {W W' : World} {g cap : Nat} {xs : List α} (h : Row K T W g cap xs) (e : W'.heap[g]? = W.heap[g]?) : Row K T W' g cap xs := by
  obtain ⟨cur, hg, r⟩ := h
  exact ⟨cur, e.trans hg, r⟩
theorem Held.turned {S : Nat → Prop} {W W' : World} {f : Foot} {s : St} (h : Held W f s) (ht : Turned S W W') (hs : ∀ k, f.has k → ¬ S k) : Held W' f s :=
  ⟨(ht.rest _ (heap_lt h.head) (hs _ (.inl rfl))).trans h.head, row_turned h.cells (ht.rest _ h.cells.lt (hs _ (.inr (.inl rfl)))), row_turned h.locks (ht.rest _ h.locks.lt (hs _ (.inr (.inr rfl)))), h.ap⟩
theorem Held.kept {W W' : World} {f : Foot} {s : St} (h : Held W f s) (hb : Below W.heap.size W W') : Held W' f s := h.turned (S := fun _ => False) (Turned.of_below hb) (fun _ _ => id)
theorem Held.lt {W : World} {f : Foot} {s : St} (h : Held W f s) : ∀ k, f.has k → k < W.heap.size := fun k hk => by
  rcases hk with rfl | rfl | rfl
  · exact heap_lt h.head
  · exact h.cells.lt
  · exact h.locks.lt
section
variable {W : World} {f : Foot} {s : St} (h : Held W f s)
include h
theorem Held.c0 : W.cell? ⟨f.p, 0, none⟩ = some (.int .i64 (s.shared : Nat)) := by simp [World.cell?, h.head]
theorem Held.c1 : W.cell? ⟨f.p, 1, none⟩ = some (rowV (some ⟨f.c, 0, none⟩) s.cells.length s.cells) := by simp [World.cell?, h.head]
theorem Held.c2 : W.cell? ⟨f.p, 2, none⟩ = some (rowV (some ⟨f.o, 0, none⟩) s.locks.length s.locks) := by simp [World.cell?, h.head]
theorem Held.free (o : Nat) : W.frozen? ⟨f.p, o, none⟩ = false := by simp [World.frozen?, h.head]
theorem Held.count {n : Int} (hn : n = (s.shared + 1 : Nat)) : Held (W.setCell ⟨f.p, 0, none⟩ (.int .i64 n)) f ⟨s.cells, s.locks, s.shared + 1⟩ := by
  refine ⟨?_, h.cells.put_other (by exact h.ap.1.symm) _, h.locks.put_other (by exact h.ap.2.1.symm) _, h.ap⟩
  rw [heap_setCell_same _ _ _ _ _ _ h.head, hn]
  rfl
theorem Held.cell {i v : Int} (hi : Has s.cells i) : Held (W.setCell ⟨f.c, i.toNat, none⟩ (.int .i64 v)) f ⟨s.cells.set i.toNat v, s.locks, s.shared⟩ := by
  have hr := h.cells.put hi.lt v
  have e : i.toNat * numK.c = i.toNat := Nat.mul_one _
  rw [e] at hr
  refine ⟨?_, ?_, h.locks.put_other (by exact h.ap.2.2.symm) _, h.ap⟩
  · rw [heap_setCell_other _ _ _ _ (by exact h.ap.1), h.head, List.length_set]
    simp [rowV]
  · rw [List.length_set]; exact hr
theorem Held.lock {i v : Int} (hi : Has s.locks i) : Held (W.setCell ⟨f.o, i.toNat, none⟩ (.int .i64 v)) f ⟨s.cells, s.locks.set i.toNat v, s.shared⟩ := by
  have hr := h.locks.put hi.lt v
  have e : i.toNat * numK.c = i.toNat := Nat.mul_one _
  rw [e] at hr
  refine ⟨?_, h.cells.put_other (by exact h.ap.2.2) _, ?_, h.ap⟩
  · rw [heap_setCell_other _ _ _ _ (by exact h.ap.2.1), h.head, List.length_set]
    simp [rowV]
  · rw [List.length_set]; exact hr
end
end Go.Proofs.Ytiokpccdkpgibaa.Cel
