/-
  Package epoch: what a keeper is in memory; at, State, turn, New as contracts.
-/
import Derived.Test.YthokjkllmflgkaaEpoP
import Derived.Test.YthokjkllmflgkaaTrn
import Derived.BigRegion
import Derived.Test.YthokjkllmflgkaaProg
namespace Go.Proofs.Ythokjkllmflgkaa.Kep
open Go.RowKit Go.Shelf RowG Trn Epo

attribute [local go_sem] Oper.semAt_some

/-- A slot's value. -/
abbrev slotV (s : Slot) : Value := .agg #[.int .i64 s.st, .int .i64 s.at']
/-- What New made lies there, and is this. -/
structure Held (W : World) (p : Nat) (l : List Slot) : Prop where
  le : l.length ≤ 8
  cur : ∃ cur : Array Value, W.heap[p]? = some (.cells cur 50 (0, 0)) ∧ cur.size = 17 ∧ cur[16]? = some (.int .i64 (l.length : Nat)) ∧
    ∀ i (hi : i < l.length), cur[i * 2]? = some (.int .i64 l[i].st) ∧ cur[i * 2 + 1]? = some (.int .i64 l[i].at')
section
variable {W W' : World} {p : Nat} {l : List Slot} (h : Held W p l)
include h
theorem Held.lt : p < W.heap.size := by
  obtain ⟨cur, h0, _⟩ := h.cur
  exact heap_lt h0
theorem Held.same (e : W'.heap[p]? = W.heap[p]?) : Held W' p l := by
  obtain ⟨cur, h0, r⟩ := h.cur
  exact ⟨h.le, cur, e.trans h0, r⟩
theorem Held.turned {S : Nat → Prop} (ht : Turned S W W') (hs : ¬ S p) : Held W' p l := h.same (ht.rest p h.lt hs)
theorem Held.kept (hb : Below W.heap.size W W') : Held W' p l := h.same (hb.block p h.lt)
theorem Held.n : W.cell? ⟨p, 16, none⟩ = some (.int .i64 (l.length : Nat)) := by
  obtain ⟨cur, h0, _, h1, _⟩ := h.cur
  simp [World.cell?, h0, h1]
theorem Held.free (o : Nat) : W.frozen? ⟨p, o, none⟩ = false := by
  obtain ⟨cur, h0, _⟩ := h.cur
  simp [World.frozen?, h0]
theorem Held.st {i : Nat} (hi : i < l.length) : W.cell? ⟨p, i * 2, none⟩ = some (.int .i64 l[i].st) := by
  obtain ⟨cur, h0, _, _, h1⟩ := h.cur
  simp [World.cell?, h0, (h1 i hi).1]
theorem Held.at' {i : Nat} (hi : i < l.length) : W.cell? ⟨p, i * 2 + 1, none⟩ = some (.int .i64 l[i].at') := by
  obtain ⟨cur, h0, _, _, h1⟩ := h.cur
  simp [World.cell?, h0, (h1 i hi).2]
theorem Held.put {i : Nat} (hi : i < l.length) (s : Slot) : Held ((W.setCell ⟨p, i * 2, none⟩ (.int .i64 s.st)).setCell ⟨p, i * 2 + 1, none⟩ (.int .i64 s.at')) p (l.set i s) := by
  have hl := h.le
  obtain ⟨cur, h0, h1, h2, h3⟩ := h.cur
  refine ⟨by simpa using hl, _, heap_setCell_same _ _ _ _ _ _ (heap_setCell_same _ _ _ _ _ _ h0), by simpa using h1, ?_, fun j hj => ?_⟩
  · rw [Array.getElem?_setIfInBounds_ne (by omega), Array.getElem?_setIfInBounds_ne (by omega), List.length_set]; exact h2
  · have hj' : j < l.length := by simpa using hj
    by_cases e : i = j
    · subst e
      rw [List.getElem_set_self]
      constructor
      · rw [Array.getElem?_setIfInBounds_ne (by omega), Array.getElem?_setIfInBounds_self_of_lt (by omega)]
      · rw [Array.getElem?_setIfInBounds_self_of_lt (by simp; omega)]
    · rw [List.getElem_set_ne e]
      constructor
      · rw [Array.getElem?_setIfInBounds_ne (by omega), Array.getElem?_setIfInBounds_ne (by omega)]; exact (h3 j hj').1
      · rw [Array.getElem?_setIfInBounds_ne (by omega), Array.getElem?_setIfInBounds_ne (by omega)]; exact (h3 j hj').2
end
theorem turned_put {W : World} {p : Nat} {o o' : Nat} {v v' : Value} : Turned (fun k => k = p) W ((W.setCell ⟨p, o, none⟩ v).setCell ⟨p, o', none⟩ v') :=
  ((Turned.refl (fun k => k = p) W).setCell (a := ⟨p, o, none⟩) rfl v).setCell (a := ⟨p, o', none⟩) rfl v'

/-- What a slot is; none: -1. -/
def at1 (l : List Slot) (i : Int) : Slot := if 0 ≤ i ∧ i < (l.length : Int) then l.getD i.toNat slot0 else ⟨-1, 0⟩
theorem at1_st (l : List Slot) (i : Int) : (at1 l i).st = state l i := by unfold at1 state; split <;> rfl
theorem at1_nat {l : List Slot} {i : Nat} (h : i < l.length) : at1 l (i : Int) = l[i] := by
  unfold at1
  rw [if_pos ⟨by omega, by omega⟩, Int.toNat_natCast, List.getD_eq_getElem?_getD, List.getElem?_eq_getElem h]; rfl
theorem at1_out {l : List Slot} {i : Int} (h : ¬ (0 ≤ i ∧ i < (l.length : Int))) : at1 l i = ⟨-1, 0⟩ := if_neg h
theorem at1_in {l : List Slot} {i : Int} (h : (at1 l i).st ≠ -1) : ∃ k : Nat, i = (k : Nat) ∧ ∃ hk : k < l.length, at1 l i = l[k] := by
  rw [at1_st] at h
  obtain ⟨k, hk, hl, _⟩ := state_in h
  subst hk
  exact ⟨k, rfl, hl, at1_nat hl⟩

set_option maxHeartbeats 400000 in
theorem at_told {w : World} {p : Nat} {l : List Slot} (h : Held w p l) (i : Int) :
    Calls Try.prog 25 #[.pointer (some ⟨p, 0, none⟩), .int .i64 i] w fun e W' => e = .returned (slotV (at1 l i)) ∧ Below w.heap.size w W' := by
  have hlt := h.lt
  have hn := h.n
  by_cases h0 : i < 0
  · have d0 : decide (i < 0) = true := decide_eq_true h0
    have HA := Lib.hid (at1_out (l := l) (i := i) (by omega))
    clear h
    go_enter Try.func25, Try.ntmps25
    go_wp2_with fail
    refine bodyPost_ret (v := slotV ⟨-1, 0⟩) (by simp [results, Try.results25, go_sem]) rfl ?_
    exact ⟨by rw [HA.out], (Below.refl _ w).alloc (Nat.le_refl _) _⟩
  have d0 : decide (i < 0) = false := decide_eq_false h0
  obtain ⟨k, rfl⟩ := Int.eq_ofNat_of_zero_le (show 0 ≤ i by omega)
  by_cases h1 : k < l.length
  · have hk8 := h.le
    have HA := Lib.hid (at1_nat h1)
    have c0 := h.st h1
    have c1 := h.at' h1
    have b0 : (k : Int) < 8 := by omega
    have d1 : decide ((l.length : Int) ≤ (k : Int)) = false := decide_eq_false (by omega)
    clear h
    generalize l[k] = s at *
    go_enter Try.func25, Try.ntmps25
    go_wp2_with fail
    refine bodyPost_ret (v := slotV s) (by simp [results, Try.results25, go_sem]) rfl ?_
    exact ⟨by rw [HA.out], (Below.refl _ w).alloc (Nat.le_refl _) _⟩
  · have HA := Lib.hid (at1_out (l := l) (i := (k : Int)) (by omega))
    have d1 : decide ((l.length : Int) ≤ (k : Int)) = true := decide_eq_true (by omega)
    clear h
    go_enter Try.func25, Try.ntmps25
    go_wp2_with fail
    refine bodyPost_ret (v := slotV ⟨-1, 0⟩) (by simp [results, Try.results25, go_sem]) rfl ?_
    exact ⟨by rw [HA.out], (Below.refl _ w).alloc (Nat.le_refl _) _⟩
end Go.Proofs.Ythokjkllmflgkaa.Kep
