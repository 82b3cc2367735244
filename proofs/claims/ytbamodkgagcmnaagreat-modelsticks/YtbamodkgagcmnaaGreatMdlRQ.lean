/-
  Package model: facts for the laws that ask Decide: what is told, one call behind the other.
-/
import Derived.Test.YtbamodkgagcmnaaGreatPolNQ
import Derived.Test.YtbamodkgagcmnaaGreatPolOQ
import Derived.Test.YtbamodkgagcmnaaGreatBRinQ
import Derived.Test.YtbamodkgagcmnaaGreatRinCpQ
import Derived.Test.YtbamodkgagcmnaaGreatBFnvQ
set_option maxRecDepth 100000
namespace Go.Proofs.YtbamodkgagcmnaaGreat.Mdl
open Go.RowKit Go.Shelf RowG Trn
open Pol (polV chk without)
open Prb (home)
open Tab (Ent Right)
open Go.Proofs.YtbamodkgagcmnaaGreat.Mod (Bk Ans ansV ansC AnsBox deals hasId)

theorem has_without (P : List Bk) (id : Int) : hasId (without P id) id = false := by
  cases h : hasId (without P id) id with
  | false => rfl
  | true =>
    obtain ⟨x, hx, e⟩ := Mod.hasId_iff.1 h
    unfold Pol.without at hx
    rw [List.mem_filter] at hx
    have := hx.2
    simp [e] at this
theorem has_pos {P : List Bk} (hg : chk P) {id : Int} (h : hasId P id = true) : id ≠ 0 := by
  obtain ⟨x, hx, e⟩ := Mod.hasId_iff.1 h
  obtain ⟨i, hi, rfl⟩ := List.getElem_of_mem hx
  have := (hg.2 i P[i] (List.getElem?_eq_getElem hi)).1
  omega
theorem sticks_told {T u : List Ent} {P : List Bk} {k : ByteArray} {now dl : Int} {y : Ans} (hg : chk P) (h : deals home pickK T P k false now dl = (u, y)) :
    (y.err ≠ 0 ∧ u = T ∧ y.backend = 0 ∧ y.made = false) ∨
    (y.err = 0 ∧ (∀ t, t ≤ dl → ∀ c dl', (deals home pickK u P k c t dl').2 = ⟨0, y.backend, false, 0⟩) ∧
      (∀ t dl', (deals home pickK u (without P y.backend) k false t dl').2.backend ≠ y.backend) ∧
      (∀ t, dl < t → ∀ dl', (deals home pickK u P k false t dl').2 = ⟨0, pickK P k, true, 0⟩)) := by
  have hpick : P ≠ [] → hasId P (pickK P k) = true := fun hp => pick_ok P k ((good_iff P).1 hg) hp
  rcases Mod.sticks (p' := without P y.backend) hpick h with h1 | ⟨h1, _, h2, h3, h4, h5⟩
  · exact .inl h1
  · refine .inr ⟨h1, fun t ht c dl' => ?_, fun t dl' => ?_, fun t ht dl' => ?_⟩
    · cases c with
      | false => obtain ⟨v, e⟩ := h2 t ht dl'; rw [e]
      | true => obtain ⟨v, e⟩ := h3 t ht dl'; rw [e]
    · obtain ⟨v, b, e, hb⟩ := h4 t dl' (has_without P y.backend)
      rw [e]
      have hin : hasId P y.backend = true := by
        rcases Mod.makes hpick h with ⟨h0, _⟩ | ⟨_, h0, _⟩
        · exact absurd h1 h0
        · exact h0
      rcases hb with ⟨_, hb⟩ | ⟨hne, hb⟩
      · show b.backend ≠ y.backend
        rw [hb]; exact (has_pos hg hin).symm
      · show b.backend ≠ y.backend
        intro he
        have hp := pick_ok (without P y.backend) k ((good_iff _).1 (Pol.without_chk P y.backend hg)) hne
        rw [← hb, he, has_without] at hp
        cases hp
    · obtain ⟨v, e⟩ := h5 t ht dl'; rw [e]
/-- Decide, as one line. -/
theorem decide_told {a : Option Addr} {cap : Nat} {T : List Ent} {pa : Option Addr} {pc : Nat} {P : List Bk} {k : ByteArray} {w : World} (c : Bool) (now idle : Int) (hT : Lies entK w a cap T) (hP : Pol.Lies w pa pc P) (hk : k.size ≤ 60) (hs : Flo.Short 60 T) (hl : T.length ≤ 64) (hPl : P.length ≤ 1000000000) :
    Calls Tryz.prog 24 #[rowV a cap T, polV pa pc P, .string k, .bool c, .int .i64 now, .int .i64 idle] w fun e W' => ∃ ua uc, e = .returned (.tuple #[rowV ua uc (deals home pickK T P k c now (IntKind.i64.wrap (now + idle))).1, ansV (deals home pickK T P k c now (IntKind.i64.wrap (now + idle))).2]) ∧ Lies entK W' ua uc (deals home pickK T P k c now (IntKind.i64.wrap (now + idle))).1 ∧ Below w.heap.size w W' :=
  (Decide_told _ _ _ _ _ _ _ _ c now idle hT hP (by omega) (fun x hx => by have := hs x hx; omega) hl hPl).mono fun _ _ ⟨_, he, ⟨ua, uc, hv, hu⟩, hb⟩ => ⟨ua, uc, by rw [he, hv], hu, hb⟩
theorem ans_new (w : World) (y : Ans) : AnsBox (w.alloc (.cells (ansC y) 39)) w.heap.size y ∧ Below w.heap.size w (w.alloc (.cells (ansC y) 39)) :=
  ⟨World.alloc_heap_new w _, (Below.refl _ w).alloc (Nat.le_refl _) _⟩
theorem ans_kept {w w' : World} {g : Nat} {y : Ans} (h : AnsBox w g y) (hb : Below w.heap.size w w') : AnsBox w' g y := h.kept hb
/-- What a drawn region reads of answers' boxes. -/
theorem four_keep {w W W' : World} {b0 b1 b2 b3 b4 : Nat} {p0 p1 p2 p3 q0 q1 q2 q3 r0 r1 r2 r3 s2 s4 : Value} (h : Below w.heap.size w W ∧ (W.cell? ⟨b0, 0, none⟩ = some p0 ∧ W.cell? ⟨b0, 1, none⟩ = some p1 ∧ W.cell? ⟨b0, 2, none⟩ = some p2 ∧ W.cell? ⟨b0, 3, none⟩ = some p3) ∧ (W.cell? ⟨b1, 0, none⟩ = some q0 ∧ W.cell? ⟨b1, 1, none⟩ = some q1 ∧ W.cell? ⟨b1, 2, none⟩ = some q2 ∧ W.cell? ⟨b1, 3, none⟩ = some q3) ∧ (W.cell? ⟨b3, 0, none⟩ = some r0 ∧ W.cell? ⟨b3, 1, none⟩ = some r1 ∧ W.cell? ⟨b3, 2, none⟩ = some r2 ∧ W.cell? ⟨b3, 3, none⟩ = some r3) ∧ W.cell? ⟨b2, 1, none⟩ = some s2 ∧ W.cell? ⟨b4, 1, none⟩ = some s4) (hb : Below W.heap.size W W') :
    Below w.heap.size w W' ∧ (W'.cell? ⟨b0, 0, none⟩ = some p0 ∧ W'.cell? ⟨b0, 1, none⟩ = some p1 ∧ W'.cell? ⟨b0, 2, none⟩ = some p2 ∧ W'.cell? ⟨b0, 3, none⟩ = some p3) ∧ (W'.cell? ⟨b1, 0, none⟩ = some q0 ∧ W'.cell? ⟨b1, 1, none⟩ = some q1 ∧ W'.cell? ⟨b1, 2, none⟩ = some q2 ∧ W'.cell? ⟨b1, 3, none⟩ = some q3) ∧ (W'.cell? ⟨b3, 0, none⟩ = some r0 ∧ W'.cell? ⟨b3, 1, none⟩ = some r1 ∧ W'.cell? ⟨b3, 2, none⟩ = some r2 ∧ W'.cell? ⟨b3, 3, none⟩ = some r3) ∧ W'.cell? ⟨b2, 1, none⟩ = some s2 ∧ W'.cell? ⟨b4, 1, none⟩ = some s4 := by
  have k : ∀ {a : Addr} {v : Value}, W.cell? a = some v → W'.cell? a = some v := fun {a v} e => (hb.cell (World.block_lt_of_cell? _ _ e)).trans e
  obtain ⟨h0, ⟨p0, p1, p2, p3⟩, ⟨q0, q1, q2, q3⟩, ⟨r0, r1, r2, r3⟩, s2, s4⟩ := h
  exact ⟨below2 h0 hb, ⟨k p0, k p1, k p2, k p3⟩, ⟨k q0, k q1, k q2, k q3⟩, ⟨k r0, k r1, k r2, k r3⟩, k s2, k s4⟩
theorem pol_of {w W : World} {R : Prop} {a : Option Addr} {c : Nat} {z : List Bk} (h : Pol.Lies w a c z) (hS : Below w.heap.size w W ∧ R) : Pol.Lies W a c z := h.kept hS.1
theorem six_keep {w W W' : World} {b b2 o : Nat} {s1 s2 t0 t1 t2 t3 : Value} (h : Below w.heap.size w W ∧ W.cell? ⟨b, 1, none⟩ = some s1 ∧ W.cell? ⟨b, 2, none⟩ = some s2 ∧ W.cell? ⟨b2, o, none⟩ = some t0 ∧ W.cell? ⟨b2, o + 1, none⟩ = some t1 ∧ W.cell? ⟨b2, o + 2, none⟩ = some t2 ∧ W.cell? ⟨b2, o + 3, none⟩ = some t3) (hb : Below W.heap.size W W') :
    Below w.heap.size w W' ∧ W'.cell? ⟨b, 1, none⟩ = some s1 ∧ W'.cell? ⟨b, 2, none⟩ = some s2 ∧ W'.cell? ⟨b2, o, none⟩ = some t0 ∧ W'.cell? ⟨b2, o + 1, none⟩ = some t1 ∧ W'.cell? ⟨b2, o + 2, none⟩ = some t2 ∧ W'.cell? ⟨b2, o + 3, none⟩ = some t3 := by
  have k : ∀ {a : Addr} {v : Value}, W.cell? a = some v → W'.cell? a = some v := fun {a v} e => (hb.cell (World.block_lt_of_cell? _ _ e)).trans e
  obtain ⟨h0, x1, x2, y0, y1, y2, y3⟩ := h
  exact ⟨below2 h0 hb, k x1, k x2, k y0, k y1, k y2, k y3⟩
theorem z_lt (T : List Ent) (k : ByteArray) : Tab.zOf (Tab.find home T k) < (T.length : Int) := by
  cases h : Tab.find home T k with
  | none => show (-1 : Int) < _; omega
  | some a => have := (Tab.find_some h).1; show (a : Int) < _; omega
theorem sum_told (k : ByteArray) (hk : k.size ≤ 60) (w : World) : Calls Tryz.prog 32 #[.string k] w fun e W' => e = .returned (.int .u64 (hashN k : Nat)) ∧ Below w.heap.size w W' := Fnv.Sum_any k w (by omega)
theorem pick_told (a : Option Addr) (cap : Nat) (P : List Bk) (k : ByteArray) (w : World) (hz : Pol.Lies w a cap P) (hl : P.length ≤ 1000000000) :
    Calls Tryz.prog 31 #[polV a cap P, .int .u64 (hashN k : Nat)] w fun e W' => e = .returned (.int .i64 (pickK P k)) ∧ Below w.heap.size w W' := Rin.Pick_told a cap P (hashN k : Nat) w hz hl
end Go.Proofs.YtbamodkgagcmnaaGreat.Mdl
