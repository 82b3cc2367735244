/-
  Law 16's own acts as they lie, and its few (package gangplanklaw16).
-/
import Derived.Test.YtefdnnmgmdaapaaGreatRowO
import Derived.Test.YtefdnnmgmdaapaaGreatSloP
import Derived.WalkMore
import Derived.OwnWalk
import Derived.Lib.SliceRun
namespace Go.Proofs.YtefdnnmgmdaapaaGreat.Slo
open Go.RowKit Go.Shelf Go.WideShapes RowG

attribute [local go_sem] Oper.semAt_some

theorem cell_many_a (W : World) (cs : Array Value) (t : TypeId) (i : Nat) (v : Value) (h : cs[i]? = some v) : (W.alloc (.cells cs t)).cell? ⟨W.heap.size, i, none⟩ = some v := by
  have := World.alloc_heap_new W (.cells cs t)
  unfold World.cell?
  rw [this]
  exact h
/-- An act as it lies in memory: its pool is a row of its own. -/
structure ActM where
  k : Int
  i : Int
  p : Option Addr
  c : Nat
  pool : List (Int × Int)
instance : Inhabited ActM := ⟨⟨0, 0, none, 0, []⟩⟩
abbrev ActM.act (x : ActM) : Act (List (Int × Int)) := ⟨x.k, x.i, x.pool⟩
abbrev actP (x : ActM) : Value := .slice x.p x.pool.length x.c
abbrev actV (x : ActM) : Value := .agg #[.int .i64 x.k, .int .i64 x.i, actP x]
def actM : Kind ActM := ⟨3, fun x => [.int .i64 x.k, .int .i64 x.i, actP x], by decide, fun _ => rfl, fun x u hu => by
  simp at hu; rcases hu with rfl | rfl | rfl <;> rfl⟩
/-- An act at a place, cell by cell. -/
theorem lies_actM {W : World} {a : Option Addr} {cap : Nat} {T : List ActM} (h : Lies actM W a cap T) {k : Nat} (hk : k < T.length) :
    ∃ b off, a = some ⟨b, off, none⟩ ∧ W.cell? ⟨b, off + k * 3, none⟩ = some (.int .i64 T[k].k) ∧ W.cell? ⟨b, off + k * 3 + 1, none⟩ = some (.int .i64 T[k].i) ∧ W.cell? ⟨b, off + k * 3 + 2, none⟩ = some (actP T[k]) := by
  obtain ⟨b, off, e, hc⟩ := h.at hk
  exact ⟨b, off, e, hc 0 _ rfl, hc 1 _ rfl, hc 2 _ rfl⟩
/-- The box of an act. -/
theorem act_box (w : World) (x : ActM) : let W := w.alloc (.cells #[.int .i64 x.k, .int .i64 x.i, actP x] 33)
    Below w.heap.size w W ∧ W.cell? ⟨w.heap.size, 0, none⟩ = some (.int .i64 x.k) ∧ W.cell? ⟨w.heap.size, 1, none⟩ = some (.int .i64 x.i) ∧ W.cell? ⟨w.heap.size, 2, none⟩ = some (actP x) :=
  ⟨(Below.refl _ w).alloc (Nat.le_refl _) _, cell_many_a w _ _ 0 _ rfl, cell_many_a w _ _ 1 _ rfl, cell_many_a w _ _ 2 _ rfl⟩
/-- So few acts, with so small pools, that a law looks at them. -/
def fewE (T : List ActM) : Prop := T.length ≤ 30 ∧ ∀ x ∈ T, x.pool.length ≤ 8
instance (T : List ActM) : Decidable (fewE T) := inferInstanceAs (Decidable (_ ∧ _))
set_option maxHeartbeats 400000 in
theorem few_any (a : Option Addr) (cap : Nat) (T : List ActM) (w : World) (h : Lies actM w a cap T) :
    Calls Tryz.prog 5 #[rowV a cap T] w fun e W' => e = .returned (.bool (decide (fewE T))) ∧ W' = w := by
  have H := Lib.hid h
  have hcap := h.max
  have hlc := h.len
  unfold maxLen at hcap
  clear h
  by_cases h0 : 30 < T.length
  · have d0 : decide ((30 : Int) < (T.length : Int)) = true := decide_eq_true (by omega)
    have d1 : decide (30 < T.length) = true := decide_eq_true h0
    have HF := Lib.hid (show decide (fewE T) = false from decide_eq_false fun h => by have := h.1; omega)
    go_enter Tryz.func5, Tryz.ntmps5
    go_wp2_with fail
    go_ret
    exact ⟨by rw [HF.out]; rfl, rfl⟩
  have d0 : decide ((30 : Int) < (T.length : Int)) = false := decide_eq_false (by omega)
  have d1 : decide (30 < T.length) = false := decide_eq_false h0
  go_enter Tryz.func5, Tryz.ntmps5
  go_wp2_with fail
  go_loopw [3] (fun i W => ∃ k : Nat, k ≤ T.length ∧ i = .int .i64 k ∧ W = w ∧ Hid (∀ j (hj : j < k) (hl : j < T.length), T[j].pool.length ≤ 8)) (fun i _ => T.length - (intOf i).toNat)
  case atStart => exact ⟨0, Nat.zero_le _, rfl, rfl, Lib.hid fun j hj => absurd hj (by omega)⟩
  case round =>
    obtain ⟨k, hk, rfl, rfl, hA⟩ := hrel
    by_cases hlt : k < T.length
    · obtain ⟨b, off, rfl, -, -, c2⟩ := lies_actM H.out hlt
      have hk1 : k + 1 ≤ T.length := hlt
      by_cases h1 : 8 < T[k].pool.length
      · have HF := Lib.hid (show decide (fewE T) = false from decide_eq_false fun h => by have := h.2 _ (List.getElem_mem hlt); omega)
        clear hA
        generalize T[k] = x at *
        have e0 : decide ((8 : Int) < (x.pool.length : Int)) = true := decide_eq_true (by omega)
        have e1 : decide (8 < x.pool.length) = true := decide_eq_true h1
        go_wp2_with fail
        go_ret
        exact ⟨by rw [HF.out]; rfl, rfl⟩
      · have HA := Lib.hid (show ∀ j (hj : j < k + 1) (hl : j < T.length), T[j].pool.length ≤ 8 from fun j hj hl => by
          by_cases e : j = k
          · subst e; omega
          · exact hA.out j (by omega) hl)
        clear hA
        generalize T[k] = x at *
        have e0 : decide ((8 : Int) < (x.pool.length : Int)) = false := decide_eq_false (by omega)
        have e1 : decide (8 < x.pool.length) = false := decide_eq_false h1
        go_wp2_with fail
        refine ⟨⟨k + 1, hk1, by go_num, trivial, HA⟩, by simp [intOf]; omega⟩
    · have HF := Lib.hid (show decide (fewE T) = true from decide_eq_true ⟨by omega, fun x hx => by
        obtain ⟨j, hj, rfl⟩ := List.getElem_of_mem hx
        exact hA.out j (by omega) hj⟩)
      clear hA
      go_wp2_with fail
      go_ret
      exact ⟨by rw [HF.out]; rfl, rfl⟩
end Go.Proofs.YtefdnnmgmdaapaaGreat.Slo
