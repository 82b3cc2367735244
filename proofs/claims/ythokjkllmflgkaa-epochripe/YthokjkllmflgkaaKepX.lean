/-
  Acts as they lie in memory: what is done behind so many of them; what is kept of them.
-/
import Derived.Test.YthokjkllmflgkaaKepW
namespace Go.Proofs.Ythokjkllmflgkaa.Kep
open Go.RowKit Go.Shelf Go.WideShapes RowG Trn Epo

theorem ok_kept {W W' : World} {x : ActM} (h : ActOk W x) (hb : Below W.heap.size W W') : ActOk W' x := ⟨h.k, h.slot, h.at', h.lies.kept hb, h.pins⟩
/-- The slots behind some acts. -/
def after (n : Int) (z : List ActM) (j : Nat) : List Slot := runs (new n) ((z.map ActM.act).take j)
theorem after_zero (n : Int) (z : List ActM) : after n z 0 = new n := by unfold after; rw [List.take_zero]; rfl
theorem after_next (n : Int) (z : List ActM) {j : Nat} (h : j < z.length) : after n z (j + 1) = (act (after n z j) z[j].act).1 := by
  unfold after
  rw [runs_take (by simpa using h), List.getElem_map]
theorem after_keeps (n : Int) (z : List ActM) (j : Nat) : (after n z j).length = size n ∧ Ok (after n z j) := runs_keeps n _
theorem after_le (n : Int) (z : List ActM) (j : Nat) : (after n z j).length ≤ 8 := by rw [(after_keeps n z j).1]; exact size_le n
theorem keeps_kept {W W' : World} {p : Nat} {l : List Slot} (h : Keeps W p l) (hb : Below W.heap.size W W') : Keeps W' p l := ⟨h.1.kept hb, h.2⟩
theorem keeps_turned {S : Nat → Prop} {W W' : World} {p : Nat} {l : List Slot} (h : Keeps W p l) (ht : Turned S W W') (hs : ¬ S p) : Keeps W' p l := ⟨h.1.turned ht hs, h.2⟩
theorem Below.turned {n : Nat} {w W W' : World} (hb : Below n w W) {S : Nat → Prop} (ht : Turned S W W') (hn : n ≤ W.heap.size) (hs : ∀ k, S k → n ≤ k) : Below n w W' := Turned.below hb ht hn hs
theorem info_int : (Try.prog.info? 3).map (fun i => (i.zero, i.size, i.bytes)) = some (some (.int .i64 0), numK.c, 8) := by kernel_rfl
abbrev zeroI : Array Value := #[.int .i64 0]
/-- A new row of numbers. -/
theorem run_nums (n : Nat) (hn : n ≤ 1000000000) (W : World) : (Instr.makeSlice 30 (.int .i64 (n : Int)) (.int .i64 (n : Int))).run Try.prog W = .ok (.slice (some ⟨W.heap.size, 0, none⟩) n n) (W.alloc (.cells (madeCells zeroI n) 3)) := by
  obtain ⟨i0, hi, hz0, hz1, hz2⟩ := info_parts info_int
  have := run_make (P := Try.prog) W 30 3 i0 (.int .i64 0) Try.underlying30 hi hz0 .i64 .i64 n n (by omega) (Int.le_refl _) (by rw [hz2]; omega) (by omega)
  rw [hz1, Int.toNat_natCast, show n * numK.c = n from Nat.mul_one n, show (Value.int .i64 0).cells = zeroI from rfl] at this
  simpa using this
theorem row_nums (w : World) (n : Nat) (h : n ≤ maxLen) : Row numK 3 (w.alloc (.cells (madeCells zeroI n) 3)) w.heap.size n (List.replicate n 0) :=
  ⟨_, World.alloc_heap_new w _, by simp, h, by simp [madeCells]; exact (Nat.mul_one n).symm, by
    have := made_flat (K := numK) zeroI (0 : Int) rfl n
    rw [show n * numK.c = n from Nat.mul_one n] at this
    rw [this, List.take_of_length_le (by rw [flat_length]; simp)]⟩
/-- An operation whose guard says yes, as one without a guard. -/
theorem wpList_unguard {P : Program} {ops : Array Oper} {Q : Exit → Go.Act → World → Prop} {a : Go.Act} {w : World} {rest : List Oper} {d : Option Tmp} {op : Op} {t : TypeId} {pos : String} {es : Array Edge} {g : Option (Nat × Bool)}
    (hw : Region.wanted ⟨d, op, t, pos, es, g⟩ (yielded ops a.tmps) = true) (h : wpList P ops Q (⟨d, op, t, pos, es, none⟩ :: rest) a w) : wpList P ops Q (⟨d, op, t, pos, es, g⟩ :: rest) a w := by
  unfold wpList at h ⊢
  rw [if_pos (by rfl)] at h
  rw [if_pos hw]
  exact h
theorem run_eight (W : World) : (Instr.makeSlice 30 (.int .i64 8) (.int .i64 8)).run Try.prog W = .ok (.slice (some ⟨W.heap.size, 0, none⟩) 8 8) (W.alloc (.cells (madeCells zeroI 8) 3)) := run_nums 8 (by omega) W
theorem row_num {T : TypeId} {W : World} {g cap : Nat} {l : List Int} (h : Row numK T W g cap l) {k : Nat} (hk : k < l.length) : W.cell? ⟨g, k, none⟩ = some (.int .i64 l[k]) := by
  have := h.cell hk (j := 0) (u := .int .i64 l[k]) rfl
  rwa [show k * numK.c + 0 = k from Nat.mul_one _] at this
theorem row_set {T : TypeId} {W : World} {g cap : Nat} {l : List Int} (h : Row numK T W g cap l) {k : Nat} (hk : k < l.length) (v : Int) : Row numK T (W.setCell ⟨g, k, none⟩ (.int .i64 v)) g cap (l.set k v) := by
  have hr := h.put hk v
  rwa [show k * numK.c = k from Nat.mul_one _] at hr
end Go.Proofs.Ythokjkllmflgkaa.Kep
