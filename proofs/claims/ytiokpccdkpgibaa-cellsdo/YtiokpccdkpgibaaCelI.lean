/-
  The document's cells (package gangplankref14): with, fill, New.
-/
import Derived.Test.YtiokpccdkpgibaaCelD
namespace Go.Proofs.Ytiokpccdkpgibaa.Cel
open Go.RowKit Go.Shelf Go.WideShapes RowG

attribute [local go_sem] Oper.semAt_some

/-- A value that is a row of numbers. -/
def GivesN (W : World) (v : Value) (l : List Int) : Prop := ∃ a cap, v = rowV a cap l ∧ Lies numK W a cap l
theorem GivesN.kept {W W' : World} {v : Value} {l : List Int} (h : GivesN W v l) (hb : Below W.heap.size W W') : GivesN W' v l := by
  obtain ⟨a, cap, e, hl⟩ := h
  exact ⟨a, cap, e, hl.kept hb⟩
theorem row_set {T : TypeId} {W : World} {g cap : Nat} {l : List Int} (h : Row numK T W g cap l) {k : Nat} (hk : k < l.length) (v : Int) : Row numK T (W.setCell ⟨g, k, none⟩ (.int .i64 v)) g cap (l.set k v) := by
  have hr := h.put hk v
  rwa [show k * numK.c = k from Nat.mul_one _] at hr

set_option maxHeartbeats 1000000 in
theorem with_any (a : Option Addr) (cap : Nat) (l : List Int) (k : Nat) (v : Int) (w : World) (h : Lies numK w a cap l) (hk : k < l.length) (hl : l.length ≤ 1000000000) :
    Calls Try.prog 31 #[rowV a cap l, .int .i64 (k : Nat), .int .i64 v] w fun e W' => ∃ g c, e = .returned (rowV (some ⟨g, 0, none⟩) c (l.set k v)) ∧ w.heap.size ≤ g ∧ Row numK 3 W' g c (l.set k v) ∧ Below w.heap.size w W' := by
  obtain ⟨b, off, rfl, -⟩ := h.cell (fun e => by rw [e] at hk; exact absurd hk (by simp))
  have al : Below w.heap.size w (w.alloc (.cells #[] 3)) := (Below.refl _ w).alloc (Nat.le_refl _) _
  have R0 := Lib.hid ((row_new (K := numK) (T := 3) w #[] 0 [] rfl (Nat.zero_le _) rfl).own (B := w.heap.size) (Nat.le_refl _))
  have H := Lib.hid (h.kept al)
  have AL := Lib.hid al
  clear h al
  go_enter Try.func31, Try.ntmps31
  go_wp2_with (at_builtin; refine wpList_join Try.underlying26 info_int rfl rfl _ _ rfl w.heap.size [] l _ b off cap rfl rfl R0.out H.out ?c1 ?c2 ?c3 ?_)
  case c1 => unfold maxLen; simp; omega
  case c2 => simp; omega
  case c3 => simp
  intro v' w1 ho hb
  obtain ⟨g, cap', rfl, hg, R⟩ := ho.out.row (by intro e; rw [e] at hk; exact absurd hk (by simp))
  have c0 := row_num R hk
  have f0 : w1.frozen? ⟨g, k, none⟩ = false := R.free _
  have hk0 : (k : Int) < (l.length : Int) := by omega
  have RR := Lib.hid R
  have HB := Lib.hid (AL.out.trans hb.out)
  have HG := Lib.hid hg
  clear R ho hb R0 H AL hg
  go_wp2_with fail
  go_ret
  exact ⟨g, cap', by simp [rowV], HG.out, row_set RR.out hk v, HB.out.setCell (p := ⟨g, k, none⟩) HG.out _⟩

set_option maxHeartbeats 1000000 in
theorem fill_any (n v : Int) (w : World) : Calls Try.prog 23 #[.int .i64 n, .int .i64 v] w fun e W' => ∃ u, e = .returned u ∧ RowG.Own numK 3 w.heap.size W' u (List.replicate (size n) v) ∧ Below w.heap.size w W' := by
  go_enter Try.func23, Try.ntmps23
  go_wp2
  go_loopw [5, 6] (fun o i W => ∃ k : Nat, k ≤ size n ∧ i = .int .i64 k ∧ RowG.Own numK 3 w.heap.size W o (List.replicate k v) ∧ Below w.heap.size w W) (fun _ i _ => size n - (intOf i).toNat)
  case atStart => exact ⟨0, Nat.zero_le _, rfl, own_nil _ _, Below.refl _ _⟩
  case round =>
    obtain ⟨k, hk, rfl, ho, hB⟩ := hrel
    have HO := Lib.hid ho
    have HB := Lib.hid hB
    have hs := Lib.hid hB.size
    have hmx := size_le n
    clear ho hB
    by_cases hlt : k < size n
    · have d0 : decide ((k : Int) < n) = true := decide_eq_true (by unfold size at hlt; omega)
      have d1 : decide ((k : Int) < 1024) = true := decide_eq_true (by omega)
      have d2 : decide (k < 1024) = true := decide_eq_true (by omega)
      have HL := Lib.hid (show (List.replicate k v).length = k from List.length_replicate)
      have HS := Lib.hid (show List.replicate (k + 1) v = List.replicate k v ++ [v] from List.replicate_succ')
      generalize List.replicate k v = os at *
      have al := Lib.hid (show Below wr.heap.size wr (wr.alloc (.cells #[.int .i64 v] 3)) from (Below.refl _ wr).alloc (Nat.le_refl _) _)
      go_wp2_with (at_builtin; refine wpList_more Try.underlying26 info_int rfl rfl _ _ rfl w.heap.size wr.heap.size os v _ rfl rfl (HO.out.kept al.out) ?c0 ?c1 ?c2 ?c3 ?_)
      case c0 =>
        intro j u hj
        match j, hj with
        | 0, hj => simp [numK] at hj; subst hj; simp
      case c1 => rw [HL.out]; unfold maxLen; omega
      case c2 => rw [HL.out]; omega
      case c3 => have := hs.out; simp; omega
      intro v' w1 ho hb
      have HB1 := Lib.hid ((HB.out.alloc hs.out (.cells #[.int .i64 v] 3)).trans hb.out)
      have HO1 := Lib.hid ho.out
      clear hb ho
      go_wp2
      refine ⟨⟨k + 1, by omega, by go_num, by rw [HS.out]; exact HO1.out, HB1.out⟩, by simp [intOf]; omega⟩
    · obtain rfl : k = size n := by omega
      obtain ⟨a, cap, rfl, hl⟩ := HO.out.lies
      have HL := Lib.hid hl
      clear hl
      by_cases hn : (size n : Int) < n
      · have d0 : decide ((size n : Int) < n) = true := decide_eq_true hn
        have hz : size n = 1024 := by unfold size at hn ⊢; omega
        have d1 : decide (((size n : Nat) : Int) < 1024) = false := decide_eq_false (by omega)
        have d2 : decide (size n < 1024) = false := decide_eq_false (by omega)
        clear hz hn
        generalize hm : size n = m at *
        have HM := Lib.hid hm
        clear hm
        go_wp2
        go_ret
        rw [HM.out]
        exact ⟨_, rfl, HO.out, HB.out⟩
      · have d0 : decide ((size n : Int) < n) = false := decide_eq_false hn
        generalize hm : size n = m at *
        have HM := Lib.hid hm
        clear hm
        go_wp2
        go_ret
        rw [HM.out]
        exact ⟨_, rfl, HO.out, HB.out⟩

/-- A value that is cells and locks, in the document's answer: its rows were made by its calls. -/
def GivesS (Bo : Nat) (W : World) (v : Value) (s : St) : Prop := ∃ x y, v = .agg #[x, y, .int .i64 (s.shared : Nat)] ∧ RowG.Own numK 3 Bo W x s.cells ∧ RowG.Own numK 3 Bo W y s.locks
theorem GivesS.kept {Bo : Nat} {W W' : World} {v : Value} {s : St} (h : GivesS Bo W v s) (hb : Below W.heap.size W W') : GivesS Bo W' v s := by
  obtain ⟨x, y, e, h1, h2⟩ := h
  exact ⟨x, y, e, h1.kept hb, h2.kept hb⟩
end Go.Proofs.Ytiokpccdkpgibaa.Cel
