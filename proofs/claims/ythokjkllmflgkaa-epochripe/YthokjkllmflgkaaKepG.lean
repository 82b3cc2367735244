/-
  The law's own number, do, told, few; the document's example: 'works' answers true (package gangplanklaw15).
-/
import Derived.Test.YthokjkllmflgkaaKepF
import Derived.Test.YthokjkllmflgkaaRowN
namespace Go.Proofs.Ythokjkllmflgkaa.Kep
open Go.RowKit Go.Shelf Go.WideShapes RowG Trn Epo

attribute [local go_sem] Oper.semAt_some

set_option maxHeartbeats 400000 in
theorem number_any (b : Bool) (w : World) : Calls Try.prog 20 #[.bool b] w fun e W' => e = .returned (.int .i64 (num b)) ∧ W' = w := by
  cases b
  · go_enter Try.func20, Try.ntmps20
    go_wp2_with fail
    go_ret
    exact ⟨rfl, rfl⟩
  · go_enter Try.func20, Try.ntmps20
    go_wp2_with fail
    go_ret
    exact ⟨rfl, rfl⟩
abbrev actV (x : ActM) : Value := .agg #[.int .i64 x.k, .int .i64 x.slot, .int .i64 x.at', rowV x.p x.c x.pins]
/-- The box of an act. -/
theorem act_box (w : World) (x : ActM) : let W := w.alloc (.cells #[.int .i64 x.k, .int .i64 x.slot, .int .i64 x.at', rowV x.p x.c x.pins] 32)
    Below w.heap.size w W ∧ W.cell? ⟨w.heap.size, 0, none⟩ = some (.int .i64 x.k) ∧ W.cell? ⟨w.heap.size, 1, none⟩ = some (.int .i64 x.slot) ∧ W.cell? ⟨w.heap.size, 2, none⟩ = some (.int .i64 x.at') ∧ W.cell? ⟨w.heap.size, 3, none⟩ = some (rowV x.p x.c x.pins) :=
  ⟨(Below.refl _ w).alloc (Nat.le_refl _) _, cell_many w _ _ 0 _ rfl, cell_many w _ _ 1 _ rfl, cell_many w _ _ 2 _ rfl, cell_many w _ _ 3 _ rfl⟩
theorem act0 (l : List Slot) (s a : Int) (P : List Int) : act l ⟨0, s, a, P⟩ = take l := if_pos rfl
theorem act1 (l : List Slot) (s a : Int) (P : List Int) : act l ⟨1, s, a, P⟩ = ((retire l s a).1, num (retire l s a).2) := rfl
theorem act2 (l : List Slot) (s a : Int) (P : List Int) : act l ⟨2, s, a, P⟩ = ((free l s).1, num (free l s).2) := rfl
theorem act_other (l : List Slot) {k : Int} (s a : Int) (P : List Int) (h0 : k ≠ 0) (h1 : k ≠ 1) (h2 : k ≠ 2) : act l ⟨k, s, a, P⟩ = (l, ripe l P) := by
  unfold act; rw [if_neg h0, if_neg h1, if_neg h2]
theorem acts_of {p : Nat} {l l' : List Slot} {v' : Value} {w w0 W : World} {e' : Ending} (hb : Below w.heap.size w w0) (hk : Keeps W p l) (ht : Turned (fun j => j = p) w0 W) (hl : l' = l) (he : e' = .returned v') : Acts p l' v' w e' W := ⟨he, hl ▸ hk, (Turned.of_below hb).trans ht⟩
section
variable {w : World} {p : Nat} {l : List Slot}
set_option maxHeartbeats 400000 in
theorem do_any (x : ActM) (ok : ActOk w x) (h : Keeps w p l) : Calls Try.prog 12 #[.pointer (some ⟨p, 0, none⟩), actV x] w (Acts p (act l x.act).1 (.int .i64 (act l x.act).2) w) := by
  obtain ⟨bel, x0, x1, x2, x3⟩ := act_box w x
  have hk : Keeps _ p l := ⟨h.1.kept bel, h.2⟩
  have hp := ok.lies.kept bel
  obtain ⟨k, s, a, pa, pc, P⟩ := x
  have BE := Lib.hid bel
  clear bel h ok
  dsimp only at x0 x1 x2 x3 hp BE hk
  by_cases h0 : k = 0
  · subst h0
    have C := Lib.hid (Take_told hk)
    have HE := Lib.hid (act0 l s a P)
    clear hk hp
    go_enter Try.func12, Try.ntmps12
    go_wp2_with fail
    refine C.out.mono ?_
    rintro e w1 ⟨rfl, h1, ht⟩
    go_wp2_with fail
    go_ret
    exact acts_of BE.out h1 ht (by rw [HE.out]) (by rw [HE.out]; rfl)
  by_cases h1 : k = 1
  · subst h1
    have C := Lib.hid (Retire_told hk s a)
    have HE := Lib.hid (act1 l s a P)
    clear hk hp h0
    generalize (retire l s a).2 = b at *
    go_enter Try.func12, Try.ntmps12
    go_wp2_with fail
    refine C.out.mono ?_
    rintro e w1 ⟨rfl, h1, ht⟩
    go_wp2_with fail
    refine (number_any b _).mono ?_
    rintro e w2 ⟨rfl, rfl⟩
    go_wp2_with fail
    go_ret
    exact acts_of BE.out h1 ht (by rw [HE.out]) (by rw [HE.out]; rfl)
  by_cases h2 : k = 2
  · subst h2
    have C := Lib.hid (Free_told hk s)
    have HE := Lib.hid (act2 l s a P)
    clear hk hp h0 h1
    generalize (free l s).2 = b at *
    go_enter Try.func12, Try.ntmps12
    go_wp2_with fail
    refine C.out.mono ?_
    rintro e w1 ⟨rfl, h1, ht⟩
    go_wp2_with fail
    refine (number_any b _).mono ?_
    rintro e w2 ⟨rfl, rfl⟩
    go_wp2_with fail
    go_ret
    exact acts_of BE.out h1 ht (by rw [HE.out]) (by rw [HE.out]; rfl)
  · have C := Lib.hid (Ripe_told hk hp)
    have HE := Lib.hid (act_other l s a P h0 h1 h2)
    have d0 : (k == 0) = false := by simpa using h0
    have d1 : (k == 1) = false := by simpa using h1
    have d2 : (k == 2) = false := by simpa using h2
    have HK := Lib.hid hk
    clear hk hp h0 h1 h2
    generalize ripe l P = b at *
    go_enter Try.func12, Try.ntmps12
    go_wp2_with fail
    refine C.out.mono ?_
    rintro e w1 ⟨rfl, ht⟩
    go_wp2_with fail
    go_ret
    exact acts_of BE.out ⟨HK.out.1.kept ht, HK.out.2⟩ (Turned.of_below ht) (by rw [HE.out]) (by rw [HE.out]; rfl)
theorem Tells.of {B : Nat} {l l' : List Slot} {u' : Value} {v : Value} {w w0 W : World} {e : Ending} (hb : Below w.heap.size w w0) (hg : Gives B W v l) (h : Below w0.heap.size w0 W) (hl : l' = l) (he : e = .returned (.tuple #[v, u'])) : Tells B l' u' w e W := ⟨v, he, hl ▸ hg, below2 hb h⟩
set_option maxHeartbeats 400000 in
theorem told_any (a : Option Addr) (cap : Nat) (l : List Slot) (x : ActM) (ok : ActOk w x) (h : Lies slotK w a cap l) (hl : l.length ≤ 1000000000) (B : Nat) (hB : ∀ b off, a = some ⟨b, off, none⟩ → B ≤ b) (hBw : B ≤ w.heap.size) :
    Calls Try.prog 13 #[rowV a cap l, actV x] w (Tells B (act l x.act).1 (.int .i64 (act l x.act).2) w) := by
  obtain ⟨bel, x0, x1, x2, x3⟩ := act_box w x
  have hk := h.kept bel
  have hp := ok.lies.kept bel
  obtain ⟨k, s, t, pa, pc, P⟩ := x
  have BE := Lib.hid bel
  clear bel h ok
  dsimp only at x0 x1 x2 x3 hp BE hk
  by_cases h0 : k = 0
  · subst h0
    have C := Lib.hid (refTake_any _ _ _ _ hk hl B hB (by have := BE.out.size; omega))
    have HE := Lib.hid (act0 l s t P)
    clear hk hp
    go_enter Try.func13, Try.ntmps13
    go_wp2_with fail
    refine C.out.mono ?_
    rintro e w1 ⟨v, rfl, hg, hb⟩
    have HG := Lib.hid hg
    have HB := Lib.hid hb
    obtain ⟨a1, cap1, rfl, -⟩ := hg
    clear hb
    go_wp2_with fail
    refine bodyPost_ret (v := .tuple #[_, _]) (by simp [results, Try.results13, go_sem]; exact ⟨rfl, rfl⟩) rfl ?_
    exact Tells.of BE.out HG.out HB.out (by rw [HE.out]) (by rw [HE.out])
  by_cases h1 : k = 1
  · subst h1
    have C := Lib.hid (refRetire_any _ _ _ _ hk hl B hB (by have := BE.out.size; omega) s t)
    have HE := Lib.hid (act1 l s t P)
    clear hk hp h0
    generalize (retire l s t).2 = b at *
    go_enter Try.func13, Try.ntmps13
    go_wp2_with fail
    refine C.out.mono ?_
    rintro e w1 ⟨v, rfl, hg, hb⟩
    have HG := Lib.hid hg
    have HB := Lib.hid hb
    obtain ⟨a1, cap1, rfl, -⟩ := hg
    clear hb
    go_wp2_with fail
    refine (number_any b _).mono ?_
    rintro e w2 ⟨rfl, rfl⟩
    go_wp2_with fail
    refine bodyPost_ret (v := .tuple #[_, _]) (by simp [results, Try.results13, go_sem]; exact ⟨rfl, rfl⟩) rfl ?_
    exact Tells.of BE.out HG.out HB.out (by rw [HE.out]) (by rw [HE.out])
  by_cases h2 : k = 2
  · subst h2
    have C := Lib.hid (refFree_any _ _ _ _ hk hl B hB (by have := BE.out.size; omega) s)
    have HE := Lib.hid (act2 l s t P)
    clear hk hp h0 h1
    generalize (free l s).2 = b at *
    go_enter Try.func13, Try.ntmps13
    go_wp2_with fail
    refine C.out.mono ?_
    rintro e w1 ⟨v, rfl, hg, hb⟩
    have HG := Lib.hid hg
    have HB := Lib.hid hb
    obtain ⟨a1, cap1, rfl, -⟩ := hg
    clear hb
    go_wp2_with fail
    refine (number_any b _).mono ?_
    rintro e w2 ⟨rfl, rfl⟩
    go_wp2_with fail
    refine bodyPost_ret (v := .tuple #[_, _]) (by simp [results, Try.results13, go_sem]; exact ⟨rfl, rfl⟩) rfl ?_
    exact Tells.of BE.out HG.out HB.out (by rw [HE.out]) (by rw [HE.out])
  · have C := Lib.hid (refRipe_any _ _ _ _ _ _ _ hk hp)
    have HE := Lib.hid (act_other l s t P h0 h1 h2)
    have d0 : (k == 0) = false := by simpa using h0
    have d1 : (k == 1) = false := by simpa using h1
    have d2 : (k == 2) = false := by simpa using h2
    have HK := Lib.hid hk
    clear hk hp h0 h1 h2
    generalize ripe l P = b at *
    go_enter Try.func13, Try.ntmps13
    go_wp2_with fail
    refine C.out.mono ?_
    rintro e w1 ⟨rfl, rfl⟩
    go_wp2_with fail
    refine bodyPost_ret (v := .tuple #[_, _]) (by simp [results, Try.results13, go_sem]; exact ⟨rfl, rfl⟩) rfl ?_
    exact Tells.of BE.out ⟨_, _, rfl, HK.out, hB⟩ (Below.refl _ _) (by rw [HE.out]) (by rw [HE.out])
end
/-- So few acts, with so few pins, that a law looks at them. -/
def fewE (T : List ActM) : Prop := T.length ≤ 60 ∧ ∀ x ∈ T, x.pins.length ≤ 60
instance (T : List ActM) : Decidable (fewE T) := inferInstanceAs (Decidable (_ ∧ _))
set_option maxHeartbeats 400000 in
theorem few_any (a : Option Addr) (cap : Nat) (T : List ActM) (w : World) (h : Lies actM w a cap T) :
    Calls Try.prog 9 #[rowV a cap T] w fun e W' => e = .returned (.bool (decide (fewE T))) ∧ W' = w := by
  have H := Lib.hid h
  have hcap := h.max
  have hlc := h.len
  unfold maxLen at hcap
  clear h
  by_cases h0 : 60 < T.length
  · have d0 : decide ((60 : Int) < (T.length : Int)) = true := decide_eq_true (by omega)
    have d1 : decide (60 < T.length) = true := decide_eq_true h0
    have HF := Lib.hid (show decide (fewE T) = false from decide_eq_false fun h => by have := h.1; omega)
    go_enter Try.func9, Try.ntmps9
    go_wp2_with fail
    go_ret
    exact ⟨by rw [HF.out]; rfl, rfl⟩
  have d0 : decide ((60 : Int) < (T.length : Int)) = false := decide_eq_false (by omega)
  have d1 : decide (60 < T.length) = false := decide_eq_false h0
  go_enter Try.func9, Try.ntmps9
  go_wp2_with fail
  go_loopw [3] (fun i W => ∃ k : Nat, k ≤ T.length ∧ i = .int .i64 k ∧ W = w ∧ Hid (∀ j (hj : j < k) (hl : j < T.length), T[j].pins.length ≤ 60)) (fun i _ => T.length - (intOf i).toNat)
  case atStart => exact ⟨0, Nat.zero_le _, rfl, rfl, Lib.hid fun j hj => absurd hj (by omega)⟩
  case round =>
    obtain ⟨k, hk, rfl, rfl, hA⟩ := hrel
    by_cases hlt : k < T.length
    · obtain ⟨b, off, rfl, -, -, -, c3⟩ := lies_actM H.out hlt
      have hk1 : k + 1 ≤ T.length := hlt
      by_cases h1 : 60 < T[k].pins.length
      · have HF := Lib.hid (show decide (fewE T) = false from decide_eq_false fun h => by have := h.2 _ (List.getElem_mem hlt); omega)
        clear hA
        generalize T[k] = x at *
        have e0 : decide ((60 : Int) < (x.pins.length : Int)) = true := decide_eq_true (by omega)
        have e1 : decide (60 < x.pins.length) = true := decide_eq_true h1
        go_wp2_with fail
        go_ret
        exact ⟨by rw [HF.out]; rfl, rfl⟩
      · have HA := Lib.hid (show ∀ j (hj : j < k + 1) (hl : j < T.length), T[j].pins.length ≤ 60 from fun j hj hl => by
          by_cases e : j = k
          · subst e; omega
          · exact hA.out j (by omega) hl)
        clear hA
        generalize T[k] = x at *
        have e0 : decide ((60 : Int) < (x.pins.length : Int)) = false := decide_eq_false (by omega)
        have e1 : decide (60 < x.pins.length) = false := decide_eq_false h1
        go_wp2_with fail
        refine ⟨⟨k + 1, hk1, by go_num, trivial, HA⟩, by simp [intOf]; omega⟩
    · have HF := Lib.hid (show decide (fewE T) = true from decide_eq_true ⟨by omega, fun x hx => by
        obtain ⟨j, hj, rfl⟩ := List.getElem_of_mem hx
        exact hA.out j (by omega) hj⟩)
      clear hA
      go_wp2_with fail
      go_ret
      exact ⟨by rw [HF.out]; rfl, rfl⟩
end Go.Proofs.Ythokjkllmflgkaa.Kep
