/-
  The fixed facts that every law of flows asks for first (works and few of gangplanklaw12).
-/
import Derived.Test.YtbflnhoifkdooaaBFlo
import Derived.Test.YtbflnhoifkdooaaBFlr
namespace Go.Proofs.Ytbflnhoifkdooaa.Flo
open Go.RowKit Go.Shelf RowG Tab Prb

/-- So few entries, with short keys, that a law looks at them. -/
def few64 (T : List Ent) : Prop := few T ∧ T.length ≤ 64
instance (T : List Ent) : Decidable (few64 T) := inferInstanceAs (Decidable (_ ∧ _))
set_option maxHeartbeats 400000 in
theorem few_any (a : Option Addr) (cap : Nat) (T : List Ent) (w : World) (hT : Lies entK w a cap T) (hk : ∀ x ∈ T, EntOk x) :
    Calls Try.prog 11 #[rowV a cap T] w fun e W' => e = .returned (.bool (decide (few64 T))) ∧ w = W' := by
  have F := Lib.hid (refFew_any a cap T w hT hk)
  have hmx := hT.max
  have hln := hT.len
  unfold maxLen at hmx
  clear hT hk
  go_enter Try.func11, Try.ntmps11
  go_wp2_with fail
  refine F.out.mono ?_
  rintro e w1 ⟨rfl, rfl⟩
  by_cases h1 : few T
  · rw [decide_eq_true h1]
    by_cases h2 : T.length ≤ 64
    · have d0 : decide ((T.length : Int) ≤ 64) = true := decide_eq_true (by omega)
      have d1 : decide (T.length ≤ 64) = true := decide_eq_true h2
      have HF := Lib.hid (show decide (few64 T) = true from decide_eq_true ⟨h1, h2⟩)
      clear h1 h2
      go_wp2_with fail
      go_ret
      exact ⟨by rw [HF.out]; rfl, rfl⟩
    · have d0 : decide ((T.length : Int) ≤ 64) = false := decide_eq_false (by omega)
      have d1 : decide (T.length ≤ 64) = false := decide_eq_false h2
      have HF := Lib.hid (show decide (few64 T) = false from decide_eq_false fun h => h2 h.2)
      clear h1 h2
      go_wp2_with fail
      go_ret
      exact ⟨by rw [HF.out]; rfl, rfl⟩
  · rw [decide_eq_false h1]
    have HF := Lib.hid (show decide (few64 T) = false from decide_eq_false fun h => h1 h.1)
    clear h1
    go_wp2_with fail
    go_ret
    exact ⟨by rw [HF.out]; rfl, rfl⟩

abbrev kA : ByteArray := ⟨#[97]⟩
abbrev kB : ByteArray := ⟨#[98]⟩
abbrev tA : List Ent := [live kA 5 9]
abbrev tC : List Ent := [live kB 6 9]
theorem right_C : Right home tC := by
  rw [right_iff]
  intro x _
  obtain ⟨i, hi⟩ := x
  have : i = 0 := by simp at hi; exact hi
  subst this
  show find home tC kB = some 0
  decide +kernel

set_option maxRecDepth 100000 in
set_option maxHeartbeats 2000000 in
theorem works_any (w : World) : Calls Try.prog 10 #[] w fun e W' => e = .returned (.bool true) ∧ Below w.heap.size w W' := by
  go_enter Try.func10, Try.ntmps10
  go_wp2_with fail
  refine (New_told 1 _ (by decide)).mono ?_
  rintro e V ⟨rfl, R, -, hb⟩
  rw [show size 1 = 1 from by decide] at *
  have L0 := Lib.hid R.lies
  have HB := Lib.hid hb
  clear R hb
  go_wp2_with fail
  refine (Put_told _ _ _ kA 5 9 _ L0.out (by decide) (by decide)).mono ?_
  rintro e V ⟨v, rfl, ⟨aA, cA, rfl, hl⟩, hb⟩
  rw [show putE (new 1) kA = 0 from by decide +kernel]
  rw [show putT (new 1) kA 5 9 = tA from by decide +kernel] at *
  have L0 := Lib.hid (L0.out.kept hb)
  have LA := Lib.hid hl
  have HB := Lib.hid (below2 HB.out hb)
  clear hl hb
  go_wp2_with fail
  refine (Put_told _ _ _ kB 5 9 _ LA.out (by decide) (by decide)).mono ?_
  rintro e V ⟨v, rfl, ⟨aB, cB, rfl, -⟩, hb⟩
  rw [show putE tA kB = 12 from by decide +kernel]
  generalize rowV aB cB (putT tA kB 5 9) = vB at *
  have L0 := Lib.hid (L0.out.kept hb)
  have LA := Lib.hid (LA.out.kept hb)
  have HB := Lib.hid (below2 HB.out hb)
  clear hb
  go_wp2_with fail
  refine (Delete_told _ _ _ kA _ LA.out (by decide) (by decide) (by decide)).mono ?_
  rintro e V ⟨v, rfl, ⟨aD, cD, rfl, hl⟩, hb⟩
  rw [show (find home tA kA).isSome = true from by decide +kernel]
  rw [show delT tA kA = new 1 from by decide +kernel] at *
  have L0 := Lib.hid (L0.out.kept hb)
  have LD := Lib.hid hl
  have HB := Lib.hid (below2 HB.out hb)
  clear hb hl LA
  go_wp2_with fail
  refine (Put_told _ _ _ kB 6 9 _ LD.out (by decide) (by decide)).mono ?_
  rintro e V ⟨v, rfl, ⟨aC, cC, rfl, hl⟩, hb⟩
  rw [show putE (new 1) kB = 0 from by decide +kernel]
  rw [show putT (new 1) kB 6 9 = tC from by decide +kernel] at *
  have LC := Lib.hid hl
  have HB := Lib.hid (below2 HB.out hb)
  clear hb hl LD L0
  go_wp2_with fail
  refine (Keys_told _ _ _ _ LC.out (by decide)).mono ?_
  rintro e V ⟨v, rfl, ⟨aK, cK, rfl, hl⟩, hb⟩
  rw [show keys tC = [kB] from by decide +kernel] at *
  have LC := Lib.hid (LC.out.kept hb)
  have LK := Lib.hid hl
  have HB := Lib.hid (below2 HB.out hb)
  clear hb hl
  go_wp2_with fail
  have hr := RowG.row_new (K := txtK) (T := 9) V #[.string kB] 1 [kB] rfl (by unfold maxLen; omega) rfl
  have b1 := below_txt V kB
  refine (refTexts_any _ _ [kB] _ _ [kB] true (by simp) _ (LK.out.kept b1) hr.lies).mono ?_
  rintro e V2 ⟨rfl, hb⟩
  have LC := Lib.hid (LC.out.kept (below2 b1 hb))
  have HB := Lib.hid (below2 HB.out (below2 b1 hb))
  clear hb b1 hr LK
  go_wp2_with fail
  refine (New_told (-1) _ (by decide)).mono ?_
  rintro e V3 ⟨rfl, -, -, hb⟩
  rw [show size (-1) = 0 from by decide] at *
  have LC := Lib.hid (LC.out.kept hb)
  have HB := Lib.hid (below2 HB.out hb)
  clear hb
  go_wp2_with fail
  refine (New_told 99 _ (by decide)).mono ?_
  rintro e V4 ⟨rfl, -, -, hb⟩
  rw [show size 99 = 64 from by decide] at *
  have LC := Lib.hid (LC.out.kept hb)
  have HB := Lib.hid (below2 HB.out hb)
  have hn : (new 64).length = 64 := by simp [new]
  clear hb
  go_wp2_with fail
  refine (Right_told _ _ _ true (by simp [right_C]) _ LC.out (by decide)).mono ?_
  rintro e V5 ⟨rfl, hb⟩
  have LC := Lib.hid (LC.out.kept hb)
  have HB := Lib.hid (below2 HB.out hb)
  clear hb
  go_wp2_with fail
  refine (Tidy_told _ _ _ _ LC.out (by decide)).mono ?_
  rintro e V6 ⟨v, rfl, ⟨aT, cT, rfl, -⟩, hb⟩
  have HB := Lib.hid (below2 HB.out hb)
  have hn2 : (tidyC tC).length = 1 := tidyC_length tC
  clear hb
  go_wp2_with fail
  go_ret
  exact ⟨rfl, HB.out⟩
end Go.Proofs.Ytbflnhoifkdooaa.Flo
