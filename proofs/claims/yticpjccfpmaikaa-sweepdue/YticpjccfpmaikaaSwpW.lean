/-
  The fixed facts that every law of sweep asks for first (works and few of gangplanklaw13).
-/
import Derived.Test.YticpjccfpmaikaaSwpB
namespace Go.Proofs.Yticpjccfpmaikaa.Swp
open Go.RowKit Go.Shelf RowG Tab Prb Flo

/-- So few entries, with short keys, that a law looks at them. -/
def few64 (T : List Ent) : Prop := few T ∧ T.length ≤ 64
instance (T : List Ent) : Decidable (few64 T) := inferInstanceAs (Decidable (_ ∧ _))
set_option maxHeartbeats 400000 in
theorem few_any (a : Option Addr) (cap : Nat) (T : List Ent) (w : World) (hT : Lies entK w a cap T) (hk : ∀ x ∈ T, EntOk x) :
    Calls Try.prog 10 #[rowV a cap T] w fun e W' => e = .returned (.bool (decide (few64 T))) ∧ w = W' := by
  have F := Lib.hid (refFew_any a cap T w hT hk)
  have hmx := hT.max
  have hln := hT.len
  unfold maxLen at hmx
  clear hT hk
  go_enter Try.func10, Try.ntmps10
  go_wp2_with fail
  refine F.out.mono ?_
  rintro e w1 ⟨rfl, rfl⟩
  by_cases h1 : few T
  · rw [decide_eq_true h1]
    by_cases h2 : T.length ≤ 64
    · have d0 : decide ((T.length : Int) ≤ 64) = true := decide_eq_true (by omega)
      have d1 : decide (T.length ≤ 64) = true := decide_eq_true h2
      have HF := Lib.hid (show decide (few64 T) = true from decide_eq_true ⟨h1, h2⟩)
      clear h1 h2
      go_wp2_with fail
      go_ret
      exact ⟨by rw [HF.out]; rfl, rfl⟩
    · have d0 : decide ((T.length : Int) ≤ 64) = false := decide_eq_false (by omega)
      have d1 : decide (T.length ≤ 64) = false := decide_eq_false h2
      have HF := Lib.hid (show decide (few64 T) = false from decide_eq_false fun h => h2 h.2)
      clear h1 h2
      go_wp2_with fail
      go_ret
      exact ⟨by rw [HF.out]; rfl, rfl⟩
  · rw [decide_eq_false h1]
    have HF := Lib.hid (show decide (few64 T) = false from decide_eq_false fun h => h1 h.1)
    clear h1
    go_wp2_with fail
    go_ret
    exact ⟨by rw [HF.out]; rfl, rfl⟩

abbrev kA : ByteArray := ⟨#[97]⟩
abbrev tA : List Ent := [live kA 1 3]

set_option maxRecDepth 100000 in
set_option maxHeartbeats 2000000 in
theorem works_any (w : World) : Calls Try.prog 9 #[] w fun e W' => e = .returned (.bool true) ∧ Below w.heap.size w W' := by
  go_enter Try.func9, Try.ntmps9
  go_wp2_with fail
  refine (New_told 1 _ (by decide)).mono ?_
  rintro e V ⟨rfl, R, -, hb⟩
  rw [show size 1 = 1 from by decide] at *
  have L0 := Lib.hid R.lies
  have HB := Lib.hid hb
  clear R hb
  go_wp2_with fail
  refine (Put_told _ _ _ kA 1 3 _ L0.out (by decide) (by decide)).mono ?_
  rintro e V ⟨v, rfl, ⟨aA, cA, rfl, hl⟩, hb⟩
  rw [show putE (new 1) kA = 0 from by decide +kernel]
  rw [show putT (new 1) kA 1 3 = tA from by decide +kernel] at *
  have LA := Lib.hid hl
  have HB := Lib.hid (below2 HB.out hb)
  clear hl hb L0
  go_wp2_with fail
  refine (All_told _ _ _ 3 _ LA.out (by decide) (by decide)).mono ?_
  rintro e V ⟨v, rfl, ⟨aB, cB, rfl, hl⟩, hb⟩
  rw [show dueN 3 (places tA.length 0 tA.length) tA = 0 from by decide +kernel]
  rw [show stepC 3 (places tA.length 0 tA.length) tA = tA from by decide +kernel] at *
  have LA := Lib.hid (LA.out.kept hb)
  have LB := Lib.hid hl
  have HB := Lib.hid (below2 HB.out hb)
  clear hl hb
  go_wp2_with fail
  refine (All_told _ _ _ 4 _ LA.out (by decide) (by decide)).mono ?_
  rintro e V ⟨v, rfl, ⟨aC, cC, rfl, hl⟩, hb⟩
  rw [show dueN 4 (places tA.length 0 tA.length) tA = 1 from by decide +kernel]
  rw [show stepC 4 (places tA.length 0 tA.length) tA = new 1 from by decide +kernel] at *
  have LA := Lib.hid (LA.out.kept hb)
  have LB := Lib.hid (LB.out.kept hb)
  have LC := Lib.hid hl
  have HB := Lib.hid (below2 HB.out hb)
  clear hl hb
  go_wp2_with fail
  refine (Step_told _ _ _ 0 1 9 _ LA.out (by decide) (by decide)).mono ?_
  rintro e V ⟨v, rfl, ⟨aD, cD, rfl, hl⟩, hb⟩
  rw [show nextP tA.length (norm tA.length 0) (span 1 tA.length) = 0 from by decide +kernel, show dueN 9 (places tA.length (norm tA.length 0) (span 1 tA.length)) tA = 1 from by decide +kernel]
  rw [show stepC 9 (places tA.length (norm tA.length 0) (span 1 tA.length)) tA = new 1 from by decide +kernel] at *
  have LA := Lib.hid (LA.out.kept hb)
  have LB := Lib.hid (LB.out.kept hb)
  have LC := Lib.hid (LC.out.kept hb)
  have LD := Lib.hid hl
  have HB := Lib.hid (below2 HB.out hb)
  clear hl hb
  go_wp2_with fail
  refine (Same_told _ _ tA _ _ tA true (by simp) _ LB.out LA.out).mono ?_
  rintro e V ⟨rfl, hb⟩
  have LC := Lib.hid (LC.out.kept hb)
  have LD := Lib.hid (LD.out.kept hb)
  have HB := Lib.hid (below2 HB.out hb)
  clear hb LA LB
  go_wp2_with fail
  refine (Count_told _ _ (new 1) 1 _ LC.out).mono ?_
  rintro e V ⟨rfl, hb⟩
  rw [show count 1 (new 1) = 0 from by decide +kernel]
  have LC := Lib.hid (LC.out.kept hb)
  have LD := Lib.hid (LD.out.kept hb)
  have HB := Lib.hid (below2 HB.out hb)
  clear hb
  go_wp2_with fail
  refine (Same_told _ _ (new 1) _ _ (new 1) true (by simp) _ LC.out LD.out).mono ?_
  rintro e V ⟨rfl, hb⟩
  have HB := Lib.hid (below2 HB.out hb)
  clear hb LC LD
  go_wp2_with fail
  refine (Due_told ⟨1, ⟨#[]⟩, 0, 0⟩ 1 true (by decide) _).mono ?_
  rintro e V ⟨rfl, hb⟩
  have HB := Lib.hid (below2 HB.out hb)
  clear hb
  go_wp2_with fail
  refine (Due_told ⟨2, ⟨#[]⟩, 0, 0⟩ 1 false (by decide) _).mono ?_
  rintro e V ⟨rfl, hb⟩
  have HB := Lib.hid (below2 HB.out hb)
  clear hb
  go_wp2_with fail
  go_ret
  exact ⟨rfl, HB.out⟩
end Go.Proofs.Yticpjccfpmaikaa.Swp
