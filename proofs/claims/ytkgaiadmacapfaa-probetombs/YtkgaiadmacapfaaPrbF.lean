/-
  The document's answer for probe (package gangplankref11): Find and Room.
-/
import Derived.Test.YtkgaiadmacapfaaPrbE
namespace Go.Proofs.Ytkgaiadmacapfaa.Prb
open Go.RowKit Go.Shelf RowG Tab

/-- The first steps of a way. -/
def firsts (T : List Ent) (j : Nat) : List (Fin T.length) := (List.finRange T.length).take j
theorem firsts_all (T : List Ent) {j : Nat} (hj : T.length ≤ j) : firsts T j = List.finRange T.length := List.take_of_length_le (by simpa using hj)
theorem firsts_succ (T : List Ent) {j : Nat} (hj : j < T.length) : firsts T (j + 1) = firsts T j ++ [⟨j, hj⟩] := finTake_succ hj
theorem firsts_part (T : List Ent) (j : Nat) : ∃ l, firsts T j ++ l = List.finRange T.length := ⟨_, List.take_append_drop _ _⟩

theorem mod_at (h i n : Nat) (hs : h + i ≤ 9223372036854775807) : IntKind.i64.wrap ((h : Int) + (i : Int)) = (h : Int) + (i : Int) ∧ ((h : Int) + (i : Int)).tmod (n : Int) = (((h + i) % n : Nat) : Int) := by
  refine ⟨IntWalk.i64_in _ (by omega), ?_⟩
  rw [Int.tmod_eq_emod_of_nonneg (by omega), ← Int.natCast_add, ← Int.natCast_emod]

set_option maxRecDepth 100000 in
set_option maxHeartbeats 1000000 in
theorem refFind_any (a : Option Addr) (cap : Nat) (T : List Ent) (k : ByteArray) (w : World) (hT : Lies entK w a cap T) (hk : k.size ≤ 4611686018427387904) (hTl : T.length ≤ 4611686018427387904) :
    Calls Try.prog 13 #[rowV a cap T, .string k] w fun e W' => e = .returned (.int .i64 (zOf (find home T k))) ∧ w = W' := by
  have H := Lib.hid hT
  clear hT
  go_enter Try.func13, Try.ntmps13
  go_wp2_with fail
  refine (refHome_any k (T.length : Nat) _ hk (by simp [Lit.wf, IntKind.min, IntKind.max, IntKind.signed, IntKind.bits]; omega)).mono ?_
  rintro e w1 ⟨rfl, rfl⟩
  go_wp2
  obtain ⟨q0, hq0, hz0⟩ : ∃ q : Nat, homeZ k (T.length : Nat) = (q : Int) ∧ (0 < T.length → q = home k T.length) := by
    by_cases hn : 0 < T.length
    · exact ⟨home k T.length, homeZ_nat k hn, fun _ => rfl⟩
    · exact ⟨0, homeZ_low k (by omega), fun h => absurd h hn⟩
  rw [hq0]
  clear hq0
  go_loop [6] (fun i => ∃ j : Nat, j ≤ T.length ∧ i = .int .i64 j ∧ Passed T k (firsts T j)) (fun i => T.length - (intOf i).toNat)
  case atStart => exact ⟨0, Nat.zero_le _, rfl, passed_nil⟩
  case round =>
    obtain ⟨j, hj, rfl, hP⟩ := hrel
    by_cases hlt : j < T.length
    · have hn : 0 < T.length := by omega
      obtain rfl := hz0 hn
      have hhl := home_lt k hn
      have hql := pl_lt T k j hn
      have M0 := Lib.hid (fun h0 => hP.empty (x := ⟨j, hlt⟩) h0)
      have M1 := Lib.hid (fun h1 => hP.hit (x := ⟨j, hlt⟩) h1)
      have M2 := Lib.hid (fun h0 h1 => hP.more (x := ⟨j, hlt⟩) h0 h1)
      have HS := Lib.hid (firsts_succ T hlt)
      obtain ⟨e1, e2⟩ := mod_at (home k T.length) j T.length (by omega)
      have e2' : ((home k T.length : Int) + (j : Int)).tmod (T.length : Int) = ((pl T k j : Nat) : Int) := e2
      have hne : (T.length : Int) ≠ 0 := by omega
      obtain ⟨b, off, rfl, c0, c1, c2, c3⟩ := H.out.ent hql
      rw [← ent_at hql] at c0 c1 c2 c3
      have HP := Lib.hid (firsts_part T (j + 1))
      clear hP hz0 e2
      generalize pl T k j = q at *
      generalize ent T q = e at *
      generalize home k T.length = h at *
      by_cases s0 : e.st = 0
      · have d0 : (e.st == 0) = true := by simpa using s0
        have HF := Lib.hid (Told.find (HS.out ▸ M0.out s0) HP.out)
        clear M0 M1 M2 HS HP
        go_wp2_with fail
        go_ret
        exact ⟨by rw [HF.out]; rfl, rfl⟩
      · have d0 : (e.st == 0) = false := by simpa using s0
        by_cases s1 : e.st = 1
        · have d1 : (e.st == 1) = true := by simpa using s1
          by_cases s2 : e.key = k
          · have d2 : (e.key.toList == k.toList) = true := by rw [text_cmp]; exact decide_eq_true s2
            have HF := Lib.hid (Told.find (HS.out ▸ M1.out ⟨s1, s2⟩) HP.out)
            clear M0 M1 M2 HS HP s0 s1 s2
            go_wp2_with fail
            go_ret
            exact ⟨by rw [HF.out]; rfl, rfl⟩
          · have d2 : (e.key.toList == k.toList) = false := by rw [text_cmp]; exact decide_eq_false s2
            have MM := Lib.hid (M2.out s0 (fun h => s2 h.2))
            clear M0 M1 M2 HP s0 s1 s2
            go_wp2_with fail
            exact ⟨⟨j + 1, by omega, by go_num, by rw [HS.out]; exact MM.out⟩, by simp [intOf]; omega⟩
        · have d1 : (e.st == 1) = false := by simpa using s1
          have MM := Lib.hid (M2.out s0 (fun h => s1 h.1))
          clear M0 M1 M2 HP s0 s1
          go_wp2_with fail
          exact ⟨⟨j + 1, by omega, by go_num, by rw [HS.out]; exact MM.out⟩, by simp [intOf]; omega⟩
    · have hj' := firsts_all T (show T.length ≤ j by omega)
      rw [hj'] at hP
      have HF := Lib.hid hP.find
      clear hj' hP
      go_wp2
      go_ret
      exact ⟨by rw [HF.out]; rfl, rfl⟩

set_option maxRecDepth 100000 in
set_option maxHeartbeats 1000000 in
theorem refRoom_any (a : Option Addr) (cap : Nat) (T : List Ent) (k : ByteArray) (w : World) (hT : Lies entK w a cap T) (hk : k.size ≤ 4611686018427387904) (hTl : T.length ≤ 4611686018427387904) :
    Calls Try.prog 15 #[rowV a cap T, .string k] w fun e W' => e = .returned (.int .i64 (zOf (room home T k))) ∧ w = W' := by
  have C := Lib.hid (refFind_any a cap T k w hT hk hTl)
  have H := Lib.hid hT
  clear hT
  go_enter Try.func15, Try.ntmps15
  go_wp2_with fail
  refine C.out.mono ?_
  rintro e w1 ⟨rfl, rfl⟩
  cases hf : Tab.find home T k with
  | some q =>
    have d1 : decide (0 ≤ zOf (some q)) = true := by simp [zOf]
    have HF := Lib.hid (room_found hf)
    clear hf
    go_wp2_with fail
    go_ret
    exact ⟨by rw [HF.out]; rfl, rfl⟩
  | none =>
    have d1 : decide (0 ≤ zOf none) = false := by simp [zOf]
    have HFN := Lib.hid hf
    clear hf
    go_wp2_with fail
    refine (refHome_any k (T.length : Nat) _ hk (by simp [Lit.wf, IntKind.min, IntKind.max, IntKind.signed, IntKind.bits]; omega)).mono ?_
    rintro e w1 ⟨rfl, rfl⟩
    go_wp2
    obtain ⟨q0, hq0, hz0⟩ : ∃ q : Nat, homeZ k (T.length : Nat) = (q : Int) ∧ (0 < T.length → q = home k T.length) := by
      by_cases hn : 0 < T.length
      · exact ⟨home k T.length, homeZ_nat k hn, fun _ => rfl⟩
      · exact ⟨0, homeZ_low k (by omega), fun h => absurd h hn⟩
    rw [hq0]
    clear hq0
    go_loop [6] (fun i => ∃ j : Nat, j ≤ T.length ∧ i = .int .i64 j ∧ Full T k (firsts T j)) (fun i => T.length - (intOf i).toNat)
    case atStart => exact ⟨0, Nat.zero_le _, rfl, full_nil⟩
    case round =>
      obtain ⟨j, hj, rfl, hP⟩ := hrel
      by_cases hlt : j < T.length
      · have hn : 0 < T.length := by omega
        obtain rfl := hz0 hn
        have hhl := home_lt k hn
        have hql := pl_lt T k j hn
        have M0 := Lib.hid (fun h0 => hP.free (x := ⟨j, hlt⟩) h0)
        have M1 := Lib.hid (fun h1 => hP.more (x := ⟨j, hlt⟩) h1)
        have HS := Lib.hid (firsts_succ T hlt)
        obtain ⟨e1, e2⟩ := mod_at (home k T.length) j T.length (by omega)
        have e2' : ((home k T.length : Int) + (j : Int)).tmod (T.length : Int) = ((pl T k j : Nat) : Int) := e2
        have hne : (T.length : Int) ≠ 0 := by omega
        obtain ⟨b, off, rfl, c0, c1, c2, c3⟩ := H.out.ent hql
        rw [← ent_at hql] at c0 c1 c2 c3
        have HP := Lib.hid (firsts_part T (j + 1))
        clear hP hz0 e2
        generalize pl T k j = q at *
        generalize ent T q = e at *
        generalize home k T.length = h at *
        by_cases s1 : e.st = 1
        · have d2 : (e.st != 1) = false := by simpa using s1
          have MM := Lib.hid (M1.out s1)
          clear M0 M1 HP s1
          go_wp2_with fail
          exact ⟨⟨j + 1, by omega, by go_num, by rw [HS.out]; exact MM.out⟩, by simp [intOf]; omega⟩
        · have d2 : (e.st != 1) = true := by simpa using s1
          have HF := Lib.hid (ToldR.room (HS.out ▸ M0.out s1) HP.out HFN.out)
          clear M0 M1 HS HP s1
          go_wp2_with fail
          go_ret
          exact ⟨by rw [HF.out]; rfl, rfl⟩
      · have hj' := firsts_all T (show T.length ≤ j by omega)
        rw [hj'] at hP
        have HF := Lib.hid (hP.room HFN.out)
        clear hj' hP
        go_wp2
        go_ret
        exact ⟨by rw [HF.out]; rfl, rfl⟩
end Go.Proofs.Ytkgaiadmacapfaa.Prb
