/-
  The document's answer for probe (package gangplankref11).
-/
import Derived.Test.YtbamodkgagcmnaaGreatBPrbD
set_option maxRecDepth 100000
namespace Go.Proofs.YtbamodkgagcmnaaGreat.Prb
open Go.RowKit Go.Shelf RowG Tab

set_option maxHeartbeats 400000 in
theorem refHome_any (k : ByteArray) (n : Int) (w : World) (hk : k.size ≤ 4611686018427387904) (hn : (Lit.int .i64 n).wf = true) :
    Calls Tryz.prog 98 #[.string k, .int .i64 n] w fun e W' => e = .returned (.int .i64 (homeZ k n)) ∧ w = W' := by
  have hr : -9223372036854775808 ≤ n ∧ n ≤ 9223372036854775807 := by simpa [Lit.wf, IntKind.min, IntKind.max, IntKind.signed, IntKind.bits] using hn
  go_enter Tryz.func98, Tryz.ntmps98
  by_cases h1 : n < 1
  · have d1 : decide (n < 1) = true := by simpa using h1
    go_wp2_with fail
    go_ret
    exact ⟨by rw [homeZ_low k h1]; rfl, rfl⟩
  · have d1 : decide (n < 1) = false := by simpa using h1
    obtain ⟨m, rfl⟩ := Int.eq_ofNat_of_zero_le (show 0 ≤ n by omega)
    have hm0 : 0 < m := by omega
    have HH := Lib.hid (homeZ_nat k hm0)
    unfold home at HH
    obtain ⟨e2, e3⟩ := sum_mod (Fnv.jn 14695981039346656037 k.data.toList) m hm0 (by omega)
    have E3 := Lib.hid e3
    clear e3
    have hne : (m : Int) ≠ 0 := by omega
    go_wp2_with fail
    refine (Fnv.refSum_any k _ hk).mono ?_
    rintro e w1 ⟨rfl, rfl⟩
    go_wp2_with fail
    go_ret
    exact ⟨by rw [HH.out, ← E3.out]; rfl, rfl⟩

set_option maxRecDepth 100000 in
set_option maxHeartbeats 4000000 in
theorem refSame_any (a : Option Addr) (cap : Nat) (bs : List Ent) (a' : Option Addr) (cap' : Nat) (bs' : List Ent) (c : Bool) (hc : bs = bs' ↔ c = true) (w : World) (h : Lies entK w a cap bs) (h' : Lies entK w a' cap' bs') :
    Calls Tryz.prog 21 #[rowV a cap bs, rowV a' cap' bs'] w fun e W' => e = .returned (.bool c) ∧ Below w.heap.size w W' := by
  have H := Lib.hid h
  have H' := Lib.hid h'
  have HC := Lib.hid hc
  have hlen := h.len
  have hmax := h.max
  have hlen' := h'.len
  have hmax' := h'.max
  unfold maxLen at hmax hmax'
  clear h h' hc
  by_cases hL : bs.length = bs'.length
  · have e0 : ((bs.length : Int) != (bs'.length : Int)) = false := by simp [hL]
    have HL := Lib.hid hL
    clear hL
    go_enter Tryz.func21, Tryz.ntmps21
    go_wp2
    go_loopw [5] (fun i W => ∃ k : Nat, k ≤ bs.length ∧ i = .int .i64 k ∧ (∀ j, j < k → bs[j]? = bs'[j]?) ∧ Below w.heap.size w W) (fun i _ => bs.length - (intOf i).toNat)
    case atStart => exact ⟨0, Nat.zero_le _, rfl, fun j hj => absurd hj (by omega), Below.refl _ _⟩
    case round =>
      obtain ⟨k, hk, rfl, hno, hB⟩ := hrel
      have HN := Lib.hid hno
      have HB := Lib.hid hB
      clear hno hB
      by_cases hlt : k < bs.length
      · obtain ⟨b, off, rfl, c0, c1, c2, c3⟩ := (H.out.kept HB.out).ent hlt
        have hlt' : k < bs'.length := HL.out ▸ hlt
        obtain ⟨b', off', rfl, c0', c1', c2', c3'⟩ := (H'.out.kept HB.out).ent hlt'
        have HI := Lib.hid (show bs[k]? = some bs[k] from List.getElem?_eq_getElem hlt)
        have HI' := Lib.hid (show bs'[k]? = some bs'[k] from List.getElem?_eq_getElem hlt')
        generalize bs[k] = x at *
        generalize bs'[k] = y at *
        by_cases hx : x = y
        · have CC := ent_cmp x y true (by simp [hx])
          have HE := Lib.hid (show bs[k]? = bs'[k]? by rw [HI.out, HI'.out, hx])
          clear hx
          go_wp2_with fail
          go_quiet (fail)
          have HB2 := Lib.hid (below_drewN HB.out nq)
          go_wp2
          refine ⟨⟨k + 1, by omega, by go_num, fun j hj => ?_, HB2.out⟩, by simp [intOf]; omega⟩
          by_cases e : j = k
          · subst e; exact HE.out
          · exact HN.out j (by omega)
        · have CC := ent_cmp x y false (by simp [hx])
          have HF := Lib.hid (show c = false by
            cases c with
            | false => rfl
            | true =>
              have e := HC.out.2 rfl
              have h1 := HI.out
              rw [e, HI'.out] at h1
              cases h1; exact absurd rfl hx)
          clear hx
          go_wp2_with fail
          go_quiet (fail)
          have HB2 := Lib.hid (below_drewN HB.out nq)
          go_wp2
          go_ret
          exact ⟨by rw [HF.out]; rfl, HB2.out⟩
      · have HF := Lib.hid (HC.out.1 (by
          apply List.ext_getElem?
          intro j
          by_cases hj : j < bs.length
          · exact HN.out j (by omega)
          · rw [List.getElem?_eq_none (by omega), List.getElem?_eq_none (by rw [← HL.out]; omega)]))
        go_wp2
        go_ret
        exact ⟨by rw [HF.out]; rfl, HB.out⟩
  · have e0 : ((bs.length : Int) != (bs'.length : Int)) = true := bne_iff_ne.2 (by omega)
    have HF := Lib.hid (show c = false by
      cases c with
      | false => rfl
      | true => exact absurd (congrArg List.length (HC.out.2 rfl)) hL)
    clear hL
    go_enter Tryz.func21, Tryz.ntmps21
    go_wp2
    go_ret
    exact ⟨by rw [HF.out]; rfl, Below.refl _ _⟩

set_option maxRecDepth 100000 in
set_option maxHeartbeats 1000000 in
theorem refCount_any (a : Option Addr) (cap : Nat) (T : List Ent) (s : Int) (w : World) (hT : Lies entK w a cap T) :
    Calls Tryz.prog 51 #[rowV a cap T, .int .i64 s] w fun e W' => e = .returned (.int .i64 (count s T : Nat)) ∧ w = W' := by
  have hmx := hT.max
  have hln := hT.len
  unfold maxLen at hmx
  have H := Lib.hid hT
  clear hT
  go_enter Tryz.func51, Tryz.ntmps51
  go_wp2
  go_loop [5, 6] (fun v i => ∃ j : Nat, j ≤ T.length ∧ i = .int .i64 j ∧ v = .int .i64 (count s (T.take j) : Nat)) (fun _ i => T.length - (intOf i).toNat)
  case atStart => exact ⟨0, Nat.zero_le _, rfl, rfl⟩
  case round =>
    obtain ⟨j, hj, rfl, rfl⟩ := hrel
    by_cases hlt : j < T.length
    · obtain ⟨b, off, rfl, c0, c1, c2, c3⟩ := H.out.ent hlt
      have HK := Lib.hid (count_take (s := s) hlt)
      have hcl : count s (T.take j) ≤ j := Nat.le_trans (count_le _ _) (by rw [List.length_take]; omega)
      generalize count s (T.take j) = q at *
      generalize T[j] = x at *
      by_cases hx : x.st = s
      · have d1 : (x.st == s) = true := by simpa using hx
        have HK2 := Lib.hid (HK.out.trans (by rw [if_pos d1]))
        clear HK hx
        go_wp2_with fail
        exact ⟨⟨j + 1, by omega, by go_num, by rw [HK2.out]; go_num⟩, by simp [intOf]; omega⟩
      · have d1 : (x.st == s) = false := by simpa using hx
        have HK2 := Lib.hid (HK.out.trans (by rw [if_neg (by rw [d1]; simp)]))
        clear HK hx
        go_wp2_with fail
        exact ⟨⟨j + 1, by omega, by go_num, by rw [HK2.out]; go_num⟩, by simp [intOf]; omega⟩
    · have hj' : j = T.length := by omega
      have HJ := Lib.hid (show count s (T.take j) = count s T by rw [hj', List.take_length])
      clear hj'
      go_wp2
      go_ret
      exact ⟨by rw [← HJ.out]; rfl, rfl⟩

/-- Few entries, with short keys. -/
def few (T : List Ent) : Prop := T.length ≤ 80 ∧ ∀ x ∈ T, x.key.size ≤ 60
instance (T : List Ent) : Decidable (few T) := inferInstanceAs (Decidable (_ ∧ _))
set_option maxRecDepth 100000 in
set_option maxHeartbeats 1000000 in
theorem refFew_any (a : Option Addr) (cap : Nat) (T : List Ent) (w : World) (hT : Lies entK w a cap T) (hk : ∀ x ∈ T, EntOk x) :
    Calls Tryz.prog 23 #[rowV a cap T] w fun e W' => e = .returned (.bool (decide (few T))) ∧ w = W' := by
  have hmx := hT.max
  have hln := hT.len
  unfold maxLen at hmx
  have H := Lib.hid hT
  clear hT
  go_enter Tryz.func23, Tryz.ntmps23
  by_cases h80 : T.length ≤ 80
  · have d0 : decide ((80 : Int) < (T.length : Int)) = false := by simp; omega
    go_wp2
    go_loop [3] (fun i => ∃ j : Nat, j ≤ T.length ∧ i = .int .i64 j ∧ ∀ x ∈ T.take j, x.key.size ≤ 60) (fun i => T.length - (intOf i).toNat)
    case atStart => exact ⟨0, Nat.zero_le _, rfl, fun x hx => by simp at hx⟩
    case round =>
      obtain ⟨j, hj, rfl, hno⟩ := hrel
      have HN := Lib.hid hno
      clear hno
      by_cases hlt : j < T.length
      · obtain ⟨b, off, rfl, c0, c1, c2, c3⟩ := H.out.ent hlt
        have hz := (hk _ (List.getElem_mem hlt)).key
        unfold maxLen at hz
        have HI := Lib.hid (List.take_succ_eq_append_getElem hlt)
        have HM := Lib.hid (List.getElem_mem hlt)
        generalize T[j] = x at *
        by_cases h60 : x.key.size ≤ 60
        · have d1 : decide ((60 : Int) < (x.key.size : Int)) = false := by simp; omega
          go_wp2_with fail
          refine ⟨⟨j + 1, by omega, by go_num, fun y hy => ?_⟩, by simp [intOf]; omega⟩
          rw [HI.out, List.mem_append] at hy
          rcases hy with hy | hy
          · exact HN.out y hy
          · simp at hy; subst hy; exact h60
        · have d1 : decide ((60 : Int) < (x.key.size : Int)) = true := by simp; omega
          have HF := Lib.hid (show decide (few T) = false from decide_eq_false fun h => h60 (h.2 _ HM.out))
          clear h60
          go_wp2_with fail
          go_ret
          exact ⟨by rw [HF.out]; rfl, rfl⟩
      · have HF := Lib.hid (show decide (few T) = true from decide_eq_true ⟨h80, fun x hx => HN.out x (by rw [List.take_of_length_le (by omega)]; exact hx)⟩)
        go_wp2
        go_ret
        exact ⟨by rw [HF.out]; rfl, rfl⟩
  · have d0 : decide ((80 : Int) < (T.length : Int)) = true := by simp; omega
    have HF := Lib.hid (show decide (few T) = false from decide_eq_false fun h => h80 h.1)
    clear h80
    go_wp2
    go_ret
    exact ⟨by rw [HF.out]; rfl, rfl⟩
end Go.Proofs.YtbamodkgagcmnaaGreat.Prb

namespace Go.Proofs.YtbamodkgagcmnaaGreat.Prb
open Go.RowKit Go.Shelf RowG Tab

/-- The first steps of a way. -/
def firsts (T : List Ent) (j : Nat) : List (Fin T.length) := (List.finRange T.length).take j
theorem firsts_all (T : List Ent) {j : Nat} (hj : T.length ≤ j) : firsts T j = List.finRange T.length := List.take_of_length_le (by simpa using hj)
theorem firsts_succ (T : List Ent) {j : Nat} (hj : j < T.length) : firsts T (j + 1) = firsts T j ++ [⟨j, hj⟩] := finTake_succ hj
theorem firsts_part (T : List Ent) (j : Nat) : ∃ l, firsts T j ++ l = List.finRange T.length := ⟨_, List.take_append_drop _ _⟩

theorem mod_at (h i n : Nat) (hs : h + i ≤ 9223372036854775807) : IntKind.i64.wrap ((h : Int) + (i : Int)) = (h : Int) + (i : Int) ∧ ((h : Int) + (i : Int)).tmod (n : Int) = (((h + i) % n : Nat) : Int) := by
  refine ⟨IntWalk.i64_in _ (by omega), ?_⟩
  rw [Int.tmod_eq_emod_of_nonneg (by omega), ← Int.natCast_add, ← Int.natCast_emod]

set_option maxRecDepth 100000 in
set_option maxHeartbeats 1000000 in
theorem refFind_any (a : Option Addr) (cap : Nat) (T : List Ent) (k : ByteArray) (w : World) (hT : Lies entK w a cap T) (hk : k.size ≤ 4611686018427387904) (hTl : T.length ≤ 4611686018427387904) :
    Calls Tryz.prog 59 #[rowV a cap T, .string k] w fun e W' => e = .returned (.int .i64 (zOf (find home T k))) ∧ w = W' := by
  have H := Lib.hid hT
  clear hT
  go_enter Tryz.func59, Tryz.ntmps59
  go_wp2_with fail
  refine (refHome_any k (T.length : Nat) _ hk (by simp [Lit.wf, IntKind.min, IntKind.max, IntKind.signed, IntKind.bits]; omega)).mono ?_
  rintro e w1 ⟨rfl, rfl⟩
  go_wp2
  obtain ⟨q0, hq0, hz0⟩ : ∃ q : Nat, homeZ k (T.length : Nat) = (q : Int) ∧ (0 < T.length → q = home k T.length) := by
    by_cases hn : 0 < T.length
    · exact ⟨home k T.length, homeZ_nat k hn, fun _ => rfl⟩
    · exact ⟨0, homeZ_low k (by omega), fun h => absurd h hn⟩
  rw [hq0]
  clear hq0
  go_loop [6] (fun i => ∃ j : Nat, j ≤ T.length ∧ i = .int .i64 j ∧ Passed T k (firsts T j)) (fun i => T.length - (intOf i).toNat)
  case atStart => exact ⟨0, Nat.zero_le _, rfl, passed_nil⟩
  case round =>
    obtain ⟨j, hj, rfl, hP⟩ := hrel
    by_cases hlt : j < T.length
    · have hn : 0 < T.length := by omega
      obtain rfl := hz0 hn
      have hhl := home_lt k hn
      have hql := pl_lt T k j hn
      have M0 := Lib.hid (fun h0 => hP.empty (x := ⟨j, hlt⟩) h0)
      have M1 := Lib.hid (fun h1 => hP.hit (x := ⟨j, hlt⟩) h1)
      have M2 := Lib.hid (fun h0 h1 => hP.more (x := ⟨j, hlt⟩) h0 h1)
      have HS := Lib.hid (firsts_succ T hlt)
      obtain ⟨e1, e2⟩ := mod_at (home k T.length) j T.length (by omega)
      have e2' : ((home k T.length : Int) + (j : Int)).tmod (T.length : Int) = ((pl T k j : Nat) : Int) := e2
      have hne : (T.length : Int) ≠ 0 := by omega
      obtain ⟨b, off, rfl, c0, c1, c2, c3⟩ := H.out.ent hql
      rw [← ent_at hql] at c0 c1 c2 c3
      have HP := Lib.hid (firsts_part T (j + 1))
      clear hP hz0 e2
      generalize pl T k j = q at *
      generalize ent T q = e at *
      generalize home k T.length = h at *
      by_cases s0 : e.st = 0
      · have d0 : (e.st == 0) = true := by simpa using s0
        have HF := Lib.hid (Told.find (HS.out ▸ M0.out s0) HP.out)
        clear M0 M1 M2 HS HP
        go_wp2_with fail
        go_ret
        exact ⟨by rw [HF.out]; rfl, rfl⟩
      · have d0 : (e.st == 0) = false := by simpa using s0
        by_cases s1 : e.st = 1
        · have d1 : (e.st == 1) = true := by simpa using s1
          by_cases s2 : e.key = k
          · have d2 : (e.key.toList == k.toList) = true := by rw [text_cmp]; exact decide_eq_true s2
            have HF := Lib.hid (Told.find (HS.out ▸ M1.out ⟨s1, s2⟩) HP.out)
            clear M0 M1 M2 HS HP s0 s1 s2
            go_wp2_with fail
            go_ret
            exact ⟨by rw [HF.out]; rfl, rfl⟩
          · have d2 : (e.key.toList == k.toList) = false := by rw [text_cmp]; exact decide_eq_false s2
            have MM := Lib.hid (M2.out s0 (fun h => s2 h.2))
            clear M0 M1 M2 HP s0 s1 s2
            go_wp2_with fail
            exact ⟨⟨j + 1, by omega, by go_num, by rw [HS.out]; exact MM.out⟩, by simp [intOf]; omega⟩
        · have d1 : (e.st == 1) = false := by simpa using s1
          have MM := Lib.hid (M2.out s0 (fun h => s1 h.1))
          clear M0 M1 M2 HP s0 s1
          go_wp2_with fail
          exact ⟨⟨j + 1, by omega, by go_num, by rw [HS.out]; exact MM.out⟩, by simp [intOf]; omega⟩
    · have hj' := firsts_all T (show T.length ≤ j by omega)
      rw [hj'] at hP
      have HF := Lib.hid hP.find
      clear hj' hP
      go_wp2
      go_ret
      exact ⟨by rw [HF.out]; rfl, rfl⟩

set_option maxRecDepth 100000 in
set_option maxHeartbeats 1000000 in
theorem refRoom_any (a : Option Addr) (cap : Nat) (T : List Ent) (k : ByteArray) (w : World) (hT : Lies entK w a cap T) (hk : k.size ≤ 4611686018427387904) (hTl : T.length ≤ 4611686018427387904) :
    Calls Tryz.prog 102 #[rowV a cap T, .string k] w fun e W' => e = .returned (.int .i64 (zOf (room home T k))) ∧ w = W' := by
  have C := Lib.hid (refFind_any a cap T k w hT hk hTl)
  have H := Lib.hid hT
  clear hT
  go_enter Tryz.func102, Tryz.ntmps102
  go_wp2_with fail
  refine C.out.mono ?_
  rintro e w1 ⟨rfl, rfl⟩
  cases hf : Tab.find home T k with
  | some q =>
    have d1 : decide (0 ≤ zOf (some q)) = true := by simp [zOf]
    have HF := Lib.hid (room_found hf)
    clear hf
    go_wp2_with fail
    go_ret
    exact ⟨by rw [HF.out]; rfl, rfl⟩
  | none =>
    have d1 : decide (0 ≤ zOf none) = false := by simp [zOf]
    have HFN := Lib.hid hf
    clear hf
    go_wp2_with fail
    refine (refHome_any k (T.length : Nat) _ hk (by simp [Lit.wf, IntKind.min, IntKind.max, IntKind.signed, IntKind.bits]; omega)).mono ?_
    rintro e w1 ⟨rfl, rfl⟩
    go_wp2
    obtain ⟨q0, hq0, hz0⟩ : ∃ q : Nat, homeZ k (T.length : Nat) = (q : Int) ∧ (0 < T.length → q = home k T.length) := by
      by_cases hn : 0 < T.length
      · exact ⟨home k T.length, homeZ_nat k hn, fun _ => rfl⟩
      · exact ⟨0, homeZ_low k (by omega), fun h => absurd h hn⟩
    rw [hq0]
    clear hq0
    go_loop [6] (fun i => ∃ j : Nat, j ≤ T.length ∧ i = .int .i64 j ∧ Full T k (firsts T j)) (fun i => T.length - (intOf i).toNat)
    case atStart => exact ⟨0, Nat.zero_le _, rfl, full_nil⟩
    case round =>
      obtain ⟨j, hj, rfl, hP⟩ := hrel
      by_cases hlt : j < T.length
      · have hn : 0 < T.length := by omega
        obtain rfl := hz0 hn
        have hhl := home_lt k hn
        have hql := pl_lt T k j hn
        have M0 := Lib.hid (fun h0 => hP.free (x := ⟨j, hlt⟩) h0)
        have M1 := Lib.hid (fun h1 => hP.more (x := ⟨j, hlt⟩) h1)
        have HS := Lib.hid (firsts_succ T hlt)
        obtain ⟨e1, e2⟩ := mod_at (home k T.length) j T.length (by omega)
        have e2' : ((home k T.length : Int) + (j : Int)).tmod (T.length : Int) = ((pl T k j : Nat) : Int) := e2
        have hne : (T.length : Int) ≠ 0 := by omega
        obtain ⟨b, off, rfl, c0, c1, c2, c3⟩ := H.out.ent hql
        rw [← ent_at hql] at c0 c1 c2 c3
        have HP := Lib.hid (firsts_part T (j + 1))
        clear hP hz0 e2
        generalize pl T k j = q at *
        generalize ent T q = e at *
        generalize home k T.length = h at *
        by_cases s1 : e.st = 1
        · have d2 : (e.st != 1) = false := by simpa using s1
          have MM := Lib.hid (M1.out s1)
          clear M0 M1 HP s1
          go_wp2_with fail
          exact ⟨⟨j + 1, by omega, by go_num, by rw [HS.out]; exact MM.out⟩, by simp [intOf]; omega⟩
        · have d2 : (e.st != 1) = true := by simpa using s1
          have HF := Lib.hid (ToldR.room (HS.out ▸ M0.out s1) HP.out HFN.out)
          clear M0 M1 HS HP s1
          go_wp2_with fail
          go_ret
          exact ⟨by rw [HF.out]; rfl, rfl⟩
      · have hj' := firsts_all T (show T.length ≤ j by omega)
        rw [hj'] at hP
        have HF := Lib.hid (hP.room HFN.out)
        clear hj' hP
        go_wp2
        go_ret
        exact ⟨by rw [HF.out]; rfl, rfl⟩
end Go.Proofs.YtbamodkgagcmnaaGreat.Prb
