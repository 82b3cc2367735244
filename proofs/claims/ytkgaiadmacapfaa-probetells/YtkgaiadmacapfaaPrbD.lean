/-
  Package probe: Count and Same.
-/
import Derived.Test.YtkgaiadmacapfaaPrbC
import Derived.BigQuiet
import Derived.WalkSmall
namespace Go.Proofs.Ytkgaiadmacapfaa.Prb
open Go.RowKit Go.Shelf RowG Tab

/-- How two entries are compared. -/
theorem ent_cmp (x y : Ent) (c : Bool) (h : x = y ↔ c = true) (W : World) : (Op.equalIn 10000 31 (entV x) (entV y)).run Try.prog W = .ok c W := by
  obtain ⟨s, k, b, d⟩ := x
  obtain ⟨s', k', b', d'⟩ := y
  have hk := text_cmp k k'
  rw [Ent.mk.injEq] at h
  go_simp
  cases c <;> (repeat' split) <;> simp_all

set_option maxRecDepth 100000 in
set_option maxHeartbeats 4000000 in
theorem Equal_any (a : Option Addr) (cap : Nat) (bs : List Ent) (a' : Option Addr) (cap' : Nat) (bs' : List Ent) (c : Bool) (hc : bs = bs' ↔ c = true) (w : World) (h : Lies entK w a cap bs) (h' : Lies entK w a' cap' bs') :
    Calls Try.prog 26 #[rowV a cap bs, rowV a' cap' bs'] w fun e W' => e = .returned (.bool c) ∧ Below w.heap.size w W' := by
  have H := Lib.hid h
  have H' := Lib.hid h'
  have HC := Lib.hid hc
  have hlen := h.len
  have hmax := h.max
  have hlen' := h'.len
  have hmax' := h'.max
  unfold maxLen at hmax hmax'
  clear h h' hc
  by_cases hL : bs.length = bs'.length
  · have e0 : ((bs.length : Int) != (bs'.length : Int)) = false := by simp [hL]
    have HL := Lib.hid hL
    clear hL
    go_enter Try.func26, Try.ntmps26
    go_wp2
    go_loopw [13] (fun i W => ∃ k : Nat, k ≤ bs.length ∧ i = .int .i64 k ∧ (∀ j, j < k → bs[j]? = bs'[j]?) ∧ Below w.heap.size w W) (fun i _ => bs.length - (intOf i).toNat)
    case atStart => exact ⟨0, Nat.zero_le _, rfl, fun j hj => absurd hj (by omega), Below.refl _ _⟩
    case round =>
      obtain ⟨k, hk, rfl, hno, hB⟩ := hrel
      have HN := Lib.hid hno
      have HB := Lib.hid hB
      clear hno hB
      by_cases hlt : k < bs.length
      · obtain ⟨b, off, rfl, c0, c1, c2, c3⟩ := (H.out.kept HB.out).ent hlt
        have hlt' : k < bs'.length := HL.out ▸ hlt
        obtain ⟨b', off', rfl, c0', c1', c2', c3'⟩ := (H'.out.kept HB.out).ent hlt'
        have HI := Lib.hid (show bs[k]? = some bs[k] from List.getElem?_eq_getElem hlt)
        have HI' := Lib.hid (show bs'[k]? = some bs'[k] from List.getElem?_eq_getElem hlt')
        generalize bs[k] = x at *
        generalize bs'[k] = y at *
        by_cases hx : x = y
        · have CC := ent_cmp x y true (by simp [hx])
          have HE := Lib.hid (show bs[k]? = bs'[k]? by rw [HI.out, HI'.out, hx])
          clear hx
          go_wp2_with fail
          go_quiet (fail)
          have HB2 := Lib.hid (below_drewN HB.out nq)
          go_wp2
          refine ⟨⟨k + 1, by omega, by go_num, fun j hj => ?_, HB2.out⟩, by simp [intOf]; omega⟩
          by_cases e : j = k
          · subst e; exact HE.out
          · exact HN.out j (by omega)
        · have CC := ent_cmp x y false (by simp [hx])
          have HF := Lib.hid (show c = false by
            cases c with
            | false => rfl
            | true =>
              have e := HC.out.2 rfl
              have h1 := HI.out
              rw [e, HI'.out] at h1
              cases h1; exact absurd rfl hx)
          clear hx
          go_wp2_with fail
          go_quiet (fail)
          have HB2 := Lib.hid (below_drewN HB.out nq)
          go_wp2
          go_ret
          exact ⟨by rw [HF.out]; rfl, HB2.out⟩
      · have HF := Lib.hid (HC.out.1 (by
          apply List.ext_getElem?
          intro j
          by_cases hj : j < bs.length
          · exact HN.out j (by omega)
          · rw [List.getElem?_eq_none (by omega), List.getElem?_eq_none (by rw [← HL.out]; omega)]))
        go_wp2
        go_ret
        exact ⟨by rw [HF.out]; rfl, HB.out⟩
  · have e0 : ((bs.length : Int) != (bs'.length : Int)) = true := bne_iff_ne.2 (by omega)
    have HF := Lib.hid (show c = false by
      cases c with
      | false => rfl
      | true => exact absurd (congrArg List.length (HC.out.2 rfl)) hL)
    clear hL
    go_enter Try.func26, Try.ntmps26
    go_wp2
    go_ret
    exact ⟨by rw [HF.out]; rfl, Below.refl _ _⟩

set_option maxHeartbeats 2000000 in
theorem Same_told (a : Option Addr) (cap : Nat) (bs : List Ent) (a' : Option Addr) (cap' : Nat) (bs' : List Ent) (c : Bool) (hc : bs = bs' ↔ c = true) (w : World) (h : Lies entK w a cap bs) (h' : Lies entK w a' cap' bs') :
    Calls Try.prog 20 #[rowV a cap bs, rowV a' cap' bs'] w fun e W' => e = .returned (.bool c) ∧ Below w.heap.size w W' := by
  have C := Lib.hid (Equal_any a cap bs a' cap' bs' c hc w h h')
  clear h h' hc
  go_enter Try.func20, Try.ntmps20
  go_wp2_with fail
  refine C.out.mono ?_
  rintro e w1 ⟨rfl, hb⟩
  go_wp2_with fail
  go_ret
  exact ⟨rfl, hb⟩

set_option maxHeartbeats 400000 in
theorem Count1_told (x : Ent) (s : Int) (B : Nat) (w : World) (hc : w.cell? ⟨B, 0, none⟩ = some (.int .i64 s)) :
    Calls Try.prog 25 #[entV x, .pointer (some ⟨B, 0, none⟩)] w fun e W' => e = .returned (.bool (x.st == s)) ∧ Below w.heap.size w W' := by
  have hc2 := Fnv.cell_alloc_o (.cells #[.int .i64 x.st, .string x.key, .int .i64 x.be, .int .i64 x.dl] 31) hc
  go_enter Try.func25, Try.ntmps25
  go_wp2
  go_ret
  exact ⟨rfl, (Below.refl _ w).alloc (Nat.le_refl _) _⟩

theorem count_take {s : Int} {T : List Ent} {j : Nat} (hj : j < T.length) : count s (T.take (j + 1)) = count s (T.take j) + (if T[j].st == s then 1 else 0) := by
  unfold count
  rw [List.take_succ_eq_append_getElem hj, List.filter_append, List.length_append, List.filter_cons, List.filter_nil]
  split <;> rfl

set_option maxRecDepth 100000 in
set_option maxHeartbeats 1000000 in
theorem count_told (a : Option Addr) (cap : Nat) (T : List Ent) (s : Int) (B : Nat) (w : World) (hT : Lies entK w a cap T) (hc : w.cell? ⟨B, 0, none⟩ = some (.int .i64 s)) :
    Calls Try.prog 24 #[rowV a cap T, .func (.func 25) #[] #[.pointer (some ⟨B, 0, none⟩)]] w fun e W' => e = .returned (.int .i64 (count s T : Nat)) ∧ Below w.heap.size w W' := by
  have hmx := hT.max
  have hln := hT.len
  unfold maxLen at hmx
  have H := Lib.hid hT
  have HCC := Lib.hid hc
  clear hT hc
  go_enter Try.func24, Try.ntmps24
  go_wp2
  go_loopw [5, 10] (fun v i W => ∃ j : Nat, j ≤ T.length ∧ i = .int .i64 j ∧ v = .int .i64 (count s (T.take j) : Nat) ∧ Below w.heap.size w W) (fun _ i _ => T.length - (intOf i).toNat)
  case atStart => exact ⟨0, Nat.zero_le _, rfl, rfl, Below.refl _ _⟩
  case round =>
    obtain ⟨j, hj, rfl, rfl, hB⟩ := hrel
    have HB := Lib.hid hB
    clear hB
    by_cases hlt : j < T.length
    · obtain ⟨b, off, rfl, c0, c1, c2, c3⟩ := (H.out.kept HB.out).ent hlt
      have HK := Lib.hid (count_take (s := s) hlt)
      have hcl : count s (T.take j) ≤ j := Nat.le_trans (count_le _ _) (by rw [List.length_take]; omega)
      generalize count s (T.take j) = q at *
      generalize T[j] = x at *
      have b1 : Below wr.heap.size wr (wr.alloc (.cells #[.int .i64 x.st, .string x.key, .int .i64 x.be, .int .i64 x.dl] 31)) := (Below.refl _ wr).alloc (Nat.le_refl _) _
      have hcB := Lib.hid ((b1.cell (p := ⟨B, 0, none⟩) (Nat.lt_of_lt_of_le (World.block_lt_of_cell? w _ HCC.out) HB.out.size)).trans ((HB.out.cell (p := ⟨B, 0, none⟩) (World.block_lt_of_cell? w _ HCC.out)).trans HCC.out))
      have HB1 := Lib.hid (below2 HB.out b1)
      clear b1
      by_cases hx : x.st = s
      · have d1 : (x.st == s) = true := by simpa using hx
        have C := Lib.hid (Count1_told x s B _ hcB.out)
        rw [d1] at C
        have HK2 := Lib.hid (HK.out.trans (by rw [if_pos d1]))
        clear HK hx d1
        go_wp2_with fail
        refine C.out.mono ?_
        rintro e w2 ⟨rfl, hb2⟩
        have HB2 := Lib.hid (below2 HB1.out hb2)
        clear hb2
        go_wp2_with fail
        exact ⟨⟨j + 1, by omega, by go_num, by rw [HK2.out]; go_num, HB2.out⟩, by simp [intOf]; omega⟩
      · have d1 : (x.st == s) = false := by simpa using hx
        have C := Lib.hid (Count1_told x s B _ hcB.out)
        rw [d1] at C
        have HK2 := Lib.hid (HK.out.trans (by rw [if_neg (by rw [d1]; simp)]))
        clear HK hx d1
        go_wp2_with fail
        refine C.out.mono ?_
        rintro e w2 ⟨rfl, hb2⟩
        have HB2 := Lib.hid (below2 HB1.out hb2)
        clear hb2
        go_wp2_with fail
        exact ⟨⟨j + 1, by omega, by go_num, by rw [HK2.out]; go_num, HB2.out⟩, by simp [intOf]; omega⟩
    · have hj' : j = T.length := by omega
      have HJ := Lib.hid (show count s (T.take j) = count s T by rw [hj', List.take_length])
      clear hj'
      go_wp2
      go_ret
      exact ⟨by rw [← HJ.out]; rfl, HB.out⟩

set_option maxHeartbeats 400000 in
/-- How many entries have a state. -/
theorem Count_told (a : Option Addr) (cap : Nat) (T : List Ent) (s : Int) (w : World) (hT : Lies entK w a cap T) :
    Calls Try.prog 18 #[rowV a cap T, .int .i64 s] w fun e W' => e = .returned (.int .i64 (count s T : Nat)) ∧ Below w.heap.size w W' := by
  have b0 : Below w.heap.size w (w.alloc (.cells #[.int .i64 s] 3)) := (Below.refl _ w).alloc (Nat.le_refl _) _
  have C := Lib.hid (count_told a cap T s w.heap.size _ (hT.kept b0) (Fnv.cell_new_o w (.int .i64 s) 3).1)
  have HB := Lib.hid b0
  clear b0 hT
  go_enter Try.func18, Try.ntmps18
  go_wp2_with fail
  refine C.out.mono ?_
  rintro e w1 ⟨rfl, hb⟩
  go_wp2_with fail
  go_ret
  exact ⟨rfl, below2 HB.out hb⟩
end Go.Proofs.Ytkgaiadmacapfaa.Prb
