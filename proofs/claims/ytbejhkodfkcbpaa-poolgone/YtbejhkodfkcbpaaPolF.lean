/-
  Pools: the document's Sorted, Same and Ints (package gangplankref08).
-/
import Derived.Test.YtbejhkodfkcbpaaPolE
namespace Go.Proofs.Ytbejhkodfkcbpaa.Pol
open Go.RowKit Go.Shelf Rgn

theorem ins_length (bs : List Bk) (y : Bk) : (ins bs y).length = bs.length + 1 := by
  induction bs with
  | nil => rfl
  | cons x bs ih => unfold ins; split <;> simp [ih]
theorem sorted_more (bs : List Bk) (x : Bk) : sorted (bs ++ [x]) = ins (sorted bs) x := by simp [sorted]
theorem sorted_length (bs : List Bk) : (sorted bs).length = bs.length := by
  have h : ∀ (bs os : List Bk), (bs.foldl ins os).length = os.length + bs.length := by
    intro bs
    induction bs with
    | nil => intro os; rfl
    | cons x bs ih => intro os; rw [List.foldl_cons, ih, ins_length, List.length_cons]; omega
  unfold sorted; rw [h]; simp

set_option maxRecDepth 100000 in
set_option maxHeartbeats 4000000 in
theorem refSorted_any (a : Option Addr) (cap : Nat) (bs : List Bk) (w : World) (h : Lies w a cap bs) (hl : bs.length ≤ 1000000000000) :
    Calls Try.prog 12 #[polV a cap bs] w fun e W' => ∃ v, e = .returned v ∧ Own w.heap.size W' v (sorted bs) ∧ Below w.heap.size w W' := by
  have H := Lib.hid h
  clear h
  go_enter Try.func12, Try.ntmps12
  go_wp2
  go_loopw [3, 4] (fun v i W => ∃ k : Nat, k ≤ bs.length ∧ i = .int .i64 k ∧ Own w.heap.size W v (sorted (bs.take k)) ∧ Below w.heap.size w W) (fun _ i _ => bs.length - (intOf i).toNat)
  case atStart => exact ⟨0, Nat.zero_le _, rfl, own_nil _ _, Below.refl _ _⟩
  case round =>
    obtain ⟨k, hk, rfl, ho, hB⟩ := hrel
    have HB := Lib.hid hB
    by_cases hlt : k < bs.length
    · obtain ⟨b, off, rfl, c0, c1⟩ := (H.out.kept HB.out).at hlt
      have hC := H.out.len
      have hM := H.out.max
      unfold maxLen at hM
      have HT := Lib.hid (show sorted (bs.take (k + 1)) = ins (sorted (bs.take k)) bs[k] by rw [List.take_succ_eq_append_getElem hlt, sorted_more])
      have hz : (sorted (bs.take k)).length ≤ bs.length := by rw [sorted_length]; exact List.length_take_le' ..
      generalize bs[k] = x at *
      generalize sorted (bs.take k) = os at *
      obtain ⟨ao, co, rfl, hlo⟩ := ho.lies
      have PU := Lib.hid (refput_any ao co os x wr hlo (by omega))
      clear ho hlo hB
      go_wp2_with fail
      refine PU.out.mono ?_
      rintro e w2 ⟨v2, rfl, ho2, hb2⟩
      have HO2 := Lib.hid (own_less HB.out.size ho2)
      have HB2 := Lib.hid (below2 HB.out hb2)
      clear ho2 hb2 PU
      go_wp2
      refine ⟨⟨k + 1, by omega, by go_num, by rw [HT.out]; exact HO2.out, HB2.out⟩, by simp [intOf]; omega⟩
    · have HO := Lib.hid ho
      have HK := Lib.hid (show sorted (bs.take k) = sorted bs by rw [List.take_of_length_le (by omega)])
      clear ho hB
      go_wp2
      go_ret
      exact ⟨_, rfl, by rw [← HK.out]; exact HO.out, HB.out⟩

/-- How two backends are compared. -/
theorem bk_cmp (x y : Bk) (c : Bool) (h : x = y ↔ c = true) (W : World) : (Op.equalIn 10000 24 (.agg #[.int .i64 x.1, .int .i64 x.2]) (.agg #[.int .i64 y.1, .int .i64 y.2])).run Try.prog W = .ok c W := by
  rw [Prod.ext_iff] at h
  go_simp
  cases c <;> (repeat' split) <;> simp_all

set_option maxRecDepth 100000 in
set_option maxHeartbeats 4000000 in
theorem refSame_any (a : Option Addr) (cap : Nat) (bs : List Bk) (a' : Option Addr) (cap' : Nat) (bs' : List Bk) (c : Bool) (hc : bs = bs' ↔ c = true) (w : World) (h : Lies w a cap bs) (h' : Lies w a' cap' bs') :
    Calls Try.prog 10 #[polV a cap bs, polV a' cap' bs'] w fun e W' => e = .returned (.bool c) ∧ Below w.heap.size w W' := by
  have H := Lib.hid h
  have H' := Lib.hid h'
  have HC := Lib.hid hc
  have hlen := h.len
  have hmax := h.max
  have hlen' := h'.len
  have hmax' := h'.max
  unfold maxLen at hmax hmax'
  clear h h' hc
  by_cases hL : bs.length = bs'.length
  · have e0 : ((bs.length : Int) != (bs'.length : Int)) = false := by simp [hL]
    have HL := Lib.hid hL
    clear hL
    go_enter Try.func10, Try.ntmps10
    go_wp2
    go_loopw [5] (fun i W => ∃ k : Nat, k ≤ bs.length ∧ i = .int .i64 k ∧ (∀ j, j < k → bs[j]? = bs'[j]?) ∧ Below w.heap.size w W) (fun i _ => bs.length - (intOf i).toNat)
    case atStart => exact ⟨0, Nat.zero_le _, rfl, fun j hj => absurd hj (by omega), Below.refl _ _⟩
    case round =>
      obtain ⟨k, hk, rfl, hno, hB⟩ := hrel
      have HN := Lib.hid hno
      have HB := Lib.hid hB
      clear hno hB
      by_cases hlt : k < bs.length
      · obtain ⟨b, off, rfl, c0, c1⟩ := (H.out.kept HB.out).at hlt
        have hlt' : k < bs'.length := HL.out ▸ hlt
        obtain ⟨b', off', rfl, c0', c1'⟩ := (H'.out.kept HB.out).at hlt'
        have HI := Lib.hid (show bs[k]? = some bs[k] from List.getElem?_eq_getElem hlt)
        have HI' := Lib.hid (show bs'[k]? = some bs'[k] from List.getElem?_eq_getElem hlt')
        generalize bs[k] = x at *
        generalize bs'[k] = y at *
        by_cases hx : x = y
        · have CC := bk_cmp x y true (by simp [hx])
          have HE := Lib.hid (show bs[k]? = bs'[k]? by rw [HI.out, HI'.out, hx])
          clear hx
          go_wp2_with fail
          go_quiet (fail)
          have HB2 := Lib.hid (below_drewN HB.out nq)
          go_wp2
          refine ⟨⟨k + 1, by omega, by go_num, fun j hj => ?_, HB2.out⟩, by simp [intOf]; omega⟩
          by_cases e : j = k
          · subst e; exact HE.out
          · exact HN.out j (by omega)
        · have CC := bk_cmp x y false (by simp [hx])
          have HF := Lib.hid (show c = false by
            cases c with
            | false => rfl
            | true =>
              have e := HC.out.2 rfl
              have h1 := HI.out
              rw [e, HI'.out] at h1
              cases h1; exact absurd rfl hx)
          clear hx
          go_wp2_with fail
          go_quiet (fail)
          have HB2 := Lib.hid (below_drewN HB.out nq)
          go_wp2
          go_ret
          exact ⟨by rw [HF.out]; rfl, HB2.out⟩
      · have HF := Lib.hid (HC.out.1 (by
          apply List.ext_getElem?
          intro j
          by_cases hj : j < bs.length
          · exact HN.out j (by omega)
          · rw [List.getElem?_eq_none (by omega), List.getElem?_eq_none (by rw [← HL.out]; omega)]))
        go_wp2
        go_ret
        exact ⟨by rw [HF.out]; rfl, HB.out⟩
  · have e0 : ((bs.length : Int) != (bs'.length : Int)) = true := bne_iff_ne.2 (by omega)
    have HF := Lib.hid (show c = false by
      cases c with
      | false => rfl
      | true => exact absurd (congrArg List.length (HC.out.2 rfl)) hL)
    clear hL
    go_enter Try.func10, Try.ntmps10
    go_wp2
    go_ret
    exact ⟨by rw [HF.out]; rfl, Below.refl _ _⟩
end Go.Proofs.Ytbejhkodfkcbpaa.Pol
