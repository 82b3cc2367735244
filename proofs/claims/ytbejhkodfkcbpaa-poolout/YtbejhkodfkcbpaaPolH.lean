/-
  Pools: the document's Gone (package gangplankref08).
-/
import Derived.Test.YtbejhkodfkcbpaaPolG
namespace Go.Proofs.Ytbejhkodfkcbpaa.Pol
open Go.RowKit Go.Shelf Rgn

/-- The Id of the last one. -/
def lastId (t : List Bk) : Option Int := t.getLast?.map (·.1)
/-- Is x's Id told behind t? -/
def tells (bs' : List Bk) (t : List Bk) (x : Bk) : Bool := decide (find bs' x.1 0 < 0) && decide (lastId t ≠ some x.1)
/-- The Ids of a row in order that are none of bs', each once. -/
def gonL (bs' : List Bk) (t : List Bk) : List Bk → List Int
  | [] => []
  | x :: s => (if tells bs' t x then [x.1] else []) ++ gonL bs' (t ++ [x]) s
def gone (bs bs' : List Bk) : List Int := gonL bs' [] (sorted bs)
theorem gonL_more (bs' : List Bk) (x : Bk) (s : List Bk) : ∀ t, gonL bs' t (s ++ [x]) = gonL bs' t s ++ (if tells bs' (t ++ s) x then [x.1] else []) := by
  induction s with
  | nil => intro t; simp [gonL]
  | cons y s ih =>
    intro t
    rw [List.cons_append]
    unfold gonL
    rw [ih, List.append_assoc, List.append_assoc]; rfl
theorem gonL_length (bs' : List Bk) (s : List Bk) : ∀ t, (gonL bs' t s).length ≤ s.length := by
  induction s with
  | nil => intro t; exact Nat.le_refl _
  | cons y s ih =>
    intro t
    unfold gonL
    rw [List.length_append, List.length_cons]
    have := ih (t ++ [y])
    split
    · rw [List.length_singleton]; omega
    · simp; omega
theorem lastId_take (s : List Bk) (j : Nat) (h : j < s.length) : lastId (s.take (j + 1)) = some s[j].1 := by
  unfold lastId
  rw [List.take_succ_eq_append_getElem h, List.getLast?_append]
  rfl

set_option maxRecDepth 100000 in
set_option maxHeartbeats 4000000 in
theorem refGone_any (a : Option Addr) (cap : Nat) (bs : List Bk) (a' : Option Addr) (cap' : Nat) (bs' : List Bk) (w : World) (h : Lies w a cap bs) (h' : Lies w a' cap' bs') (hl : bs.length ≤ 1000000000000) :
    Calls Try.prog 19 #[polV a cap bs, polV a' cap' bs'] w fun e W' => ∃ v, e = .returned v ∧ OwnI w.heap.size W' v (gone bs bs') ∧ Below w.heap.size w W' := by
  have SO := Lib.hid (refSorted_any a cap bs w h hl)
  have H' := Lib.hid h'
  have HG := Lib.hid (show gone bs bs' = gonL bs' [] (sorted bs) from rfl)
  have hz := sorted_length bs
  clear h h'
  generalize sorted bs = s at *
  go_enter Try.func19, Try.ntmps19
  go_wp2_with fail
  refine SO.out.mono ?_
  rintro e w1 ⟨v1, rfl, ho1, hb1⟩
  obtain ⟨aS, cS, rfl, hl1⟩ := ho1.lies
  have HS := Lib.hid hl1
  have HB1 := Lib.hid hb1
  have hlen := hl1.len
  have hmax := hl1.max
  unfold maxLen at hmax
  clear ho1 hl1 hb1 SO
  go_wp2
  go_loopw [6, 7] (fun v i W => ∃ k : Nat, k ≤ s.length ∧ i = .int .i64 k ∧ OwnI w1.heap.size W v (gonL bs' [] (s.take k)) ∧ Below w1.heap.size w1 W) (fun _ i _ => s.length - (intOf i).toNat)
  case atStart => exact ⟨0, Nat.zero_le _, rfl, ownI_nil _ _, Below.refl _ _⟩
  case round =>
    obtain ⟨k, hk, rfl, ho, hB⟩ := hrel
    have HO := Lib.hid ho
    have HB := Lib.hid hB
    clear ho hB
    have hsz := HB.out.size
    by_cases hlt : k < s.length
    · obtain ⟨b, off, rfl, c0, c1⟩ := (HS.out.kept HB.out).at hlt
      have HL' := Lib.hid (H'.out.kept (below2 HB1.out HB.out))
      have HT := Lib.hid (show gonL bs' [] (s.take (k + 1)) = gonL bs' [] (s.take k) ++ (if tells bs' (s.take k) s[k] then [s[k].1] else []) by rw [List.take_succ_eq_append_getElem hlt, gonL_more]; rfl)
      have hg := gonL_length bs' (s.take k) []
      have hg2 : (s.take k).length ≤ s.length := List.length_take_le' ..
      have FI := fun n => Lib.hid (refFind_any a' cap' bs' s[k].1 (wr.drewN n) (HL'.out.kept (below_drewN (Below.refl _ _) n)))
      have TD := Lib.hid (show tells bs' (s.take k) s[k] = (decide (find bs' s[k].1 0 < 0) && decide (lastId (s.take k) ≠ some s[k].1)) from rfl)
      by_cases hk0 : k = 0
      · subst hk0
        have TL := Lib.hid (show decide (lastId (s.take 0) ≠ some s[0].1) = true from rfl)
        rw [TL.out, Bool.and_true] at TD
        simp only [Nat.zero_mul, Nat.add_zero] at c0 c1
        generalize s[0] = x at *
        generalize gonL bs' [] (s.take 0) = os at *
        generalize find bs' x.1 0 = q at *
        by_cases hq : q < 0
        · have dq0 : decide (q < 0) = true := decide_eq_true hq
          rw [TD.out, dq0, if_pos rfl] at HT
          clear hq TD TL
          go_wp2_with fail
          go_quiet (first | exact (FI _).out.mono fun e w2 ⟨he, hw⟩ => ⟨he, _, hw.symm⟩)
          have dq := Lib.hid (below_drewN (Below.refl wr.heap.size wr) nq)
          have HO2 := Lib.hid (HO.out.kept dq.out)
          have HB2 := Lib.hid (below2 HB.out dq.out)
          have c02 := (dq.out.cell (p := ⟨b, off, none⟩) (World.block_lt_of_cell? wr _ c0)).trans c0
          have hs2 : w1.heap.size ≤ (wr.drewN nq).heap.size := Nat.le_trans hsz dq.out.size
          clear c0 c1 HO HB dq FI HL'
          generalize wr.drewN nq = W2 at *
          go_wp2_with (at_builtin; refine wpList_moreI rfl _ _ rfl w1.heap.size W2.heap.size os x.1 _ rfl rfl (HO2.out.kept (below_alloc W2 _)) ?c0 ?c1 ?c2 ?_)
          case c0 => simp
          case c1 => omega
          case c2 => simp; omega
          intro v4 w4 ho4 hb
          have HB4 := Lib.hid ((HB2.out.alloc hs2 _).trans hb.out)
          clear hb
          go_wp2
          refine ⟨⟨1, by omega, by go_num, by rw [HT.out]; exact ho4.out, HB4.out⟩, by simp [intOf]; omega⟩
        · have dq0 : decide (q < 0) = false := decide_eq_false hq
          rw [TD.out, dq0, if_neg (by simp)] at HT
          clear hq TD TL
          go_wp2_with fail
          go_quiet (first | exact (FI _).out.mono fun e w2 ⟨he, hw⟩ => ⟨he, _, hw.symm⟩)
          have dq := Lib.hid (below_drewN (Below.refl wr.heap.size wr) nq)
          have HO2 := Lib.hid (HO.out.kept dq.out)
          have HB2 := Lib.hid (below2 HB.out dq.out)
          have c02 := (dq.out.cell (p := ⟨b, off, none⟩) (World.block_lt_of_cell? wr _ c0)).trans c0
          have hs2 : w1.heap.size ≤ (wr.drewN nq).heap.size := Nat.le_trans hsz dq.out.size
          clear c0 c1 HO HB dq FI HL'
          generalize wr.drewN nq = W2 at *
          go_wp2
          refine ⟨⟨1, by omega, by go_num, by rw [HT.out]; first | exact HO2.out | (rw [List.append_nil]; exact HO2.out), HB2.out⟩, by simp [intOf]; omega⟩
      · obtain ⟨j, hjk⟩ : ∃ j, k = j + 1 := ⟨k - 1, by omega⟩
        have hj : j < s.length := by omega
        obtain ⟨b2, off2, e2, z0, z1⟩ := (HS.out.kept HB.out).at hj
        cases e2
        have LI : lastId (s.take k) = some s[j].1 := by rw [hjk]; exact lastId_take s j hj
        rw [LI] at TD
        have qw : IntKind.i64.wrap ((k : Int) - 1) = (j : Int) := by rw [IntWalk.i64_in _ (by omega)]; omega
        have n0 : ((k : Int) == 0) = false := beq_false_of_ne (by omega)
        clear hjk LI
        generalize s[j] = z at *
        generalize s[k] = x at *
        generalize gonL bs' [] (s.take k) = os at *
        generalize find bs' x.1 0 = q at *
        by_cases hq : q < 0
        · have dq0 : decide (q < 0) = true := decide_eq_true hq
          by_cases hz1 : z.1 = x.1
          · have dz : (z.1 != x.1) = false := by simp [hz1]
            rw [TD.out, dq0, decide_eq_false (by simp [hz1]), if_neg (by simp)] at HT
            clear hq TD hz1
            go_wp2_with fail
            go_quiet (first | exact (FI _).out.mono fun e w2 ⟨he, hw⟩ => ⟨he, _, hw.symm⟩)
            have dq := Lib.hid (below_drewN (Below.refl wr.heap.size wr) nq)
            have HO2 := Lib.hid (HO.out.kept dq.out)
            have HB2 := Lib.hid (below2 HB.out dq.out)
            have c02 := (dq.out.cell (p := ⟨b, off + k * 2, none⟩) (World.block_lt_of_cell? wr _ c0)).trans c0
            have hs2 : w1.heap.size ≤ (wr.drewN nq).heap.size := Nat.le_trans hsz dq.out.size
            clear c0 c1 HO HB dq FI HL'
            generalize wr.drewN nq = W2 at *
            go_wp2
            refine ⟨⟨k + 1, by omega, by go_num, by rw [HT.out]; first | exact HO2.out | (rw [List.append_nil]; exact HO2.out), HB2.out⟩, by simp [intOf]; omega⟩
          · have dz : (z.1 != x.1) = true := bne_iff_ne.2 hz1
            rw [TD.out, dq0, decide_eq_true (by simp [hz1]), if_pos (by rfl)] at HT
            clear hq TD hz1
            go_wp2_with fail
            go_quiet (first | exact (FI _).out.mono fun e w2 ⟨he, hw⟩ => ⟨he, _, hw.symm⟩)
            have dq := Lib.hid (below_drewN (Below.refl wr.heap.size wr) nq)
            have HO2 := Lib.hid (HO.out.kept dq.out)
            have HB2 := Lib.hid (below2 HB.out dq.out)
            have c02 := (dq.out.cell (p := ⟨b, off + k * 2, none⟩) (World.block_lt_of_cell? wr _ c0)).trans c0
            have hs2 : w1.heap.size ≤ (wr.drewN nq).heap.size := Nat.le_trans hsz dq.out.size
            clear c0 c1 HO HB dq FI HL'
            generalize wr.drewN nq = W2 at *
            go_wp2_with (at_builtin; refine wpList_moreI rfl _ _ rfl w1.heap.size W2.heap.size os x.1 _ rfl rfl (HO2.out.kept (below_alloc W2 _)) ?c0 ?c1 ?c2 ?_)
            case c0 => simp
            case c1 => omega
            case c2 => simp; omega
            intro v4 w4 ho4 hb
            have HB4 := Lib.hid ((HB2.out.alloc hs2 _).trans hb.out)
            clear hb
            go_wp2
            refine ⟨⟨k + 1, by omega, by go_num, by rw [HT.out]; exact ho4.out, HB4.out⟩, by simp [intOf]; omega⟩
        · have dq0 : decide (q < 0) = false := decide_eq_false hq
          rw [TD.out, dq0, Bool.false_and, if_neg (by simp)] at HT
          clear hq TD
          go_wp2_with fail
          go_quiet (first | exact (FI _).out.mono fun e w2 ⟨he, hw⟩ => ⟨he, _, hw.symm⟩)
          have dq := Lib.hid (below_drewN (Below.refl wr.heap.size wr) nq)
          have HO2 := Lib.hid (HO.out.kept dq.out)
          have HB2 := Lib.hid (below2 HB.out dq.out)
          have c02 := (dq.out.cell (p := ⟨b, off + k * 2, none⟩) (World.block_lt_of_cell? wr _ c0)).trans c0
          have hs2 : w1.heap.size ≤ (wr.drewN nq).heap.size := Nat.le_trans hsz dq.out.size
          clear c0 c1 HO HB dq FI HL'
          generalize wr.drewN nq = W2 at *
          go_wp2
          refine ⟨⟨k + 1, by omega, by go_num, by rw [HT.out]; first | exact HO2.out | (rw [List.append_nil]; exact HO2.out), HB2.out⟩, by simp [intOf]; omega⟩
    · have HK := Lib.hid (show gonL bs' [] (s.take k) = gonL bs' [] s by rw [List.take_of_length_le (by omega)])
      go_wp2
      go_ret
      refine ⟨_, rfl, ?_, below2 HB1.out HB.out⟩
      rw [HG.out, ← HK.out]
      exact ownI_less HB1.out.size HO.out
end Go.Proofs.Ytbejhkodfkcbpaa.Pol
