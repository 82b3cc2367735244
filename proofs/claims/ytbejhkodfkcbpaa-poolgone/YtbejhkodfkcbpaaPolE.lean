/-
  Pools: the document's put and Sorted (package gangplankref08).
-/
import Derived.Test.YtbejhkodfkcbpaaPolB
import Derived.BigQuiet
import Derived.WalkSmall
namespace Go.Proofs.Ytbejhkodfkcbpaa.Pol
open Go.RowKit Go.Shelf Rgn

/-- A backend among others, behind those of no greater Id. -/
def ins : List Bk → Bk → List Bk
  | [], y => [y]
  | x :: bs, y => if y.1 < x.1 then y :: x :: bs else x :: ins bs y
/-- In order. -/
def sorted (bs : List Bk) : List Bk := bs.foldl ins []
/-- Whether one of a greater Id stands among the first ones. -/
def seen (bs : List Bk) (y : Bk) : Bool := bs.any fun x => decide (y.1 < x.1)
/-- What put has laid behind some rounds. -/
def part (bs : List Bk) (y : Bk) : List Bk := if seen bs y then ins bs y else bs
theorem ins_seen (bs : List Bk) (y : Bk) (h : seen bs y = false) : ins bs y = bs ++ [y] := by
  induction bs with
  | nil => rfl
  | cons x bs ih =>
    simp only [seen, List.any_cons, Bool.or_eq_false_iff, decide_eq_false_iff_not] at h
    unfold ins
    rw [if_neg h.1, ih h.2, List.cons_append]
theorem ins_lt (x : Bk) (bs : List Bk) (y : Bk) (h : y.1 < x.1) : ins (x :: bs) y = y :: x :: bs := if_pos h
theorem ins_ge (x : Bk) (bs : List Bk) (y : Bk) (h : ¬ y.1 < x.1) : ins (x :: bs) y = x :: ins bs y := if_neg h
theorem ins_more (bs : List Bk) (y x : Bk) (h : seen bs y = true) : ins (bs ++ [x]) y = ins bs y ++ [x] := by
  induction bs with
  | nil => simp [seen] at h
  | cons z bs ih =>
    rw [List.cons_append]
    by_cases hz : y.1 < z.1
    · rw [ins_lt _ _ _ hz, ins_lt _ _ _ hz]; rfl
    · have h' : seen bs y = true := by simpa [seen, hz] using h
      rw [ins_ge _ _ _ hz, ins_ge _ _ _ hz, ih h']; rfl
theorem ins_hit (bs : List Bk) (y x : Bk) (h : seen bs y = false) (hx : y.1 < x.1) : ins (bs ++ [x]) y = bs ++ [y] ++ [x] := by
  induction bs with
  | nil => simp [ins, hx]
  | cons z bs ih =>
    simp only [seen, List.any_cons, Bool.or_eq_false_iff, decide_eq_false_iff_not] at h
    show ins (z :: (bs ++ [x])) y = _
    unfold ins; rw [if_neg h.1, ih h.2]; rfl
theorem seen_more (bs : List Bk) (y x : Bk) : seen (bs ++ [x]) y = (seen bs y || decide (y.1 < x.1)) := by simp [seen]
theorem part_done (bs : List Bk) (y x : Bk) (h : seen bs y = true) : part (bs ++ [x]) y = part bs y ++ [x] := by
  unfold part; rw [seen_more, h, Bool.true_or, if_pos rfl, if_pos rfl, ins_more bs y x h]
theorem part_hit (bs : List Bk) (y x : Bk) (h : seen bs y = false) (hx : y.1 < x.1) : part (bs ++ [x]) y = part bs y ++ [y] ++ [x] := by
  unfold part; rw [seen_more, h, decide_eq_true hx, Bool.false_or, if_pos rfl, if_neg (by simp), ins_hit bs y x h hx]
theorem part_not (bs : List Bk) (y x : Bk) (h : seen bs y = false) (hx : ¬ y.1 < x.1) : part (bs ++ [x]) y = part bs y ++ [x] := by
  unfold part; rw [seen_more, h, decide_eq_false hx, Bool.false_or, if_neg (by simp), if_neg (by simp)]
theorem part_length (bs : List Bk) (y : Bk) : (part bs y).length ≤ bs.length + 1 := by
  have hi : ∀ bs : List Bk, (ins bs y).length = bs.length + 1 := by
    intro bs
    induction bs with
    | nil => rfl
    | cons x bs ih => unfold ins; split <;> simp [ih]
  unfold part; split
  · rw [hi]; exact Nat.le_refl _
  · omega

set_option maxRecDepth 100000 in
set_option maxHeartbeats 4000000 in
theorem refput_any (a : Option Addr) (cap : Nat) (bs : List Bk) (y : Bk) (w : World) (h : Lies w a cap bs) (hl : bs.length ≤ 1000000000000) :
    Calls Try.prog 29 #[polV a cap bs, .agg #[.int .i64 y.1, .int .i64 y.2]] w fun e W' => ∃ v, e = .returned v ∧ Own w.heap.size W' v (ins bs y) ∧ Below w.heap.size w W' := by
  have H := Lib.hid h
  clear h
  have al := Lib.hid (below_alloc w (.cells #[.int .i64 y.1, .int .i64 y.2] 24))
  have BX := Lib.hid (World.alloc_heap_new w (.cells #[.int .i64 y.1, .int .i64 y.2] 24))
  go_enter Try.func29, Try.ntmps29
  go_wp2
  go_loopw [5, 6, 7] (fun v d i W => ∃ k : Nat, k ≤ bs.length ∧ i = .int .i64 k ∧ d = .bool (seen (bs.take k) y) ∧ Own (w.heap.size + 1) W v (part (bs.take k) y) ∧ Below (w.heap.size + 1) (w.alloc (.cells #[.int .i64 y.1, .int .i64 y.2] 24)) W) (fun _ _ i _ => bs.length - (intOf i).toNat)
  case atStart => exact ⟨0, Nat.zero_le _, rfl, rfl, own_nil _ _, Below.refl _ _⟩
  case round =>
    obtain ⟨k, hk, rfl, rfl, ho, hB⟩ := hrel
    have HO := Lib.hid ho
    have HB := Lib.hid hB
    clear ho hB
    have bx := (HB.out.block w.heap.size (by omega)).trans BX.out
    have y0 : wr.cell? ⟨w.heap.size, 0, none⟩ = some (.int .i64 y.1) := by simp [World.cell?, bx]
    have y1 : wr.cell? ⟨w.heap.size, 1, none⟩ = some (.int .i64 y.2) := by simp [World.cell?, bx]
    clear bx
    have hs := HB.out.size
    rw [World.size_alloc] at hs
    have hz := part_length (bs.take k) y
    have hz2 : (bs.take k).length ≤ bs.length := List.length_take_le' ..
    by_cases hlt : k < bs.length
    · have HL : Lies wr a cap bs := (H.out.kept al.out).kept (by rw [World.size_alloc]; exact HB.out)
      obtain ⟨b, off, rfl, c0, c1⟩ := HL.at hlt
      clear HL
      have hC := H.out.len
      have hM := H.out.max
      unfold maxLen at hM
      have HT := Lib.hid (List.take_succ_eq_append_getElem hlt)
      obtain ⟨x, hx0⟩ : ∃ x, x = bs[k] := ⟨_, rfl⟩
      have hxk := Lib.hid hx0.symm
      rw [← hx0] at c0 c1 HT
      clear hx0
      cases hd : seen (bs.take k) y with
      | true =>
        have HP := Lib.hid (part_done (bs.take k) y x hd)
        have HS := Lib.hid (show seen (bs.take k ++ [x]) y = true by rw [seen_more, hd]; rfl)
        generalize part (bs.take k) y = os at *
        clear hd
        go_wp2_with fail
        go_quiet (fail)
        have dq := Lib.hid (below_drewN (Below.refl wr.heap.size wr) nq)
        have HO2 := Lib.hid (HO.out.kept dq.out)
        have HB2 := Lib.hid (HB.out.trans (dq.out.mono hs))
        have y02 := (dq.out.cell (p := ⟨w.heap.size, 0, none⟩) (World.block_lt_of_cell? wr _ y0)).trans y0
        have y12 := (dq.out.cell (p := ⟨w.heap.size, 1, none⟩) (World.block_lt_of_cell? wr _ y1)).trans y1
        have c02 := (dq.out.cell (p := ⟨b, off + k * 2, none⟩) (World.block_lt_of_cell? wr _ c0)).trans c0
        have c12 := (dq.out.cell (p := ⟨b, off + k * 2 + 1, none⟩) (World.block_lt_of_cell? wr _ c1)).trans c1
        have hs2 : w.heap.size + 1 ≤ (wr.drewN nq).heap.size := Nat.le_trans hs dq.out.size
        clear y0 y1 c0 c1 HO HB dq
        generalize wr.drewN nq = W2 at *
        go_wp2_with (at_builtin; refine wpList_more rfl _ _ rfl (w.heap.size + 1) W2.heap.size os x _ rfl rfl (HO2.out.kept (below_alloc W2 _)) ?c0 ?c1 ?c2 ?c3 ?_)
        case c0 => simp
        case c1 => simp
        case c2 => first | omega | (simp; omega)
        case c3 => simp; omega
        intro v4 w4 ho4 hb
        have HB4 := Lib.hid ((HB2.out.alloc hs2 _).trans hb.out)
        clear hb
        go_wp2
        refine ⟨⟨k + 1, by omega, by go_num, by rw [HT.out, HS.out], by rw [HT.out, HP.out]; first | exact ho4.out | simpa using ho4.out, HB4.out⟩, by simp [intOf]; omega⟩
      | false =>
        by_cases hx : y.1 < x.1
        · have HP := Lib.hid (part_hit (bs.take k) y x hd hx)
          have HS := Lib.hid (show seen (bs.take k ++ [x]) y = true by rw [seen_more, hd, decide_eq_true hx]; rfl)
          have dx : decide (y.1 < x.1) = true := decide_eq_true hx
          generalize part (bs.take k) y = os at *
          clear hd hx
          go_wp2_with fail
          go_quiet (fail)
          have dq := Lib.hid (below_drewN (Below.refl wr.heap.size wr) nq)
          have HO2 := Lib.hid (HO.out.kept dq.out)
          have HB2 := Lib.hid (HB.out.trans (dq.out.mono hs))
          have y02 := (dq.out.cell (p := ⟨w.heap.size, 0, none⟩) (World.block_lt_of_cell? wr _ y0)).trans y0
          have y12 := (dq.out.cell (p := ⟨w.heap.size, 1, none⟩) (World.block_lt_of_cell? wr _ y1)).trans y1
          have c02 := (dq.out.cell (p := ⟨b, off + k * 2, none⟩) (World.block_lt_of_cell? wr _ c0)).trans c0
          have c12 := (dq.out.cell (p := ⟨b, off + k * 2 + 1, none⟩) (World.block_lt_of_cell? wr _ c1)).trans c1
          have hs2 : w.heap.size + 1 ≤ (wr.drewN nq).heap.size := Nat.le_trans hs dq.out.size
          clear y0 y1 c0 c1 HO HB dq
          generalize wr.drewN nq = W2 at *
          go_wp2_with (at_builtin; refine wpList_more rfl _ _ rfl (w.heap.size + 1) W2.heap.size os y _ rfl rfl (HO2.out.kept (below_alloc W2 _)) ?c0 ?c1 ?c2 ?c3 ?_)
          case c0 => simp
          case c1 => simp
          case c2 => first | omega | (simp; omega)
          case c3 => simp; omega
          intro v4 w4 ho4 hb
          have HB4 := Lib.hid ((HB2.out.alloc hs2 _).trans hb.out)
          have HL4 : Lies w4 (some ⟨b, off, none⟩) cap bs := (H.out.kept al.out).kept (by rw [World.size_alloc]; exact HB4.out)
          obtain ⟨b', off', e', c03, c13⟩ := HL4.at hlt
          cases e'
          rw [hxk.out] at c03 c13
          have hs3 : w.heap.size + 1 ≤ w4.heap.size := by have := HB4.out.size; rw [World.size_alloc] at this; exact this
          clear hb HL4 c02 c12
          go_wp2_with (at_builtin; refine wpList_more rfl _ _ rfl (w.heap.size + 1) w4.heap.size (os ++ [y]) x _ rfl rfl (ho4.out.kept (below_alloc w4 _)) ?c0 ?c1 ?c2 ?c3 ?_)
          case c0 => simp
          case c1 => simp
          case c2 => first | omega | (simp; omega)
          case c3 => simp; omega
          intro v5 w5 ho5 hb
          have HB5 := Lib.hid ((HB4.out.alloc hs3 _).trans hb.out)
          clear hb
          go_wp2
          refine ⟨⟨k + 1, by omega, by go_num, by rw [HT.out, HS.out], by rw [HT.out, HP.out]; first | exact ho5.out | simpa using ho5.out, HB5.out⟩, by simp [intOf]; omega⟩
        · have HP := Lib.hid (part_not (bs.take k) y x hd hx)
          have HS := Lib.hid (show seen (bs.take k ++ [x]) y = false by rw [seen_more, hd, decide_eq_false hx]; rfl)
          have dx : decide (y.1 < x.1) = false := decide_eq_false hx
          generalize part (bs.take k) y = os at *
          clear hd hx
          go_wp2_with fail
          go_quiet (fail)
          have dq := Lib.hid (below_drewN (Below.refl wr.heap.size wr) nq)
          have HO2 := Lib.hid (HO.out.kept dq.out)
          have HB2 := Lib.hid (HB.out.trans (dq.out.mono hs))
          have y02 := (dq.out.cell (p := ⟨w.heap.size, 0, none⟩) (World.block_lt_of_cell? wr _ y0)).trans y0
          have y12 := (dq.out.cell (p := ⟨w.heap.size, 1, none⟩) (World.block_lt_of_cell? wr _ y1)).trans y1
          have c02 := (dq.out.cell (p := ⟨b, off + k * 2, none⟩) (World.block_lt_of_cell? wr _ c0)).trans c0
          have c12 := (dq.out.cell (p := ⟨b, off + k * 2 + 1, none⟩) (World.block_lt_of_cell? wr _ c1)).trans c1
          have hs2 : w.heap.size + 1 ≤ (wr.drewN nq).heap.size := Nat.le_trans hs dq.out.size
          clear y0 y1 c0 c1 HO HB dq
          generalize wr.drewN nq = W2 at *
          go_wp2_with (at_builtin; refine wpList_more rfl _ _ rfl (w.heap.size + 1) W2.heap.size os x _ rfl rfl (HO2.out.kept (below_alloc W2 _)) ?c0 ?c1 ?c2 ?c3 ?_)
          case c0 => simp
          case c1 => simp
          case c2 => first | omega | (simp; omega)
          case c3 => simp; omega
          intro v4 w4 ho4 hb
          have HB4 := Lib.hid ((HB2.out.alloc hs2 _).trans hb.out)
          clear hb
          go_wp2
          refine ⟨⟨k + 1, by omega, by go_num, by rw [HT.out, HS.out], by rw [HT.out, HP.out]; first | exact ho4.out | simpa using ho4.out, HB4.out⟩, by simp [intOf]; omega⟩
    · have HK : bs.take k = bs := List.take_of_length_le (by omega)
      rw [HK] at HO hz
      rw [HK]
      clear HK
      cases hd : seen bs y with
      | true =>
        have HP := Lib.hid (show part bs y = ins bs y from if_pos hd)
        go_wp2
        go_ret
        refine ⟨_, rfl, ?_, al.out.trans (HB.out.mono (Nat.le_succ _))⟩
        rw [← HP.out]
        exact own_less (Nat.le_succ _) HO.out
      | false =>
        have HP := Lib.hid (show part bs y = bs from if_neg (by rw [hd]; simp))
        have HQ := Lib.hid (ins_seen bs y hd)
        rw [HP.out] at HO
        clear hd HP
        go_wp2_with (at_builtin; refine wpList_more rfl _ _ rfl (w.heap.size + 1) wr.heap.size bs y _ rfl rfl (HO.out.kept (below_alloc wr _)) ?c0 ?c1 ?c2 ?c3 ?_)
        case c0 => simp
        case c1 => simp
        case c2 => omega
        case c3 => simp; omega
        intro v4 w4 ho4 hb
        have HB4 := Lib.hid ((HB.out.alloc hs _).trans hb.out)
        clear hb
        go_wp2
        go_ret
        refine ⟨_, rfl, ?_, al.out.trans (HB4.out.mono (Nat.le_succ _))⟩
        rw [HQ.out]
        exact own_less (Nat.le_succ _) ho4.out
end Go.Proofs.Ytbejhkodfkcbpaa.Pol
