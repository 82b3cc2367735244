/-
  Rings: the document's example.
-/
import Derived.Test.YtppbbhijlkfioaaRinF
namespace Go.Proofs.Ytppbbhijlkfioaa.Rin
open Go.RowKit Go.Shelf Rgn
open Pts (Pt ptV ptsV Lies Rise ofL hsh ofL_rise)
open Pol (below2 below_alloc Bk polV OwnI ownI_nil intsV)
open Num (LiesN numsV)

theorem ex_rise : Rise [((5 : Int), (1 : Int)), (9, 2)] := by unfold Pts.Rise; decide
theorem ex_succ : succL [((5 : Int), (1 : Int)), (9, 2)] 5 = 1 ∧ succL [((5 : Int), (1 : Int)), (9, 2)] 6 = 2 ∧ succL [((5 : Int), (1 : Int)), (9, 2)] 10 = 1 := by decide
theorem ofL_nil : ofL hsh [] = [] := by simp [Pts.ofL, Pts.pts, Pts.psort]
theorem pick_7 (h : Int) : succL (ofL hsh [(7, 1)]) h = 7 := by
  obtain ⟨x, hx, e⟩ := pick_in hsh (z := [(7, 1)]) (by rw [Pol.chk_iff]; simp [Pol.rng]) (by simp) h
  simp at hx; subst hx; exact e.symm
theorem mv_7 : mvK (ofL hsh [(7, 1)]) (ofL hsh []) [3] 1 = [0] := by
  rw [show (1 : Nat) = 0 + 1 from rfl, mvK_yes _ _ [3] 0 (by simp) (by rw [ofL_nil]; simp only [List.getElem_cons_zero]; rw [pick_7, succL_nil]; decide)]
  rfl
theorem lies_two (W : World) (x y : Pt) : Lies (W.alloc (.cells #[.int .u64 x.1, .int .i64 x.2, .int .u64 y.1, .int .i64 y.2] 28)) (some ⟨W.heap.size, 0, none⟩) 2 [x, y] :=
  ⟨by unfold maxLen; omega, by simp, fun _ => ⟨_, _, rfl, fun i z hi => by
    match i, hi with
    | 0, hi => simp at hi; subst hi; exact ⟨by simp, by simp⟩
    | 1, hi => simp at hi; subst hi; exact ⟨by simp, by simp⟩⟩⟩
theorem lies_pool1 (W : World) (x : Bk) : Pol.Lies (W.alloc (.cells #[.int .i64 x.1, .int .i64 x.2] 38)) (some ⟨W.heap.size, 0, none⟩) 1 [x] :=
  ⟨by unfold maxLen; omega, by simp, fun _ => ⟨_, _, rfl, fun i z hi => by
    match i, hi with
    | 0, hi => simp at hi; subst hi; exact ⟨by simp, by simp⟩⟩⟩

set_option maxRecDepth 100000 in
set_option maxHeartbeats 1000000 in
theorem works_any (w : World) : Calls Try.prog 9 #[] w fun e W' => e = .returned (.bool true) ∧ Below w.heap.size w W' := by
  have B0 := Lib.hid (below_alloc w (.cells #[.int .u64 5, .int .i64 1, .int .u64 9, .int .i64 2] 28))
  have L0 := Lib.hid (lies_two w (5, 1) (9, 2))
  go_enter Try.func9, Try.ntmps9
  go_wp2_with fail
  generalize (w.alloc (.cells #[.int .u64 5, .int .i64 1, .int .u64 9, .int .i64 2] 28)) = w1 at *
  refine (Succ_told _ 2 [(5, 1), (9, 2)] 5 w1 L0.out).mono ?_
  rintro e w1 ⟨⟨r, rfl, ht⟩, rfl⟩
  obtain rfl := (told_rise ht ex_rise).trans ex_succ.1
  clear ht
  go_wp2_with fail
  refine (Succ_told _ 2 [(5, 1), (9, 2)] 6 w1 L0.out).mono ?_
  rintro e w1 ⟨⟨r, rfl, ht⟩, rfl⟩
  obtain rfl := (told_rise ht ex_rise).trans ex_succ.2.1
  clear ht
  go_wp2_with fail
  refine (Succ_told _ 2 [(5, 1), (9, 2)] 10 w1 L0.out).mono ?_
  rintro e w1 ⟨⟨r, rfl, ht⟩, rfl⟩
  obtain rfl := (told_rise ht ex_rise).trans ex_succ.2.2
  clear ht
  go_wp2_with fail
  refine (Succ_told none 0 [] 1 w1 (Pts.lies_nil w1)).mono ?_
  rintro e w1 ⟨⟨r, rfl, ht⟩, rfl⟩
  obtain rfl := ht.1 rfl
  clear ht L0
  have C1 := Lib.hid (Pick_told _ 1 [(7, 1)] 3 (w1.alloc (.cells #[.int .i64 7, .int .i64 1] 38)) (lies_pool1 w1 (7, 1)) (by simp))
  have B1 := Lib.hid (below2 B0.out (below_alloc w1 (.cells #[.int .i64 7, .int .i64 1] 38)))
  rw [pick_7] at C1
  clear B0
  go_wp2_with fail
  refine C1.out.mono ?_
  rintro e w2 ⟨rfl, hb⟩
  have B2 := Lib.hid (below2 B1.out hb)
  clear hb C1 B1
  have C2 := Lib.hid (Pick_told none 0 [] 3 w2 (Pol.lies_nil w2) (by simp))
  rw [ofL_nil, succL_nil] at C2
  go_wp2_with fail
  refine C2.out.mono ?_
  rintro e w3 ⟨rfl, hb⟩
  have B3 := Lib.hid (below2 B2.out hb)
  clear hb C2 B2
  have a1 := below_alloc w3 (.cells #[.int .i64 7, .int .i64 1] 38)
  have a2 := below_alloc (w3.alloc (.cells #[.int .i64 7, .int .i64 1] 38)) (.cells #[.int .u64 3] 23)
  have C3 := Lib.hid (Moved_told _ 1 [(7, 1)] none 0 [] _ 1 [3] ((w3.alloc (.cells #[.int .i64 7, .int .i64 1] 38)).alloc (.cells #[.int .u64 3] 23)) ((lies_pool1 w3 (7, 1)).kept a2) (by simp) (Pol.lies_nil _) (by simp) (Num.lies_one .u64 _ _ 3) (by simp))
  have B4 := Lib.hid (below2 (below2 B3.out a1) a2)
  rw [show ([3] : List Int).length = 1 from rfl, mv_7] at C3
  simp only [World.size_alloc] at C3
  clear a1 a2 B3
  go_wp2_with fail
  refine C3.out.mono ?_
  rintro e w5 ⟨v, rfl, ho, hb⟩
  obtain ⟨aI, cI, rfl, _⟩ := ho.lies
  have B5 := Lib.hid (below2 B4.out (by rw [World.size_alloc, World.size_alloc]; exact hb))
  clear hb C3 B4 ho
  go_wp2_with fail
  go_ret
  exact ⟨rfl, B5.out⟩
end Go.Proofs.Ytppbbhijlkfioaa.Rin
