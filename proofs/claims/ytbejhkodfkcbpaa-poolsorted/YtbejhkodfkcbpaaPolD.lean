/-
  Pools: the document's With (package gangplankref08).
-/
import Derived.Test.YtbejhkodfkcbpaaPolB
namespace Go.Proofs.Ytbejhkodfkcbpaa.Pol
open Go.RowKit Go.Shelf Rgn

/-- A pool with a backend: instead of the first of its Id, or behind all. -/
def with_ : List Bk → Bk → List Bk
  | [], y => [y]
  | x :: bs, y => if x.1 = y.1 then y :: bs else x :: with_ bs y
/-- y instead of what stands at a place, counted from m on. -/
def inst (p : Int) (y : Bk) : Nat → List Bk → List Bk
  | _, [] => []
  | m, x :: bs => (if (m : Int) = p then y else x) :: inst p y (m + 1) bs
theorem inst_length (p : Int) (y : Bk) (bs : List Bk) : ∀ m, (inst p y m bs).length = bs.length := by
  induction bs with
  | nil => intro m; rfl
  | cons x bs ih => intro m; simp [inst, ih]
theorem inst_more (p : Int) (y x : Bk) (bs : List Bk) : ∀ m, inst p y m (bs ++ [x]) = inst p y m bs ++ [if ((m + bs.length : Nat) : Int) = p then y else x] := by
  induction bs with
  | nil => intro m; rfl
  | cons z bs ih =>
    intro m
    simp only [List.cons_append, inst, ih (m + 1), List.length_cons]
    rw [show m + 1 + bs.length = m + (bs.length + 1) by omega]
theorem inst_past (p : Int) (y : Bk) (bs : List Bk) : ∀ m : Nat, p < (m : Int) → inst p y m bs = bs := by
  induction bs with
  | nil => intro m _; rfl
  | cons x bs ih =>
    intro m h
    simp only [inst]
    rw [if_neg (by omega), ih (m + 1) (by omega)]
theorem find_ge (bs : List Bk) (id : Int) : ∀ m, find bs id m = -1 ∨ (m : Int) ≤ find bs id m := by
  induction bs with
  | nil => intro m; exact .inl rfl
  | cons x bs ih =>
    intro m
    unfold find
    split
    · exact .inr (Int.le_refl _)
    · rcases ih (m + 1) with h | h
      · exact .inl h
      · exact .inr (by omega)
theorem with_eq (y : Bk) (bs : List Bk) : ∀ m, inst (find bs y.1 m) y m bs ++ (if find bs y.1 m < 0 then [y] else []) = with_ bs y := by
  induction bs with
  | nil => intro m; simp [inst, find, with_]
  | cons x bs ih =>
    intro m
    unfold with_
    by_cases h : x.1 = y.1
    · rw [if_pos h, show find (x :: bs) y.1 m = (m : Int) from if_pos h]
      simp only [inst]
      rw [if_pos trivial, inst_past _ _ _ _ (by omega), if_neg (by omega), List.append_nil]
    · rw [if_neg h, show find (x :: bs) y.1 m = find bs y.1 (m + 1) from if_neg h]
      have hg := find_ge bs y.1 (m + 1)
      simp only [inst]
      rw [if_neg (by omega), List.cons_append, ih (m + 1)]

set_option maxRecDepth 100000 in
set_option maxHeartbeats 4000000 in
theorem refWith_any (a : Option Addr) (cap : Nat) (bs : List Bk) (y : Bk) (w : World) (h : Lies w a cap bs) (hl : bs.length ≤ 1000000000000) :
    Calls Try.prog 14 #[polV a cap bs, .agg #[.int .i64 y.1, .int .i64 y.2]] w fun e W' => ∃ v, e = .returned v ∧ Own w.heap.size W' v (with_ bs y) ∧ Below w.heap.size w W' := by
  have H := Lib.hid h
  clear h
  have al := Lib.hid (below_alloc w (.cells #[.int .i64 y.1, .int .i64 y.2] 24))
  have BX := Lib.hid (World.alloc_heap_new w (.cells #[.int .i64 y.1, .int .i64 y.2] 24))
  have FI := Lib.hid (refFind_any a cap bs y.1 _ (H.out.kept al.out))
  have HW := Lib.hid (with_eq y bs 0)
  go_enter Try.func14, Try.ntmps14
  go_wp2_with fail
  refine FI.out.mono ?_
  rintro e w2 ⟨rfl, rfl⟩
  clear FI
  generalize find bs y.1 0 = q at *
  go_wp2
  go_loopw [5, 7] (fun v i W => ∃ k : Nat, k ≤ bs.length ∧ i = .int .i64 k ∧ Own (w.heap.size + 1) W v (inst q y 0 (bs.take k)) ∧ Below (w.heap.size + 1) (w.alloc (.cells #[.int .i64 y.1, .int .i64 y.2] 24)) W) (fun _ i _ => bs.length - (intOf i).toNat)
  case atStart => exact ⟨0, Nat.zero_le _, rfl, own_nil _ _, Below.refl _ _⟩
  case round =>
    obtain ⟨k, hk, rfl, ho, hB⟩ := hrel
    have HO := Lib.hid ho
    have HB := Lib.hid hB
    clear ho hB
    have bx := (HB.out.block w.heap.size (by omega)).trans BX.out
    have y0 : wr.cell? ⟨w.heap.size, 0, none⟩ = some (.int .i64 y.1) := by simp [World.cell?, bx]
    have y1 : wr.cell? ⟨w.heap.size, 1, none⟩ = some (.int .i64 y.2) := by simp [World.cell?, bx]
    clear bx
    have hs := HB.out.size
    rw [World.size_alloc] at hs
    by_cases hlt : k < bs.length
    · have HL : Lies wr a cap bs := (H.out.kept al.out).kept (by rw [World.size_alloc]; exact HB.out)
      obtain ⟨b, off, rfl, c0, c1⟩ := HL.at hlt
      clear HL
      have hC := H.out.len
      have hM := H.out.max
      unfold maxLen at hM
      have hz : (inst q y 0 (bs.take k)).length ≤ bs.length := by rw [inst_length]; exact List.length_take_le' ..
      have HT := Lib.hid (show inst q y 0 (bs.take (k + 1)) = inst q y 0 (bs.take k) ++ [if (k : Int) = q then y else bs[k]] by
        rw [List.take_succ_eq_append_getElem hlt, inst_more, Nat.zero_add, List.length_take, Nat.min_eq_left (by omega)])
      generalize bs[k] = x at *
      generalize inst q y 0 (bs.take k) = os at *
      by_cases he : (k : Int) = q
      · have e1 : ((k : Int) == q) = true := beq_iff_eq.2 he
        rw [if_pos he] at HT
        clear he
        go_wp2_with (at_builtin; refine wpList_more rfl _ _ rfl (w.heap.size + 1) wr.heap.size os y _ rfl rfl (HO.out.kept (below_alloc wr _)) ?c0 ?c1 ?c2 ?c3 ?_)
        case c0 => simp
        case c1 => simp
        case c2 => omega
        case c3 => simp; omega
        intro v' w1 ho hb
        have HB1 := Lib.hid ((HB.out.alloc hs _).trans hb.out)
        clear hb
        go_wp2
        refine ⟨⟨k + 1, by omega, by go_num, by rw [HT.out]; exact ho.out, HB1.out⟩, by simp [intOf]; omega⟩
      · have e1 : ((k : Int) == q) = false := beq_false_of_ne he
        rw [if_neg he] at HT
        clear he
        go_wp2_with (at_builtin; refine wpList_more rfl _ _ rfl (w.heap.size + 1) wr.heap.size os x _ rfl rfl (HO.out.kept (below_alloc wr _)) ?c0 ?c1 ?c2 ?c3 ?_)
        case c0 => simp
        case c1 => simp
        case c2 => omega
        case c3 => simp; omega
        intro v' w1 ho hb
        have HB1 := Lib.hid ((HB.out.alloc hs _).trans hb.out)
        clear hb
        go_wp2
        refine ⟨⟨k + 1, by omega, by go_num, by rw [HT.out]; exact ho.out, HB1.out⟩, by simp [intOf]; omega⟩
    · have hz : (inst q y 0 bs).length = bs.length := inst_length ..
      have HK := Lib.hid (show inst q y 0 (bs.take k) = inst q y 0 bs by rw [List.take_of_length_le (by omega)])
      rw [HK.out] at HO
      clear HK
      by_cases hq : q < 0
      · have e1 : decide (q < 0) = true := decide_eq_true hq
        rw [if_pos hq] at HW
        clear hq
        generalize inst q y 0 bs = os at *
        go_wp2_with (at_builtin; refine wpList_more rfl _ _ rfl (w.heap.size + 1) wr.heap.size os y _ rfl rfl (HO.out.kept (below_alloc wr _)) ?c0 ?c1 ?c2 ?c3 ?_)
        case c0 => simp
        case c1 => simp
        case c2 => omega
        case c3 => simp; omega
        intro v' w1 ho hb
        have HB1 := Lib.hid ((HB.out.alloc hs _).trans hb.out)
        clear hb
        go_wp2
        go_ret
        refine ⟨_, rfl, ?_, al.out.trans (HB1.out.mono (Nat.le_succ _))⟩
        rw [← HW.out]
        exact own_less (Nat.le_succ _) ho.out
      · have e1 : decide (q < 0) = false := decide_eq_false hq
        rw [if_neg hq, List.append_nil] at HW
        clear hq
        go_wp2
        go_ret
        refine ⟨_, rfl, ?_, al.out.trans (HB.out.mono (Nat.le_succ _))⟩
        rw [← HW.out]
        exact own_less (Nat.le_succ _) HO.out
end Go.Proofs.Ytbejhkodfkcbpaa.Pol
