/-
  Package ip6: cut.
-/
import Derived.Test.YtcdgcjpdlhknoaaIp6A
namespace Go.Proofs.Ytcdgcjpdlhknoaa.Ip6
open Go.RowKit Go.Shelf Txt Rgn

theorem info_str : (Try.prog.info? 9).map (fun i => (i.zero, i.size, i.bytes)) = some (some (.string ⟨#[]⟩), 1, 16) := by kernel_rfl

/-- Where field number k begins. -/
def pre (z : Nat → Nat) : Nat → Nat
  | 0 => 0
  | k + 1 => pre z k + z k
/-- The fields that have been cut. -/
def cutL (s : ByteArray) (z : Nat → Nat) : Nat → List Value
  | 0 => []
  | k + 1 => cutL s z k ++ [.string (s.extract (pre z k) (pre z (k + 1)))]
theorem cutL_length (s : ByteArray) (z : Nat → Nat) (k : Nat) : (cutL s z k).length = k := by
  induction k with
  | zero => rfl
  | succ k ih => rw [cutL, List.length_append, ih]; rfl
theorem pre_le (z : Nat → Nat) {j k : Nat} (h : j ≤ k) : pre z j ≤ pre z k := by
  induction k with
  | zero => obtain rfl : j = 0 := by omega
            exact Nat.le_refl _
  | succ k ih =>
    by_cases e : j = k + 1
    · rw [e]; exact Nat.le_refl _
    · exact Nat.le_trans (ih (by omega)) (Nat.le_add_right _ _)
theorem cutL_get (s : ByteArray) (z : Nat → Nat) {j k : Nat} (h : j < k) : (cutL s z k)[j]? = some (.string (s.extract (pre z j) (pre z (j + 1)))) := by
  induction k with
  | zero => omega
  | succ k ih =>
    rw [cutL]
    by_cases e : j = k
    · subst e; rw [List.getElem?_append_right (by rw [cutL_length]; omega), cutL_length, Nat.sub_self]; rfl
    · rw [List.getElem?_append_left (by rw [cutL_length]; omega)]; exact ih (by omega)

/-- What is known while 'fields, s = append(fields, s[:n]), s[n:]' is done, in whatever order: n bytes of T, k fields so far. -/
structure CutI (w : World) (k n : Nat) (T : ByteArray) (v : Value) (xs : List Value) (d : Nat → Bool) (x : Nat → Value) (W : World) : Prop where
  p0 : d 0 = true → x 0 = v
  p1 : d 1 = true → x 1 = .string T
  p2 : d 2 = true → x 2 = .int .i64 (n : Nat)
  p3 : d 3 = true → x 3 = .string (T.extract 0 n)
  p4 : d 4 = true → ∃ g, x 4 = .slice (some ⟨g, 0, none⟩) 1 1 ∧ (d 5 = false → W.cell? ⟨g, 0, none⟩ = some (.string (T.extract 0 n)))
  p5 : d 5 = true → W.ownsRow w.heap.size 9 1 (x 5) (k + 1) (xs ++ [.string (T.extract 0 n)])
  o5 : d 5 = true → d 4 = true
  q5 : d 5 = false → W.ownsRow w.heap.size 9 1 v k xs
  p6 : d 6 = true → x 6 = .string T
  p7 : d 7 = true → x 7 = .int .i64 (n : Nat)
  p8 : d 8 = true → x 8 = .string (T.extract n T.size)
  p9 : d 9 = true → d 0 = true ∧ d 5 = true ∧ x 9 = x 5
  q9 : d 9 = false → x 9 = v
  p10 : d 10 = true → d 1 = true ∧ d 6 = true ∧ x 10 = .string (T.extract n T.size)
  q10 : d 10 = false → x 10 = .string T
  below : Below w.heap.size w W

theorem CutI.start {w W : World} {k n : Nat} {T : ByteArray} {v : Value} {xs : List Value} {x : Nat → Value} (h : W.ownsRow w.heap.size 9 1 v k xs) (h9 : x 9 = v) (h10 : x 10 = .string T) (hb : Below w.heap.size w W) : CutI w k n T v xs (fun _ => false) x W :=
  ⟨fun h => (by cases h), fun h => (by cases h), fun h => (by cases h), fun h => (by cases h), fun h => (by cases h), fun h => (by cases h), fun h => (by cases h), fun _ => h, fun h => (by cases h), fun h => (by cases h), fun h => (by cases h), fun h => (by cases h), fun _ => h9, fun h => (by cases h), fun _ => h10, hb⟩
section
variable {w W : World} {k n : Nat} {T : ByteArray} {v : Value} {xs : List Value} {d : Nat → Bool} {x : Nat → Value}
theorem CutI.no9 (h : CutI w k n T v xs d x W) (h0 : d 0 = false ∨ d 5 = false) : d 9 = false := by
  cases e : d 9 with
  | false => rfl
  | true =>
    obtain ⟨a, b, _⟩ := h.p9 e
    rcases h0 with h0 | h0
    · rw [a] at h0; cases h0
    · rw [b] at h0; cases h0
theorem CutI.no10 (h : CutI w k n T v xs d x W) (h0 : d 1 = false ∨ d 6 = false) : d 10 = false := by
  cases e : d 10 with
  | false => rfl
  | true =>
    obtain ⟨a, b, _⟩ := h.p10 e
    rcases h0 with h0 | h0
    · rw [a] at h0; cases h0
    · rw [b] at h0; cases h0
theorem CutI.s0 (h : CutI w k n T v xs d x W) (hd : d 0 = false) : CutI w k n T v xs (upd d 0) (upv x 0 v) W :=
  { h with p0 := fun _ => rfl, p9 := fun e => absurd e (by have := h.no9 (.inl hd); simp [upd, this]) }
theorem CutI.s1 (h : CutI w k n T v xs d x W) (hd : d 1 = false) : CutI w k n T v xs (upd d 1) (upv x 1 (.string T)) W :=
  { h with p1 := fun _ => rfl, p10 := fun e => absurd e (by have := h.no10 (.inl hd); simp [upd, this]) }
theorem CutI.s2 (h : CutI w k n T v xs d x W) : CutI w k n T v xs (upd d 2) (upv x 2 (.int .i64 (n : Nat))) W := { h with p2 := fun _ => rfl }
theorem CutI.s3 (h : CutI w k n T v xs d x W) : CutI w k n T v xs (upd d 3) (upv x 3 (.string (T.extract 0 n))) W := { h with p3 := fun _ => rfl }
theorem CutI.no5 (h : CutI w k n T v xs d x W) (h0 : d 4 = false) : d 5 = false := by
  cases e : d 5 with
  | false => rfl
  | true => rw [h.o5 e] at h0; cases h0
theorem CutI.s4 (h : CutI w k n T v xs d x W) (h5 : d 5 = false) : CutI w k n T v xs (upd d 4) (upv x 4 (.slice (some ⟨W.heap.size, 0, none⟩) 1 1)) (W.alloc (.cells #[.string (T.extract 0 n)] 9)) :=
  { h with
    p4 := fun _ => ⟨W.heap.size, rfl, fun _ => by simp⟩
    p5 := fun e => absurd e (by simp [upd, h5])
    o5 := fun _ => rfl
    q5 := fun _ => (h.q5 h5).alloc _
    below := h.below.alloc h.below.size _ }
theorem CutI.s5 (h : CutI w k n T v xs d x W) (h4 : d 4 = true) (h5 : d 5 = false) {v' : Value} {W' : World} (ho : W'.ownsRow w.heap.size 9 1 v' (k + 1) (xs ++ [.string (T.extract 0 n)])) (hb : Below w.heap.size w W') : CutI w k n T v xs (upd d 5) (upv x 5 v') W' :=
  { h with
    p4 := fun e => by obtain ⟨g, hg, _⟩ := h.p4 e; exact ⟨g, hg, fun e => by cases e⟩
    p5 := fun _ => ho
    o5 := fun _ => h4
    q5 := fun e => by cases e
    p9 := fun e => absurd e (by have := h.no9 (.inr h5); simp [upd, this])
    below := hb }
theorem CutI.s6 (h : CutI w k n T v xs d x W) (hd : d 6 = false) : CutI w k n T v xs (upd d 6) (upv x 6 (.string T)) W :=
  { h with p6 := fun _ => rfl, p10 := fun e => absurd e (by have := h.no10 (.inr hd); simp [upd, this]) }
theorem CutI.s7 (h : CutI w k n T v xs d x W) : CutI w k n T v xs (upd d 7) (upv x 7 (.int .i64 (n : Nat))) W := { h with p7 := fun _ => rfl }
theorem CutI.s8 (h : CutI w k n T v xs d x W) : CutI w k n T v xs (upd d 8) (upv x 8 (.string (T.extract n T.size))) W := { h with p8 := fun _ => rfl }
theorem CutI.s9 (h : CutI w k n T v xs d x W) (h0 : d 0 = true) (h5 : d 5 = true) : CutI w k n T v xs (upd d 9) (upv x 9 (x 5)) W :=
  { h with p9 := fun _ => ⟨h0, h5, rfl⟩, q9 := fun e => by cases e }
theorem CutI.s10 (h : CutI w k n T v xs d x W) (h1 : d 1 = true) (h6 : d 6 = true) : CutI w k n T v xs (upd d 10) (upv x 10 (.string (T.extract n T.size))) W :=
  { h with p10 := fun _ => ⟨h1, h6, rfl⟩, q10 := fun e => by cases e }
end

set_option maxRecDepth 100000 in
set_option maxHeartbeats 2000000 in
theorem cut_any (s : ByteArray) (hs : s.size ≤ 1099511627776) (z : Nat → Nat) (N a cap : Nat) (hN : N ≤ 1000) (w : World) (ha : a < w.heap.size)
    (hc : ∀ j, j < N → w.cell? ⟨a, j, none⟩ = some (.int .i64 (z j : Nat))) :
    Calls Try.prog 54 #[.string s, .slice (some ⟨a, 0, none⟩) N cap] w fun e W' =>
      (s.size < pre z N ∧ e = .returned (.tuple #[.slice none 0 0, .bool false]) ∧ Below w.heap.size w W') ∨
      (pre z N ≤ s.size ∧ ∃ v, e = .returned (.tuple #[v, .bool true]) ∧ W'.ownsRow w.heap.size 9 1 v (N + 1) (cutL s z N ++ [.string (s.extract (pre z N) s.size)]) ∧ Below w.heap.size w W') := by
  obtain ⟨i0, hi, hz0, hz1, hz2⟩ := info_parts info_str
  go_enter Try.func54, Try.ntmps54
  go_wp2_with fail
  go_loopw [0, 6, 11] (fun t v i wr => ∃ k : Nat, k ≤ N ∧ i = .int .i64 k ∧ pre z k ≤ s.size ∧ t = .string (s.extract (pre z k) s.size) ∧ wr.ownsRow w.heap.size 9 1 v k (cutL s z k) ∧ Below w.heap.size w wr) (fun _ _ i _ => N - (intOf i).toNat)
  case atStart => exact ⟨0, Nat.zero_le _, rfl, Nat.zero_le _, by rw [show s.extract (pre z 0) s.size = s from ba_ext (by rw [ext_list, ← len_list, pre, List.drop_zero, Nat.sub_zero, List.take_length])], World.ownsRow_nil _ _ _ _, Below.refl _ _⟩
  case round =>
    obtain ⟨k, hk, rfl, hp, rfl, hown, hB⟩ := hrel
    by_cases hlt : k < N
    · have hck := (hB.cell (p := ⟨a, k, none⟩) ha).trans (hc k hlt)
      have HZ := Lib.hid (ext_size s (pre z k) s.size (Nat.le_refl _))
      have HP := Lib.hid (show pre z (k + 1) = pre z k + z k from rfl)
      generalize hT : s.extract (pre z k) s.size = T at *
      by_cases hfit : z k ≤ T.size
      · have hdec : decide (T.size < z k) = false := decide_eq_false (by omega)
        have hTs : T.size ≤ 1099511627776 := by have := HZ.out; omega
        go_wp2_with fail
        clear hdec
        have hz : (z k : Int) ≤ (T.size : Int) := by omega
        clear hck hc
        refine wp_region_inv (fun d A W => ∃ x : Nat → Value, A = ({ tmps := #[x 10, .slice (some ⟨a, 0, none⟩) N cap, undef, undef, u4, u5, x 9, undef, .int .i64 (z k : Nat), .slice (some ⟨a, 0, none⟩) N cap, .int .i64 (N : Nat), .int .i64 (k : Nat), .bool true, .pointer (some ⟨a, k, none⟩), .int .i64 (z k : Nat), .int .i64 (z k : Nat), .string T, .int .i64 (T.size : Nat), .bool false, x 0, x 1, x 2, x 3, x 4, x 5, x 6, x 7, x 8, u28, undef, undef, undef, undef], defers := [] } : Act) ∧ CutI w k (z k) T u6 (cutL s z k) d x W) (by kernel_rfl) (by kernel_rfl) ?step ?done ?start
        case start => exact ⟨fun i => if i = 0 then u19 else if i = 1 then u20 else if i = 2 then u21 else if i = 3 then u22 else if i = 4 then u23 else if i = 5 then u24 else if i = 6 then u25 else if i = 7 then u26 else if i = 8 then u27 else if i = 9 then u6 else .string T, rfl, CutI.start hown rfl rfl hB.drew⟩
        case step =>
          rintro d A W i hi' hd hall ⟨x, rfl, hI⟩
          replace hi' : i < 11 := hi'
          obtain rfl | rfl | rfl | rfl | rfl | rfl | rfl | rfl | rfl | rfl | rfl : i = 0 ∨ i = 1 ∨ i = 2 ∨ i = 3 ∨ i = 4 ∨ i = 5 ∨ i = 6 ∨ i = 7 ∨ i = 8 ∨ i = 9 ∨ i = 10 := by omega
          · have x9 := hI.q9 (hI.no9 (.inl hd))
            clear hall
            refine wpOp_step rfl (fun K hK => ?_)
            simp only [List.getElem_toArray, List.getElem_cons_zero]
            go_simp
            exact hK _ _ ⟨_, by simp [upv, x9], hI.s0 hd⟩
          · have x10 := hI.q10 (hI.no10 (.inl hd))
            clear hall
            refine wpOp_step rfl (fun K hK => ?_)
            simp only [List.getElem_toArray, List.getElem_cons_zero, List.getElem_cons_succ]
            go_simp
            exact hK _ _ ⟨_, by simp [upv, x10], hI.s1 hd⟩
          · clear hall
            refine wpOp_step rfl (fun K hK => ?_)
            simp only [List.getElem_toArray, List.getElem_cons_zero, List.getElem_cons_succ]
            go_simp
            exact hK _ _ ⟨_, by simp [upv], hI.s2⟩
          · have x1 := hI.p1 (hall 1 (by kernel_rfl))
            have x2 := hI.p2 (hall 2 (by kernel_rfl))
            clear hall
            refine wpOp_step rfl (fun K hK => ?_)
            simp only [List.getElem_toArray, List.getElem_cons_zero, List.getElem_cons_succ]
            go_simp
            exact hK _ _ ⟨_, by simp [upv, x1, x2], hI.s3⟩
          · have x3 := hI.p3 (hall 3 (by kernel_rfl))
            clear hall
            refine wpOp_step rfl (fun K hK => ?_)
            simp only [List.getElem_toArray, List.getElem_cons_zero, List.getElem_cons_succ]
            go_simp
            exact hK _ _ ⟨_, by simp [upv, x3], hI.s4 (hI.no5 hd)⟩
          · have d4 := hall 4 (by kernel_rfl)
            have x0 := hI.p0 (hall 0 (by kernel_rfl))
            obtain ⟨g, x4, hg⟩ := hI.p4 d4
            have ho := hI.q5 hd
            have hb := hI.below
            clear hall
            refine wpOp_step rfl (fun K hK => ?_)
            simp only [List.getElem_toArray, List.getElem_cons_zero, List.getElem_cons_succ]
            refine free_wanted rfl ?_
            refine wp_append_own _ _ _ 92 rfl w.heap.size 9 i0 (.string ⟨#[]⟩) 1 16 Try.underlying92 hi hz0 hz1 hz2 rfl (by decide) _ _ _ x0 ho ⟨g, 0, none⟩ 1 1 [.string (T.extract 0 (z k))] x4 rfl ?c1 ?c2 ?c3 ?c4 ?c5 ?_
            case c1 =>
              intro j u hj
              match j, hj with
              | 0, hj => simp at hj; subst hj; exact hg hd
            case c2 => intro u hu; simp at hu; subst hu; rfl
            case c3 => unfold maxLen; omega
            case c4 => omega
            case c5 => exact hb.size
            intro v' w1 hown' hgrow _
            exact hK _ _ ⟨_, by simp [upv, Act.put], hI.s5 d4 hd hown' (hb.grown hgrow hb.size (fun k hk => (ho.lt k hk).1))⟩
          · have x10 := hI.q10 (hI.no10 (.inr hd))
            clear hall
            refine wpOp_step rfl (fun K hK => ?_)
            simp only [List.getElem_toArray, List.getElem_cons_zero, List.getElem_cons_succ]
            go_simp
            exact hK _ _ ⟨_, by simp [upv, x10], hI.s6 hd⟩
          · clear hall
            refine wpOp_step rfl (fun K hK => ?_)
            simp only [List.getElem_toArray, List.getElem_cons_zero, List.getElem_cons_succ]
            go_simp
            exact hK _ _ ⟨_, by simp [upv], hI.s7⟩
          · have x6 := hI.p6 (hall 6 (by kernel_rfl))
            have x7 := hI.p7 (hall 7 (by kernel_rfl))
            clear hall
            refine wpOp_step rfl (fun K hK => ?_)
            simp only [List.getElem_toArray, List.getElem_cons_zero, List.getElem_cons_succ]
            go_simp
            exact hK _ _ ⟨_, by simp [upv, x6, x7], hI.s8⟩
          · have d0 := hall 0 (by kernel_rfl)
            have d5 := hall 5 (by kernel_rfl)
            clear hall
            refine wpOp_step rfl (fun K hK => ?_)
            simp only [List.getElem_toArray, List.getElem_cons_zero, List.getElem_cons_succ]
            go_simp
            exact hK _ _ ⟨_, by simp [upv], hI.s9 d0 d5⟩
          · have d1 := hall 1 (by kernel_rfl)
            have d6 := hall 6 (by kernel_rfl)
            have x8 := hI.p8 (hall 8 (by kernel_rfl))
            clear hall
            refine wpOp_step rfl (fun K hK => ?_)
            simp only [List.getElem_toArray, List.getElem_cons_zero, List.getElem_cons_succ]
            go_simp
            exact hK _ _ ⟨_, by simp [upv, x8], hI.s10 d1 d6⟩
        case done =>
          rintro d A W hall ⟨x, rfl, hI⟩
          replace hall : ∀ i, i < 11 → d i = true := hall
          have x10 := (hI.p10 (hall 10 (by omega))).2.2
          have x9 := (hI.p9 (hall 9 (by omega))).2.2
          have h5 := hI.p5 (hall 5 (by omega))
          have hb5 := hI.below
          clear hI hall hown hB
          generalize x 5 = v' at *
          go_wp2_with fail
          have hZ := HZ.out
          have e1 : T.extract (z k) T.size = s.extract (pre z (k + 1)) s.size := by
            rw [HP.out, ← hT, ext_ext s _ _ _ _ (by rw [hT]; omega), hT, show pre z k + T.size = s.size by omega]
          have e2 : T.extract 0 (z k) = s.extract (pre z k) (pre z (k + 1)) := by
            rw [HP.out, ← hT, ext_ext s _ _ _ _ (by omega), Nat.add_zero]
          refine ⟨⟨k + 1, by omega, by go_num, by rw [HP.out]; omega, by rw [x10, e1], ?_, hb5⟩, by simp [intOf]; omega⟩
          rw [x9]
          rw [e2] at h5
          exact h5
      · have hdec : decide (T.size < z k) = true := decide_eq_true (by omega)
        have hTs : T.size ≤ 1099511627776 := by have := HZ.out; omega
        go_wp2_with fail
        go_ret2
        refine .inl ⟨?_, rfl, hB⟩
        have := pre_le z (show k + 1 ≤ N by omega)
        have hz := HZ.out
        rw [HP.out] at this
        omega
    · obtain rfl : k = N := by omega
      generalize hT : s.extract (pre z k) s.size = T at *
      go_wp2_with (at_builtin; refine wpList_append_own _ rfl _ _ 92 rfl w.heap.size 9 i0 (.string ⟨#[]⟩) 1 16 Try.underlying92 hi hz0 hz1 hz2 rfl (by decide) _ _ _ rfl (hown.alloc _) ⟨wr.heap.size, 0, none⟩ 1 1 [.string T] rfl rfl ?c1 ?c2 ?c3 ?c4 ?c5 ?_)
      case c1 =>
        intro j u hj
        match j, hj with
        | 0, hj => simp at hj; subst hj; simp [Addr.add]
      case c2 => intro u hu; simp at hu; subst hu; rfl
      case c3 => unfold maxLen; omega
      case c4 => omega
      case c5 => have := hB.size; simp; omega
      intro v' w1 hown' hgrow _
      have hB1 : Below w.heap.size w w1 := (hB.alloc hB.size _).grown hgrow (by have := hB.size; simp; omega) (fun k hk => (hown.lt k hk).1)
      clear hgrow hown hc
      go_wp2
      go_ret2
      exact .inr ⟨hp, v', rfl, by rw [hT]; exact hown', hB1⟩
end Go.Proofs.Ytcdgcjpdlhknoaa.Ip6
