/-
  Package ip4: first.
-/
import Derived.Test.YtcdgcjpdlhknoaaOctC
import Derived.Test.YtcdgcjpdlhknoaaSumB
import Derived.OpenShut
import Derived.WalkMore
import Derived.Laws.EntriesVeiled
namespace Go.Proofs.Ytcdgcjpdlhknoaa.Ip4
open Go.RowKit Go.Shelf

/-- What lay when the first began lies as it lay behind the second. -/
theorem below2 {a b c : World} (h : Below a.heap.size a b) (k : Below b.heap.size b c) : Below a.heap.size a c := h.trans (k.mono h.size)

set_option maxRecDepth 100000 in
set_option maxHeartbeats 800000 in
theorem first_any (b n c : Nat) (hn : n ≤ 1000) (hc : c ≤ n) (err : Nat → Int) (k : Nat → Nat) (cap : Nat → Array Value) (w : World) (hb : b < w.heap.size)
    (he : ∀ i, i < n → w.cell? ⟨b, i * 2, none⟩ = some (.int .i64 (err i)) ∧ w.cell? ⟨b, i * 2 + 1, none⟩ = some (.func (.func (k i)) #[] (cap i)))
    (hen : ∀ i, i < n → Enters Try.prog (k i))
    (hf : ∀ i, i < c → ∀ W, Below w.heap.size w W → Calls Try.prog (k i) (cap i) W fun e W' => e = .returned (.bool false) ∧ Below W.heap.size W W')
    (ht : c < n → ∀ W, Below w.heap.size w W → Calls Try.prog (k c) (cap c) W fun e W' => e = .returned (.bool true) ∧ Below W.heap.size W W') :
    Calls Try.prog 46 #[.slice (some ⟨b, 0, none⟩) n n] w fun e W' => e = .returned (.int .i64 (if c < n then err c else 0)) ∧ Below w.heap.size w W' := by
  go_enter Try.func46, Try.ntmps46
  go_wp2
  go_step3
  go_wp2
  go_step3
  go_wp2
  go_loopw [3, 8] (fun v i wr => ∃ j : Nat, j ≤ c ∧ i = .int .i64 (j : Int) ∧ v = .int .i64 0 ∧ Below w.heap.size w wr) (fun _ i _ => n - (intOf i).toNat)
  case atStart => exact ⟨0, Nat.zero_le _, rfl, rfl, Below.refl _ _⟩
  case round =>
    obtain ⟨j, hj, rfl, rfl, hB⟩ := hrel
    by_cases hlt : j < n
    · obtain ⟨e1, e2⟩ := he j hlt
      have c1 := (hB.cell (p := ⟨b, j * 2, none⟩) hb).trans e1
      have c2 := (hB.cell (p := ⟨b, j * 2 + 1, none⟩) hb).trans e2
      have en : ∀ (args : Array Value) (w : World), (callFunc (k j) args).run Try.prog w = .ok (.enter (k j) args) w := hen j hlt
      have hB1 : Below w.heap.size w (wr.alloc (.cells #[.int .i64 (err j), .func (.func (k j)) #[] (cap j)] 90)) := hB.alloc hB.size _
      clear he e1 e2 hen
      by_cases hjc : j < c
      · have hq := Lib.hid (hf j hjc)
        clear hf ht
        go_wp2_with fail
        refine (hq.out _ hB1).mono ?_
        rintro e w2 ⟨rfl, hb2⟩
        go_wp2_with fail
        go_roundw
        case rel => exact ⟨j + 1, by omega, by simp, rfl, hB1.trans (hb2.mono hB1.size)⟩
        case measure => simp [intOf]; omega
      · obtain rfl : j = c := by omega
        have hq := Lib.hid (ht hlt)
        have c3 : (wr.alloc (.cells #[.int .i64 (err j), .func (.func (k j)) #[] (cap j)] 90)).cell? ⟨wr.heap.size, 0, none⟩ = some (.int .i64 (err j)) := by go_simp
        clear hf ht
        go_wp2_with fail
        refine (hq.out _ hB1).mono ?_
        rintro e w2 ⟨rfl, hb2⟩
        have c4 := (hb2.cell (p := ⟨wr.heap.size, 0, none⟩) (by simp)).trans c3
        go_wp2
        rw [Exit.noGoto_ret]
        go_ret
        exact ⟨by rw [if_pos hlt]; rfl, hB1.trans (hb2.mono hB1.size)⟩
    · obtain rfl : j = c := by omega
      obtain rfl : j = n := by omega
      clear he hen hf ht
      go_wp2
      rw [Exit.noGoto_ret]
      go_ret
      exact ⟨by rw [if_neg hlt]; rfl, hB⟩

/-- The number at some places, or 0 where there is none. -/
def gv (s : ByteArray) (a n : Int) : Nat := if a + n ≤ s.size then Oct.getV s a n else 0
theorem gv_le (s : ByteArray) (a n : Int) (h : n ≤ 2) : gv s a n ≤ 65535 := by
  unfold gv Oct.getV
  split
  · have h1 := Oct.num_lt ((s.data.toList.drop a.toNat).take n.toNat)
    have h2 : 256 ^ ((s.data.toList.drop a.toNat).take n.toNat).length ≤ 256 ^ 2 := Nat.pow_le_pow_right (by omega) (by rw [List.length_take]; omega)
    omega
  · omega

set_option maxHeartbeats 800000 in
theorem numbers_any (s : ByteArray) (w : World) :
    Calls Try.prog 45 #[.string s] w fun e W' => e = .returned (.func (.func 76) #[] #[.pointer (some ⟨w.heap.size, 0, none⟩)]) ∧ W' = w.alloc (.cells #[.string s] 9) := by
  go_enter Try.func45, Try.ntmps45
  go_wp2
  go_ret
  exact ⟨rfl, rfl⟩

set_option maxRecDepth 100000 in
set_option maxHeartbeats 800000 in
theorem number_any (s : ByteArray) (hs : s.size ≤ 1099511627776) (B : Nat) (a n : Int) (ha : 0 ≤ a ∧ a ≤ 100) (hn : 1 ≤ n ∧ n ≤ 2) (w : World) (hc : w.cell? ⟨B, 0, none⟩ = some (.string s)) :
    Calls Try.prog 76 #[.int .i64 a, .int .i64 n, .pointer (some ⟨B, 0, none⟩)] w fun e W' => e = .returned (.int .i64 (gv s a n : Nat)) ∧ Below w.heap.size w W' := by
  have hl := gv_le s a n hn.2
  by_cases h : a + n ≤ s.size
  · have e1 : gv s a n = Oct.getV s a n := if_pos h
    rw [e1] at hl ⊢
    go_enter Try.func76, Try.ntmps76
    go_wp2_with fail
    refine (Oct.Get_yes s a n w (by omega) (by omega)).mono ?_
    rintro e w1 ⟨rfl, hb1⟩
    go_wp2_with fail
    go_ret
    exact ⟨rfl, hb1⟩
  · have e1 : gv s a n = 0 := if_neg h
    rw [e1] at hl ⊢
    go_enter Try.func76, Try.ntmps76
    go_wp2_with fail
    refine (Oct.Get_no s a n w (by omega) (by omega) (by omega)).mono ?_
    rintro e w1 ⟨rfl, hb1⟩
    go_wp2_with fail
    go_ret
    exact ⟨rfl, hb1⟩

/-- The lowest bits of a number. -/
theorem and_low (n : Int) (m : Nat) (M : Int) (hm : m ≤ 62) (hM : (BitVec.ofInt 64 M).toNat = 2 ^ m - 1) : bits .and .i64 n M = n % ((2 ^ m : Nat) : Int) := by
  have k : (BitVec.ofInt 64 n &&& BitVec.ofInt 64 M).toNat = (n % ((2 ^ 64 : Nat) : Int)).toNat % 2 ^ m := by
    rw [BitVec.toNat_and, BitVec.toNat_ofInt, hM, Nat.and_two_pow_sub_one_eq_mod]
  show IntKind.i64.wrap ((BitVec.ofInt 64 n &&& BitVec.ofInt 64 M).toNat : Nat) = _
  rw [k]
  have hp : 2 ^ m ≤ 2 ^ 62 := Nat.pow_le_pow_right (by omega) hm
  have hd : 2 ^ m ∣ 2 ^ 64 := Nat.pow_dvd_pow 2 (by omega)
  have h0 : 0 < 2 ^ m := Nat.two_pow_pos m
  have e : ((n % ((2 ^ 64 : Nat) : Int)).toNat % 2 ^ m : Nat) = (n % ((2 ^ m : Nat) : Int)).toNat := by
    apply Int.ofNat.inj
    show (((n % ((2 ^ 64 : Nat) : Int)).toNat % 2 ^ m : Nat) : Int) = ((n % ((2 ^ m : Nat) : Int)).toNat : Int)
    rw [Int.natCast_emod, Int.toNat_of_nonneg (Int.emod_nonneg _ (by omega)), Int.toNat_of_nonneg (Int.emod_nonneg _ (by omega))]
    exact Int.emod_emod_of_dvd _ (Int.natCast_dvd_natCast.2 hd)
  have h1 := Int.emod_nonneg n (show ((2 ^ m : Nat) : Int) ≠ 0 by omega)
  have h2 := Int.emod_lt_of_pos n (show (0 : Int) < ((2 ^ m : Nat) : Int) by omega)
  rw [e, Int.toNat_of_nonneg h1, IntKind.wrap_i64]
  omega
theorem and_15 (n : Int) : bits .and .i64 n 15 = n % 16 := and_low n 4 15 (by omega) (by decide)
theorem and_16383 (n : Int) : bits .and .i64 n 16383 = n % 16384 := and_low n 14 16383 (by omega) (by decide)

/-! The faults that Parse asks for. -/
theorem dec_true {p : Prop} [Decidable p] (h : p) : decide p = true := decide_eq_true h
theorem dec_false {p : Prop} [Decidable p] (h : ¬ p) : decide p = false := decide_eq_false h

set_option maxHeartbeats 800000 in
theorem parse1 (s : ByteArray) (B : Nat) (w : World) (hc : w.cell? ⟨B, 0, none⟩ = some (.string s)) :
    Calls Try.prog 47 #[.pointer (some ⟨B, 0, none⟩)] w fun e W' => e = .returned (.bool (decide (s.size < 20))) ∧ w = W' := by
  by_cases h : s.size < 20
  · rw [dec_true h]
    have d1 : decide ((s.size : Int) < 20) = true := decide_eq_true (by omega)
    go_enter Try.func47, Try.ntmps47
    go_wp2
    go_ret
    exact ⟨rfl, rfl⟩
  · rw [dec_false h]
    have d1 : decide ((s.size : Int) < 20) = false := decide_eq_false (by omega)
    go_enter Try.func47, Try.ntmps47
    go_wp2
    go_ret
    exact ⟨rfl, rfl⟩

set_option maxHeartbeats 800000 in
theorem parse2 (v : Nat) (B : Nat) (w : World) (hc : w.cell? ⟨B, 0, none⟩ = some (.int .i64 (v : Int))) :
    Calls Try.prog 48 #[.pointer (some ⟨B, 0, none⟩)] w fun e W' => e = .returned (.bool (decide (v ≠ 4))) ∧ w = W' := by
  by_cases h : v = 4
  · subst h
    go_enter Try.func48, Try.ntmps48
    go_wp2
    go_ret
    exact ⟨rfl, rfl⟩
  · rw [dec_true h]
    have N : ((v : Int) != 4) = true := bne_iff_ne.2 (by omega)
    go_enter Try.func48, Try.ntmps48
    go_wp2
    go_ret
    exact ⟨rfl, rfl⟩

set_option maxHeartbeats 800000 in
theorem parse3 (s : ByteArray) (v : Nat) (B C : Nat) (w : World) (hcv : w.cell? ⟨B, 0, none⟩ = some (.int .i64 (v : Int))) (hc : w.cell? ⟨C, 0, none⟩ = some (.string s)) :
    Calls Try.prog 49 #[.pointer (some ⟨B, 0, none⟩), .pointer (some ⟨C, 0, none⟩)] w fun e W' => e = .returned (.bool (decide (v < 20 ∨ s.size < v))) ∧ w = W' := by
  by_cases h : v < 20
  · rw [dec_true (Or.inl h)]
    have d1 : decide ((v : Int) < 20) = true := decide_eq_true (by omega)
    go_enter Try.func49, Try.ntmps49
    go_wp2
    go_ret
    exact ⟨rfl, rfl⟩
  · by_cases h2 : s.size < v
    · rw [dec_true (Or.inr h2)]
      have d1 : decide ((v : Int) < 20) = false := decide_eq_false (by omega)
      have d2 : decide ((s.size : Int) < (v : Int)) = true := decide_eq_true (by omega)
      go_enter Try.func49, Try.ntmps49
      go_wp2
      go_ret
      exact ⟨rfl, rfl⟩
    · rw [dec_false (by omega)]
      have d1 : decide ((v : Int) < 20) = false := decide_eq_false (by omega)
      have d2 : decide ((s.size : Int) < (v : Int)) = false := decide_eq_false (by omega)
      go_enter Try.func49, Try.ntmps49
      go_wp2
      go_ret
      exact ⟨rfl, rfl⟩

set_option maxHeartbeats 800000 in
theorem parse4 (s : ByteArray) (u v : Nat) (A B C : Nat) (w : World) (hcu : w.cell? ⟨A, 0, none⟩ = some (.int .i64 (u : Int))) (hcv : w.cell? ⟨B, 0, none⟩ = some (.int .i64 (v : Int))) (hc : w.cell? ⟨C, 0, none⟩ = some (.string s)) :
    Calls Try.prog 50 #[.pointer (some ⟨A, 0, none⟩), .pointer (some ⟨B, 0, none⟩), .pointer (some ⟨C, 0, none⟩)] w fun e W' => e = .returned (.bool (decide (u < v ∨ s.size < u))) ∧ w = W' := by
  by_cases h : u < v
  · rw [dec_true (Or.inl h)]
    have d1 : decide ((u : Int) < (v : Int)) = true := decide_eq_true (by omega)
    go_enter Try.func50, Try.ntmps50
    go_wp2
    go_ret
    exact ⟨rfl, rfl⟩
  · by_cases h2 : s.size < u
    · rw [dec_true (Or.inr h2)]
      have d1 : decide ((u : Int) < (v : Int)) = false := decide_eq_false (by omega)
      have d2 : decide ((s.size : Int) < (u : Int)) = true := decide_eq_true (by omega)
      go_enter Try.func50, Try.ntmps50
      go_wp2
      go_ret
      exact ⟨rfl, rfl⟩
    · rw [dec_false (by omega)]
      have d1 : decide ((u : Int) < (v : Int)) = false := decide_eq_false (by omega)
      have d2 : decide ((s.size : Int) < (u : Int)) = false := decide_eq_false (by omega)
      go_enter Try.func50, Try.ntmps50
      go_wp2
      go_ret
      exact ⟨rfl, rfl⟩

set_option maxHeartbeats 800000 in
theorem parse5 (s : ByteArray) (hs : s.size ≤ 1099511627776) (v : Nat) (hv : v ≤ s.size) (B C : Nat) (w : World) (hc : w.cell? ⟨B, 0, none⟩ = some (.string s)) (hcv : w.cell? ⟨C, 0, none⟩ = some (.int .i64 (v : Int))) :
    Calls Try.prog 51 #[.pointer (some ⟨B, 0, none⟩), .pointer (some ⟨C, 0, none⟩)] w fun e W' => e = .returned (.bool (decide (Cks.fc (Cks.tot (s.extract 0 v).data.toList) ≠ 65535))) ∧ Below w.heap.size w W' := by
  have z := Lib.hid (show (s.extract 0 v).size ≤ 1099511627776 by rw [ByteArray.size_extract]; omega)
  by_cases h : Cks.fc (Cks.tot (s.extract 0 v).data.toList) = 65535
  · rw [dec_false (fun e => e h)]
    go_enter Try.func51, Try.ntmps51
    go_wp2_with fail
    refine (Cks.Good_any _ z.out _).mono ?_
    rintro e w1 ⟨rfl, hb1⟩
    rw [dec_true h]
    go_wp2_with fail
    go_ret
    exact ⟨rfl, hb1⟩
  · rw [dec_true h]
    go_enter Try.func51, Try.ntmps51
    go_wp2_with fail
    refine (Cks.Good_any _ z.out _).mono ?_
    rintro e w1 ⟨rfl, hb1⟩
    rw [dec_false h]
    go_wp2_with fail
    go_ret
    exact ⟨rfl, hb1⟩

set_option maxRecDepth 100000 in
set_option maxHeartbeats 800000 in
theorem parse6 (s : ByteArray) (hs : s.size ≤ 1099511627776) (B C : Nat) (w : World) (hc : w.cell? ⟨B, 0, none⟩ = some (.func (.func 76) #[] #[.pointer (some ⟨C, 0, none⟩)])) (hcs : w.cell? ⟨C, 0, none⟩ = some (.string s)) :
    Calls Try.prog 53 #[.pointer (some ⟨B, 0, none⟩)] w fun e W' => e = .returned (.bool (decide (gv s 6 2 % 16384 ≠ 0))) ∧ Below w.heap.size w W' := by
  have hl := gv_le s 6 2 (by omega)
  have H := Lib.hid hcs
  clear hcs
  have a1 := and_16383 (gv s 6 2 : Nat)
  by_cases h : gv s 6 2 % 16384 = 0
  · rw [dec_false (fun e => e h)]
    have a2 : ((gv s 6 2 : Nat) : Int) % 16384 = 0 := by omega
    go_enter Try.func53, Try.ntmps53
    go_wp2_with fail
    refine (number_any s hs C 6 2 (by omega) (by omega) w H.out).mono ?_
    rintro e w1 ⟨rfl, hb1⟩
    go_wp2_with fail
    go_ret
    exact ⟨rfl, hb1⟩
  · rw [dec_true h]
    have a2 : (((gv s 6 2 : Nat) : Int) % 16384 != 0) = true := bne_iff_ne.2 (by omega)
    go_enter Try.func53, Try.ntmps53
    go_wp2_with fail
    refine (number_any s hs C 6 2 (by omega) (by omega) w H.out).mono ?_
    rintro e w1 ⟨rfl, hb1⟩
    go_wp2_with fail
    go_ret
    exact ⟨rfl, hb1⟩

/-! The faults that Put asks for. -/
set_option maxHeartbeats 800000 in
theorem put1 (x y : ByteArray) (B : Nat) (w : World) (hx : w.cell? ⟨B, 0, none⟩ = some (.string x)) (hy : w.cell? ⟨B, 1, none⟩ = some (.string y)) :
    Calls Try.prog 59 #[.pointer (some ⟨B, 0, none⟩)] w fun e W' => e = .returned (.bool (decide (x.size ≠ 4 ∨ y.size ≠ 4))) ∧ w = W' := by
  by_cases h : x.size = 4
  · have n1 : ((x.size : Int) != 4) = false := by rw [h]; rfl
    by_cases h2 : y.size = 4
    · rw [dec_false (by omega)]
      have n2 : ((y.size : Int) != 4) = false := by rw [h2]; rfl
      go_enter Try.func59, Try.ntmps59
      go_wp2
      go_ret
      exact ⟨rfl, rfl⟩
    · rw [dec_true (Or.inr h2)]
      have n2 : ((y.size : Int) != 4) = true := bne_iff_ne.2 (by omega)
      go_enter Try.func59, Try.ntmps59
      go_wp2
      go_ret
      exact ⟨rfl, rfl⟩
  · rw [dec_true (Or.inl h)]
    have n1 : ((x.size : Int) != 4) = true := bne_iff_ne.2 (by omega)
    go_enter Try.func59, Try.ntmps59
    go_wp2
    go_ret
    exact ⟨rfl, rfl⟩

set_option maxHeartbeats 800000 in
theorem put2 (p : Int) (B : Nat) (w : World) (hp : w.cell? ⟨B, 2, none⟩ = some (.int .i64 p)) :
    Calls Try.prog 60 #[.pointer (some ⟨B, 0, none⟩)] w fun e W' => e = .returned (.bool (decide (p < 0 ∨ 255 < p))) ∧ w = W' := by
  by_cases h : p < 0
  · rw [dec_true (Or.inl h)]
    have d1 : decide (p < 0) = true := decide_eq_true h
    go_enter Try.func60, Try.ntmps60
    go_wp2
    go_ret
    exact ⟨rfl, rfl⟩
  · have d1 : decide (p < 0) = false := decide_eq_false h
    by_cases h2 : 255 < p
    · rw [dec_true (Or.inr h2)]
      have d2 : decide (255 < p) = true := decide_eq_true h2
      go_enter Try.func60, Try.ntmps60
      go_wp2
      go_ret
      exact ⟨rfl, rfl⟩
    · rw [dec_false (by omega)]
      have d2 : decide (255 < p) = false := decide_eq_false h2
      go_enter Try.func60, Try.ntmps60
      go_wp2
      go_ret
      exact ⟨rfl, rfl⟩

set_option maxHeartbeats 800000 in
theorem put3 (s : ByteArray) (B : Nat) (w : World) (hc : w.cell? ⟨B, 0, none⟩ = some (.string s)) :
    Calls Try.prog 61 #[.pointer (some ⟨B, 0, none⟩)] w fun e W' => e = .returned (.bool (decide (65515 < s.size))) ∧ w = W' := by
  by_cases h : 65515 < s.size
  · rw [dec_true h]
    have d1 : decide ((65515 : Int) < (s.size : Int)) = true := decide_eq_true (by omega)
    go_enter Try.func61, Try.ntmps61
    go_wp2
    go_ret
    exact ⟨rfl, rfl⟩
  · rw [dec_false h]
    have d1 : decide ((65515 : Int) < (s.size : Int)) = false := decide_eq_false (by omega)
    go_enter Try.func61, Try.ntmps61
    go_wp2
    go_ret
    exact ⟨rfl, rfl⟩

end Go.Proofs.Ytcdgcjpdlhknoaa.Ip4
