/-
  Ip4Word: for every src, dst, proto, rest, at and x the law Ip4Word answers true: another word in a head is found out, but for 0 and 65535. No condition.
-/
import Derived.Test.YtmfmggjliibblaaRows
import Derived.Test.YtmfmggjliibblaaIp4H
import Derived.Test.YtmfmggjliibblaaRgnH
import Derived.ProofKit
import Derived.OpenShut
import Derived.ChangeMaps5
namespace Go.Proofs.Ytmfmggjliibblaa
open Go.ChangeShapes Go.WideShapes Go.ChangeAt Go.RowKit
open Go.ChangeMaps (open_string shut_string)
open Ip4 Rgn

/-- The law's frame at the region in which another word is laid and parsed. -/
abbrev frW (S : ByteArray) (n v : Nat) (y x : Nat → Value) : Act := { tmps := #[y 0, y 1, y 2, y 3, .int .i64 (n : Int), .int .u16 (v : Int), y 6, y 7, y 8, y 9, y 10, y 11, y 12, .bool true, .string S, y 15, y 16, y 17, x 19, x 21, x 22, y 21, y 22, y 23, y 24, y 25, y 26, y 27, y 28, y 29, y 30, y 31, y 32, y 33, y 34, y 35, y 36, y 37, y 38, y 39, y 40, y 41, y 42, y 43, y 44, y 45, y 46, y 47, y 48, y 49, y 50, y 51, y 52, y 53, y 54, y 55, y 56, y 57, y 58, y 59, y 60, y 61, y 62, y 63, y 64, y 65, y 66, y 67, y 68, y 69, y 70, y 71, y 72, y 73, y 74, y 75, y 76, y 77, y 78, y 79, y 80, y 81, y 82, y 83, y 84, y 85, y 86, y 87, y 88, x 15, x 0, x 1, x 2, x 3, x 4, x 5, x 6, x 7, x 8, x 9, x 10, x 11, x 12, x 13, x 14, x 16, x 17, x 18, y 108, y 109, y 110, y 111, y 112, y 113, y 114, y 115, y 116, y 117, y 118, y 119, y 120, y 121, y 122, y 123, y 124, y 125, y 126, y 127, y 128, y 129], defers := [] }
/-- What that region's operations yield. -/
def valsW (S : ByteArray) (n v : Nat) (E : Int) : Nat → Value
  | 0 => .string S
  | 1 => .int .i64 (n : Int)
  | 2 => .int .i64 (2 * (n : Int))
  | 3 => .string (S.extract 0 (2 * n))
  | 4 => .int .u16 (v : Int)
  | 5 => .int .u64 (v : Int)
  | 6 => .string (Oct.str (Oct.bytes v 2))
  | 7 => .string (S.extract 0 (2 * n) ++ Oct.str (Oct.bytes v 2))
  | 8 => .string S
  | 9 => .int .i64 (n : Int)
  | 10 => .int .i64 (2 * (n : Int))
  | 11 => .int .i64 (2 * (n : Int) + 2)
  | 12 => .string (S.extract (2 * n + 2) S.size)
  | 13 => .string (S.extract 0 (2 * n) ++ Oct.str (Oct.bytes v 2) ++ S.extract (2 * n + 2) S.size)
  | 14 => badV E
  | 15 => badV E
  | 16 => .agg #[.string ⟨#[]⟩, .string ⟨#[]⟩, .int .i64 0]
  | 17 => .string ⟨#[]⟩
  | 18 => .int .i64 E
  | 21 => .string ⟨#[]⟩
  | _ => .int .i64 E

def yA (a0 a1 : ByteArray) (a2 : Int) (a3 S : ByteArray) (n v V : Nat) : Nat → Value := fun i => ([.string a0, .string a1, .int .i64 a2, .string a3, undef, undef, undef, undef, undef, undef, undef, undef, .bool false, undef, undef, .int .i64 0, .int .u64 (V : Int), .bool true, undef, undef, undef, .bool true, .bool true, .bool false, .string a0, .int .i64 (a0.size : Int), .bool false, .bool false, .string a1, .int .i64 (a1.size : Int), .bool false, .bool false, .bool false, .string a3, .int .i64 (a3.size : Int), .bool false, .bool false, .bool false, .int .i64 (n : Int), .bool false, .bool false, .bool false, .int .i64 (n : Int), .bool false, .bool false, undef, .tuple #[.string S, .int .i64 0], .string a0, .string a1, .int .i64 a2, .agg #[.string a0, .string a1, .int .i64 a2], .string a3, .tuple #[.string S, .int .i64 0], .string S, .int .i64 0, .int .i64 0, .bool false, .bool false, .string S, .int .i64 (20 + (a3.size : Int)), .bool (decide (20 + (a3.size : Int) < 20)), .bool (decide (20 + (a3.size : Int) < 20)), undef, undef, undef, undef, undef, .tuple #[.int .u64 (V : Int), .bool true], .string S, .int .i64 (n : Int), .int .i64 (2 * (n : Int)), .tuple #[.int .u64 (V : Int), .bool true], .int .u64 (V : Int), .bool true, .int .u64 (V : Int), .int .u16 (v : Int), .int .u64 (v : Int), .bool false, .bool false, .int .u64 (V : Int), .int .u64 ((V : Int) % 65535), .bool true, .bool true, .int .u16 (v : Int), .int .u16 ((v : Int) % 65535), .bool false, .bool false, .bool false, undef, undef, undef, undef, undef, undef, undef, undef, undef, undef, undef, undef, undef, undef, undef, undef, undef, undef, undef, undef, undef, undef, undef, undef, undef, undef, undef, undef, undef, undef, undef, undef, undef, undef, undef, undef, undef, undef, undef, undef, undef, undef] : List Value).getD i undef
def yB (a0 a1 : ByteArray) (a2 : Int) (a3 S : ByteArray) (n v V : Nat) : Nat → Value := fun i => ([.string a0, .string a1, .int .i64 a2, .string a3, undef, undef, undef, undef, undef, undef, undef, undef, .bool false, undef, undef, .int .i64 0, .int .u64 (V : Int), .bool true, undef, undef, undef, .bool true, .bool true, .bool false, .string a0, .int .i64 (a0.size : Int), .bool false, .bool false, .string a1, .int .i64 (a1.size : Int), .bool false, .bool false, .bool false, .string a3, .int .i64 (a3.size : Int), .bool false, .bool false, .bool false, .int .i64 (n : Int), .bool false, .bool false, .bool false, .int .i64 (n : Int), .bool false, .bool false, undef, .tuple #[.string S, .int .i64 0], .string a0, .string a1, .int .i64 a2, .agg #[.string a0, .string a1, .int .i64 a2], .string a3, .tuple #[.string S, .int .i64 0], .string S, .int .i64 0, .int .i64 0, .bool false, .bool false, .string S, .int .i64 (20 + (a3.size : Int)), .bool (decide (20 + (a3.size : Int) < 20)), .bool (decide (20 + (a3.size : Int) < 20)), undef, undef, undef, undef, undef, .tuple #[.int .u64 (V : Int), .bool true], .string S, .int .i64 (n : Int), .int .i64 (2 * (n : Int)), .tuple #[.int .u64 (V : Int), .bool true], .int .u64 (V : Int), .bool true, .int .u64 (V : Int), .int .u16 (v : Int), .int .u64 (v : Int), .bool false, .bool false, .int .u64 (V : Int), .int .u64 ((V : Int) % 65535), .bool false, .bool false, undef, undef, undef, .bool false, .bool false, undef, undef, undef, undef, undef, undef, undef, undef, undef, undef, undef, undef, undef, undef, undef, undef, undef, undef, undef, undef, undef, undef, undef, undef, undef, undef, undef, undef, undef, undef, undef, undef, undef, undef, undef, undef, undef, undef, undef, undef, undef, undef] : List Value).getD i undef

set_option maxRecDepth 100000 in
set_option maxHeartbeats 6400000 in
theorem walk_Ip4Word (a0 a1 : ByteArray) (a2 : Int) (a3 : ByteArray) (a4 a5 : Int) (_h0 : a0.size ≤ maxLen) (_h1 : a1.size ≤ maxLen) (h2 : (Lit.int .i64 a2).wf = true) (h3 : a3.size ≤ maxLen) (h4 : (Lit.int .i64 a4).wf = true) (h5 : (Lit.int .u16 a5).wf = true) (w : World) :
    Calls Try.prog 6 #[.string a0, .string a1, .int .i64 a2, .string a3, .int .i64 a4, .int .u16 a5] w fun e W' => e = .returned (.bool true) ∧ Below w.heap.size w W' := by
  unfold maxLen at h3
  have b2 := bounds_i64 h2
  have b4 := bounds_i64 h4
  have b5 := bounds_u16 h5
  clear h2 h4 h5
  by_cases g0 : (300 : Int) < (a0.size : Int)
  · have d0 : decide ((300 : Int) < (a0.size : Int)) = true := by simpa using g0
    go_enter Try.func6, Try.ntmps6
    go_wp2_with fail
    refine (works_any _).mono ?_
    rintro e w1 ⟨rfl, hb1⟩
    go_wp2_with fail
    go_ret
    exact ⟨rfl, hb1⟩
  have d0 : decide ((300 : Int) < (a0.size : Int)) = false := by simpa using g0
  by_cases g1 : (300 : Int) < (a1.size : Int)
  · have d1 : decide ((300 : Int) < (a1.size : Int)) = true := by simpa using g1
    go_enter Try.func6, Try.ntmps6
    go_wp2_with fail
    refine (works_any _).mono ?_
    rintro e w1 ⟨rfl, hb1⟩
    go_wp2_with fail
    go_ret
    exact ⟨rfl, hb1⟩
  have d1 : decide ((300 : Int) < (a1.size : Int)) = false := by simpa using g1
  by_cases g3 : (300 : Int) < (a3.size : Int)
  · have d3 : decide ((300 : Int) < (a3.size : Int)) = true := by simpa using g3
    go_enter Try.func6, Try.ntmps6
    go_wp2_with fail
    refine (works_any _).mono ?_
    rintro e w1 ⟨rfl, hb1⟩
    go_wp2_with fail
    go_ret
    exact ⟨rfl, hb1⟩
  have d3 : decide ((300 : Int) < (a3.size : Int)) = false := by simpa using g3
  by_cases g4 : a4 < 1
  · have d4 : decide (a4 < 1) = true := by simpa using g4
    go_enter Try.func6, Try.ntmps6
    go_wp2_with fail
    refine (works_any _).mono ?_
    rintro e w1 ⟨rfl, hb1⟩
    go_wp2_with fail
    go_ret
    exact ⟨rfl, hb1⟩
  have d4 : decide (a4 < 1) = false := by simpa using g4
  by_cases g5 : 9 < a4
  · have d5 : decide (9 < a4) = true := by simpa using g5
    go_enter Try.func6, Try.ntmps6
    go_wp2_with fail
    refine (works_any _).mono ?_
    rintro e w1 ⟨rfl, hb1⟩
    go_wp2_with fail
    go_ret
    exact ⟨rfl, hb1⟩
  have d5 : decide (9 < a4) = false := by simpa using g5
  by_cases hbad : a0.size ≠ 4 ∨ a1.size ≠ 4 ∨ a2 < 0 ∨ 255 < a2
  · go_enter Try.func6, Try.ntmps6
    go_wp2_with fail
    refine (works_any _).mono ?_
    rintro e w1 ⟨rfl, hb1⟩
    go_wp2_with fail
    refine (Put_arg a0 a1 a2 a3 hbad (by omega) _).mono ?_
    rintro e w2 ⟨rfl, hb2⟩
    go_wp2_with fail
    go_ret
    exact ⟨rfl, below2 hb1 hb2⟩
  obtain ⟨n, rfl⟩ := Int.eq_ofNat_of_zero_le (show 0 ≤ a4 by omega)
  obtain ⟨v, rfl⟩ := Int.eq_ofNat_of_zero_le b5.1
  have q1 : IntKind.i64.wrap (2 * (n : Int)) = 2 * (n : Int) := IntWalk.i64_in _ (by omega)
  go_enter Try.func6, Try.ntmps6
  go_wp2_with fail
  refine (works_any _).mono ?_
  rintro e w1 ⟨rfl, hb1⟩
  go_wp2_with fail
  refine (Put_named a0 a1 a2 a3 (by omega) (by omega) (by omega) (by omega) _).mono ?_
  rintro e w2 ⟨S, rfl, hz, HS, hb2⟩
  have d6 : decide ((S.size : Int) < 20) = false := decide_eq_false (by omega)
  have B2 := Lib.hid (below2 hb1 hb2)
  clear hb1 hb2
  go_wp2_with fail
  refine (Oct.Get_yes S (2 * (n : Int)) 2 _ (by omega) (by omega)).mono ?_
  rintro e w3 ⟨rfl, hb3⟩
  have B3 := Lib.hid (below2 B2.out hb3)
  clear B2 hb3
  have hV : Oct.getV S (2 * (n : Int)) 2 ≤ 65535 := getV_le S (2 * (n : Int))
  have HV := Lib.hid (show Oct.getV S (2 * (n : Int)) 2 = Oct.getV S (2 * (n : Int)) 2 from rfl)
  generalize hg : Oct.getV S (2 * (n : Int)) 2 = V at *
  clear HV
  have HG := Lib.hid hg
  clear hg
  by_cases k1 : V = v
  · subst k1
    go_wp2_with fail
    go_ret
    exact ⟨rfl, B3.out⟩
  have e1 : ((V : Int) == (v : Int)) = false := beq_false_of_ne (by omega)
  have hk : V % 65535 = 0 ∧ v % 65535 = 0 ∨ ¬ (V % 65535 = 0 ∧ v % 65535 = 0) := Decidable.em _
  rcases hk with ⟨k2, k3⟩ | hk
  · have e2 : ((V : Int) % 65535 == 0) = true := beq_iff_eq.2 (by omega)
    have e3 : ((v : Int) % 65535 == 0) = true := beq_iff_eq.2 (by omega)
    go_wp2_with fail
    go_ret
    exact ⟨rfl, B3.out⟩
  by_cases k2 : V % 65535 = 0
  · have e2 : ((V : Int) % 65535 == 0) = true := beq_iff_eq.2 (by omega)
    have e3 : ((v : Int) % 65535 == 0) = false := beq_false_of_ne (by omega)
    go_wp2_with fail
    change Code.wp _ _ _ (frW S n v (yA a0 a1 a2 a3 S n v V) (fun _ => undef)) _
    generalize yA a0 a1 a2 a3 S n v V = y
    clear e1 e2 e3 k2
    obtain ⟨c, hc6, hcc, hno, hyes⟩ := word_so a0 a1 a2.toNat a3 (by omega) (by omega) (by omega) (by omega) n v V (by omega) (by omega) (by omega) (by rw [← HS.out]; exact HG.out) k1 hk
    rw [← HS.out] at hno hyes
    have hP := Lib.hid (Parse_bad (edit S n v) (by rw [edit_size S n v (by omega)]; omega) c hc6 hno hyes)
    have hE : code c = 5 ∨ code c = 4 ∧ n = 1 := by
      rcases hcc with rfl | ⟨rfl, h⟩
      · exact .inl rfl
      · exact .inr ⟨rfl, h⟩
    clear hno hyes hcc hc6
    generalize code c = E at *
    unfold edit at hP
    have hM : Hid (∀ W, Calls Try.prog 16 #[.int .u64 (v : Int), .int .i64 2] W fun e W' => e = .returned (.string (Oct.str (Oct.bytes v 2))) ∧ Below W.heap.size W W') := Lib.hid (fun W => Oct.Put_yes (v : Int) 2 W (by omega) (by omega) (by omega))
    have hS1 : 20 ≤ S.size := by omega
    have hS2 : S.size ≤ 400 := by omega
    have q2 : IntKind.i64.wrap (2 * (n : Int) + 2) = 2 * (n : Int) + 2 := IntWalk.i64_in _ (by omega)
    have q3 : IntKind.u64.wrap (v : Int) = v := IntWalk.u64_in _ (by omega)
    have i2 : 2 * (n : Int) ≤ (S.size : Int) := by omega
    have i3 : 2 * (n : Int) + 2 ≤ (S.size : Int) := by omega
    have tn : (2 * (n : Int)).toNat = 2 * n := by omega
    have tn2 : (2 * (n : Int) + 2).toNat = 2 * n + 2 := by omega
    have z2 : (Oct.str (Oct.bytes v 2)).size = 2 := by rw [str_size, Oct.bytes_length]
    have z3 : (S.extract 0 (2 * n)).size ≤ 400 := by rw [ByteArray.size_extract]; omega
    have z4 : (S.extract (2 * n + 2) S.size).size ≤ 400 := by rw [ByteArray.size_extract]; omega
    have A7 : ∀ u : World, (Op.stringOp .add (S.extract 0 (2 * n)) (Oct.str (Oct.bytes v 2))).run Try.prog u = .ok (.string (S.extract 0 (2 * n) ++ Oct.str (Oct.bytes v 2))) u := fun u => run_string_add_sum u _ _ (by omega)
    have A13 : ∀ u : World, (Op.stringOp .add (S.extract 0 (2 * n) ++ Oct.str (Oct.bytes v 2)) (S.extract (2 * n + 2) S.size)).run Try.prog u = .ok (.string (S.extract 0 (2 * n) ++ Oct.str (Oct.bytes v 2) ++ S.extract (2 * n + 2) S.size)) u := fun u => run_string_add_sum u _ _ (by rw [ByteArray.size_append]; omega)
    clear hz HG HS h3 b2 hbad
    refine wp_region_inv (fun d a w' => ∃ (x : Nat → Value) (b : Nat), a = frW S n v y x ∧ InvH 19 20 w3 (.string ⟨#[]⟩) (.string ⟨#[]⟩) (.int .i64 0) (valsW S n v E) d x b w')
      (by kernel_rfl) (by kernel_rfl) ?step ?done ?start
    case start => exact ⟨fun _ => undef, 0, rfl, InvH.start _ _ _ (Below.refl _ w3).drew⟩
    case step =>
      rintro d a w' i hi hd hall ⟨x, b, rfl, hI⟩
      replace hi : i < 23 := hi
      obtain rfl | rfl | rfl | rfl | rfl | rfl | rfl | rfl | rfl | rfl | rfl | rfl | rfl | rfl | rfl | rfl | rfl | rfl | rfl | rfl | rfl | rfl | rfl : i = 0 ∨ i = 1 ∨ i = 2 ∨ i = 3 ∨ i = 4 ∨ i = 5 ∨ i = 6 ∨ i = 7 ∨ i = 8 ∨ i = 9 ∨ i = 10 ∨ i = 11 ∨ i = 12 ∨ i = 13 ∨ i = 14 ∨ i = 15 ∨ i = 16 ∨ i = 17 ∨ i = 18 ∨ i = 19 ∨ i = 20 ∨ i = 21 ∨ i = 22 := by omega
      · clear hall
        refine wpOp_step rfl (fun K hK => ?_)
        simp only [List.getElem_toArray, List.getElem_cons_zero]
        go_simp
        exact hK _ _ ⟨_, _, by simp [upv, valsW], hI.yields (i := 0) (by omega) (Below.refl _ _)⟩
      · clear hall
        refine wpOp_step rfl (fun K hK => ?_)
        simp only [List.getElem_toArray, List.getElem_cons_zero, List.getElem_cons_succ]
        go_simp
        exact hK _ _ ⟨_, _, by simp [upv, valsW], hI.yields (i := 1) (by omega) (Below.refl _ _)⟩
      · have h1 : x 1 = .int .i64 (n : Int) := hI.pure 1 (by omega) (by omega) (hall 1 (by kernel_rfl))
        clear hall
        refine wpOp_step rfl (fun K hK => ?_)
        simp only [List.getElem_toArray, List.getElem_cons_zero, List.getElem_cons_succ]
        go_simp
        exact hK _ _ ⟨_, _, by simp [upv, valsW, h1], hI.yields (i := 2) (by omega) (Below.refl _ _)⟩
      · have h0 : x 0 = .string S := hI.pure 0 (by omega) (by omega) (hall 0 (by kernel_rfl))
        have h2 : x 2 = .int .i64 (2 * (n : Int)) := hI.pure 2 (by omega) (by omega) (hall 2 (by kernel_rfl))
        clear hall
        refine wpOp_step rfl (fun K hK => ?_)
        simp only [List.getElem_toArray, List.getElem_cons_zero, List.getElem_cons_succ]
        go_simp
        exact hK _ _ ⟨_, _, rfl, hI.yields (i := 3) (by omega) (Below.refl _ _)⟩
      · clear hall
        refine wpOp_step rfl (fun K hK => ?_)
        simp only [List.getElem_toArray, List.getElem_cons_zero, List.getElem_cons_succ]
        go_simp
        exact hK _ _ ⟨_, _, by simp [upv, valsW], hI.yields (i := 4) (by omega) (Below.refl _ _)⟩
      · have h4 : x 4 = .int .u16 (v : Int) := hI.pure 4 (by omega) (by omega) (hall 4 (by kernel_rfl))
        clear hall
        refine wpOp_step rfl (fun K hK => ?_)
        simp only [List.getElem_toArray, List.getElem_cons_zero, List.getElem_cons_succ]
        go_simp
        exact hK _ _ ⟨_, _, by simp [upv, valsW, h4], hI.yields (i := 5) (by omega) (Below.refl _ _)⟩
      · have h5 : x 5 = .int .u64 (v : Int) := hI.pure 5 (by omega) (by omega) (hall 5 (by kernel_rfl))
        clear hall
        refine wpOp_step rfl (fun K hK => ?_)
        simp only [List.getElem_toArray, List.getElem_cons_zero, List.getElem_cons_succ]
        go_simp
        refine (hM.out w').mono ?_
        rintro e w4 ⟨rfl, hb4⟩
        exact hK _ _ ⟨_, _, by simp [upv, valsW, h5], hI.yields (i := 6) (by omega) hb4⟩
      · have h3 : x 3 = .string (S.extract 0 (2 * n)) := hI.pure 3 (by omega) (by omega) (hall 3 (by kernel_rfl))
        have h6 : x 6 = .string (Oct.str (Oct.bytes v 2)) := hI.pure 6 (by omega) (by omega) (hall 6 (by kernel_rfl))
        clear hall
        refine wpOp_step rfl (fun K hK => ?_)
        simp only [List.getElem_toArray, List.getElem_cons_zero, List.getElem_cons_succ]
        go_simp
        exact hK _ _ ⟨_, _, by simp [upv, valsW, h3, h6], hI.yields (i := 7) (by omega) (Below.refl _ _)⟩
      · clear hall
        refine wpOp_step rfl (fun K hK => ?_)
        simp only [List.getElem_toArray, List.getElem_cons_zero, List.getElem_cons_succ]
        go_simp
        exact hK _ _ ⟨_, _, by simp [upv, valsW], hI.yields (i := 8) (by omega) (Below.refl _ _)⟩
      · clear hall
        refine wpOp_step rfl (fun K hK => ?_)
        simp only [List.getElem_toArray, List.getElem_cons_zero, List.getElem_cons_succ]
        go_simp
        exact hK _ _ ⟨_, _, by simp [upv, valsW], hI.yields (i := 9) (by omega) (Below.refl _ _)⟩
      · have h9 : x 9 = .int .i64 (n : Int) := hI.pure 9 (by omega) (by omega) (hall 9 (by kernel_rfl))
        clear hall
        refine wpOp_step rfl (fun K hK => ?_)
        simp only [List.getElem_toArray, List.getElem_cons_zero, List.getElem_cons_succ]
        go_simp
        exact hK _ _ ⟨_, _, by simp [upv, valsW, h9], hI.yields (i := 10) (by omega) (Below.refl _ _)⟩
      · have h10 : x 10 = .int .i64 (2 * (n : Int)) := hI.pure 10 (by omega) (by omega) (hall 10 (by kernel_rfl))
        clear hall
        refine wpOp_step rfl (fun K hK => ?_)
        simp only [List.getElem_toArray, List.getElem_cons_zero, List.getElem_cons_succ]
        go_simp
        exact hK _ _ ⟨_, _, by simp [upv, valsW, h10], hI.yields (i := 11) (by omega) (Below.refl _ _)⟩
      · have h8 : x 8 = .string S := hI.pure 8 (by omega) (by omega) (hall 8 (by kernel_rfl))
        have h11 : x 11 = .int .i64 (2 * (n : Int) + 2) := hI.pure 11 (by omega) (by omega) (hall 11 (by kernel_rfl))
        clear hall
        refine wpOp_step rfl (fun K hK => ?_)
        simp only [List.getElem_toArray, List.getElem_cons_zero, List.getElem_cons_succ]
        go_simp
        exact hK _ _ ⟨_, _, rfl, hI.yields (i := 12) (by omega) (Below.refl _ _)⟩
      · have h7 : x 7 = .string (S.extract 0 (2 * n) ++ Oct.str (Oct.bytes v 2)) := hI.pure 7 (by omega) (by omega) (hall 7 (by kernel_rfl))
        have h12 : x 12 = .string (S.extract (2 * n + 2) S.size) := hI.pure 12 (by omega) (by omega) (hall 12 (by kernel_rfl))
        clear hall
        refine wpOp_step rfl (fun K hK => ?_)
        simp only [List.getElem_toArray, List.getElem_cons_zero, List.getElem_cons_succ]
        go_simp
        exact hK _ _ ⟨_, _, by simp [upv, valsW, h7, h12], hI.yields (i := 13) (by omega) (Below.refl _ _)⟩
      · have h13 : x 13 = .string (S.extract 0 (2 * n) ++ Oct.str (Oct.bytes v 2) ++ S.extract (2 * n + 2) S.size) := hI.pure 13 (by omega) (by omega) (hall 13 (by kernel_rfl))
        clear hall
        refine wpOp_step rfl (fun K hK => ?_)
        simp only [List.getElem_toArray, List.getElem_cons_zero, List.getElem_cons_succ]
        go_simp
        refine (hP.out w').mono ?_
        rintro e w4 ⟨rfl, hb4⟩
        exact hK _ _ ⟨_, _, by simp [upv, valsW, h13], hI.yields (i := 14) (by omega) hb4⟩
      · have h14 : x 14 = badV E := hI.pure 14 (by omega) (by omega) (hall 14 (by kernel_rfl))
        clear hall
        refine wpOp_step rfl (fun K hK => ?_)
        simp only [List.getElem_toArray, List.getElem_cons_zero, List.getElem_cons_succ]
        go_simp
        exact hK _ _ ⟨_, _, by simp [upv, valsW, h14], hI.yields (i := 15) (by omega) (Below.refl _ _)⟩
      · have h15 : x 15 = badV E := hI.pure 15 (by omega) (by omega) (hall 15 (by kernel_rfl))
        clear hall
        refine wpOp_step rfl (fun K hK => ?_)
        simp only [List.getElem_toArray, List.getElem_cons_zero, List.getElem_cons_succ]
        go_simp
        exact hK _ _ ⟨_, _, by simp [upv, valsW, h15], hI.yields (i := 16) (by omega) (Below.refl _ _)⟩
      · have h15 : x 15 = badV E := hI.pure 15 (by omega) (by omega) (hall 15 (by kernel_rfl))
        clear hall
        refine wpOp_step rfl (fun K hK => ?_)
        simp only [List.getElem_toArray, List.getElem_cons_zero, List.getElem_cons_succ]
        go_simp
        exact hK _ _ ⟨_, _, by simp [upv, valsW, h15], hI.yields (i := 17) (by omega) (Below.refl _ _)⟩
      · have h15 : x 15 = badV E := hI.pure 15 (by omega) (by omega) (hall 15 (by kernel_rfl))
        clear hall
        refine wpOp_step rfl (fun K hK => ?_)
        simp only [List.getElem_toArray, List.getElem_cons_zero, List.getElem_cons_succ]
        go_simp
        exact hK _ _ ⟨_, _, by simp [upv, valsW, h15], hI.yields (i := 18) (by omega) (Below.refl _ _)⟩
      · clear hall
        refine wpOp_step rfl (fun K hK => ?_)
        simp only [List.getElem_toArray, List.getElem_cons_zero, List.getElem_cons_succ]
        go_simp
        exact hK _ _ ⟨_, _, rfl, hI.makes _⟩
      · have h16 : x 16 = .agg #[.string ⟨#[]⟩, .string ⟨#[]⟩, .int .i64 0] := hI.pure 16 (by omega) (by omega) (hall 16 (by kernel_rfl))
        have hdl := hall 19 (by kernel_rfl)
        obtain ⟨hp, _, c0, c1, c2, cf⟩ := hI.cell hdl
        have f0 := cf 0
        have f1 := cf 1
        have f2 := cf 2
        clear hall
        refine wpOp_step rfl (fun K hK => ?_)
        simp only [List.getElem_toArray, List.getElem_cons_zero, List.getElem_cons_succ]
        go_simp
        exact hK _ _ ⟨_, _, rfl, hI.lays (by omega) hdl⟩
      · have h17 : x 17 = .string ⟨#[]⟩ := hI.pure 17 (by omega) (by omega) (hall 17 (by kernel_rfl))
        clear hall
        refine wpOp_step rfl (fun K hK => ?_)
        simp only [List.getElem_toArray, List.getElem_cons_zero, List.getElem_cons_succ]
        go_simp
        exact hK _ _ ⟨_, _, by simp [upv, valsW, h17], hI.yields (i := 21) (by omega) (Below.refl _ _)⟩
      · have h18 : x 18 = .int .i64 E := hI.pure 18 (by omega) (by omega) (hall 18 (by kernel_rfl))
        clear hall
        refine wpOp_step rfl (fun K hK => ?_)
        simp only [List.getElem_toArray, List.getElem_cons_zero, List.getElem_cons_succ]
        go_simp
        exact hK _ _ ⟨_, _, by simp [upv, valsW, h18], hI.yields (i := 22) (by omega) (Below.refl _ _)⟩
    case done =>
      rintro d a w' hall ⟨x, b, rfl, hI⟩
      replace hall : ∀ i, i < 23 → d i = true := hall
      have x0 : x 0 = .string S := hI.pure 0 (by omega) (by omega) (hall 0 (by omega))
      have x1 : x 1 = .int .i64 (n : Int) := hI.pure 1 (by omega) (by omega) (hall 1 (by omega))
      have x2 : x 2 = .int .i64 (2 * (n : Int)) := hI.pure 2 (by omega) (by omega) (hall 2 (by omega))
      have x3 : x 3 = .string (S.extract 0 (2 * n)) := hI.pure 3 (by omega) (by omega) (hall 3 (by omega))
      have x4 : x 4 = .int .u16 (v : Int) := hI.pure 4 (by omega) (by omega) (hall 4 (by omega))
      have x5 : x 5 = .int .u64 (v : Int) := hI.pure 5 (by omega) (by omega) (hall 5 (by omega))
      have x6 : x 6 = .string (Oct.str (Oct.bytes v 2)) := hI.pure 6 (by omega) (by omega) (hall 6 (by omega))
      have x7 : x 7 = .string (S.extract 0 (2 * n) ++ Oct.str (Oct.bytes v 2)) := hI.pure 7 (by omega) (by omega) (hall 7 (by omega))
      have x8 : x 8 = .string S := hI.pure 8 (by omega) (by omega) (hall 8 (by omega))
      have x9 : x 9 = .int .i64 (n : Int) := hI.pure 9 (by omega) (by omega) (hall 9 (by omega))
      have x10 : x 10 = .int .i64 (2 * (n : Int)) := hI.pure 10 (by omega) (by omega) (hall 10 (by omega))
      have x11 : x 11 = .int .i64 (2 * (n : Int) + 2) := hI.pure 11 (by omega) (by omega) (hall 11 (by omega))
      have x12 : x 12 = .string (S.extract (2 * n + 2) S.size) := hI.pure 12 (by omega) (by omega) (hall 12 (by omega))
      have x13 : x 13 = .string (S.extract 0 (2 * n) ++ Oct.str (Oct.bytes v 2) ++ S.extract (2 * n + 2) S.size) := hI.pure 13 (by omega) (by omega) (hall 13 (by omega))
      have x14 : x 14 = badV E := hI.pure 14 (by omega) (by omega) (hall 14 (by omega))
      have x15 : x 15 = badV E := hI.pure 15 (by omega) (by omega) (hall 15 (by omega))
      have x16 : x 16 = .agg #[.string ⟨#[]⟩, .string ⟨#[]⟩, .int .i64 0] := hI.pure 16 (by omega) (by omega) (hall 16 (by omega))
      have x17 : x 17 = .string ⟨#[]⟩ := hI.pure 17 (by omega) (by omega) (hall 17 (by omega))
      have x18 : x 18 = .int .i64 E := hI.pure 18 (by omega) (by omega) (hall 18 (by omega))
      have x21 : x 21 = .string ⟨#[]⟩ := hI.pure 21 (by omega) (by omega) (hall 21 (by omega))
      have x22 : x 22 = .int .i64 E := hI.pure 22 (by omega) (by omega) (hall 22 (by omega))
      obtain ⟨x19, _, c0, c1, c2, cf⟩ := hI.cell (hall 19 (by omega))
      have B4 := Lib.hid (below2 B3.out hI.below)
      rw [show frW S n v y x = frW S n v y (fun i => if i = 19 then .pointer (some ⟨b, 0, none⟩) else valsW S n v E i) by simp [valsW, x0, x1, x2, x3, x4, x5, x6, x7, x8, x9, x10, x11, x12, x13, x14, x15, x16, x17, x18, x19, x21, x22]]
      clear x0 x1 x2 x3 x4 x5 x6 x7 x8 x9 x10 x11 x12 x13 x14 x15 x16 x17 x18 x19 x21 x22 hall hI A7 A13 cf
      simp only [frW, valsW, reduceIte, Nat.reduceEqDiff]
      rcases hE with rfl | ⟨rfl, rfl⟩
      · go_wp2_with fail
        go_ret
        exact ⟨rfl, B4.out⟩
      · go_wp2_with fail
        go_ret
        exact ⟨rfl, B4.out⟩
  · have e2 : ((V : Int) % 65535 == 0) = false := beq_false_of_ne (by omega)
    go_wp2_with fail
    change Code.wp _ _ _ (frW S n v (yB a0 a1 a2 a3 S n v V) (fun _ => undef)) _
    generalize yB a0 a1 a2 a3 S n v V = y
    clear e1 e2 k2
    obtain ⟨c, hc6, hcc, hno, hyes⟩ := word_so a0 a1 a2.toNat a3 (by omega) (by omega) (by omega) (by omega) n v V (by omega) (by omega) (by omega) (by rw [← HS.out]; exact HG.out) k1 hk
    rw [← HS.out] at hno hyes
    have hP := Lib.hid (Parse_bad (edit S n v) (by rw [edit_size S n v (by omega)]; omega) c hc6 hno hyes)
    have hE : code c = 5 ∨ code c = 4 ∧ n = 1 := by
      rcases hcc with rfl | ⟨rfl, h⟩
      · exact .inl rfl
      · exact .inr ⟨rfl, h⟩
    clear hno hyes hcc hc6
    generalize code c = E at *
    unfold edit at hP
    have hM : Hid (∀ W, Calls Try.prog 16 #[.int .u64 (v : Int), .int .i64 2] W fun e W' => e = .returned (.string (Oct.str (Oct.bytes v 2))) ∧ Below W.heap.size W W') := Lib.hid (fun W => Oct.Put_yes (v : Int) 2 W (by omega) (by omega) (by omega))
    have hS1 : 20 ≤ S.size := by omega
    have hS2 : S.size ≤ 400 := by omega
    have q2 : IntKind.i64.wrap (2 * (n : Int) + 2) = 2 * (n : Int) + 2 := IntWalk.i64_in _ (by omega)
    have q3 : IntKind.u64.wrap (v : Int) = v := IntWalk.u64_in _ (by omega)
    have i2 : 2 * (n : Int) ≤ (S.size : Int) := by omega
    have i3 : 2 * (n : Int) + 2 ≤ (S.size : Int) := by omega
    have tn : (2 * (n : Int)).toNat = 2 * n := by omega
    have tn2 : (2 * (n : Int) + 2).toNat = 2 * n + 2 := by omega
    have z2 : (Oct.str (Oct.bytes v 2)).size = 2 := by rw [str_size, Oct.bytes_length]
    have z3 : (S.extract 0 (2 * n)).size ≤ 400 := by rw [ByteArray.size_extract]; omega
    have z4 : (S.extract (2 * n + 2) S.size).size ≤ 400 := by rw [ByteArray.size_extract]; omega
    have A7 : ∀ u : World, (Op.stringOp .add (S.extract 0 (2 * n)) (Oct.str (Oct.bytes v 2))).run Try.prog u = .ok (.string (S.extract 0 (2 * n) ++ Oct.str (Oct.bytes v 2))) u := fun u => run_string_add_sum u _ _ (by omega)
    have A13 : ∀ u : World, (Op.stringOp .add (S.extract 0 (2 * n) ++ Oct.str (Oct.bytes v 2)) (S.extract (2 * n + 2) S.size)).run Try.prog u = .ok (.string (S.extract 0 (2 * n) ++ Oct.str (Oct.bytes v 2) ++ S.extract (2 * n + 2) S.size)) u := fun u => run_string_add_sum u _ _ (by rw [ByteArray.size_append]; omega)
    clear hz HG HS h3 b2 hbad
    refine wp_region_inv (fun d a w' => ∃ (x : Nat → Value) (b : Nat), a = frW S n v y x ∧ InvH 19 20 w3 (.string ⟨#[]⟩) (.string ⟨#[]⟩) (.int .i64 0) (valsW S n v E) d x b w')
      (by kernel_rfl) (by kernel_rfl) ?step ?done ?start
    case start => exact ⟨fun _ => undef, 0, rfl, InvH.start _ _ _ (Below.refl _ w3).drew⟩
    case step =>
      rintro d a w' i hi hd hall ⟨x, b, rfl, hI⟩
      replace hi : i < 23 := hi
      obtain rfl | rfl | rfl | rfl | rfl | rfl | rfl | rfl | rfl | rfl | rfl | rfl | rfl | rfl | rfl | rfl | rfl | rfl | rfl | rfl | rfl | rfl | rfl : i = 0 ∨ i = 1 ∨ i = 2 ∨ i = 3 ∨ i = 4 ∨ i = 5 ∨ i = 6 ∨ i = 7 ∨ i = 8 ∨ i = 9 ∨ i = 10 ∨ i = 11 ∨ i = 12 ∨ i = 13 ∨ i = 14 ∨ i = 15 ∨ i = 16 ∨ i = 17 ∨ i = 18 ∨ i = 19 ∨ i = 20 ∨ i = 21 ∨ i = 22 := by omega
      · clear hall
        refine wpOp_step rfl (fun K hK => ?_)
        simp only [List.getElem_toArray, List.getElem_cons_zero]
        go_simp
        exact hK _ _ ⟨_, _, by simp [upv, valsW], hI.yields (i := 0) (by omega) (Below.refl _ _)⟩
      · clear hall
        refine wpOp_step rfl (fun K hK => ?_)
        simp only [List.getElem_toArray, List.getElem_cons_zero, List.getElem_cons_succ]
        go_simp
        exact hK _ _ ⟨_, _, by simp [upv, valsW], hI.yields (i := 1) (by omega) (Below.refl _ _)⟩
      · have h1 : x 1 = .int .i64 (n : Int) := hI.pure 1 (by omega) (by omega) (hall 1 (by kernel_rfl))
        clear hall
        refine wpOp_step rfl (fun K hK => ?_)
        simp only [List.getElem_toArray, List.getElem_cons_zero, List.getElem_cons_succ]
        go_simp
        exact hK _ _ ⟨_, _, by simp [upv, valsW, h1], hI.yields (i := 2) (by omega) (Below.refl _ _)⟩
      · have h0 : x 0 = .string S := hI.pure 0 (by omega) (by omega) (hall 0 (by kernel_rfl))
        have h2 : x 2 = .int .i64 (2 * (n : Int)) := hI.pure 2 (by omega) (by omega) (hall 2 (by kernel_rfl))
        clear hall
        refine wpOp_step rfl (fun K hK => ?_)
        simp only [List.getElem_toArray, List.getElem_cons_zero, List.getElem_cons_succ]
        go_simp
        exact hK _ _ ⟨_, _, rfl, hI.yields (i := 3) (by omega) (Below.refl _ _)⟩
      · clear hall
        refine wpOp_step rfl (fun K hK => ?_)
        simp only [List.getElem_toArray, List.getElem_cons_zero, List.getElem_cons_succ]
        go_simp
        exact hK _ _ ⟨_, _, by simp [upv, valsW], hI.yields (i := 4) (by omega) (Below.refl _ _)⟩
      · have h4 : x 4 = .int .u16 (v : Int) := hI.pure 4 (by omega) (by omega) (hall 4 (by kernel_rfl))
        clear hall
        refine wpOp_step rfl (fun K hK => ?_)
        simp only [List.getElem_toArray, List.getElem_cons_zero, List.getElem_cons_succ]
        go_simp
        exact hK _ _ ⟨_, _, by simp [upv, valsW, h4], hI.yields (i := 5) (by omega) (Below.refl _ _)⟩
      · have h5 : x 5 = .int .u64 (v : Int) := hI.pure 5 (by omega) (by omega) (hall 5 (by kernel_rfl))
        clear hall
        refine wpOp_step rfl (fun K hK => ?_)
        simp only [List.getElem_toArray, List.getElem_cons_zero, List.getElem_cons_succ]
        go_simp
        refine (hM.out w').mono ?_
        rintro e w4 ⟨rfl, hb4⟩
        exact hK _ _ ⟨_, _, by simp [upv, valsW, h5], hI.yields (i := 6) (by omega) hb4⟩
      · have h3 : x 3 = .string (S.extract 0 (2 * n)) := hI.pure 3 (by omega) (by omega) (hall 3 (by kernel_rfl))
        have h6 : x 6 = .string (Oct.str (Oct.bytes v 2)) := hI.pure 6 (by omega) (by omega) (hall 6 (by kernel_rfl))
        clear hall
        refine wpOp_step rfl (fun K hK => ?_)
        simp only [List.getElem_toArray, List.getElem_cons_zero, List.getElem_cons_succ]
        go_simp
        exact hK _ _ ⟨_, _, by simp [upv, valsW, h3, h6], hI.yields (i := 7) (by omega) (Below.refl _ _)⟩
      · clear hall
        refine wpOp_step rfl (fun K hK => ?_)
        simp only [List.getElem_toArray, List.getElem_cons_zero, List.getElem_cons_succ]
        go_simp
        exact hK _ _ ⟨_, _, by simp [upv, valsW], hI.yields (i := 8) (by omega) (Below.refl _ _)⟩
      · clear hall
        refine wpOp_step rfl (fun K hK => ?_)
        simp only [List.getElem_toArray, List.getElem_cons_zero, List.getElem_cons_succ]
        go_simp
        exact hK _ _ ⟨_, _, by simp [upv, valsW], hI.yields (i := 9) (by omega) (Below.refl _ _)⟩
      · have h9 : x 9 = .int .i64 (n : Int) := hI.pure 9 (by omega) (by omega) (hall 9 (by kernel_rfl))
        clear hall
        refine wpOp_step rfl (fun K hK => ?_)
        simp only [List.getElem_toArray, List.getElem_cons_zero, List.getElem_cons_succ]
        go_simp
        exact hK _ _ ⟨_, _, by simp [upv, valsW, h9], hI.yields (i := 10) (by omega) (Below.refl _ _)⟩
      · have h10 : x 10 = .int .i64 (2 * (n : Int)) := hI.pure 10 (by omega) (by omega) (hall 10 (by kernel_rfl))
        clear hall
        refine wpOp_step rfl (fun K hK => ?_)
        simp only [List.getElem_toArray, List.getElem_cons_zero, List.getElem_cons_succ]
        go_simp
        exact hK _ _ ⟨_, _, by simp [upv, valsW, h10], hI.yields (i := 11) (by omega) (Below.refl _ _)⟩
      · have h8 : x 8 = .string S := hI.pure 8 (by omega) (by omega) (hall 8 (by kernel_rfl))
        have h11 : x 11 = .int .i64 (2 * (n : Int) + 2) := hI.pure 11 (by omega) (by omega) (hall 11 (by kernel_rfl))
        clear hall
        refine wpOp_step rfl (fun K hK => ?_)
        simp only [List.getElem_toArray, List.getElem_cons_zero, List.getElem_cons_succ]
        go_simp
        exact hK _ _ ⟨_, _, rfl, hI.yields (i := 12) (by omega) (Below.refl _ _)⟩
      · have h7 : x 7 = .string (S.extract 0 (2 * n) ++ Oct.str (Oct.bytes v 2)) := hI.pure 7 (by omega) (by omega) (hall 7 (by kernel_rfl))
        have h12 : x 12 = .string (S.extract (2 * n + 2) S.size) := hI.pure 12 (by omega) (by omega) (hall 12 (by kernel_rfl))
        clear hall
        refine wpOp_step rfl (fun K hK => ?_)
        simp only [List.getElem_toArray, List.getElem_cons_zero, List.getElem_cons_succ]
        go_simp
        exact hK _ _ ⟨_, _, by simp [upv, valsW, h7, h12], hI.yields (i := 13) (by omega) (Below.refl _ _)⟩
      · have h13 : x 13 = .string (S.extract 0 (2 * n) ++ Oct.str (Oct.bytes v 2) ++ S.extract (2 * n + 2) S.size) := hI.pure 13 (by omega) (by omega) (hall 13 (by kernel_rfl))
        clear hall
        refine wpOp_step rfl (fun K hK => ?_)
        simp only [List.getElem_toArray, List.getElem_cons_zero, List.getElem_cons_succ]
        go_simp
        refine (hP.out w').mono ?_
        rintro e w4 ⟨rfl, hb4⟩
        exact hK _ _ ⟨_, _, by simp [upv, valsW, h13], hI.yields (i := 14) (by omega) hb4⟩
      · have h14 : x 14 = badV E := hI.pure 14 (by omega) (by omega) (hall 14 (by kernel_rfl))
        clear hall
        refine wpOp_step rfl (fun K hK => ?_)
        simp only [List.getElem_toArray, List.getElem_cons_zero, List.getElem_cons_succ]
        go_simp
        exact hK _ _ ⟨_, _, by simp [upv, valsW, h14], hI.yields (i := 15) (by omega) (Below.refl _ _)⟩
      · have h15 : x 15 = badV E := hI.pure 15 (by omega) (by omega) (hall 15 (by kernel_rfl))
        clear hall
        refine wpOp_step rfl (fun K hK => ?_)
        simp only [List.getElem_toArray, List.getElem_cons_zero, List.getElem_cons_succ]
        go_simp
        exact hK _ _ ⟨_, _, by simp [upv, valsW, h15], hI.yields (i := 16) (by omega) (Below.refl _ _)⟩
      · have h15 : x 15 = badV E := hI.pure 15 (by omega) (by omega) (hall 15 (by kernel_rfl))
        clear hall
        refine wpOp_step rfl (fun K hK => ?_)
        simp only [List.getElem_toArray, List.getElem_cons_zero, List.getElem_cons_succ]
        go_simp
        exact hK _ _ ⟨_, _, by simp [upv, valsW, h15], hI.yields (i := 17) (by omega) (Below.refl _ _)⟩
      · have h15 : x 15 = badV E := hI.pure 15 (by omega) (by omega) (hall 15 (by kernel_rfl))
        clear hall
        refine wpOp_step rfl (fun K hK => ?_)
        simp only [List.getElem_toArray, List.getElem_cons_zero, List.getElem_cons_succ]
        go_simp
        exact hK _ _ ⟨_, _, by simp [upv, valsW, h15], hI.yields (i := 18) (by omega) (Below.refl _ _)⟩
      · clear hall
        refine wpOp_step rfl (fun K hK => ?_)
        simp only [List.getElem_toArray, List.getElem_cons_zero, List.getElem_cons_succ]
        go_simp
        exact hK _ _ ⟨_, _, rfl, hI.makes _⟩
      · have h16 : x 16 = .agg #[.string ⟨#[]⟩, .string ⟨#[]⟩, .int .i64 0] := hI.pure 16 (by omega) (by omega) (hall 16 (by kernel_rfl))
        have hdl := hall 19 (by kernel_rfl)
        obtain ⟨hp, _, c0, c1, c2, cf⟩ := hI.cell hdl
        have f0 := cf 0
        have f1 := cf 1
        have f2 := cf 2
        clear hall
        refine wpOp_step rfl (fun K hK => ?_)
        simp only [List.getElem_toArray, List.getElem_cons_zero, List.getElem_cons_succ]
        go_simp
        exact hK _ _ ⟨_, _, rfl, hI.lays (by omega) hdl⟩
      · have h17 : x 17 = .string ⟨#[]⟩ := hI.pure 17 (by omega) (by omega) (hall 17 (by kernel_rfl))
        clear hall
        refine wpOp_step rfl (fun K hK => ?_)
        simp only [List.getElem_toArray, List.getElem_cons_zero, List.getElem_cons_succ]
        go_simp
        exact hK _ _ ⟨_, _, by simp [upv, valsW, h17], hI.yields (i := 21) (by omega) (Below.refl _ _)⟩
      · have h18 : x 18 = .int .i64 E := hI.pure 18 (by omega) (by omega) (hall 18 (by kernel_rfl))
        clear hall
        refine wpOp_step rfl (fun K hK => ?_)
        simp only [List.getElem_toArray, List.getElem_cons_zero, List.getElem_cons_succ]
        go_simp
        exact hK _ _ ⟨_, _, by simp [upv, valsW, h18], hI.yields (i := 22) (by omega) (Below.refl _ _)⟩
    case done =>
      rintro d a w' hall ⟨x, b, rfl, hI⟩
      replace hall : ∀ i, i < 23 → d i = true := hall
      have x0 : x 0 = .string S := hI.pure 0 (by omega) (by omega) (hall 0 (by omega))
      have x1 : x 1 = .int .i64 (n : Int) := hI.pure 1 (by omega) (by omega) (hall 1 (by omega))
      have x2 : x 2 = .int .i64 (2 * (n : Int)) := hI.pure 2 (by omega) (by omega) (hall 2 (by omega))
      have x3 : x 3 = .string (S.extract 0 (2 * n)) := hI.pure 3 (by omega) (by omega) (hall 3 (by omega))
      have x4 : x 4 = .int .u16 (v : Int) := hI.pure 4 (by omega) (by omega) (hall 4 (by omega))
      have x5 : x 5 = .int .u64 (v : Int) := hI.pure 5 (by omega) (by omega) (hall 5 (by omega))
      have x6 : x 6 = .string (Oct.str (Oct.bytes v 2)) := hI.pure 6 (by omega) (by omega) (hall 6 (by omega))
      have x7 : x 7 = .string (S.extract 0 (2 * n) ++ Oct.str (Oct.bytes v 2)) := hI.pure 7 (by omega) (by omega) (hall 7 (by omega))
      have x8 : x 8 = .string S := hI.pure 8 (by omega) (by omega) (hall 8 (by omega))
      have x9 : x 9 = .int .i64 (n : Int) := hI.pure 9 (by omega) (by omega) (hall 9 (by omega))
      have x10 : x 10 = .int .i64 (2 * (n : Int)) := hI.pure 10 (by omega) (by omega) (hall 10 (by omega))
      have x11 : x 11 = .int .i64 (2 * (n : Int) + 2) := hI.pure 11 (by omega) (by omega) (hall 11 (by omega))
      have x12 : x 12 = .string (S.extract (2 * n + 2) S.size) := hI.pure 12 (by omega) (by omega) (hall 12 (by omega))
      have x13 : x 13 = .string (S.extract 0 (2 * n) ++ Oct.str (Oct.bytes v 2) ++ S.extract (2 * n + 2) S.size) := hI.pure 13 (by omega) (by omega) (hall 13 (by omega))
      have x14 : x 14 = badV E := hI.pure 14 (by omega) (by omega) (hall 14 (by omega))
      have x15 : x 15 = badV E := hI.pure 15 (by omega) (by omega) (hall 15 (by omega))
      have x16 : x 16 = .agg #[.string ⟨#[]⟩, .string ⟨#[]⟩, .int .i64 0] := hI.pure 16 (by omega) (by omega) (hall 16 (by omega))
      have x17 : x 17 = .string ⟨#[]⟩ := hI.pure 17 (by omega) (by omega) (hall 17 (by omega))
      have x18 : x 18 = .int .i64 E := hI.pure 18 (by omega) (by omega) (hall 18 (by omega))
      have x21 : x 21 = .string ⟨#[]⟩ := hI.pure 21 (by omega) (by omega) (hall 21 (by omega))
      have x22 : x 22 = .int .i64 E := hI.pure 22 (by omega) (by omega) (hall 22 (by omega))
      obtain ⟨x19, _, c0, c1, c2, cf⟩ := hI.cell (hall 19 (by omega))
      have B4 := Lib.hid (below2 B3.out hI.below)
      rw [show frW S n v y x = frW S n v y (fun i => if i = 19 then .pointer (some ⟨b, 0, none⟩) else valsW S n v E i) by simp [valsW, x0, x1, x2, x3, x4, x5, x6, x7, x8, x9, x10, x11, x12, x13, x14, x15, x16, x17, x18, x19, x21, x22]]
      clear x0 x1 x2 x3 x4 x5 x6 x7 x8 x9 x10 x11 x12 x13 x14 x15 x16 x17 x18 x19 x21 x22 hall hI A7 A13 cf
      simp only [frW, valsW, reduceIte, Nat.reduceEqDiff]
      rcases hE with rfl | ⟨rfl, rfl⟩
      · go_wp2_with fail
        go_ret
        exact ⟨rfl, B4.out⟩
      · go_wp2_with fail
        go_ret
        exact ⟨rfl, B4.out⟩

theorem own_Ip4Word : ownKnob Try.prog.godebug = none := by kernel_rfl
set_option maxRecDepth 100000 in
set_option maxHeartbeats 800000 in
theorem lifted_Ip4Word (os : Os) (started : os.Started) (H : Type) (enc : TypeId × Value → H) :
    ReturnsInHanded {} Try.checked os 6 .any (Rows.ip4WordSpec.pre6 enc Try.prog Try.f6 Rows.ip4WordRow.domain false) (Rows.ip4WordSpec.post enc Try.prog Try.f6 false true false false) := by
  refine returnsInHanded_of_change (C := Try.checked) own_Ip4Word started (by kernel_rfl) Try.func6
    (ChangeSpec.witness6 (enc := enc) (C := Try.checked) false ⟨#[], #[.string ⟨#[]⟩, .string ⟨#[]⟩, .int .i64 0, .string ⟨#[]⟩, .int .i64 0, .int .u16 0], []⟩ 8 (by kernel_rfl) (by kernel_rfl) (by kernel_rfl) (by kernel_rfl)) ?_
  intro W base args ds gs before hval0 hW _ _
  have hval : ∀ (j : Nat) t v, Try.f6.params[j]? = some t → args[j]? = some v → Value.okWide Try.prog W .any base t v := hval0
  have hW' := hW
  obtain ⟨p, q, hA0, hV, rfl, _, _⟩ := hW
  have hA : DataW.TrodAll enc Try.prog W 0 (fun _ => true) true Try.f6.params.toList args.toList ds p := hA0
  rw [Try.params6] at hA hval
  obtain ⟨v0, vs0, d0, ds0, p0, q0, ha0, rfl, rfl, t0, r0⟩ := trodAll_cons hA
  obtain ⟨v1, vs1, d1, ds1, p1, q1, ha1, rfl, rfl, t1, r1⟩ := trodAll_cons r0
  obtain ⟨v2, vs2, d2, ds2, p2, q2, ha2, rfl, rfl, t2, r2⟩ := trodAll_cons r1
  obtain ⟨v3, vs3, d3, ds3, p3, q3, ha3, rfl, rfl, t3, r3⟩ := trodAll_cons r2
  obtain ⟨v4, vs4, d4, ds4, p4, q4, ha4, rfl, rfl, t4, r4⟩ := trodAll_cons r3
  obtain ⟨v5, vs5, d5, ds5, p5, q5, ha5, rfl, rfl, t5, r5⟩ := trodAll_cons r4
  obtain ⟨rfl, rfl, rfl⟩ := trodAll_nil r5
  subst ha5
  subst ha4
  subst ha3
  subst ha2
  subst ha1
  obtain rfl : args = #[v0, v1, v2, v3, v4, v5] := by cases args; simp_all
  obtain ⟨rfl, rfl⟩ := trodVars_none hV
  obtain ⟨a0, rfl, rfl, rfl, h0⟩ := open_string Try.underlying9 (hval 0 9 v0 rfl rfl) t0
  obtain ⟨a1, rfl, rfl, rfl, h1⟩ := open_string Try.underlying9 (hval 1 9 v1 rfl rfl) t1
  obtain ⟨a2, rfl, rfl, rfl, h2⟩ := open_int Try.underlying3 (hval 2 3 v2 rfl rfl) t2
  obtain ⟨a3, rfl, rfl, rfl, h3⟩ := open_string Try.underlying9 (hval 3 9 v3 rfl rfl) t3
  obtain ⟨a4, rfl, rfl, rfl, h4⟩ := open_int Try.underlying3 (hval 4 3 v4 rfl rfl) t4
  obtain ⟨a5, rfl, rfl, rfl, h5⟩ := open_int Try.underlying37 (hval 5 37 v5 rfl rfl) t5
  clear hA0 hval0
  simp only [List.append_nil] at hW'
  refine (walk_Ip4Word a0 a1 a2 a3 a4 a5 h0 h1 h2 h3 h4 h5 W).mono fun e W' ⟨he, hnx⟩ => ?_
  subst he
  exact ⟨_, rfl, ⟨_, _, _, [], [], [], hW', trodAll_cons_mk (shut_bool Try.underlying4 _) trodAll_mk0, (trodAll_cons_mk (shut_string Try.underlying9 h0) (trodAll_cons_mk (shut_string Try.underlying9 h1) (trodAll_cons_mk (shut_int Try.underlying3 h2) (trodAll_cons_mk (shut_string Try.underlying9 h3) (trodAll_cons_mk (shut_int Try.underlying3 h4) (trodAll_cons_mk (shut_int Try.underlying37 h5) trodAll_mk0)))))), rfl, hnx.frame _, fun h => by cases h⟩⟩

theorem ip4Word_holds : Rows.Ip4WordSaid :=
  OpenClaim.holds_of_wide 6 Try.f6 rfl rfl rfl rfl rfl rfl rfl ⟨rfl, rfl, rfl, rfl, rfl⟩ rfl rfl rfl rfl rfl (by kernel_rfl) Try.func6 (by kernel_rfl)
    (of_decide_eq_true (by kernel_rfl)) (by unfold Func.isWrapper; first | (rw [if_pos (by decide +kernel)]; kernel_rfl) | (rw [if_neg (by decide +kernel)]; exact ⟨rfl, rfl⟩))
    (fun os started H enc _ => lifted_Ip4Word os started H enc)

#print axioms ip4Word_holds
end Go.Proofs.Ytmfmggjliibblaa
