/-
  Package ip6: number (of a field), (*text).number.
-/
import Derived.Test.YtcdgcjpdlhknoaaTxt
import Derived.Test.YtcdgcjpdlhknoaaSbA
import Derived.Test.YtcdgcjpdlhknoaaRgnJ
namespace Go.Proofs.Ytcdgcjpdlhknoaa.Ip6
open Go.RowKit Go.Shelf Txt Rgn
open Oct (num bytes_length str)

set_option maxRecDepth 100000 in
set_option maxHeartbeats 1000000 in
/-- What all bytes of a field tell together. -/
theorem number_any (s : ByteArray) (h1 : 1 ≤ s.size) (h4 : s.size ≤ 4) (w : World) :
    Calls Try.prog 55 #[.string s] w fun e W' => e = .returned (.int .i64 (num s.data.toList : Nat)) ∧ Below w.heap.size w W' := by
  have hn := Oct.num_lt s.data.toList
  have hp : 256 ^ s.data.toList.length ≤ 4294967296 := by
    rw [len_list]
    have : 256 ^ s.size ≤ 256 ^ 4 := Nat.pow_le_pow_right (by omega) h4
    simpa using this
  have hg : Oct.getV s 0 (s.size : Int) = num s.data.toList := by
    unfold Oct.getV
    rw [show ((s.size : Int)).toNat = s.data.toList.length by rw [len_list]; omega, Int.toNat_zero, List.drop_zero, List.take_length]
  have q := IntWalk.i64_in (num s.data.toList : Nat) (by omega)
  have G := Lib.hid hg
  clear hg
  go_enter Try.func55, Try.ntmps55
  go_wp2_with fail
  refine (Oct.Get_yes s 0 (s.size : Int) w (by omega) (by omega)).mono ?_
  rintro e w2 ⟨rfl, hb2⟩
  rw [G.out]
  go_wp2_with fail
  go_ret
  exact ⟨rfl, hb2⟩

/-- What Put of octet answers, under a name of its own. -/
theorem Put_some (v n : Int) (w : World) (hv0 : 0 ≤ v) (hv : v ≤ 18446744073709551615) (h : 1 ≤ n ∧ n ≤ 8) :
    Calls Try.prog 62 #[.int .u64 v, .int .i64 n] w fun e W' => ∃ S : ByteArray, e = .returned (.string S) ∧ S.size ≤ 8 ∧ Hid (S = Oct.str (Oct.bytes v.toNat n.toNat)) ∧ Below w.heap.size w W' :=
  (Oct.Put_yes v n w hv0 hv (by omega)).mono fun _ _ ⟨he, hb⟩ => ⟨_, he, by rw [str_size, Oct.bytes_length]; omega, Lib.hid rfl, hb⟩

theorem grown_none {W W' : World} (hb : Below W.heap.size W W') : W.grownBy W' none := ⟨hb.os, hb.tape, hb.output, hb.size, fun k hk _ => hb.block k hk⟩
/-- A Builder is kept by a call that lays blocks alone. -/
theorem builder_kept {T e B b : Nat} {bs : List Value} {W W' : World} (h : Lib.IsBuilder T e B b bs W) (hb : Below W.heap.size W W') : Lib.IsBuilder T e B b bs W' := by
  have key : ∀ p, Lib.BuilderAt T e B b p bs W → Lib.BuilderAt T e B b p bs W' := by
    rintro p ⟨hB, v, hbk, hown, hne⟩
    refine ⟨hB, v, (hb.block b (Array.getElem?_eq_some_iff.1 hbk).1).trans hbk, hown.kept (grown_none hb) ?_, hne⟩
    cases hv : v.ownBlock with
    | none => exact .inl rfl
    | some k => exact .inr (by simp)
  rcases h with h | h
  · exact .inl (key _ h)
  · exact .inr (key _ h)

/-- What is known while a field is put. -/
def Held (B b : Nat) (bs : List Value) (w W : World) : Prop := Lib.IsBuilder 105 5 B b bs W ∧ Below B w W ∧ B ≤ W.heap.size
theorem held_keep {B b : Nat} {bs : List Value} {w W W' : World} (h : Held B b bs w W) (hb : Below W.heap.size W W') : Held B b bs w W' :=
  ⟨builder_kept h.1 hb, h.2.1.trans (hb.mono h.2.2), Nat.le_trans h.2.2 hb.size⟩
theorem held_write {B b : Nat} {bs : List Value} {w W : World} (s : ByteArray) (h : Held B b bs w W) (hlen : bs.length + s.size ≤ 140737488355328) :
    Calls Try.prog 65 #[.pointer (some ⟨b, 0, none⟩), .string s] W fun e W' => e = .returned (.tuple #[.int .i64 s.size, .nilIface]) ∧ Held B b (bs ++ Lib.strCells s) w W' :=
  (Sb.WriteString_any B b bs s W h.1 hlen h.2.2).mono fun _ _ ⟨he, hI, hb⟩ => ⟨he, .inr hI, h.2.1.trans hb, Nat.le_trans h.2.2 hb.size⟩

/-- (*text).number's frame. -/
abbrev frN (b : Nat) (v n : Int) (x : Nat → Value) : Act := { tmps := #[.pointer (some ⟨b, 0, none⟩), .int .i64 v, .int .i64 n, undef, undef, undef, x 0, x 1, x 2, x 3, x 4, x 5, x 6, x 7], defers := [] }
/-- What its operations yield. -/
def valN (b : Nat) (v n : Int) (S : ByteArray) : Nat → Value
  | 0 | 1 | 2 => .pointer (some ⟨b, 0, none⟩)
  | 3 => .int .i64 v
  | 4 => .int .u64 v
  | 5 => .int .i64 n
  | 6 => .string S
  | _ => .tuple #[.int .i64 S.size, .nilIface]
/-- The Builder, behind some of them. -/
def stN (B b : Nat) (bs : List Value) (S : ByteArray) (w0 : World) (d : Nat → Bool) (W : World) : Prop := Held B b (if d 7 = true then bs ++ Lib.strCells S else bs) w0 W
theorem stN_upd {B b : Nat} {bs : List Value} {S : ByteArray} {w0 W : World} {d : Nat → Bool} (h : stN B b bs S w0 d W) (i : Nat) (hi : i ≠ 7) {W' : World} (hb : Below W.heap.size W W') : stN B b bs S w0 (upd d i) W' := by
  unfold stN
  rw [upd_other d (Ne.symm hi)]
  exact held_keep h hb

set_option maxRecDepth 100000 in
set_option maxHeartbeats 2000000 in
/-- The n bytes of v go behind what is there. -/
theorem textNumber_any (B b : Nat) (bs : List Value) (v n : Int) (w0 w : World) (h : Held B b bs w0 w) (hv : 0 ≤ v) (hv2 : v ≤ 9223372036854775807) (hn : 1 ≤ n ∧ n ≤ 8) (hlen : bs.length ≤ 1099511627776) :
    Calls Try.prog 64 #[.pointer (some ⟨b, 0, none⟩), .int .i64 v, .int .i64 n] w fun e w' => e = .returned (.tuple #[]) ∧
      Held B b (bs ++ Lib.strCells (Oct.str (Oct.bytes v.toNat n.toNat))) w0 w' := by
  have q := IntWalk.u64_in v (by omega)
  have H0 := Lib.hid h
  have hz : (Oct.str (Oct.bytes v.toNat n.toNat)).size ≤ 8 := by rw [str_size, Oct.bytes_length]; omega
  have P0 := fun W => Lib.hid (Oct.Put_yes v n W hv (by omega) hn)
  clear h
  generalize Oct.str (Oct.bytes v.toNat n.toNat) = S at *
  go_enter Try.func64, Try.ntmps64
  go_wp2_with fail
  refine wp_region_inv (fun d a W => ∃ x : Nat → Value, a = frN b v n x ∧ InvJ 8 (valN b v n S) (stN B b bs S w0) d x W) (by kernel_rfl) (by kernel_rfl) ?step ?done ?start
  case start => exact ⟨fun _ => undef, rfl, InvJ.start _ (held_keep H0.out ((Below.refl _ w).drew))⟩
  case step =>
    rintro d a W i hi hd hall ⟨x, rfl, hI⟩
    replace hi : i < 8 := hi
    have hst := Lib.hid hI.st
    obtain rfl | rfl | rfl | rfl | rfl | rfl | rfl | rfl : i = 0 ∨ i = 1 ∨ i = 2 ∨ i = 3 ∨ i = 4 ∨ i = 5 ∨ i = 6 ∨ i = 7 := by omega
    · clear hall
      refine wpOp_step rfl (fun K hK => ?_)
      simp only [List.getElem_toArray, List.getElem_cons_zero]
      go_simp
      exact hK _ _ ⟨_, by simp [upv, valN], hI.yields 0 (stN_upd hst.out 0 (by omega) (Below.refl _ _))⟩
    · have h0 : x 0 = .pointer (some ⟨b, 0, none⟩) := hI.pure 0 (by omega) (hall 0 (by kernel_rfl))
      clear hall
      refine wpOp_step rfl (fun K hK => ?_)
      simp only [List.getElem_toArray, List.getElem_cons_zero, List.getElem_cons_succ]
      go_simp
      exact hK _ _ ⟨_, by simp [upv, valN, h0], hI.yields 1 (stN_upd hst.out 1 (by omega) (Below.refl _ _))⟩
    · have h1 : x 1 = .pointer (some ⟨b, 0, none⟩) := hI.pure 1 (by omega) (hall 1 (by kernel_rfl))
      clear hall
      refine wpOp_step rfl (fun K hK => ?_)
      simp only [List.getElem_toArray, List.getElem_cons_zero, List.getElem_cons_succ]
      go_simp
      exact hK _ _ ⟨_, by simp [upv, valN, h1], hI.yields 2 (stN_upd hst.out 2 (by omega) (Below.refl _ _))⟩
    · clear hall
      refine wpOp_step rfl (fun K hK => ?_)
      simp only [List.getElem_toArray, List.getElem_cons_zero, List.getElem_cons_succ]
      go_simp
      exact hK _ _ ⟨_, by simp [upv, valN], hI.yields 3 (stN_upd hst.out 3 (by omega) (Below.refl _ _))⟩
    · have h3 : x 3 = .int .i64 v := hI.pure 3 (by omega) (hall 3 (by kernel_rfl))
      clear hall
      refine wpOp_step rfl (fun K hK => ?_)
      simp only [List.getElem_toArray, List.getElem_cons_zero, List.getElem_cons_succ]
      go_simp
      exact hK _ _ ⟨_, by simp [upv, valN, h3], hI.yields 4 (stN_upd hst.out 4 (by omega) (Below.refl _ _))⟩
    · clear hall
      refine wpOp_step rfl (fun K hK => ?_)
      simp only [List.getElem_toArray, List.getElem_cons_zero, List.getElem_cons_succ]
      go_simp
      exact hK _ _ ⟨_, by simp [upv, valN], hI.yields 5 (stN_upd hst.out 5 (by omega) (Below.refl _ _))⟩
    · have h4 : x 4 = .int .u64 v := hI.pure 4 (by omega) (hall 4 (by kernel_rfl))
      have h5 : x 5 = .int .i64 n := hI.pure 5 (by omega) (hall 5 (by kernel_rfl))
      clear hall
      refine wpOp_step rfl (fun K hK => ?_)
      simp only [List.getElem_toArray, List.getElem_cons_zero, List.getElem_cons_succ]
      go_simp
      refine (P0 W).out.mono ?_
      rintro e w3 ⟨rfl, hb3⟩
      exact hK _ _ ⟨_, by simp [upv, valN, h4, h5], hI.yields 6 (stN_upd hst.out 6 (by omega) hb3)⟩
    · have h2 : x 2 = .pointer (some ⟨b, 0, none⟩) := hI.pure 2 (by omega) (hall 2 (by kernel_rfl))
      have h6 : x 6 = .string S := hI.pure 6 (by omega) (hall 6 (by kernel_rfl))
      clear hall
      refine wpOp_step rfl (fun K hK => ?_)
      simp only [List.getElem_toArray, List.getElem_cons_zero, List.getElem_cons_succ]
      go_simp
      have hst' : Held B b bs w0 W := by
        have h := hst.out
        unfold stN at h
        rwa [if_neg (by rw [hd]; decide)] at h
      refine (held_write S hst' (by omega)).mono ?_
      rintro e w3 ⟨rfl, hb3⟩
      exact hK _ _ ⟨_, by simp [upv, valN, h2, h6], hI.yields 7 (by unfold stN; rw [upd_same, if_pos rfl]; exact hb3)⟩
  case done =>
    rintro d a W hall ⟨x, rfl, hI⟩
    replace hall : ∀ i, i < 8 → d i = true := hall
    have hst := hI.st
    unfold stN at hst
    rw [if_pos (hall 7 (by omega))] at hst
    clear hI hall
    go_wp2_with fail
    go_end0
    exact ⟨rfl, hst⟩
end Go.Proofs.Ytcdgcjpdlhknoaa.Ip6
