/-
  Points: what is told of one backend, and of a pool (package points: placesOf, places).
-/
import Derived.Test.YtfjpdoamalbpjaaPtsK
import Derived.Test.YtfjpdoamalbpjaaRgnI
import Derived.Test.YtfjpdoamalbpjaaRngF
import Derived.RangeFuncCalls
import Derived.Shelf.Abstract
import Derived.Shelf.RegionOpen
import Derived.WalkKit
import Derived.OwnWalkIn
import Derived.TacticsInMore
import Derived.LoopNIn
import Derived.LoopIn
namespace Go.Proofs.Ytfjpdoamalbpjaa.Pts
open Go.RowKit Go.Shelf Rgn
open Pol (below2 below_alloc Bk)

attribute [local go_sem] Oper.semAt_some

/-- Where a point of a backend is. -/
def hsh (id : Int) (n : Nat) : Int := hashV id n
/-- A backend's box. -/
abbrev bkO (x : Bk) : Obj := .cells #[.int .i64 x.1, .int .i64 x.2] 35 (0, 0)

set_option maxHeartbeats 400000 in
theorem placesOf_told (x : Bk) (w : World) :
    Calls Try.prog 46 #[.agg #[.int .i64 x.1, .int .i64 x.2]] w fun e w' => e = .returned (.func (.func 61) #[] #[.pointer (some ⟨w.heap.size, 0, none⟩)]) ∧ w' = w.alloc (bkO x) := by
  go_enter Try.func46, Try.ntmps46
  go_wp2
  go_ret
  exact ⟨rfl, rfl⟩

theorem own_take_succ (x : Bk) (k : Nat) (h : k < cnt x.2) : (own hsh x).take (k + 1) = (own hsh x).take k ++ [(hsh x.1 k, x.1)] := by
  have hl : k < (own hsh x).length := by rw [own_length]; exact h
  rw [List.take_succ_eq_append_getElem hl]
  congr 1
  simp [own]

theorem cells_bk {W : World} {B : Nat} {x : Bk} (h : W.heap[B]? = some (bkO x)) : W.cell? ⟨B, 0, none⟩ = some (.int .i64 x.1) ∧ W.cell? ⟨B, 1, none⟩ = some (.int .i64 x.2) := by
  constructor <;> simp [World.cell?, h]

/-- placesOf$1's frame. -/
abbrev frL (l B k : Nat) (x : Bk) (u : Value) (z : Nat → Value) : Act := { tmps := #[.func (.yield l) #[] #[], .pointer (some ⟨B, 0, none⟩), undef, .int .i64 (k : Nat), .pointer (some ⟨B, 1, none⟩), .int .i64 x.2, .int .i64 (cnt x.2 : Nat), .int .i64 (k : Nat), .bool true, .int .i64 (k : Nat), z 0, z 1, z 2, z 3, z 4, z 5, z 6, z 7, z 8, z 9, u], defers := [] }
/-- What its operations yield. -/
def valL (l B k : Nat) (x : Bk) : Nat → Value
  | 0 => .func (.yield l) #[] #[]
  | 1 => .pointer (some ⟨B, 0, none⟩)
  | 2 => .int .i64 x.1
  | 3 => .int .i64 (k : Nat)
  | 4 => .int .u64 (hsh x.1 k)
  | 5 => .pointer (some ⟨B, 0, none⟩)
  | 6 => .int .i64 x.1
  | 7 => .agg #[.int .u64 (hsh x.1 k), .int .i64 x.1]
  | 8 => .bool true
  | _ => .bool false
/-- The world, behind some of them. -/
def stL (J : List Pt → World → Prop) (B k : Nat) (x : Bk) (d : Nat → Bool) (W : World) : Prop := J (if d 8 = true then (own hsh x).take k ++ [(hsh x.1 k, x.1)] else (own hsh x).take k) W ∧ W.heap[B]? = some (bkO x)
theorem stL_upd {J : List Pt → World → Prop} {B k : Nat} {x : Bk} {d : Nat → Bool} {W : World} (h : stL J B k x d W) (i : Nat) (hi : i ≠ 8) : stL J B k x (upd d i) W := by
  unfold stL; rw [upd_other d (Ne.symm hi)]; exact h
theorem stL_below {N : Nat} {J : List Pt → World → Prop} (hJ : OwnFrom N J) {B k : Nat} {x : Bk} {d : Nat → Bool} {W W' : World} (h : stL J B k x d W) (hb : Below W.heap.size W W') : stL J B k x d W' :=
  ⟨hJ _ W W' none h.1 (Pol.grown_none hb) (fun r e => by cases e), (hb.block B (Array.getElem?_eq_some_iff.1 h.2).1).trans h.2⟩

set_option maxRecDepth 100000 in
set_option maxHeartbeats 1000000 in
theorem placesOf1_in (m : Nat) (hm : 10 ≤ m) (l B N : Nat) (x : Bk) (sp : Nat → Obj → Bool) (hsp : sp B (bkO x) = true) (hBl : B ≠ l) (J : List Pt → World → Prop) (W : World) (hJ : OwnFrom N J)
    (hY : ∀ (k : Nat) (pre : List Pt) (x' : Pt) (W1 : World), J pre W1 → pre.length < (own hsh x).length → YieldAt Fence.wide k Try.prog l #[ptV x'] W1 fun e W' => e = .returned (.bool true) ∧ J (pre ++ [x']) W' ∧ Keeps sp (some l) W1 W')
    (hB : W.heap[B]? = some (bkO x)) (h0 : J [] W) :
    CallsIn Fence.wide m Try.prog 61 #[.func (.yield l) #[] #[], .pointer (some ⟨B, 0, none⟩)] W fun e W' => (∃ v, e = .returned v) ∧ J (own hsh x) W' := by
  have h1 : 1 ≤ m := by omega
  have hcnt := cnt_le x.2
  have HY := Lib.hid hY
  clear hY
  refine callsIn_of_wp Try.func61 rfl trivial ?_ rfl
  simp only [Try.ntmps61, List.size_toArray, List.length_cons, List.length_nil, Nat.reduceAdd, Nat.reduceSub, Array.replicate_succ, Array.replicate_zero, List.push_toArray, List.append_toArray, List.nil_append, List.cons_append]
  obtain ⟨c0, c1⟩ := cells_bk hB
  gi_wp2_with (refine ⟨trivial, ?_⟩; gi_at_call 62; refine (callsIn_wide.2 (count_told x.2 _)).mono ?_; rintro e w' ⟨rfl, rfl⟩)
  gi_loopw [7] (fun i wr => ∃ k : Nat, k ≤ cnt x.2 ∧ i = .int .i64 k ∧ J ((own hsh x).take k) wr ∧ wr.heap[B]? = some (bkO x))
    (fun i _ => cnt x.2 - (intOf i).toNat)
  case atStart => exact ⟨0, Nat.zero_le _, rfl, h0, hB⟩
  case round =>
    obtain ⟨k, hk, rfl, hJs, hcx⟩ := hrel
    clear c0 c1 hB h0
    by_cases hlt : k < cnt x.2
    · gi_wp2
      have HT := Lib.hid (own_take_succ x k hlt)
      refine wpIn_region_inv (fun d a V => ∃ z : Nat → Value, a = frL l B k x u20 z ∧ InvJ 10 (valL l B k x) (stL J B k x) d z V) (by kernel_rfl) (by kernel_rfl) ?step ?done ?start
      case start => exact ⟨fun i => match i with | 0 => u10 | 1 => u11 | 2 => u12 | 3 => u13 | 4 => u14 | 5 => u15 | 6 => u16 | 7 => u17 | 8 => u18 | _ => u19, rfl, InvJ.start _ ⟨hJ _ wr _ none hJs (Pol.grown_none ((Below.refl _ wr).drew)) (fun r e => by cases e), hcx⟩⟩
      case step =>
        rintro d a V i hi hd hall ⟨z, rfl, hI⟩
        replace hi : i < 10 := hi
        have hst := Lib.hid hI.st
        have hv := Lib.hid hst.out.2
        obtain ⟨c0, c1⟩ := cells_bk hst.out.2
        clear hcx hJs
        obtain rfl | rfl | rfl | rfl | rfl | rfl | rfl | rfl | rfl | rfl : i = 0 ∨ i = 1 ∨ i = 2 ∨ i = 3 ∨ i = 4 ∨ i = 5 ∨ i = 6 ∨ i = 7 ∨ i = 8 ∨ i = 9 := by omega
        · clear hall
          refine wpOpIn_free rfl rfl (fun K hK => ?_)
          simp only [List.getElem_toArray, List.getElem_cons_zero]
          go_simp
          exact hK _ _ ⟨_, by simp [upv, valL], hI.yields 0 (stL_upd hst.out 0 (by omega))⟩
        · clear hall
          refine wpOpIn_free rfl rfl (fun K hK => ?_)
          simp only [List.getElem_toArray, List.getElem_cons_zero, List.getElem_cons_succ]
          go_simp
          exact hK _ _ ⟨_, by simp [upv, valL], hI.yields 1 (stL_upd hst.out 1 (by omega))⟩
        · have h1 : z 1 = .pointer (some ⟨B, 0, none⟩) := hI.pure 1 (by omega) (hall 1 (by kernel_rfl))
          clear hall
          refine wpOpIn_free rfl rfl (fun K hK => ?_)
          simp only [List.getElem_toArray, List.getElem_cons_zero, List.getElem_cons_succ]
          go_simp
          exact hK _ _ ⟨_, by simp [upv, valL, h1], hI.yields 2 (stL_upd hst.out 2 (by omega))⟩
        · clear hall
          refine wpOpIn_free rfl rfl (fun K hK => ?_)
          simp only [List.getElem_toArray, List.getElem_cons_zero, List.getElem_cons_succ]
          go_simp
          exact hK _ _ ⟨_, by simp [upv, valL], hI.yields 3 (stL_upd hst.out 3 (by omega))⟩
        · have h2 : z 2 = .int .i64 x.1 := hI.pure 2 (by omega) (hall 2 (by kernel_rfl))
          have h3 : z 3 = .int .i64 (k : Nat) := hI.pure 3 (by omega) (hall 3 (by kernel_rfl))
          clear hall
          refine wpOpIn_free rfl rfl (fun K hK => ?_)
          simp only [List.getElem_toArray, List.getElem_cons_zero, List.getElem_cons_succ]
          go_simp
          refine ⟨trivial, (callsIn_wide.2 (Hash_told _ _ V)).mono ?_⟩
          rintro e w3 ⟨rfl, hb⟩
          exact hK _ _ ⟨_, by simp [upv, valL, h2, h3, hsh], hI.yields 4 (stL_upd (stL_below hJ hst.out hb) 4 (by omega))⟩
        · clear hall
          refine wpOpIn_free rfl rfl (fun K hK => ?_)
          simp only [List.getElem_toArray, List.getElem_cons_zero, List.getElem_cons_succ]
          go_simp
          exact hK _ _ ⟨_, by simp [upv, valL], hI.yields 5 (stL_upd hst.out 5 (by omega))⟩
        · have h5 : z 5 = .pointer (some ⟨B, 0, none⟩) := hI.pure 5 (by omega) (hall 5 (by kernel_rfl))
          clear hall
          refine wpOpIn_free rfl rfl (fun K hK => ?_)
          simp only [List.getElem_toArray, List.getElem_cons_zero, List.getElem_cons_succ]
          go_simp
          exact hK _ _ ⟨_, by simp [upv, valL, h5], hI.yields 6 (stL_upd hst.out 6 (by omega))⟩
        · have h4 : z 4 = .int .u64 (hsh x.1 k) := hI.pure 4 (by omega) (hall 4 (by kernel_rfl))
          have h6 : z 6 = .int .i64 x.1 := hI.pure 6 (by omega) (hall 6 (by kernel_rfl))
          clear hall
          refine wpOpIn_free rfl rfl (fun K hK => ?_)
          simp only [List.getElem_toArray, List.getElem_cons_zero, List.getElem_cons_succ]
          go_simp
          exact hK _ _ ⟨_, by simp [upv, valL, h4, h6], hI.yields 7 (stL_upd hst.out 7 (by omega))⟩
        · have h0 : z 0 = .func (.yield l) #[] #[] := hI.pure 0 (by omega) (hall 0 (by kernel_rfl))
          have h7 : z 7 = .agg #[.int .u64 (hsh x.1 k), .int .i64 x.1] := hI.pure 7 (by omega) (hall 7 (by kernel_rfl))
          have hj : J ((own hsh x).take k) V := by have h := hst.out.1; rwa [if_neg (by rw [hd]; simp)] at h
          obtain ⟨fn, tmps, assign, body, hy, hR⟩ := HY.out (m - 1) _ (hsh x.1 k, x.1) V hj (by rw [List.length_take, own_length]; omega)
          clear hall
          refine wpOpIn_free rfl rfl (fun K hK => ?_)
          simp only [List.getElem_toArray, List.getElem_cons_zero, List.getElem_cons_succ]
          go_simp
          refine hR.mono ?_
          rintro e w3 ⟨rfl, hj3, hk3⟩
          exact hK _ _ ⟨_, by simp [upv, valL, h0, h7], hI.yields 8 ⟨by rw [upd_same, if_pos rfl]; exact hj3, hk3.same _ _ hv.out (fun e => hBl (by cases e; rfl)) hsp⟩⟩
        · have h8 : z 8 = .bool true := hI.pure 8 (by omega) (hall 8 (by kernel_rfl))
          clear hall
          refine wpOpIn_free rfl rfl (fun K hK => ?_)
          simp only [List.getElem_toArray, List.getElem_cons_zero, List.getElem_cons_succ]
          go_simp
          exact hK _ _ ⟨_, by simp [upv, valL, h8], hI.yields 9 (stL_upd hst.out 9 (by omega))⟩
      case done =>
        rintro d a V hall ⟨z, rfl, hI⟩
        have h9 : z 9 = .bool false := hI.pure 9 (by omega) (hall 9 (by decide))
        obtain ⟨hj, hb⟩ := hI.st
        rw [if_pos (hall 8 (by decide)), ← HT.out] at hj
        have HJ3 := Lib.hid hj
        have HB3 := Lib.hid hb
        clear hall hI hj hb hJs hcx
        simp only [frL, h9]
        gi_wp2
        go_roundw
        case rel => exact ⟨k + 1, by omega, by simp, HJ3.out, HB3.out⟩
        case measure => simp [intOf]; omega
    · obtain rfl : k = cnt x.2 := by omega
      gi_wp2
      go_end0
      exact ⟨⟨_, rfl⟩, by rw [List.take_of_length_le (by rw [own_length]; exact Nat.le_refl _)] at hJs; exact hJs⟩

/-- What is told of one backend. -/
theorem placesOf_through (x : Bk) (B : Nat) (sp : Nat → Obj → Bool) (hsp : sp B (bkO x) = true) (w : World) (hB : w.heap[B]? = some (bkO x)) :
    Through Try.prog 61 #[.pointer (some ⟨B, 0, none⟩)] (fun p : Pt => #[ptV p]) (own hsh x) sp w := by
  intro m l J W hb hl hl2 hJ hY h0
  have hlt := (Array.getElem?_eq_some_iff.1 hB).1
  exact callsIn_wide.2 (callsIn_wide.1 (placesOf1_in 10 (Nat.le_refl _) l B W.heap.size x sp hsp (by omega) J W hJ hY ((hb.block B hlt).trans hB) h0))
end Go.Proofs.Ytfjpdoamalbpjaa.Pts
