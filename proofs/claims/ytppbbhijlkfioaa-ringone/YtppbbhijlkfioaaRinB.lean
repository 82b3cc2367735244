/-
  Rings: where a hash goes to, as the program tells it and as the document does (package ring: succ, Succ; package gangplankref10: Succ, Rises).
-/
import Derived.Test.YtppbbhijlkfioaaRinA
import Derived.Test.YtppbbhijlkfioaaBPtr
import Derived.BigQuiet
import Derived.WalkSmall
import Derived.Deep.RegionHeld3
namespace Go.Proofs.Ytppbbhijlkfioaa.Rin
open Go.RowKit Go.Shelf
open Pts (Pt ptV ptsV Lies Rise less)
open Pol (below2 below_alloc)

/-- What is told of a hash: -1 of no points; else the Id of one; of points that rise the right one. -/
def Told (L : List Pt) (h r : Int) : Prop := (L = [] → r = -1) ∧ (L ≠ [] → ∃ p ∈ L, r = p.2) ∧ (Rise L → r = succL L h)
theorem found_succ {L : List Pt} {h : Int} {m : Nat} (hr : Rise L) (hf : Found L h m) (hpos : 0 < L.length) (hm : m % L.length < L.length) : L[m % L.length].2 = succL L h := by
  obtain ⟨h1, h2⟩ := hf
  obtain ⟨lo, hi⟩ := h2 hr
  rcases Nat.lt_or_ge m L.length with hlt | hge
  · have e : L.find? (fun p => decide (h ≤ p.1)) = some L[m] := by
      refine List.find?_eq_some_iff_getElem.2 ⟨by simpa using hi m hlt (Nat.le_refl _), m, hlt, rfl, fun j hj => ?_⟩
      have := lo j (by omega) hj
      simp; omega
    rw [succL_some e]
    simp [Nat.mod_eq_of_lt hlt]
  · have em : m = L.length := by omega
    subst em
    simp only [Nat.mod_self]
    cases L with
    | nil => simp at hpos
    | cons p L =>
      have e : (p :: L).find? (fun p => decide (h ≤ p.1)) = none := by
        rw [List.find?_eq_none]
        intro x hx
        obtain ⟨j, hj, rfl⟩ := List.getElem_of_mem hx
        have := lo j hj (by simpa using hj)
        simp at this ⊢; omega
      rw [succL_none e]; rfl
theorem told_found {L : List Pt} {h : Int} {m : Nat} (hf : Found L h m) (hm : m % L.length < L.length) : Told L h L[m % L.length].2 :=
  ⟨fun e => by subst e; simp at hm, fun _ => ⟨_, List.getElem_mem hm, rfl⟩, fun hr => found_succ hr hf (by omega) hm⟩

set_option maxRecDepth 100000 in
set_option maxHeartbeats 1000000 in
theorem succ_told (a : Option Addr) (cap : Nat) (L : List Pt) (h : Int) (w : World) (hL : Lies w a cap L) :
    Calls Try.prog 24 #[ptsV a cap L, .int .u64 h] w fun e W' => (∃ r, e = .returned (.int .i64 r) ∧ Told L h r) ∧ W' = w := by
  have H := Lib.hid hL
  have hlen := hL.len
  have hmax := hL.max
  unfold maxLen at hmax
  clear hL
  by_cases h0 : L.length = 0
  · obtain rfl : L = [] := List.eq_nil_of_length_eq_zero h0
    go_enter Try.func24, Try.ntmps24
    go_wp2
    go_ret
    exact ⟨⟨_, rfl, fun _ => rfl, fun h => absurd rfl h, fun _ => rfl⟩, rfl⟩
  · have d0 : ((L.length : Int) == 0) = false := beq_false_of_ne (by omega)
    go_enter Try.func24, Try.ntmps24
    go_wp2_with fail
    refine (place_any a cap L h w H.out).mono ?_
    rintro e w1 ⟨⟨m, rfl, hf⟩, rfl⟩
    have hm := hf.1
    obtain ⟨r, hr⟩ : ∃ r : Nat, r = m % L.length := ⟨_, rfl⟩
    have hrl : r < L.length := by rw [hr]; exact Nat.mod_lt _ (by omega)
    have e1 : (m : Int).tmod (L.length : Int) = (r : Int) := by rw [hr]; rfl
    have e2 : IntKind.i64.wrap (r : Int) = (r : Int) := by simp only [IntKind.wrap, IntKind.signed, IntKind.bits]; simp; omega
    obtain ⟨b, off, rfl, c0, c1⟩ := H.out.at hrl
    have HT := Lib.hid (show Told L h L[r].2 by subst hr; exact told_found hf hrl)
    generalize L[r] = x at *
    clear hr hf
    go_wp2_with fail
    go_ret
    exact ⟨⟨_, rfl, HT.out⟩, rfl⟩
set_option maxHeartbeats 400000 in
theorem Succ_told (a : Option Addr) (cap : Nat) (L : List Pt) (h : Int) (w : World) (hL : Lies w a cap L) :
    Calls Try.prog 10 #[ptsV a cap L, .int .u64 h] w fun e W' => (∃ r, e = .returned (.int .i64 r) ∧ Told L h r) ∧ W' = w := by
  have C := Lib.hid (succ_told a cap L h w hL)
  clear hL
  go_enter Try.func10, Try.ntmps10
  go_wp2_with fail
  refine C.out.mono ?_
  rintro e w1 ⟨⟨r, rfl, ht⟩, rfl⟩
  have HT := Lib.hid ht
  clear ht C
  go_wp2_with fail
  go_ret
  exact ⟨⟨_, rfl, HT.out⟩, rfl⟩

/-- The first of those that are left. -/
theorem find_skip {L : List Pt} {h : Int} {k : Nat} (hno : ∀ j (hj : j < L.length), j < k → ¬ h ≤ L[j].1) (hk : k < L.length) (hx : h ≤ L[k].1) : succL L h = L[k].2 :=
  succL_some (List.find?_eq_some_iff_getElem.2 ⟨by simpa using hx, k, hk, rfl, fun j hj => by simpa using hno j (by omega) hj⟩)
theorem find_end {L : List Pt} {h : Int} (hno : ∀ j (hj : j < L.length), j < L.length → ¬ h ≤ L[j].1) (hk : 0 < L.length) : succL L h = L[0].2 := by
  cases L with
  | nil => simp at hk
  | cons p L => exact succL_none (List.find?_eq_none.2 fun x hx => by
      obtain ⟨j, hj, rfl⟩ := List.getElem_of_mem hx
      simpa using hno j hj hj)
set_option maxRecDepth 100000 in
set_option maxHeartbeats 1000000 in
theorem refSucc_any (a : Option Addr) (cap : Nat) (L : List Pt) (h : Int) (w : World) (hL : Lies w a cap L) :
    Calls Try.prog 12 #[ptsV a cap L, .int .u64 h] w fun e W' => e = .returned (.int .i64 (succL L h)) ∧ W' = w := by
  have H := Lib.hid hL
  have hlen := hL.len
  have hmax := hL.max
  unfold maxLen at hmax
  clear hL
  go_enter Try.func12, Try.ntmps12
  go_wp2
  go_loop [5] (fun i => ∃ k : Nat, k ≤ L.length ∧ i = .int .i64 k ∧ ∀ j (hj : j < L.length), j < k → ¬ h ≤ L[j].1) (fun i => L.length - (intOf i).toNat)
  case atStart => exact ⟨0, Nat.zero_le _, rfl, fun j _ h => absurd h (by omega)⟩
  case round =>
    obtain ⟨k, hk, rfl, hno⟩ := hrel
    have HN := Lib.hid hno
    clear hno
    by_cases hlt : k < L.length
    · obtain ⟨b, off, rfl, c0, c1⟩ := H.out.at hlt
      by_cases hx : h ≤ L[k].1
      · have dx : decide (h ≤ L[k].1) = true := decide_eq_true hx
        have HV := Lib.hid (find_skip HN.out hlt hx)
        clear hx
        generalize L[k] = x at *
        go_wp2
        go_ret
        exact ⟨by rw [HV.out]; rfl, rfl⟩
      · have dx : decide (h ≤ L[k].1) = false := decide_eq_false hx
        have HV := Lib.hid (show ∀ j (hj : j < L.length), j < k + 1 → ¬ h ≤ L[j].1 from fun j hj hjk => by
          rcases Nat.lt_or_ge j k with h' | h'
          · exact HN.out j hj h'
          · have : j = k := by omega
            subst this; exact hx)
        clear hx
        generalize L[k] = x at *
        go_wp2
        refine ⟨⟨k + 1, by omega, by go_num, HV.out⟩, by simp [intOf]; omega⟩
    · obtain rfl : k = L.length := by omega
      by_cases h0 : L.length = 0
      · obtain rfl : L = [] := List.eq_nil_of_length_eq_zero h0
        go_wp2
        go_ret
        exact ⟨rfl, rfl⟩
      · have d0 : ((L.length : Int) == 0) = false := beq_false_of_ne (by omega)
        have hp : 0 < L.length := by omega
        obtain ⟨b, off, rfl, c0, c1⟩ := H.out.at hp
        have HV := Lib.hid (find_end HN.out hp)
        generalize L[0] = x at *
        go_wp2
        go_ret
        exact ⟨by rw [HV.out]; rfl, rfl⟩
end Go.Proofs.Ytppbbhijlkfioaa.Rin
