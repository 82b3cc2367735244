/-
  Rings, plain facts: where a hash goes to, and which hashes go elsewhere.
-/
import Derived.Test.YtbamodkgagcmnaaGreatBPtqM
import Derived.BigQuiet
import Derived.WalkSmall
import Derived.Deep.RegionHeld3
set_option maxRecDepth 100000
namespace Go.Proofs.YtbamodkgagcmnaaGreat.Rin
open Pts Pol

/-- Where a hash goes to. -/
def succL (L : List Pt) (h : Int) : Int := match L.find? fun p => decide (h ≤ p.1) with
  | some p => p.2
  | none => match L with
    | [] => -1
    | p :: _ => p.2
theorem succL_some {L : List Pt} {h : Int} {p : Pt} (e : L.find? (fun p => decide (h ≤ p.1)) = some p) : succL L h = p.2 := by unfold succL; rw [e]
theorem succL_none {p : Pt} {L : List Pt} {h : Int} (e : (p :: L).find? (fun p => decide (h ≤ p.1)) = none) : succL (p :: L) h = p.2 := by unfold succL; rw [e]
/-- It is the Id of a point. -/
theorem succL_mem {L : List Pt} (hL : L ≠ []) (h : Int) : ∃ p ∈ L, succL L h = p.2 := by
  cases e : L.find? (fun p => decide (h ≤ p.1)) with
  | some p => exact ⟨p, List.mem_of_find?_eq_some e, succL_some e⟩
  | none =>
    cases L with
    | nil => exact absurd rfl hL
    | cons p L => exact ⟨p, by simp, succL_none e⟩
/-- Which hashes go elsewhere. -/
def movedL (A B : List Pt) (hs : List Int) : List Nat := (List.range hs.length).filter fun i => succL A (hs.getD i 0) != succL B (hs.getD i 0)
section
variable (hash : Int → Nat → Int)
theorem ofL_mem {z : List Bk} {p : Pt} (h : p ∈ ofL hash z) : ∃ x ∈ z, p.2 = x.1 := by
  obtain ⟨x, hx, hp⟩ := List.mem_flatMap.1 ((psort_perm (pts hash z)).mem_iff.1 h)
  exact ⟨x, hx, own_id hash x p hp⟩
theorem ofL_none {z : List Bk} (hc : chk z) (h : z ≠ []) : ofL hash z ≠ [] := by
  cases z with
  | nil => exact absurd rfl h
  | cons x z =>
    intro e
    obtain ⟨_, hr, _⟩ := (chk_iff _).1 hc
    obtain ⟨_, _, h3, h4⟩ := hr x (by simp)
    have := in_ofL hash (x :: z) x (by simp) 0 (by unfold cnt; omega)
    rw [e] at this; cases this
/-- A hash goes to one of the pool. -/
theorem pick_in {z : List Bk} (hc : chk z) (hz : z ≠ []) (h : Int) : ∃ x ∈ z, x.1 = succL (ofL hash z) h := by
  obtain ⟨p, hp, e⟩ := succL_mem (ofL_none hash hc hz) h
  obtain ⟨x, hx, hpx⟩ := ofL_mem hash hp
  exact ⟨x, hx, by rw [e, hpx]⟩
end
end Go.Proofs.YtbamodkgagcmnaaGreat.Rin

namespace Go.Proofs.YtbamodkgagcmnaaGreat.Rin
open Go.RowKit Go.Shelf
open Pts (Pt ptV ptsV Lies Rise)
open Pol (below2 below_alloc)

/-- All ahead of s are below h, all from t on are not. -/
def Seek (L : List Pt) (h : Int) (s t : Nat) : Prop := (∀ i (hi : i < L.length), i < s → L[i].1 < h) ∧ ∀ i (hi : i < L.length), t ≤ i → h ≤ L[i].1
theorem rise_hash {L : List Pt} (hr : Rise L) {i j : Nat} (hi : i < L.length) (hj : j < L.length) (hij : i ≤ j) : L[i].1 ≤ L[j].1 := by
  rcases Nat.lt_or_ge i j with h | h
  · have := List.pairwise_iff_getElem.1 hr i j hi hj h
    rw [Pts.le_iff] at this; omega
  · have : i = j := by omega
    subst this; exact Int.le_refl _
theorem Seek.low {L : List Pt} {h : Int} {s t m : Nat} (hr : Rise L) (hm : m < L.length) (hx : L[m].1 < h) (k : Seek L h s t) : Seek L h (m + 1) t :=
  ⟨fun _ hi him => Int.lt_of_le_of_lt (rise_hash hr hi hm (by omega)) hx, k.2⟩
theorem Seek.high {L : List Pt} {h : Int} {s t m : Nat} (hr : Rise L) (hm : m < L.length) (hx : ¬ L[m].1 < h) (k : Seek L h s t) : Seek L h s m :=
  ⟨k.1, fun _ hi him => Int.le_trans (Int.not_lt.1 hx) (rise_hash hr hm hi him)⟩
/-- The place that is found. -/
def Found (L : List Pt) (h : Int) (m : Nat) : Prop := m ≤ L.length ∧ (Rise L → Seek L h m m)

set_option maxRecDepth 100000 in
set_option maxHeartbeats 1000000 in
theorem place_any (a : Option Addr) (cap : Nat) (L : List Pt) (h : Int) (w : World) (hL : Lies w a cap L) :
    Calls Tryz.prog 154 #[ptsV a cap L, .int .u64 h] w fun e W' => (∃ m : Nat, e = .returned (.int .i64 m) ∧ Found L h m) ∧ W' = w := by
  have H := Lib.hid hL
  have hlen := hL.len
  have hmax := hL.max
  unfold maxLen at hmax
  clear hL
  go_enter Tryz.func154, Tryz.ntmps154
  go_wp2
  go_loop [5, 6] (fun lo hi => ∃ s t : Nat, s ≤ t ∧ t ≤ L.length ∧ lo = .int .i64 s ∧ hi = .int .i64 t ∧ (Rise L → Seek L h s t)) (fun lo hi => (intOf hi).toNat - (intOf lo).toNat)
  case atStart => exact ⟨0, L.length, Nat.zero_le _, Nat.le_refl _, rfl, rfl, fun _ => ⟨fun i _ h => absurd h (by omega), fun i hi h => absurd h (by omega)⟩⟩
  case round =>
    obtain ⟨s, t, hst, ht, rfl, rfl, hS⟩ := hrel
    have HS := Lib.hid hS
    clear hS
    by_cases hlt : s < t
    · have dlt : decide (s < t) = true := decide_eq_true hlt
      obtain ⟨d, hd⟩ : ∃ d : Nat, d = t - s := ⟨_, rfl⟩
      obtain ⟨q, hq⟩ : ∃ q : Nat, q = d / 2 := ⟨_, rfl⟩
      obtain ⟨m, hm⟩ : ∃ m : Nat, m = s + q := ⟨_, rfl⟩
      have hml : m < L.length := by omega
      have hm1 : s ≤ m := by omega
      have hm2 : m < t := by omega
      have e1 : IntKind.i64.wrap ((t : Int) - (s : Int)) = (d : Int) := by simp only [IntKind.wrap, IntKind.signed, IntKind.bits]; simp; omega
      have e2 : (d : Int).tdiv 2 = (q : Int) := by rw [hq]; rfl
      have e4 : IntKind.i64.wrap (q : Int) = (q : Int) := by simp only [IntKind.wrap, IntKind.signed, IntKind.bits]; simp; omega
      have e3 : IntKind.i64.wrap ((s : Int) + (q : Int)) = (m : Int) := by simp only [IntKind.wrap, IntKind.signed, IntKind.bits]; simp; omega
      obtain ⟨b, off, rfl, c0, c1⟩ := H.out.at hml
      by_cases hx : L[m].1 < h
      · have dx : decide (L[m].1 < h) = true := decide_eq_true hx
        have HN := Lib.hid (show Rise L → Seek L h (m + 1) t from fun hr => Seek.low hr hml hx (HS.out hr))
        clear hx hd hq hm
        generalize L[m] = x at *
        go_wp2
        refine ⟨⟨m + 1, t, by omega, ht, by go_num, rfl, HN.out⟩, by simp [intOf]; omega⟩
      · have dx : decide (L[m].1 < h) = false := decide_eq_false hx
        have HN := Lib.hid (show Rise L → Seek L h s m from fun hr => Seek.high hr hml hx (HS.out hr))
        clear hx hd hq hm
        generalize L[m] = x at *
        go_wp2
        refine ⟨⟨s, m, by omega, by omega, rfl, rfl, HN.out⟩, by simp [intOf]; omega⟩
    · obtain rfl : s = t := by omega
      go_wp2
      go_ret
      exact ⟨⟨s, rfl, ht, HS.out⟩, rfl⟩
end Go.Proofs.YtbamodkgagcmnaaGreat.Rin

namespace Go.Proofs.YtbamodkgagcmnaaGreat.Rin
open Go.RowKit Go.Shelf
open Pts (Pt ptV ptsV Lies Rise less)
open Pol (below2 below_alloc)

/-- What is told of a hash: -1 of no points; else the Id of one; of points that rise the right one. -/
def Told (L : List Pt) (h r : Int) : Prop := (L = [] → r = -1) ∧ (L ≠ [] → ∃ p ∈ L, r = p.2) ∧ (Rise L → r = succL L h)
theorem found_succ {L : List Pt} {h : Int} {m : Nat} (hr : Rise L) (hf : Found L h m) (hpos : 0 < L.length) (hm : m % L.length < L.length) : L[m % L.length].2 = succL L h := by
  obtain ⟨h1, h2⟩ := hf
  obtain ⟨lo, hi⟩ := h2 hr
  rcases Nat.lt_or_ge m L.length with hlt | hge
  · have e : L.find? (fun p => decide (h ≤ p.1)) = some L[m] := by
      refine List.find?_eq_some_iff_getElem.2 ⟨by simpa using hi m hlt (Nat.le_refl _), m, hlt, rfl, fun j hj => ?_⟩
      have := lo j (by omega) hj
      simp; omega
    rw [succL_some e]
    simp [Nat.mod_eq_of_lt hlt]
  · have em : m = L.length := by omega
    subst em
    simp only [Nat.mod_self]
    cases L with
    | nil => simp at hpos
    | cons p L =>
      have e : (p :: L).find? (fun p => decide (h ≤ p.1)) = none := by
        rw [List.find?_eq_none]
        intro x hx
        obtain ⟨j, hj, rfl⟩ := List.getElem_of_mem hx
        have := lo j hj (by simpa using hj)
        simp at this ⊢; omega
      rw [succL_none e]; rfl
theorem told_found {L : List Pt} {h : Int} {m : Nat} (hf : Found L h m) (hm : m % L.length < L.length) : Told L h L[m % L.length].2 :=
  ⟨fun e => by subst e; simp at hm, fun _ => ⟨_, List.getElem_mem hm, rfl⟩, fun hr => found_succ hr hf (by omega) hm⟩

set_option maxRecDepth 100000 in
set_option maxHeartbeats 1000000 in
theorem succ_told (a : Option Addr) (cap : Nat) (L : List Pt) (h : Int) (w : World) (hL : Lies w a cap L) :
    Calls Tryz.prog 107 #[ptsV a cap L, .int .u64 h] w fun e W' => (∃ r, e = .returned (.int .i64 r) ∧ Told L h r) ∧ W' = w := by
  have H := Lib.hid hL
  have hlen := hL.len
  have hmax := hL.max
  unfold maxLen at hmax
  clear hL
  by_cases h0 : L.length = 0
  · obtain rfl : L = [] := List.eq_nil_of_length_eq_zero h0
    go_enter Tryz.func107, Tryz.ntmps107
    go_wp2
    go_ret
    exact ⟨⟨_, rfl, fun _ => rfl, fun h => absurd rfl h, fun _ => rfl⟩, rfl⟩
  · have d0 : ((L.length : Int) == 0) = false := beq_false_of_ne (by omega)
    go_enter Tryz.func107, Tryz.ntmps107
    go_wp2_with fail
    refine (place_any a cap L h w H.out).mono ?_
    rintro e w1 ⟨⟨m, rfl, hf⟩, rfl⟩
    have hm := hf.1
    obtain ⟨r, hr⟩ : ∃ r : Nat, r = m % L.length := ⟨_, rfl⟩
    have hrl : r < L.length := by rw [hr]; exact Nat.mod_lt _ (by omega)
    have e1 : (m : Int).tmod (L.length : Int) = (r : Int) := by rw [hr]; rfl
    have e2 : IntKind.i64.wrap (r : Int) = (r : Int) := by simp only [IntKind.wrap, IntKind.signed, IntKind.bits]; simp; omega
    obtain ⟨b, off, rfl, c0, c1⟩ := H.out.at hrl
    have HT := Lib.hid (show Told L h L[r].2 by subst hr; exact told_found hf hrl)
    generalize L[r] = x at *
    clear hr hf
    go_wp2_with fail
    go_ret
    exact ⟨⟨_, rfl, HT.out⟩, rfl⟩
theorem told_rise {L : List Pt} {h r : Int} (ht : Told L h r) (hr : Rise L) : r = succL L h := ht.2.2 hr
end Go.Proofs.YtbamodkgagcmnaaGreat.Rin
