/-
  Rings: where a hash goes to, on a ring of points (package ring: place, succ, Succ). No condition on the points; which one it is told where they rise.
-/
import Derived.Test.YtppbbhijlkfioaaRinP
import Derived.BigQuiet
import Derived.WalkSmall
namespace Go.Proofs.Ytppbbhijlkfioaa.Rin
open Go.RowKit Go.Shelf
open Pts (Pt ptV ptsV Lies Rise)
open Pol (below2 below_alloc)

/-- All ahead of s are below h, all from t on are not. -/
def Seek (L : List Pt) (h : Int) (s t : Nat) : Prop := (∀ i (hi : i < L.length), i < s → L[i].1 < h) ∧ ∀ i (hi : i < L.length), t ≤ i → h ≤ L[i].1
theorem rise_hash {L : List Pt} (hr : Rise L) {i j : Nat} (hi : i < L.length) (hj : j < L.length) (hij : i ≤ j) : L[i].1 ≤ L[j].1 := by
  rcases Nat.lt_or_ge i j with h | h
  · have := List.pairwise_iff_getElem.1 hr i j hi hj h
    rw [Pts.le_iff] at this; omega
  · have : i = j := by omega
    subst this; exact Int.le_refl _
theorem Seek.low {L : List Pt} {h : Int} {s t m : Nat} (hr : Rise L) (hm : m < L.length) (hx : L[m].1 < h) (k : Seek L h s t) : Seek L h (m + 1) t :=
  ⟨fun _ hi him => Int.lt_of_le_of_lt (rise_hash hr hi hm (by omega)) hx, k.2⟩
theorem Seek.high {L : List Pt} {h : Int} {s t m : Nat} (hr : Rise L) (hm : m < L.length) (hx : ¬ L[m].1 < h) (k : Seek L h s t) : Seek L h s m :=
  ⟨k.1, fun _ hi him => Int.le_trans (Int.not_lt.1 hx) (rise_hash hr hm hi him)⟩
/-- The place that is found. -/
def Found (L : List Pt) (h : Int) (m : Nat) : Prop := m ≤ L.length ∧ (Rise L → Seek L h m m)

set_option maxRecDepth 100000 in
set_option maxHeartbeats 1000000 in
theorem place_any (a : Option Addr) (cap : Nat) (L : List Pt) (h : Int) (w : World) (hL : Lies w a cap L) :
    Calls Try.prog 42 #[ptsV a cap L, .int .u64 h] w fun e W' => (∃ m : Nat, e = .returned (.int .i64 m) ∧ Found L h m) ∧ W' = w := by
  have H := Lib.hid hL
  have hlen := hL.len
  have hmax := hL.max
  unfold maxLen at hmax
  clear hL
  go_enter Try.func42, Try.ntmps42
  go_wp2
  go_loop [5, 6] (fun lo hi => ∃ s t : Nat, s ≤ t ∧ t ≤ L.length ∧ lo = .int .i64 s ∧ hi = .int .i64 t ∧ (Rise L → Seek L h s t)) (fun lo hi => (intOf hi).toNat - (intOf lo).toNat)
  case atStart => exact ⟨0, L.length, Nat.zero_le _, Nat.le_refl _, rfl, rfl, fun _ => ⟨fun i _ h => absurd h (by omega), fun i hi h => absurd h (by omega)⟩⟩
  case round =>
    obtain ⟨s, t, hst, ht, rfl, rfl, hS⟩ := hrel
    have HS := Lib.hid hS
    clear hS
    by_cases hlt : s < t
    · have dlt : decide (s < t) = true := decide_eq_true hlt
      obtain ⟨d, hd⟩ : ∃ d : Nat, d = t - s := ⟨_, rfl⟩
      obtain ⟨q, hq⟩ : ∃ q : Nat, q = d / 2 := ⟨_, rfl⟩
      obtain ⟨m, hm⟩ : ∃ m : Nat, m = s + q := ⟨_, rfl⟩
      have hml : m < L.length := by omega
      have hm1 : s ≤ m := by omega
      have hm2 : m < t := by omega
      have e1 : IntKind.i64.wrap ((t : Int) - (s : Int)) = (d : Int) := by simp only [IntKind.wrap, IntKind.signed, IntKind.bits]; simp; omega
      have e2 : (d : Int).tdiv 2 = (q : Int) := by rw [hq]; rfl
      have e4 : IntKind.i64.wrap (q : Int) = (q : Int) := by simp only [IntKind.wrap, IntKind.signed, IntKind.bits]; simp; omega
      have e3 : IntKind.i64.wrap ((s : Int) + (q : Int)) = (m : Int) := by simp only [IntKind.wrap, IntKind.signed, IntKind.bits]; simp; omega
      obtain ⟨b, off, rfl, c0, c1⟩ := H.out.at hml
      by_cases hx : L[m].1 < h
      · have dx : decide (L[m].1 < h) = true := decide_eq_true hx
        have HN := Lib.hid (show Rise L → Seek L h (m + 1) t from fun hr => Seek.low hr hml hx (HS.out hr))
        clear hx hd hq hm
        generalize L[m] = x at *
        go_wp2
        refine ⟨⟨m + 1, t, by omega, ht, by go_num, rfl, HN.out⟩, by simp [intOf]; omega⟩
      · have dx : decide (L[m].1 < h) = false := decide_eq_false hx
        have HN := Lib.hid (show Rise L → Seek L h s m from fun hr => Seek.high hr hml hx (HS.out hr))
        clear hx hd hq hm
        generalize L[m] = x at *
        go_wp2
        refine ⟨⟨s, m, by omega, by omega, rfl, rfl, HN.out⟩, by simp [intOf]; omega⟩
    · obtain rfl : s = t := by omega
      go_wp2
      go_ret
      exact ⟨⟨s, rfl, ht, HS.out⟩, rfl⟩
end Go.Proofs.Ytppbbhijlkfioaa.Rin
