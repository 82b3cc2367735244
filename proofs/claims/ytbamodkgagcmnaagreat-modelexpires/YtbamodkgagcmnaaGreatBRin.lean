/-
  Rings, plain facts: where a hash goes to, and which hashes go elsewhere.
-/
import Derived.Test.YtbamodkgagcmnaaGreatBPtq
import Derived.BigQuiet
import Derived.WalkSmall
import Derived.Deep.RegionHeld3
set_option maxRecDepth 100000
namespace Go.Proofs.YtbamodkgagcmnaaGreat.Rin
open Pts Pol

/-- Where a hash goes to. -/
def succL (L : List Pt) (h : Int) : Int := match L.find? fun p => decide (h ≤ p.1) with
  | some p => p.2
  | none => match L with
    | [] => -1
    | p :: _ => p.2
theorem succL_nil (h : Int) : succL [] h = -1 := rfl
theorem succL_some {L : List Pt} {h : Int} {p : Pt} (e : L.find? (fun p => decide (h ≤ p.1)) = some p) : succL L h = p.2 := by unfold succL; rw [e]
theorem succL_none {p : Pt} {L : List Pt} {h : Int} (e : (p :: L).find? (fun p => decide (h ≤ p.1)) = none) : succL (p :: L) h = p.2 := by unfold succL; rw [e]
/-- It is the Id of a point. -/
theorem succL_mem {L : List Pt} (hL : L ≠ []) (h : Int) : ∃ p ∈ L, succL L h = p.2 := by
  cases e : L.find? (fun p => decide (h ≤ p.1)) with
  | some p => exact ⟨p, List.mem_of_find?_eq_some e, succL_some e⟩
  | none =>
    cases L with
    | nil => exact absurd rfl hL
    | cons p L => exact ⟨p, by simp, succL_none e⟩
theorem find_filter (L : List Pt) (h id : Int) : ∀ p, L.find? (fun p => decide (h ≤ p.1)) = some p → p.2 ≠ id → (L.filter fun p => p.2 != id).find? (fun p => decide (h ≤ p.1)) = some p := by
  induction L with
  | nil => intro p e; cases e
  | cons q L ih =>
    intro p e hp
    by_cases hq : h ≤ q.1
    · rw [List.find?_cons_of_pos (by simpa using hq)] at e
      cases e
      rw [List.filter_cons, if_pos (by simpa using hp), List.find?_cons_of_pos (by simpa using hq)]
    · rw [List.find?_cons_of_neg (by simpa using hq)] at e
      rw [List.filter_cons]
      split
      · rw [List.find?_cons_of_neg (by simpa using hq)]; exact ih p e hp
      · exact ih p e hp
/-- Without a backend a hash that did not go to it stays. -/
theorem succL_filter (L : List Pt) (h id : Int) (hs : succL L h ≠ id) : succL (L.filter fun p => p.2 != id) h = succL L h := by
  cases e : L.find? (fun p => decide (h ≤ p.1)) with
  | some p =>
    rw [succL_some e] at hs ⊢
    exact succL_some (find_filter L h id p e hs)
  | none =>
    cases L with
    | nil => rfl
    | cons p L =>
      rw [succL_none e] at hs ⊢
      have e2 : ((p :: L).filter fun p => p.2 != id).find? (fun p => decide (h ≤ p.1)) = none := by
        rw [List.find?_eq_none] at e ⊢
        exact fun x hx => e x (List.mem_filter.1 hx).1
      rw [List.filter_cons, if_pos (by simpa using hs)] at e2 ⊢
      exact succL_none e2
/-- .. and one that went to it moves. -/
theorem succL_gone (L : List Pt) (h id : Int) (hid : id ≠ -1) : succL (L.filter fun p => p.2 != id) h ≠ id := by
  by_cases hL : (L.filter fun p => p.2 != id) = []
  · rw [hL, succL_nil]; exact fun e => hid e.symm
  · obtain ⟨p, hp, e⟩ := succL_mem hL h
    rw [e]
    simpa using (List.mem_filter.1 hp).2
/-- A point's own hash goes to its backend, unless the one ahead has the same. -/
theorem succL_own (L : List Pt) (hr : Rise L) (n : Nat) (hn : n < L.length) : succL L L[n].1 = L[n].2 ∨ ∃ m, n = m + 1 ∧ ∃ hm : m < L.length, L[m].1 = L[n].1 := by
  have hmono : ∀ i j (hi : i < L.length) (hj : j < L.length), i < j → L[i].1 ≤ L[j].1 := fun i j hi hj hij => by
    have := List.pairwise_iff_getElem.1 hr i j hi hj hij
    rw [le_iff] at this; omega
  cases e : L.find? (fun p => decide (L[n].1 ≤ p.1)) with
  | none =>
    have := List.find?_eq_none.1 e L[n] (List.getElem_mem hn)
    simp at this
  | some p =>
    obtain ⟨hp, i, hi, hpi, hno⟩ := List.find?_eq_some_iff_getElem.1 e
    rw [succL_some e]
    have hin : i ≤ n := by
      rcases Nat.lt_or_ge n i with h | h
      · have := hno n h; simp at this
      · exact h
    rcases Nat.lt_or_ge i n with h | h
    · right
      refine ⟨n - 1, by omega, by omega, ?_⟩
      have h1 : L[n].1 ≤ L[i].1 := by rw [hpi]; simpa using hp
      have h2 : L[i].1 ≤ L[n - 1].1 := by
        rcases Nat.lt_or_ge i (n - 1) with h' | h'
        · exact hmono i (n - 1) hi (by omega) h'
        · have : i = n - 1 := by omega
          subst this; exact Int.le_refl _
      have h3 := hmono (n - 1) n (by omega) hn (by omega)
      omega
    · left
      have : i = n := by omega
      subst this
      rw [← hpi]
/-- Two hashes between which there is no point go to the same backend. -/
theorem succL_arc (L : List Pt) (h k : Int) (hk : h ≤ k) (hno : ∀ p ∈ L, ¬ (h ≤ p.1 ∧ p.1 < k)) : succL L h = succL L k := by
  have e : L.find? (fun p => decide (h ≤ p.1)) = L.find? (fun p => decide (k ≤ p.1)) := by
    induction L with
    | nil => rfl
    | cons q L ih =>
      have hq := hno q (by simp)
      rw [List.find?_cons, List.find?_cons, ih (fun p hp => hno p (by simp [hp])), show decide (h ≤ q.1) = decide (k ≤ q.1) by
        by_cases h1 : k ≤ q.1
        · rw [decide_eq_true h1, decide_eq_true (by omega)]
        · rw [decide_eq_false h1, decide_eq_false (by omega)]]
  unfold succL
  rw [e]
/-- Points of which none stands ahead of the one before it rise. -/
theorem rise_adj (L : List Pt) (h : ∀ i, (hi : i + 1 < L.length) → less L[i + 1] L[i] = false) : Rise L := by
  have key : ∀ d i (hi : i + d + 1 < L.length), le (L[i]'(by omega)) L[i + d + 1] = true := by
    intro d
    induction d with
    | zero => intro i hi; unfold le; rw [h i hi]; rfl
    | succ d ih =>
      intro i hi
      refine le_trans _ _ _ (ih i (by omega)) ?_
      unfold le
      rw [show less (L[i + (d + 1) + 1]) (L[i + d + 1]'(by omega)) = false from h (i + d + 1) hi]; rfl
  refine List.pairwise_iff_getElem.2 fun i j hi hj hij => ?_
  have := key (j - i - 1) i (by omega)
  have e : i + (j - i - 1) + 1 = j := by omega
  simpa [e] using this
/-- Which hashes go elsewhere. -/
def movedL (A B : List Pt) (hs : List Int) : List Nat := (List.range hs.length).filter fun i => succL A (hs.getD i 0) != succL B (hs.getD i 0)
theorem movedL_mem (A B : List Pt) (hs : List Int) (i : Nat) : i ∈ movedL A B hs ↔ i < hs.length ∧ succL A (hs.getD i 0) ≠ succL B (hs.getD i 0) := by
  unfold movedL; rw [List.mem_filter, List.mem_range]; simp
theorem movedL_rises (A B : List Pt) (hs : List Int) : (movedL A B hs).Pairwise (· < ·) := (List.pairwise_lt_range).filter _
theorem movedL_self (A : List Pt) (hs : List Int) : movedL A A hs = [] := by unfold movedL; rw [List.filter_eq_nil_iff]; simp
theorem movedL_len (A B : List Pt) (hs : List Int) : (movedL A B hs).length ≤ hs.length := Nat.le_trans (List.length_filter_le _ _) (by simp)
section
variable (hash : Int → Nat → Int)
theorem ofL_mem {z : List Bk} {p : Pt} (h : p ∈ ofL hash z) : ∃ x ∈ z, p.2 = x.1 := by
  obtain ⟨x, hx, hp⟩ := List.mem_flatMap.1 ((psort_perm (pts hash z)).mem_iff.1 h)
  exact ⟨x, hx, own_id hash x p hp⟩
theorem ofL_none {z : List Bk} (hc : chk z) (h : z ≠ []) : ofL hash z ≠ [] := by
  cases z with
  | nil => exact absurd rfl h
  | cons x z =>
    intro e
    obtain ⟨_, hr, _⟩ := (chk_iff _).1 hc
    obtain ⟨_, _, h3, h4⟩ := hr x (by simp)
    have := in_ofL hash (x :: z) x (by simp) 0 (by unfold cnt; omega)
    rw [e] at this; cases this
/-- A hash goes to one of the pool. -/
theorem pick_in {z : List Bk} (hc : chk z) (hz : z ≠ []) (h : Int) : ∃ x ∈ z, x.1 = succL (ofL hash z) h := by
  obtain ⟨p, hp, e⟩ := succL_mem (ofL_none hash hc hz) h
  obtain ⟨x, hx, hpx⟩ := ofL_mem hash hp
  exact ⟨x, hx, by rw [e, hpx]⟩
/-- What moves without a backend is just what went to it. -/
theorem moved_without {z : List Bk} (hc : chk z) (id : Int) (h : Int) : succL (ofL hash z) h ≠ succL (ofL hash (without z id)) h ↔ succL (ofL hash z) h = id ∧ ∃ x ∈ z, x.1 = id := by
  rw [ofL_without]
  constructor
  · intro hne
    have e : succL (ofL hash z) h = id := Classical.byContradiction fun h' => hne (succL_filter _ h id h').symm
    refine ⟨e, ?_⟩
    by_cases hz : z = []
    · subst hz; exact absurd (by simp [ofL, pts, psort]) hne
    · obtain ⟨x, hx, ex⟩ := pick_in hash hc hz h
      exact ⟨x, hx, ex.trans e⟩
  · rintro ⟨e, x, hx, ex⟩
    obtain ⟨_, hr, _⟩ := (chk_iff _).1 hc
    obtain ⟨h1, _⟩ := hr x hx
    rw [e]
    exact fun h' => succL_gone (ofL hash z) h id (by omega) h'.symm
/-- With a backend more just those move that go to it. -/
theorem moved_with {z : List Bk} (y : Bk) (hn : ∀ x ∈ z, x.1 ≠ y.1) (h : Int) : succL (ofL hash (with_ z y)) h = succL (ofL hash z) h ∨ succL (ofL hash (with_ z y)) h = y.1 := by
  by_cases e : succL (ofL hash (with_ z y)) h = y.1
  · exact .inr e
  · left
    have e2 : without (with_ z y) y.1 = z := by
      rw [without_with]
      unfold without
      rw [List.filter_eq_self]
      intro x hx; simpa using hn x hx
    have := succL_filter (ofL hash (with_ z y)) h y.1 e
    rw [← ofL_without, e2] at this
    exact this.symm
end
end Go.Proofs.YtbamodkgagcmnaaGreat.Rin

namespace Go.Proofs.YtbamodkgagcmnaaGreat.Rin
open Go.RowKit Go.Shelf
open Pts (Pt ptV ptsV Lies Rise)
open Pol (below2 below_alloc)

/-- All ahead of s are below h, all from t on are not. -/
def Seek (L : List Pt) (h : Int) (s t : Nat) : Prop := (∀ i (hi : i < L.length), i < s → L[i].1 < h) ∧ ∀ i (hi : i < L.length), t ≤ i → h ≤ L[i].1
theorem rise_hash {L : List Pt} (hr : Rise L) {i j : Nat} (hi : i < L.length) (hj : j < L.length) (hij : i ≤ j) : L[i].1 ≤ L[j].1 := by
  rcases Nat.lt_or_ge i j with h | h
  · have := List.pairwise_iff_getElem.1 hr i j hi hj h
    rw [Pts.le_iff] at this; omega
  · have : i = j := by omega
    subst this; exact Int.le_refl _
theorem Seek.low {L : List Pt} {h : Int} {s t m : Nat} (hr : Rise L) (hm : m < L.length) (hx : L[m].1 < h) (k : Seek L h s t) : Seek L h (m + 1) t :=
  ⟨fun _ hi him => Int.lt_of_le_of_lt (rise_hash hr hi hm (by omega)) hx, k.2⟩
theorem Seek.high {L : List Pt} {h : Int} {s t m : Nat} (hr : Rise L) (hm : m < L.length) (hx : ¬ L[m].1 < h) (k : Seek L h s t) : Seek L h s m :=
  ⟨k.1, fun _ hi him => Int.le_trans (Int.not_lt.1 hx) (rise_hash hr hm hi him)⟩
/-- The place that is found. -/
def Found (L : List Pt) (h : Int) (m : Nat) : Prop := m ≤ L.length ∧ (Rise L → Seek L h m m)

set_option maxRecDepth 100000 in
set_option maxHeartbeats 1000000 in
theorem place_any (a : Option Addr) (cap : Nat) (L : List Pt) (h : Int) (w : World) (hL : Lies w a cap L) :
    Calls Tryz.prog 154 #[ptsV a cap L, .int .u64 h] w fun e W' => (∃ m : Nat, e = .returned (.int .i64 m) ∧ Found L h m) ∧ W' = w := by
  have H := Lib.hid hL
  have hlen := hL.len
  have hmax := hL.max
  unfold maxLen at hmax
  clear hL
  go_enter Tryz.func154, Tryz.ntmps154
  go_wp2
  go_loop [5, 6] (fun lo hi => ∃ s t : Nat, s ≤ t ∧ t ≤ L.length ∧ lo = .int .i64 s ∧ hi = .int .i64 t ∧ (Rise L → Seek L h s t)) (fun lo hi => (intOf hi).toNat - (intOf lo).toNat)
  case atStart => exact ⟨0, L.length, Nat.zero_le _, Nat.le_refl _, rfl, rfl, fun _ => ⟨fun i _ h => absurd h (by omega), fun i hi h => absurd h (by omega)⟩⟩
  case round =>
    obtain ⟨s, t, hst, ht, rfl, rfl, hS⟩ := hrel
    have HS := Lib.hid hS
    clear hS
    by_cases hlt : s < t
    · have dlt : decide (s < t) = true := decide_eq_true hlt
      obtain ⟨d, hd⟩ : ∃ d : Nat, d = t - s := ⟨_, rfl⟩
      obtain ⟨q, hq⟩ : ∃ q : Nat, q = d / 2 := ⟨_, rfl⟩
      obtain ⟨m, hm⟩ : ∃ m : Nat, m = s + q := ⟨_, rfl⟩
      have hml : m < L.length := by omega
      have hm1 : s ≤ m := by omega
      have hm2 : m < t := by omega
      have e1 : IntKind.i64.wrap ((t : Int) - (s : Int)) = (d : Int) := by simp only [IntKind.wrap, IntKind.signed, IntKind.bits]; simp; omega
      have e2 : (d : Int).tdiv 2 = (q : Int) := by rw [hq]; rfl
      have e4 : IntKind.i64.wrap (q : Int) = (q : Int) := by simp only [IntKind.wrap, IntKind.signed, IntKind.bits]; simp; omega
      have e3 : IntKind.i64.wrap ((s : Int) + (q : Int)) = (m : Int) := by simp only [IntKind.wrap, IntKind.signed, IntKind.bits]; simp; omega
      obtain ⟨b, off, rfl, c0, c1⟩ := H.out.at hml
      by_cases hx : L[m].1 < h
      · have dx : decide (L[m].1 < h) = true := decide_eq_true hx
        have HN := Lib.hid (show Rise L → Seek L h (m + 1) t from fun hr => Seek.low hr hml hx (HS.out hr))
        clear hx hd hq hm
        generalize L[m] = x at *
        go_wp2
        refine ⟨⟨m + 1, t, by omega, ht, by go_num, rfl, HN.out⟩, by simp [intOf]; omega⟩
      · have dx : decide (L[m].1 < h) = false := decide_eq_false hx
        have HN := Lib.hid (show Rise L → Seek L h s m from fun hr => Seek.high hr hml hx (HS.out hr))
        clear hx hd hq hm
        generalize L[m] = x at *
        go_wp2
        refine ⟨⟨s, m, by omega, by omega, rfl, rfl, HN.out⟩, by simp [intOf]; omega⟩
    · obtain rfl : s = t := by omega
      go_wp2
      go_ret
      exact ⟨⟨s, rfl, ht, HS.out⟩, rfl⟩
end Go.Proofs.YtbamodkgagcmnaaGreat.Rin

namespace Go.Proofs.YtbamodkgagcmnaaGreat.Rin
open Go.RowKit Go.Shelf
open Pts (Pt ptV ptsV Lies Rise less)
open Pol (below2 below_alloc)

/-- What is told of a hash: -1 of no points; else the Id of one; of points that rise the right one. -/
def Told (L : List Pt) (h r : Int) : Prop := (L = [] → r = -1) ∧ (L ≠ [] → ∃ p ∈ L, r = p.2) ∧ (Rise L → r = succL L h)
theorem found_succ {L : List Pt} {h : Int} {m : Nat} (hr : Rise L) (hf : Found L h m) (hpos : 0 < L.length) (hm : m % L.length < L.length) : L[m % L.length].2 = succL L h := by
  obtain ⟨h1, h2⟩ := hf
  obtain ⟨lo, hi⟩ := h2 hr
  rcases Nat.lt_or_ge m L.length with hlt | hge
  · have e : L.find? (fun p => decide (h ≤ p.1)) = some L[m] := by
      refine List.find?_eq_some_iff_getElem.2 ⟨by simpa using hi m hlt (Nat.le_refl _), m, hlt, rfl, fun j hj => ?_⟩
      have := lo j (by omega) hj
      simp; omega
    rw [succL_some e]
    simp [Nat.mod_eq_of_lt hlt]
  · have em : m = L.length := by omega
    subst em
    simp only [Nat.mod_self]
    cases L with
    | nil => simp at hpos
    | cons p L =>
      have e : (p :: L).find? (fun p => decide (h ≤ p.1)) = none := by
        rw [List.find?_eq_none]
        intro x hx
        obtain ⟨j, hj, rfl⟩ := List.getElem_of_mem hx
        have := lo j hj (by simpa using hj)
        simp at this ⊢; omega
      rw [succL_none e]; rfl
theorem told_found {L : List Pt} {h : Int} {m : Nat} (hf : Found L h m) (hm : m % L.length < L.length) : Told L h L[m % L.length].2 :=
  ⟨fun e => by subst e; simp at hm, fun _ => ⟨_, List.getElem_mem hm, rfl⟩, fun hr => found_succ hr hf (by omega) hm⟩

set_option maxRecDepth 100000 in
set_option maxHeartbeats 1000000 in
theorem succ_told (a : Option Addr) (cap : Nat) (L : List Pt) (h : Int) (w : World) (hL : Lies w a cap L) :
    Calls Tryz.prog 107 #[ptsV a cap L, .int .u64 h] w fun e W' => (∃ r, e = .returned (.int .i64 r) ∧ Told L h r) ∧ W' = w := by
  have H := Lib.hid hL
  have hlen := hL.len
  have hmax := hL.max
  unfold maxLen at hmax
  clear hL
  by_cases h0 : L.length = 0
  · obtain rfl : L = [] := List.eq_nil_of_length_eq_zero h0
    go_enter Tryz.func107, Tryz.ntmps107
    go_wp2
    go_ret
    exact ⟨⟨_, rfl, fun _ => rfl, fun h => absurd rfl h, fun _ => rfl⟩, rfl⟩
  · have d0 : ((L.length : Int) == 0) = false := beq_false_of_ne (by omega)
    go_enter Tryz.func107, Tryz.ntmps107
    go_wp2_with fail
    refine (place_any a cap L h w H.out).mono ?_
    rintro e w1 ⟨⟨m, rfl, hf⟩, rfl⟩
    have hm := hf.1
    obtain ⟨r, hr⟩ : ∃ r : Nat, r = m % L.length := ⟨_, rfl⟩
    have hrl : r < L.length := by rw [hr]; exact Nat.mod_lt _ (by omega)
    have e1 : (m : Int).tmod (L.length : Int) = (r : Int) := by rw [hr]; rfl
    have e2 : IntKind.i64.wrap (r : Int) = (r : Int) := by simp only [IntKind.wrap, IntKind.signed, IntKind.bits]; simp; omega
    obtain ⟨b, off, rfl, c0, c1⟩ := H.out.at hrl
    have HT := Lib.hid (show Told L h L[r].2 by subst hr; exact told_found hf hrl)
    generalize L[r] = x at *
    clear hr hf
    go_wp2_with fail
    go_ret
    exact ⟨⟨_, rfl, HT.out⟩, rfl⟩
theorem told_rise {L : List Pt} {h r : Int} (ht : Told L h r) (hr : Rise L) : r = succL L h := ht.2.2 hr
end Go.Proofs.YtbamodkgagcmnaaGreat.Rin
