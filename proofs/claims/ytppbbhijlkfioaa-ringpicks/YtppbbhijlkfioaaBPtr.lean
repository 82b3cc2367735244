/-
  Points: a slice of points, as a list of pairs; rows of them that a call makes or may write.
-/
import Derived.Test.YtppbbhijlkfioaaBPol
import Derived.Lib.SliceRun
import Derived.BigQuiet
import Derived.WalkSmall
import Derived.Test.YtppbbhijlkfioaaBOct
import Derived.Test.YtppbbhijlkfioaaBFnv
import Derived.Deep.RegionHeld3
import Derived.Shelf.RegionOpen
import Derived.Test.YtppbbhijlkfioaaBRgn
import Derived.ProofKit
import Derived.OpenShut
import Derived.ChangeMaps5
import Derived.Deep.SlicePairs
import Derived.Carry
namespace Go.Proofs.Ytppbbhijlkfioaa.Pts
open Go.RowKit Go.Shelf Rgn
open Pol (below2 below_alloc grown_none add_at)

/-- A point: its Hash, its Id. -/
abbrev Pt := Int × Int
abbrev ptV (x : Pt) : Value := .agg #[.int .u64 x.1, .int .i64 x.2]
/-- The value of a slice of so many points. -/
abbrev ptsV (a : Option Addr) (cap : Nat) (bs : List Pt) : Value := .slice a bs.length cap
/-- These points lie there. -/
structure Lies (W : World) (a : Option Addr) (cap : Nat) (bs : List Pt) : Prop where
  max : cap ≤ maxLen
  len : bs.length ≤ cap
  cell : bs ≠ [] → ∃ b off, a = some ⟨b, off, none⟩ ∧ ∀ i x, bs[i]? = some x → W.cell? ⟨b, off + i * 2, none⟩ = some (.int .u64 x.1) ∧ W.cell? ⟨b, off + i * 2 + 1, none⟩ = some (.int .i64 x.2)
theorem Lies.kept {W W' : World} {a : Option Addr} {cap : Nat} {bs : List Pt} (h : Lies W a cap bs) (hb : Below W.heap.size W W') : Lies W' a cap bs :=
  ⟨h.max, h.len, fun hn => by
    obtain ⟨b, off, e, hc⟩ := h.cell hn
    refine ⟨b, off, e, fun i x hi => ?_⟩
    obtain ⟨c0, c1⟩ := hc i x hi
    exact ⟨(hb.cell (p := ⟨b, off + i * 2, none⟩) (World.block_lt_of_cell? W _ c0)).trans c0, (hb.cell (p := ⟨b, off + i * 2 + 1, none⟩) (World.block_lt_of_cell? W _ c1)).trans c1⟩⟩
theorem lies_nil (W : World) : Lies W none 0 [] := ⟨by unfold maxLen; omega, Nat.le_refl _, fun h => absurd rfl h⟩
/-- A point that stands at a place. -/
theorem Lies.at {W : World} {a : Option Addr} {cap : Nat} {bs : List Pt} (h : Lies W a cap bs) {k : Nat} (hk : k < bs.length) : ∃ b off, a = some ⟨b, off, none⟩ ∧ W.cell? ⟨b, off + k * 2, none⟩ = some (.int .u64 bs[k].1) ∧ W.cell? ⟨b, off + k * 2 + 1, none⟩ = some (.int .i64 bs[k].2) := by
  obtain ⟨b, off, e, hc⟩ := h.cell (fun e => by rw [e] at hk; exact absurd hk (by simp))
  exact ⟨b, off, e, hc k _ (List.getElem?_eq_getElem hk)⟩

/-- The cells of a row. -/
def flat (bs : List Pt) : List Value := bs.flatMap fun x => [.int .u64 x.1, .int .i64 x.2]
theorem flat_length (bs : List Pt) : (flat bs).length = bs.length * 2 := by
  induction bs with
  | nil => rfl
  | cons x bs ih => unfold flat at *; rw [List.flatMap_cons, List.length_append, ih]; simp; omega
theorem flat_more (bs : List Pt) (y : Pt) : flat (bs ++ [y]) = flat bs ++ [.int .u64 y.1, .int .i64 y.2] := by simp [flat]
theorem flat_get (bs : List Pt) : ∀ (i : Nat) (x : Pt), bs[i]? = some x → (flat bs)[i * 2]? = some (.int .u64 x.1) ∧ (flat bs)[i * 2 + 1]? = some (.int .i64 x.2) := by
  induction bs with
  | nil => intro i x h; simp at h
  | cons y bs ih =>
    intro i x h
    have e : flat (y :: bs) = .int .u64 y.1 :: .int .i64 y.2 :: flat bs := by simp [flat]
    cases i with
    | zero => simp at h; subst h; rw [e]; exact ⟨rfl, rfl⟩
    | succ i =>
      obtain ⟨h0, h1⟩ := ih i x (by simpa using h)
      rw [e, show (i + 1) * 2 = i * 2 + 1 + 1 by omega]
      exact ⟨by simpa using h0, by simpa using h1⟩
/-- A row that the call has made: it lies in no block below B. -/
def Own (B : Nat) (W : World) (v : Value) (bs : List Pt) : Prop := W.ownsRow B 28 2 v bs.length (flat bs)
theorem own_nil (B : Nat) (W : World) : Own B W (.slice none 0 0) [] := World.ownsRow_nil W B _ 2
theorem Own.kept {B : Nat} {W W' : World} {v : Value} {bs : List Pt} (h : Own B W v bs) (hb : Below W.heap.size W W') : Own B W' v bs :=
  World.ownsRow.kept h (grown_none hb) (by cases v.ownBlock <;> simp)
theorem own_less {B B' : Nat} {W : World} {v : Value} {bs : List Pt} (hB : B ≤ B') (h : Own B' W v bs) : Own B W v bs := by
  refine ⟨h.1, ?_⟩
  rcases h.2 with h0 | ⟨g, cap, cur, hv, hb, r⟩
  · exact .inl h0
  · exact .inr ⟨g, cap, cur, hv, Nat.le_trans hB hb, r⟩
theorem Own.lies {B : Nat} {W : World} {v : Value} {bs : List Pt} (h : Own B W v bs) : ∃ a cap, v = ptsV a cap bs ∧ Lies W a cap bs := by
  rcases h.2 with ⟨rfl, h0⟩ | ⟨g, cap, cur, rfl, hb, hg, hn, hm, hs, htake⟩
  · have : bs = [] := List.eq_nil_of_length_eq_zero h0
    subst this
    exact ⟨none, 0, rfl, lies_nil W⟩
  · refine ⟨some ⟨g, 0, none⟩, cap, rfl, hm, hn, fun _ => ⟨g, 0, rfl, fun i x hi => ?_⟩⟩
    have hc := World.ownsRow.cells h (g := g) rfl
    obtain ⟨h0, h1⟩ := flat_get bs i x hi
    have c0 := hc _ _ h0
    have c1 := hc _ _ h1
    rw [add_at] at c0 c1
    exact ⟨c0, c1⟩

theorem info_bk : (Try.prog.info? 28).map (fun i => (i.zero, i.size, i.bytes)) = some (some (.agg #[.int .u64 0, .int .i64 0]), 2, 16) := by kernel_rfl
/-- One point more: the walk's step at 'out = append(out, b)'. -/
theorem wpList_more {w : World} {ops : Array Oper} {rest : List Oper} {o : Oper} {a : Act} {Q : Exit → Act → World → Prop} (hgd : o.guard = none) (s x : Operand)
    (ho : o.op = .call { callee := .builtin .append, args := #[s, x], argTypes := #[22, 22] }) (B g : Nat) (bs : List Pt) (y : Pt) (v : Value) (hs : a.eval s = v) (hx : a.eval x = .slice (some ⟨g, 0, none⟩) 1 1)
    (hown : Own B w v bs) (c0 : w.cell? ⟨g, 0, none⟩ = some (.int .u64 y.1)) (c1 : w.cell? ⟨g, 1, none⟩ = some (.int .i64 y.2)) (hl : bs.length ≤ 1099511627776) (hB : B ≤ w.heap.size)
    (h : ∀ v' w', Hid (Own B w' v' (bs ++ [y])) → Hid (Below B w w') → wpList Try.prog ops Q rest (a.put o.dst v') w') : wpList Try.prog ops Q (o :: rest) a w := by
  obtain ⟨i0, hi, hz0, hz1, hz2⟩ := info_parts info_bk
  refine wpList_append_own _ hgd s x 22 ho B 28 i0 (.agg #[.int .u64 0, .int .i64 0]) 2 16 Try.underlying22 hi hz0 hz1 hz2 rfl (by decide) v bs.length (flat bs) hs hown ⟨g, 0, none⟩ 1 1 [.int .u64 y.1, .int .i64 y.2] hx rfl ?c1 ?c2 ?c3 ?c4 hB ?_
  case c1 =>
    intro j u hj
    match j, hj with
    | 0, hj => simp at hj; subst hj; simpa [Addr.add] using c0
    | 1, hj => simp at hj; subst hj; simpa [Addr.add] using c1
  case c2 => intro u hu; simp at hu; rcases hu with rfl | rfl <;> rfl
  case c3 => unfold maxLen; omega
  case c4 => omega
  intro v' w' h1 h2 _
  refine h v' w' ?_ ?_
  · show Own B w' v' (bs ++ [y])
    unfold Own
    rw [flat_more, List.length_append]
    exact h1
  · exact (Below.refl B w).grown h2 hB (fun k hk => (World.ownsRow.lt hown k hk).1)

theorem take_more (bs : List Pt) (k : Nat) (hk : k < bs.length) : bs.take (k + 1) = bs.take k ++ [bs[k]] := by rw [List.take_succ_eq_append_getElem hk]
theorem flat_one (bs : List Pt) : ∀ u ∈ flat bs, u.oneCell' = true := by
  intro u hu
  simp only [flat, List.mem_flatMap] at hu
  obtain ⟨x, _, hx⟩ := hu
  simp at hx; rcases hx with rfl | rfl <;> rfl
theorem flat_lies {W : World} {b off cap : Nat} {bs : List Pt} (h : Lies W (some ⟨b, off, none⟩) cap bs) (j : Nat) (u : Value) (hj : (flat bs)[j]? = some u) : W.cell? ⟨b, off + j, none⟩ = some u := by
  have hl : j < bs.length * 2 := by
    rw [← flat_length]; exact (List.getElem?_eq_some_iff.1 hj).1
  have hk : j / 2 < bs.length := by omega
  obtain ⟨b', off', e, hc⟩ := h.cell (fun e => by rw [e] at hk; exact absurd hk (by simp))
  cases e
  obtain ⟨c0, c1⟩ := hc (j / 2) bs[j / 2] (List.getElem?_eq_getElem hk)
  obtain ⟨f0, f1⟩ := flat_get bs (j / 2) bs[j / 2] (List.getElem?_eq_getElem hk)
  rcases Nat.mod_two_eq_zero_or_one j with h0 | h0
  · have e : j / 2 * 2 = j := by omega
    rw [e] at f0 c0
    rw [f0] at hj; cases hj; exact c0
  · have e : j / 2 * 2 + 1 = j := by omega
    rw [e] at f1
    rw [Nat.add_assoc, e] at c1
    rw [f1] at hj; cases hj; exact c1
/-- A row of points that may be written. -/
def Row (W : World) (g cap : Nat) (bs : List Pt) : Prop :=
  ∃ cur : Array Value, W.heap[g]? = some (.cells cur 28 (0, 0)) ∧ bs.length ≤ cap ∧ cap ≤ maxLen ∧ cur.size = cap * 2 ∧ cur.toList.take (bs.length * 2) = flat bs
theorem Own.row {B : Nat} {W : World} {v : Value} {bs : List Pt} (h : Own B W v bs) (hn : bs ≠ []) : ∃ g cap, v = ptsV (some ⟨g, 0, none⟩) cap bs ∧ B ≤ g ∧ Row W g cap bs := by
  rcases h.2 with ⟨_, h0⟩ | ⟨g, cap, cur, rfl, hb, r⟩
  · exact absurd (List.eq_nil_of_length_eq_zero h0) hn
  · exact ⟨g, cap, rfl, hb, cur, r⟩
theorem Row.own {B : Nat} {W : World} {g cap : Nat} {bs : List Pt} (h : Row W g cap bs) (hB : B ≤ g) : Own B W (ptsV (some ⟨g, 0, none⟩) cap bs) bs := by
  obtain ⟨cur, r⟩ := h
  exact ⟨flat_length bs, .inr ⟨g, cap, cur, rfl, hB, r⟩⟩
theorem Row.lt {W : World} {g cap : Nat} {bs : List Pt} (h : Row W g cap bs) : g < W.heap.size := by
  obtain ⟨cur, hg, _⟩ := h
  rcases Nat.lt_or_ge g W.heap.size with h | h
  · exact h
  · rw [Array.getElem?_eq_none h] at hg; cases hg
theorem Row.len {W : World} {g cap : Nat} {bs : List Pt} (h : Row W g cap bs) : bs.length ≤ cap ∧ cap ≤ maxLen := by
  obtain ⟨cur, _, h1, h2, _⟩ := h; exact ⟨h1, h2⟩
theorem Row.kept {W W' : World} {g cap : Nat} {bs : List Pt} (h : Row W g cap bs) (hb : Below W.heap.size W W') : Row W' g cap bs := by
  have hl := h.lt
  obtain ⟨cur, hg, r⟩ := h
  exact ⟨cur, (hb.block g hl).trans hg, r⟩
theorem Row.cell {W : World} {g cap : Nat} {bs : List Pt} (h : Row W g cap bs) {i : Nat} (hi : i < bs.length) :
    W.cell? ⟨g, i * 2, none⟩ = some (.int .u64 bs[i].1) ∧ W.cell? ⟨g, i * 2 + 1, none⟩ = some (.int .i64 bs[i].2) ∧ W.frozen? ⟨g, i * 2, none⟩ = false ∧ W.frozen? ⟨g, i * 2 + 1, none⟩ = false := by
  obtain ⟨cur, hg, h1, h2, h3, h4⟩ := h
  obtain ⟨f0, f1⟩ := flat_get bs i bs[i] (List.getElem?_eq_getElem hi)
  rw [← h4, List.getElem?_take_of_lt (by omega)] at f0 f1
  rw [Array.getElem?_toList] at f0 f1
  refine ⟨?_, ?_, ?_, ?_⟩ <;> simp [World.cell?, World.frozen?, hg, f0, f1]
theorem Row.lies {W : World} {g cap : Nat} {bs : List Pt} (h : Row W g cap bs) : Lies W (some ⟨g, 0, none⟩) cap bs :=
  ⟨h.len.2, h.len.1, fun _ => ⟨g, 0, rfl, fun i x hi => by
    obtain ⟨hl, e⟩ := List.getElem?_eq_some_iff.1 hi
    obtain ⟨c0, c1, _⟩ := h.cell hl
    rw [e] at c0 c1
    rw [Nat.zero_add]; exact ⟨c0, c1⟩⟩⟩
theorem flat_set (bs : List Pt) : ∀ (i : Nat) (x : Pt), flat (bs.set i x) = ((flat bs).set (i * 2) (.int .u64 x.1)).set (i * 2 + 1) (.int .i64 x.2) := by
  induction bs with
  | nil => intro i x; simp [flat]
  | cons y bs ih =>
    intro i x
    have e : ∀ (y : Pt) bs, flat (y :: bs) = .int .u64 y.1 :: .int .i64 y.2 :: flat bs := fun y bs => by simp [flat]
    cases i with
    | zero => simp [e]
    | succ i =>
      rw [List.set_cons_succ, e, e, ih i x, show (i + 1) * 2 = i * 2 + 1 + 1 by omega]
      simp [List.set_cons_succ]
/-- A world in which a point stands at a place of a row. -/
def put2 (W : World) (g i : Nat) (x : Pt) : World := (W.setCell ⟨g, i * 2, none⟩ (.int .u64 x.1)).setCell ⟨g, i * 2 + 1, none⟩ (.int .i64 x.2)
theorem Row.put {W : World} {g cap : Nat} {bs : List Pt} (h : Row W g cap bs) (i : Nat) (x : Pt) : Row (put2 W g i x) g cap (bs.set i x) := by
  obtain ⟨cur, hg, h1, h2, h3, h4⟩ := h
  refine ⟨(cur.setIfInBounds (i * 2) (.int .u64 x.1)).setIfInBounds (i * 2 + 1) (.int .i64 x.2), heap_setCell_same _ _ _ _ _ _ (heap_setCell_same _ _ _ _ _ _ hg), by simpa using h1, h2, by simpa using h3, ?_⟩
  rw [List.length_set, flat_set, ← h4]
  simp [List.take_set]
theorem Row.put_other {W : World} {g cap : Nat} {bs : List Pt} (h : Row W g cap bs) {a : Addr} (ha : g ≠ a.block) (v : Value) : Row (W.setCell a v) g cap bs := by
  obtain ⟨cur, hg, r⟩ := h
  exact ⟨cur, (heap_setCell_other _ _ _ _ ha).trans hg, r⟩
theorem Row.drew {W : World} {g cap : Nat} {bs : List Pt} (h : Row W g cap bs) : Row W.drew g cap bs := h
theorem Row.cut {W : World} {g cap : Nat} {bs : List Pt} (h : Row W g cap bs) (i : Nat) : Row W g cap (bs.take i) := by
  obtain ⟨cur, hg, h1, h2, h3, h4⟩ := h
  have hl : (bs.take i).length ≤ bs.length := by simp; omega
  refine ⟨cur, hg, by omega, h2, h3, ?_⟩
  have e : flat (bs.take i) = (flat bs).take ((bs.take i).length * 2) := by
    have e1 : flat bs = flat (bs.take i) ++ flat (bs.drop i) := by
      conv => lhs; rw [← List.take_append_drop i bs]
      unfold flat
      rw [List.flatMap_append]
    rw [e1]
    exact (List.take_left' (flat_length (bs.take i))).symm
  rw [e, ← h4, List.take_take]
  congr 1; omega
theorem Row.past {W : World} {g cap : Nat} {bs : List Pt} (h : Row W g cap bs) (vs : List Value) : ∀ (o : Nat), bs.length * 2 ≤ o → Row (W.setCells g o vs) g cap bs := by
  induction vs generalizing W with
  | nil => intro o _; exact h
  | cons v vs ih =>
    intro o ho
    show Row ((W.setCell ⟨g, o, none⟩ v).setCells g (o + 1) vs) g cap bs
    refine ih ?_ (o + 1) (by omega)
    obtain ⟨cur, hg, h1, h2, h3, h4⟩ := h
    refine ⟨cur.setIfInBounds o v, heap_setCell_same _ _ _ _ _ _ hg, h1, h2, by simpa using h3, ?_⟩
    rw [Array.toList_setIfInBounds, List.take_set_of_le (by omega)]; exact h4
theorem below_put {B : Nat} {w W : World} (h : Below B w W) {g : Nat} (hg : B ≤ g) (i : Nat) (x : Pt) : Below B w (put2 W g i x) := (h.setCell (p := ⟨g, i * 2, none⟩) hg _).setCell (p := ⟨g, i * 2 + 1, none⟩) hg _

/-- A value that is a row of points. -/
def Gives (W : World) (v : Value) (bs : List Pt) : Prop := ∃ a cap, v = ptsV a cap bs ∧ Lies W a cap bs
/-- How two points are compared. -/
theorem pt_cmp (x y : Pt) (c : Bool) (h : x = y ↔ c = true) (W : World) : (Op.equalIn 10000 28 (.agg #[.int .u64 x.1, .int .i64 x.2]) (.agg #[.int .u64 y.1, .int .i64 y.2])).run Try.prog W = .ok c W := by
  rw [Prod.ext_iff] at h
  go_simp
  cases c <;> (repeat' split) <;> simp_all

end Go.Proofs.Ytppbbhijlkfioaa.Pts

namespace Go.Proofs.Ytppbbhijlkfioaa.Pts

/-- Does one stand ahead? -/
def less (x y : Pt) : Bool := decide (x.1 < y.1 ∨ x.1 = y.1 ∧ x.2 < y.2)
theorem less_iff (x y : Pt) : less x y = true ↔ x.1 < y.1 ∨ x.1 = y.1 ∧ x.2 < y.2 := decide_eq_true_iff
theorem less_not (x y : Pt) : less x y = false ↔ ¬ (x.1 < y.1 ∨ x.1 = y.1 ∧ x.2 < y.2) := decide_eq_false_iff_not
/-- Not behind. -/
def le (x y : Pt) : Bool := !less y x
theorem le_iff (x y : Pt) : le x y = true ↔ x.1 < y.1 ∨ x.1 = y.1 ∧ x.2 ≤ y.2 := by
  unfold le
  rw [Bool.not_eq_true', less_not]
  omega
theorem le_trans (x y z : Pt) (h1 : le x y = true) (h2 : le y z = true) : le x z = true := by rw [le_iff] at *; omega
theorem le_total (x y : Pt) : (le x y || le y x) = true := by rw [Bool.or_eq_true, le_iff, le_iff]; omega
theorem le_antisymm (x y : Pt) (h1 : le x y = true) (h2 : le y x = true) : x = y := by
  rw [le_iff] at h1 h2
  exact Prod.ext (by omega) (by omega)
/-- In order. -/
abbrev Rise (l : List Pt) : Prop := l.Pairwise fun x y => le x y = true
def psort (l : List Pt) : List Pt := l.mergeSort le
theorem psort_perm (l : List Pt) : (psort l).Perm l := List.mergeSort_perm l le
theorem psort_rise (l : List Pt) : Rise (psort l) := List.pairwise_mergeSort le_trans le_total l
/-- What rises is told by what it has. -/
theorem psort_is (l s : List Pt) (hp : s.Perm l) (hr : Rise s) : psort l = s :=
  List.Perm.eq_of_pairwise (le := fun x y => le x y = true) (fun a b _ _ h1 h2 => le_antisymm a b h1 h2) (psort_rise l) hr ((psort_perm l).trans hp.symm)
theorem psort_of_perm {l k : List Pt} (h : l.Perm k) : psort l = psort k := psort_is l _ ((psort_perm k).trans h.symm) (psort_rise k)
theorem psort_self (l : List Pt) (h : Rise l) : psort l = l := psort_is l l (List.Perm.refl l) h
theorem psort_length (l : List Pt) : (psort l).length = l.length := (psort_perm l).length_eq
theorem psort_short (l : List Pt) (h : l.length < 2) : psort l = l := by
  refine psort_self l ?_
  match l, h with
  | [], _ => exact List.Pairwise.nil
  | [x], _ => exact List.pairwise_singleton _ x
theorem psort_filter (l : List Pt) (f : Pt → Bool) : psort (l.filter f) = (psort l).filter f :=
  psort_is _ _ ((psort_perm l).filter f) ((psort_rise l).filter f)
/-- Two lists in order, in one. -/
def mrg (a b : List Pt) : List Pt := List.merge a b le
theorem mrg_nil_left (b : List Pt) : mrg [] b = b := List.nil_merge b
theorem mrg_nil_right (a : List Pt) : mrg a [] = a := List.merge_right a
theorem mrg_left (x : Pt) (a : List Pt) (y : Pt) (b : List Pt) (h : le x y = true) : mrg (x :: a) (y :: b) = x :: mrg a (y :: b) := by
  unfold mrg; rw [List.cons_merge_cons, if_pos h]
theorem mrg_right (x : Pt) (a : List Pt) (y : Pt) (b : List Pt) (h : ¬ le x y = true) : mrg (x :: a) (y :: b) = y :: mrg (x :: a) b := by
  unfold mrg; rw [List.cons_merge_cons, if_neg h]
theorem mrg_length (a b : List Pt) : (mrg a b).length = a.length + b.length := by
  have := (List.merge_perm_append (le := le) (xs := a) (ys := b)).length_eq
  rw [List.length_append] at this; exact this
theorem psort_app (a b : List Pt) : psort (a ++ b) = mrg (psort a) (psort b) := by
  refine psort_is _ _ ?_ ?_
  · exact (List.merge_perm_append (le := le)).trans ((psort_perm a).append (psort_perm b))
  · exact List.pairwise_merge le_trans le_total _ _ (psort_rise a) (psort_rise b)
end Go.Proofs.Ytppbbhijlkfioaa.Pts

namespace Go.Proofs.Ytppbbhijlkfioaa.Pts
open Pol (Bk without sorted with_ chk)

/-- How many points a weight asks for. -/
def cnt (g : Int) : Nat := 8 * (max 0 (min g 16)).toNat
/-- The points of one backend, where hash tells where each is. -/
def own (hash : Int → Nat → Int) (x : Bk) : List Pt := (List.range (cnt x.2)).map fun n => (hash x.1 n, x.1)
/-- The points of a pool, one backend behind the other. -/
def pts (hash : Int → Nat → Int) (z : List Bk) : List Pt := z.flatMap (own hash)
/-- The points of a pool, in order. -/
def ofL (hash : Int → Nat → Int) (z : List Bk) : List Pt := psort (pts hash z)
section
variable (hash : Int → Nat → Int)
theorem own_id (x : Bk) (p : Pt) (h : p ∈ own hash x) : p.2 = x.1 := by
  obtain ⟨n, _, rfl⟩ := List.mem_map.1 h; rfl
theorem own_length (x : Bk) : (own hash x).length = cnt x.2 := by simp [own]
theorem pts_length (z : List Bk) : (pts hash z).length = (z.map fun x => cnt x.2).sum := by
  unfold pts
  rw [List.length_flatMap]
  congr 1
  exact List.map_congr_left fun x _ => own_length hash x
theorem ofL_length (z : List Bk) : (ofL hash z).length = (z.map fun x => cnt x.2).sum := by unfold ofL; rw [psort_length, pts_length]
theorem ofL_rise (z : List Bk) : Rise (ofL hash z) := psort_rise _
/-- A pool's points hang on no order. -/
theorem ofL_perm {z z' : List Bk} (h : z.Perm z') : ofL hash z = ofL hash z' := psort_of_perm (h.flatMap_right _)
theorem ofL_sorted (z : List Bk) : ofL hash (sorted z) = ofL hash z := ofL_perm hash (Pol.sorted_perm z)
theorem own_filter (x : Bk) (id : Int) : (own hash x).filter (fun p => p.2 != id) = if x.1 = id then [] else own hash x := by
  by_cases e : x.1 = id
  · rw [if_pos e, List.filter_eq_nil_iff]
    intro p hp
    rw [own_id hash x p hp, e]; simp
  · rw [if_neg e, List.filter_eq_self]
    intro p hp
    rw [own_id hash x p hp]; simpa using e
theorem pts_filter (z : List Bk) (id : Int) : (pts hash z).filter (fun p => p.2 != id) = pts hash (without z id) := by
  induction z with
  | nil => rfl
  | cons x z ih =>
    have e1 : pts hash (x :: z) = own hash x ++ pts hash z := by simp [pts]
    rw [e1, List.filter_append, ih, own_filter]
    by_cases e : x.1 = id
    · rw [if_pos e, show without (x :: z) id = without z id by simp [without, e]]; rfl
    · rw [if_neg e, show without (x :: z) id = x :: without z id by simp [without, e]]
      simp [pts]
/-- Without a backend all other points stay. -/
theorem ofL_without (z : List Bk) (id : Int) : ofL hash (without z id) = (ofL hash z).filter (fun p => p.2 != id) := by
  unfold ofL; rw [← psort_filter, pts_filter]
theorem without_new (z : List Bk) (y : Bk) : ∀ x ∈ without z y.1, x.1 ≠ y.1 := by
  intro x hx
  have := (List.mem_filter.1 hx).2
  simpa using this
/-- With a backend more all other points stay. -/
theorem ofL_with (z : List Bk) (y : Bk) : (ofL hash (with_ (without z y.1) y)).filter (fun p => p.2 != y.1) = ofL hash (without z y.1) ∧ (ofL hash (with_ (without z y.1) y)).length = (ofL hash (without z y.1)).length + cnt y.2 := by
  have e : without (with_ (without z y.1) y) y.1 = without z y.1 := by rw [Pol.without_with, Pol.without_twice]
  have ew : ∀ l : List Bk, (∀ x ∈ l, x.1 ≠ y.1) → with_ l y = l ++ [y] := by
    intro l hl
    induction l with
    | nil => rfl
    | cons x l ih =>
      unfold with_
      rw [if_neg (hl x (by simp)), ih (fun z hz => hl z (by simp [hz]))]; rfl
  constructor
  · rw [← ofL_without, e]
  · rw [ofL_length, ofL_length, ew _ (without_new z y)]
    simp
theorem own_in (x : Bk) (n : Nat) (hn : n < cnt x.2) : (hash x.1 n, x.1) ∈ own hash x := List.mem_map.2 ⟨n, List.mem_range.2 hn, rfl⟩
/-- How many points of an Id there are. -/
theorem count_id (z : List Bk) (id : Int) : ((ofL hash z).filter (fun p => p.2 == id)).length = ((z.filter fun x => x.1 == id).map fun x => cnt x.2).sum := by
  have h1 : ((ofL hash z).filter (fun p => p.2 == id)).length = ((pts hash z).filter (fun p => p.2 == id)).length := ((psort_perm (pts hash z)).filter _).length_eq
  rw [h1]
  clear h1
  induction z with
  | nil => rfl
  | cons x z ih =>
    have e1 : pts hash (x :: z) = own hash x ++ pts hash z := by simp [pts]
    rw [e1, List.filter_append, List.length_append, ih]
    by_cases e : x.1 = id
    · have : (own hash x).filter (fun p => p.2 == id) = own hash x := by
        rw [List.filter_eq_self]; intro p hp; rw [own_id hash x p hp]; simpa using e
      rw [this, own_length]
      simp [e]
    · have : (own hash x).filter (fun p => p.2 == id) = [] := by
        rw [List.filter_eq_nil_iff]; intro p hp; rw [own_id hash x p hp]; simpa using e
      rw [this]
      simp [e]
theorem in_ofL (z : List Bk) (x : Bk) (hx : x ∈ z) (n : Nat) (hn : n < cnt x.2) : (hash x.1 n, x.1) ∈ ofL hash z :=
  (psort_perm _).mem_iff.2 (List.mem_flatMap.2 ⟨x, hx, own_in hash x n hn⟩)
end
end Go.Proofs.Ytppbbhijlkfioaa.Pts

namespace Go.Proofs.Ytppbbhijlkfioaa.Pts
open Go.RowKit Go.Shelf
open Pol (below2 below_alloc)

/-- A number as a uint64. -/
def uw (x : Int) : Int := IntKind.u64.wrap x
theorem uw_in (x : Int) : 0 ≤ uw x ∧ uw x ≤ 18446744073709551615 := by
  simp only [uw, IntKind.wrap, IntKind.signed, IntKind.bits]; simp; omega
/-- The ten bytes that Hash sums. -/
def hashS (id n : Int) : ByteArray := Oct.str (Oct.bytes (uw id).toNat 4) ++ Oct.str (Oct.bytes (uw n).toNat 2) ++ ⟨#[0, 0, 0, 0]⟩
/-- Where the point n of the backend id is. -/
def hashV (id n : Int) : Int := (Fnv.jn 14695981039346656037 (hashS id n).data.toList : Nat)

/-- What is read of the document's Put: a text under a name of its own. -/
theorem refPut_some (v : Int) (k : Nat) (w : World) (hv : 0 ≤ v ∧ v ≤ 18446744073709551615) (h : 1 ≤ k ∧ k ≤ 8) :
    Calls Try.prog 57 #[.int .u64 v, .int .i64 (k : Int)] w fun e W' => ∃ S : ByteArray, e = .returned (.string S) ∧ S.size ≤ 8 ∧ Hid (S = Oct.str (Oct.bytes v.toNat k)) ∧ Below w.heap.size w W' := by
  refine (Oct.refPut_yes v k w hv.1 hv.2 (by omega)).mono ?_
  rintro e W' ⟨rfl, hb⟩
  refine ⟨_, rfl, ?_, Lib.hid rfl, hb⟩
  have : (Oct.str (Oct.bytes v.toNat ((k : Int)).toNat)).size = k := by simp [ByteArray.size, Oct.bytes_length]
  omega

set_option maxRecDepth 100000 in
set_option maxHeartbeats 2000000 in
theorem refHash_any (id n : Int) (w : World) :
    Calls Try.prog 44 #[.int .i64 id, .int .i64 n] w fun e W' => e = .returned (.int .u64 (hashV id n)) ∧ Below w.heap.size w W' := by
  have u1 := uw_in id
  have u2 := uw_in n
  have hp1 := refPut_some (uw id) 4
  have hp2 := refPut_some (uw n) 2
  unfold uw at hp1 hp2 u1 u2
  go_enter Try.func44, Try.ntmps44
  go_wp2_with fail
  refine (hp1 _ u1 (by omega)).mono ?_
  rintro e w1 ⟨S, rfl, hS, HS, hb1⟩
  go_wp2_with fail
  refine (hp2 _ u2 (by omega)).mono ?_
  rintro e w2 ⟨R, rfl, hR, HR, hb2⟩
  have a1 : ∀ u : World, (Op.stringOp .add S R).run Try.prog u = .ok (.string (S ++ R)) u := fun u => run_string_add_sum u S R (by omega)
  have a2 : ∀ u : World, (Op.stringOp .add (S ++ R) ⟨#[0, 0, 0, 0]⟩).run Try.prog u = .ok (.string (S ++ R ++ ⟨#[0, 0, 0, 0]⟩)) u := fun u => run_string_add_sum u _ _ (by
    have h4 : (⟨#[0, 0, 0, 0]⟩ : ByteArray).size = 4 := rfl
    rw [ByteArray.size_append, h4]; omega)
  have hz : (S ++ R ++ ⟨#[0, 0, 0, 0]⟩ : ByteArray).size ≤ 4611686018427387904 := by
    have h4 : (⟨#[0, 0, 0, 0]⟩ : ByteArray).size = 4 := rfl
    rw [ByteArray.size_append, ByteArray.size_append, h4]; omega
  have HZ := Lib.hid (show S ++ R ++ ⟨#[0, 0, 0, 0]⟩ = hashS id n by rw [HS.out, HR.out]; rfl)
  go_wp2_with fail
  refine (Fnv.refSum_any _ _ hz).mono ?_
  rintro e w3 ⟨he, rfl⟩
  have he : e = .returned (.int .u64 (hashV id n)) := by rw [he, HZ.out]; rfl
  subst he
  go_wp2_with fail
  go_ret
  exact ⟨rfl, below2 hb1 hb2⟩
end Go.Proofs.Ytppbbhijlkfioaa.Pts

namespace Go.Proofs.Ytppbbhijlkfioaa.Pts
open Go.RowKit Go.Shelf Rgn
open Pol (below2 below_alloc)

theorem Lies.take {W : World} {a : Option Addr} {cap : Nat} {bs : List Pt} (h : Lies W a cap bs) (n : Nat) : Lies W a cap (bs.take n) :=
  ⟨h.max, Nat.le_trans (by simp; omega) h.len, fun hn => by
    obtain ⟨b, off, e, hc⟩ := h.cell (fun e => hn (by rw [e]; simp))
    refine ⟨b, off, e, fun i x hi => hc i x ?_⟩
    rw [List.getElem?_take] at hi
    split at hi
    · exact hi
    · cases hi⟩
theorem Lies.drop {W : World} {b off cap : Nat} {bs : List Pt} (h : Lies W (some ⟨b, off, none⟩) cap bs) (n : Nat) : Lies W (some ⟨b, off + n * 2, none⟩) (cap - n) (bs.drop n) :=
  ⟨Nat.le_trans (Nat.sub_le _ _) h.max, by have := h.len; simp; omega, fun hn => by
    obtain ⟨b', off', e, hc⟩ := h.cell (fun e => hn (by rw [e]; simp))
    cases e
    refine ⟨b, off + n * 2, rfl, fun i x hi => ?_⟩
    rw [List.getElem?_drop] at hi
    have := hc (n + i) x hi
    rwa [show off + (n + i) * 2 = off + n * 2 + i * 2 by omega] at this⟩

set_option maxHeartbeats 1000000 in
theorem refLess_any (x y : Pt) (w : World) : Calls Try.prog 25 #[ptV x, ptV y] w fun e W' => e = .returned (.bool (less x y)) ∧ Below w.heap.size w W' := by
  have al := Lib.hid (((Below.refl w.heap.size w).alloc (Nat.le_refl _) (.cells #[.int .u64 x.1, .int .i64 x.2] 28)).alloc (by simp) (.cells #[.int .u64 y.1, .int .i64 y.2] 28))
  by_cases h1 : x.1 < y.1
  · have d1 : decide (x.1 < y.1) = true := decide_eq_true h1
    have HV := Lib.hid ((less_iff x y).2 (Or.inl h1))
    clear h1
    go_enter Try.func25, Try.ntmps25
    go_wp2_with fail
    go_ret
    exact ⟨by rw [HV.out]; rfl, al.out⟩
  · have d1 : decide (x.1 < y.1) = false := decide_eq_false h1
    by_cases h2 : x.1 = y.1
    · have d2 : (x.1 == y.1) = true := beq_iff_eq.2 h2
      by_cases h3 : x.2 < y.2
      · have d3 : decide (x.2 < y.2) = true := decide_eq_true h3
        have HV := Lib.hid ((less_iff x y).2 (Or.inr ⟨h2, h3⟩))
        clear h1 h2 h3
        go_enter Try.func25, Try.ntmps25
        go_wp2_with fail
        go_ret
        exact ⟨by rw [HV.out]; rfl, al.out⟩
      · have d3 : decide (x.2 < y.2) = false := decide_eq_false h3
        have HV := Lib.hid ((less_not x y).2 (by omega))
        clear h1 h2 h3
        go_enter Try.func25, Try.ntmps25
        go_wp2_with fail
        go_ret
        exact ⟨by rw [HV.out]; rfl, al.out⟩
    · have d2 : (x.1 == y.1) = false := beq_false_of_ne h2
      have HV := Lib.hid ((less_not x y).2 (by omega))
      clear h1 h2
      go_enter Try.func25, Try.ntmps25
      go_wp2_with fail
      go_ret
      exact ⟨by rw [HV.out]; rfl, al.out⟩

/-- Two points of two rows, while they are held against one another. -/
theorem two_keep {W0 W W' : World} {g h p q : Nat} {x y : Pt} (s : Below W0.heap.size W0 W ∧ W.cell? ⟨g, p, none⟩ = some (.int .u64 x.1) ∧ W.cell? ⟨g, p + 1, none⟩ = some (.int .i64 x.2) ∧ W.cell? ⟨h, q, none⟩ = some (.int .u64 y.1) ∧ W.cell? ⟨h, q + 1, none⟩ = some (.int .i64 y.2)) (hb : Below W.heap.size W W') :
    Below W0.heap.size W0 W' ∧ W'.cell? ⟨g, p, none⟩ = some (.int .u64 x.1) ∧ W'.cell? ⟨g, p + 1, none⟩ = some (.int .i64 x.2) ∧ W'.cell? ⟨h, q, none⟩ = some (.int .u64 y.1) ∧ W'.cell? ⟨h, q + 1, none⟩ = some (.int .i64 y.2) := by
  obtain ⟨h0, h1, h2, h3, h4⟩ := s
  exact ⟨below2 h0 hb, (hb.cell (World.block_lt_of_cell? W _ h1)).trans h1, (hb.cell (World.block_lt_of_cell? W _ h2)).trans h2, (hb.cell (World.block_lt_of_cell? W _ h3)).trans h3, (hb.cell (World.block_lt_of_cell? W _ h4)).trans h4⟩
theorem drop_cons (l : List Pt) (i : Nat) (h : i < l.length) : l.drop i = l[i] :: l.drop (i + 1) := List.drop_eq_getElem_cons h

set_option maxRecDepth 100000 in
set_option maxHeartbeats 1500000 in
theorem refMerge_any (a : Option Addr) (cap : Nat) (A : List Pt) (a' : Option Addr) (cap' : Nat) (B : List Pt) (w : World) (h : Lies w a cap A) (h' : Lies w a' cap' B) (hA : A.length ≤ 100000000000) (hB : B.length ≤ 100000000000) :
    Calls Try.prog 58 #[ptsV a cap A, ptsV a' cap' B] w fun e W' => ∃ v, e = .returned v ∧ Own w.heap.size W' v (mrg A B) ∧ Below w.heap.size w W' := by
  have H := Lib.hid h
  have H' := Lib.hid h'
  have hl := h.len
  have hm := h.max
  have hl' := h'.len
  have hm' := h'.max
  unfold maxLen at hm hm'
  clear h h'
  go_enter Try.func58, Try.ntmps58
  go_wp2_with fail
  go_loopw [5, 6, 7] (fun v vi vk W => ∃ (i k : Nat) (out : List Pt), i ≤ A.length ∧ k ≤ B.length ∧ vi = .int .i64 i ∧ vk = .int .i64 k ∧ out.length ≤ 300000000000 ∧ out ++ mrg (A.drop i) (B.drop k) = mrg A B ∧ Own w.heap.size W v out ∧ Below w.heap.size w W) (fun _ vi vk _ => (A.length - (intOf vi).toNat) + (B.length - (intOf vk).toNat))
  case atStart => exact ⟨0, 0, [], Nat.zero_le _, Nat.zero_le _, rfl, rfl, by simp, by simp, own_nil _ _, Below.refl _ _⟩
  case round =>
    obtain ⟨i, k, out, hi, hk, rfl, rfl, hol, hout, hO, hBel⟩ := hrel
    have hml := congrArg List.length hout
    rw [List.length_append, mrg_length, mrg_length] at hml
    have hol2 : out.length ≤ 200000000000 := by omega
    have HT := Lib.hid hout
    have HO := Lib.hid hO
    have HB := Lib.hid hBel
    clear hout hO hBel hml hol
    by_cases hiA : i < A.length
    · have d1 : decide ((i : Int) < (A.length : Int)) = true := decide_eq_true (by omega)
      have d1' : decide (i < A.length) = true := decide_eq_true hiA
      obtain ⟨b1, o1, rfl, x0, x1⟩ := (H.out.kept HB.out).at hiA
      by_cases hkB : k < B.length
      · have d2 : decide ((B.length : Int) ≤ (k : Int)) = false := decide_eq_false (by omega)
        have d2' : decide (B.length ≤ k) = false := decide_eq_false (by omega)
        obtain ⟨b2, o2, rfl, y0, y1⟩ := (H'.out.kept HB.out).at hkB
        have eA := drop_cons A i hiA
        have eB := drop_cons B k hkB
        have HT2 := Lib.hid (show (le A[i] B[k] = true → out ++ [A[i]] ++ mrg (A.drop (i + 1)) (B.drop k) = mrg A B) ∧ (¬ le A[i] B[k] = true → out ++ [B[k]] ++ mrg (A.drop i) (B.drop (k + 1)) = mrg A B) by
          have h0 := HT.out
          constructor
          · intro hle
            rw [eA, eB, mrg_left _ _ _ _ hle, ← eB] at h0
            rw [List.append_assoc]; exact h0
          · intro hle
            rw [eA, eB, mrg_right _ _ _ _ hle, ← eA] at h0
            rw [List.append_assoc]; exact h0)
        clear eA eB HT
        generalize A[i] = x at *
        generalize B[k] = y at *
        go_wp2_with fail
        go_region_held3 (fun W => Below wr.heap.size wr W ∧ W.cell? ⟨b1, o1 + i * 2, none⟩ = some (.int .u64 x.1) ∧ W.cell? ⟨b1, o1 + i * 2 + 1, none⟩ = some (.int .i64 x.2) ∧ W.cell? ⟨b2, o2 + k * 2, none⟩ = some (.int .u64 y.1) ∧ W.cell? ⟨b2, o2 + k * 2 + 1, none⟩ = some (.int .i64 y.2)) (first | exact ⟨(Below.refl _ wr).drew, x0, x1, y0, y1⟩ | exact two_keep (by assumption) hb)
          (first | (go_at_call 25; (with_reducible refine (refLess_any _ _ _).mono ?_); rintro e w3 ⟨rfl, hb⟩))
        rename_i hHeld
        have HO3 := Lib.hid (HO.out.kept hHeld.1)
        have HB3 := Lib.hid (HB.out.trans (hHeld.1.mono HB.out.size))
        have z0 := hHeld.2.1
        have z1 := hHeld.2.2.1
        have t0 := hHeld.2.2.2.1
        have t1 := hHeld.2.2.2.2
        clear hHeld hb x0 x1 y0 y1 HO HB
        cases hless : less y x with
        | false =>
          have HT3 := Lib.hid (HT2.out.1 (by unfold le; rw [hless]; rfl))
          clear HT2 hless
          go_wp2_with (at_builtin; refine wpList_more rfl _ _ rfl w.heap.size w3.heap.size out x _ rfl rfl (HO3.out.kept (below_alloc w3 _)) ?c0 ?c1 ?c2 ?c3 ?_)
          case c0 => simp
          case c1 => simp
          case c2 => omega
          case c3 => have := HB3.out.size; simp; omega
          intro v' w4 ho4 hb4
          have HB4 := Lib.hid ((HB3.out.alloc HB3.out.size _).trans hb4.out)
          clear hb4
          go_wp2_with fail
          go_roundw
          case rel => exact ⟨i + 1, k, _, by omega, hk, by go_num, rfl, by simp; omega, HT3.out, ho4.out, HB4.out⟩
          case measure => simp [intOf]; omega
        | true =>
          have HT3 := Lib.hid (HT2.out.2 (by unfold le; rw [hless]; simp))
          clear HT2 hless
          go_wp2_with (at_builtin; refine wpList_more rfl _ _ rfl w.heap.size w3.heap.size out y _ rfl rfl (HO3.out.kept (below_alloc w3 _)) ?c0 ?c1 ?c2 ?c3 ?_)
          case c0 => simp
          case c1 => simp
          case c2 => omega
          case c3 => have := HB3.out.size; simp; omega
          intro v' w4 ho4 hb4
          have HB4 := Lib.hid ((HB3.out.alloc HB3.out.size _).trans hb4.out)
          clear hb4
          go_wp2_with fail
          go_roundw
          case rel => exact ⟨i, k + 1, _, hi, by omega, rfl, by go_num, by simp; omega, HT3.out, ho4.out, HB4.out⟩
          case measure => simp [intOf]; omega
      · have d2 : decide ((B.length : Int) ≤ (k : Int)) = true := decide_eq_true (by omega)
        have d2' : decide (B.length ≤ k) = true := decide_eq_true (by omega)
        have HT3 := Lib.hid (show out ++ [A[i]] ++ mrg (A.drop (i + 1)) (B.drop k) = mrg A B by
          have h0 := HT.out
          rw [drop_cons A i hiA, List.drop_eq_nil_of_le (show B.length ≤ k by omega), mrg_nil_right] at h0
          rw [List.append_assoc, List.drop_eq_nil_of_le (show B.length ≤ k by omega), mrg_nil_right]; exact h0)
        clear HT
        generalize A[i] = x at *
        go_wp2_with fail
        go_quiet (fail)
        have HO3 := Lib.hid (show Own w.heap.size (wr.drewN nq) _ out from HO.out)
        have HB3 := Lib.hid (below_drewN HB.out nq)
        have z0 : (wr.drewN nq).cell? ⟨b1, o1 + i * 2, none⟩ = some (.int .u64 x.1) := x0
        have z1 : (wr.drewN nq).cell? ⟨b1, o1 + i * 2 + 1, none⟩ = some (.int .i64 x.2) := x1
        clear x0 x1 HO HB
        generalize wr.drewN nq = w3 at *
        go_wp2_with (at_builtin; refine wpList_more rfl _ _ rfl w.heap.size w3.heap.size out x _ rfl rfl (HO3.out.kept (below_alloc w3 _)) ?c0 ?c1 ?c2 ?c3 ?_)
        case c0 => simp
        case c1 => simp
        case c2 => omega
        case c3 => have := HB3.out.size; simp; omega
        intro v' w4 ho4 hb4
        have HB4 := Lib.hid ((HB3.out.alloc HB3.out.size _).trans hb4.out)
        clear hb4
        go_wp2_with fail
        go_roundw
        case rel => exact ⟨i + 1, k, _, by omega, hk, by go_num, rfl, by simp; omega, HT3.out, ho4.out, HB4.out⟩
        case measure => simp [intOf]; omega
    · have d1 : decide ((i : Int) < (A.length : Int)) = false := decide_eq_false (by omega)
      have d1' : decide (i < A.length) = false := decide_eq_false hiA
      by_cases hkB : k < B.length
      · have d2 : decide ((B.length : Int) ≤ (k : Int)) = false := decide_eq_false (by omega)
        have d2' : decide (B.length ≤ k) = false := decide_eq_false (by omega)
        have d3 : decide ((k : Int) < (B.length : Int)) = true := decide_eq_true (by omega)
        have d3' : decide (k < B.length) = true := decide_eq_true hkB
        obtain ⟨b2, o2, rfl, y0, y1⟩ := (H'.out.kept HB.out).at hkB
        have HT3 := Lib.hid (show out ++ [B[k]] ++ mrg (A.drop i) (B.drop (k + 1)) = mrg A B by
          have h0 := HT.out
          rw [drop_cons B k hkB, List.drop_eq_nil_of_le (show A.length ≤ i by omega), mrg_nil_left] at h0
          rw [List.append_assoc, List.drop_eq_nil_of_le (show A.length ≤ i by omega), mrg_nil_left]; exact h0)
        clear HT
        generalize B[k] = y at *
        go_wp2_with fail
        go_quiet (fail)
        have HO3 := Lib.hid (show Own w.heap.size (wr.drewN nq) _ out from HO.out)
        have HB3 := Lib.hid (below_drewN HB.out nq)
        have z0 : (wr.drewN nq).cell? ⟨b2, o2 + k * 2, none⟩ = some (.int .u64 y.1) := y0
        have z1 : (wr.drewN nq).cell? ⟨b2, o2 + k * 2 + 1, none⟩ = some (.int .i64 y.2) := y1
        clear y0 y1 HO HB
        generalize wr.drewN nq = w3 at *
        go_wp2_with (at_builtin; refine wpList_more rfl _ _ rfl w.heap.size w3.heap.size out y _ rfl rfl (HO3.out.kept (below_alloc w3 _)) ?c0 ?c1 ?c2 ?c3 ?_)
        case c0 => simp
        case c1 => simp
        case c2 => omega
        case c3 => have := HB3.out.size; simp; omega
        intro v' w4 ho4 hb4
        have HB4 := Lib.hid ((HB3.out.alloc HB3.out.size _).trans hb4.out)
        clear hb4
        go_wp2_with fail
        go_roundw
        case rel => exact ⟨i, k + 1, _, hi, by omega, rfl, by go_num, by simp; omega, HT3.out, ho4.out, HB4.out⟩
        case measure => simp [intOf]; omega
      · have d3 : decide ((k : Int) < (B.length : Int)) = false := decide_eq_false (by omega)
        have d3' : decide (k < B.length) = false := decide_eq_false hkB
        have HF := Lib.hid (show out = mrg A B by
          have h0 := HT.out
          rw [List.drop_eq_nil_of_le (show A.length ≤ i by omega), List.drop_eq_nil_of_le (show B.length ≤ k by omega), mrg_nil_left, List.append_nil] at h0
          exact h0)
        go_wp2_with fail
        go_ret
        exact ⟨_, rfl, by rw [← HF.out]; exact HO.out, HB.out⟩
end Go.Proofs.Ytppbbhijlkfioaa.Pts

namespace Go.Proofs.Ytppbbhijlkfioaa.Pts
open Go.RowKit Go.Shelf Rgn
open Pol (below2 below_alloc)

/-- What a slot holds. -/
inductive Sp where
  | is (v : Value)
  | pts (bs : List Pt)
  | any
def Sp.holds : Sp → World → Value → Prop
  | .is v, _, u => u = v
  | .pts bs, w, u => ∃ p c, u = ptsV p c bs ∧ Lies w p c bs
  | .any, _, _ => True
theorem Sp.kept (s : Sp) (w w' : World) (v : Value) (h : s.holds w v) (hb : Below w.heap.size w w') : s.holds w' v := by
  cases s with
  | is _ => exact h
  | pts _ => obtain ⟨p, c, e, hl⟩ := h; exact ⟨p, c, e, hl.kept hb⟩
  | any => trivial
def spV (l : List Sp) (i : Nat) (w : World) (v : Value) : Prop := (l.getD i .any).holds w v
theorem spV_kept (l : List Sp) : ∀ j w w' v, spV l j w v → Below w.heap.size w w' → spV l j w' v := fun _ w w' v h hb => Sp.kept _ w w' v h hb

set_option maxRecDepth 100000 in
set_option maxHeartbeats 1500000 in
theorem refSort_any : ∀ (N : Nat) (a : Option Addr) (cap : Nat) (bs : List Pt) (w : World), bs.length ≤ N → Lies w a cap bs → bs.length ≤ 10000000000 →
    Calls Try.prog 45 #[ptsV a cap bs] w fun e W' => ∃ v, e = .returned v ∧ Gives W' v (psort bs) ∧ Below w.heap.size w W' := by
  intro N
  induction N using Nat.strongRecOn with
  | _ N ih =>
    intro a cap bs w hN h hbig
    have H := Lib.hid h
    have hl := h.len
    have hm := h.max
    unfold maxLen at hm
    have IH := Lib.hid ih
    clear h ih
    by_cases h2 : bs.length < 2
    · have d1 : decide ((bs.length : Int) < 2) = true := decide_eq_true (by omega)
      have d1' : decide (bs.length < 2) = true := decide_eq_true h2
      have HV := Lib.hid (psort_short bs h2)
      go_enter Try.func45, Try.ntmps45
      go_wp2_with fail
      go_ret
      exact ⟨_, rfl, by rw [HV.out]; exact ⟨a, cap, rfl, H.out⟩, Below.refl _ _⟩
    · have d1 : decide ((bs.length : Int) < 2) = false := decide_eq_false (by omega)
      have d1' : decide (bs.length < 2) = false := decide_eq_false h2
      obtain ⟨b, off, rfl, _⟩ := H.out.cell (fun e => by rw [e] at h2; exact h2 (by simp))
      obtain ⟨n, hn, hn1, hn2⟩ : ∃ n : Nat, n = bs.length / 2 ∧ 0 < n ∧ n < bs.length := ⟨_, rfl, by omega, by omega⟩
      have q1 : (bs.length : Int).tdiv 2 = (n : Int) := by rw [hn]; rfl
      have q2 : (bs.length : Int) / 2 = (n : Int) := by omega
      have l1 : (bs.take n).length = n := by simp; omega
      have l2 : (bs.drop n).length = bs.length - n := by simp
      have HS := Lib.hid (show mrg (psort (bs.take n)) (psort (bs.drop n)) = psort bs by rw [← psort_app, List.take_append_drop])
      have T1 := Lib.hid (show ∀ W, Below w.heap.size w W → Lies W (some ⟨b, off, none⟩) cap (bs.take n) from fun W hb => (H.out.take n).kept hb)
      have T2 := Lib.hid (show ∀ W, Below w.heap.size w W → Lies W (some ⟨b, off + n * 2, none⟩) (cap - n) (bs.drop n) from fun W hb => (H.out.drop n).kept hb)
      clear hn
      go_enter Try.func45, Try.ntmps45
      go_wp2_with fail
      refine wp_region_val (spV [.is (ptsV (some ⟨b, off, none⟩) cap bs), .is (.int .i64 n), .is (.slice (some ⟨b, off, none⟩) n cap), .pts (psort (bs.take n)), .is (ptsV (some ⟨b, off, none⟩) cap bs), .is (.int .i64 n), .is (.slice (some ⟨b, off + n * 2, none⟩) (bs.length - n) (cap - n)), .pts (psort (bs.drop n)), .pts (mrg (psort (bs.take n)) (psort (bs.drop n))), .pts (mrg (psort (bs.take n)) (psort (bs.drop n)))]) (spV_kept _) (by kernel_rfl) (by kernel_rfl) (by kernel_rfl) ?step ?done
      case step =>
        intro d a W i hi hall hI
        replace hi : i < 10 := hi
        have b0 := hI.below
        obtain rfl | rfl | rfl | rfl | rfl | rfl | rfl | rfl | rfl | rfl : i = 0 ∨ i = 1 ∨ i = 2 ∨ i = 3 ∨ i = 4 ∨ i = 5 ∨ i = 6 ∨ i = 7 ∨ i = 8 ∨ i = 9 := by omega
        · have e0 : a.tmps[0]?.getD undef = ptsV (some ⟨b, off, none⟩) cap bs := hI.old 0 (unwritten_of (by kernel_rfl) d)
          refine StepV.done rfl (wanted_free rfl) fun K hK => ?_
          exact op_move rfl (hK _ _ (Below.refl _ _) e0)
        · have e3 : a.tmps[3]?.getD undef = .int .i64 n := hI.old 3 (unwritten_of (by kernel_rfl) d)
          refine StepV.done rfl (wanted_free rfl) fun K hK => ?_
          exact op_move rfl (hK _ _ (Below.refl _ _) e3)
        · have e11 : a.tmps[11]?.getD undef = ptsV (some ⟨b, off, none⟩) cap bs := hI.val 0 11 rfl (hall 0 (by kernel_rfl))
          have e12 : a.tmps[12]?.getD undef = .int .i64 n := hI.val 1 12 rfl (hall 1 (by kernel_rfl))
          refine StepV.done rfl (wanted_free rfl) fun K hK => ?_
          clear hall hI
          refine op_run (.slice (some ⟨b, off, none⟩) n cap) W ?_ (hK _ _ (Below.refl _ _) rfl)
          clear hK
          simp only [List.getElem_toArray, List.getElem_cons_zero, List.getElem_cons_succ, execOp, Act.eval]
          go_simp
          intro hcon; omega
        · have e13 : a.tmps[13]?.getD undef = .slice (some ⟨b, off, none⟩) n cap := hI.val 2 13 rfl (hall 2 (by kernel_rfl))
          have C := IH.out n (by omega) (some ⟨b, off, none⟩) cap (bs.take n) W (by omega) (T1.out W b0) (by omega)
          rw [show ptsV (some ⟨b, off, none⟩) cap (bs.take n) = .slice (some ⟨b, off, none⟩) n cap by show Value.slice _ _ _ = _; rw [l1]] at C
          refine StepV.done rfl (wanted_free rfl) fun K hK => ?_
          refine op_call 45 #[.slice (some ⟨b, off, none⟩) n cap] (fun v W2 => Gives W2 v (psort (bs.take n)) ∧ Below W.heap.size W W2) ?_ C (fun v W2 ⟨h1, h2⟩ => hK v W2 h2 h1)
          clear hall hI hK C
          simp only [List.getElem_toArray, List.getElem_cons_zero, List.getElem_cons_succ, execOp]
          go_simp
        · have e0 : a.tmps[0]?.getD undef = ptsV (some ⟨b, off, none⟩) cap bs := hI.old 0 (unwritten_of (by kernel_rfl) d)
          refine StepV.done rfl (wanted_free rfl) fun K hK => ?_
          exact op_move rfl (hK _ _ (Below.refl _ _) e0)
        · have e3 : a.tmps[3]?.getD undef = .int .i64 n := hI.old 3 (unwritten_of (by kernel_rfl) d)
          refine StepV.done rfl (wanted_free rfl) fun K hK => ?_
          exact op_move rfl (hK _ _ (Below.refl _ _) e3)
        · have e15 : a.tmps[15]?.getD undef = ptsV (some ⟨b, off, none⟩) cap bs := hI.val 4 15 rfl (hall 4 (by kernel_rfl))
          have e16 : a.tmps[16]?.getD undef = .int .i64 n := hI.val 5 16 rfl (hall 5 (by kernel_rfl))
          refine StepV.done rfl (wanted_free rfl) fun K hK => ?_
          clear hall hI
          refine op_run (.slice (some ⟨b, off + n * 2, none⟩) (bs.length - n) (cap - n)) W ?_ (hK _ _ (Below.refl _ _) rfl)
          clear hK
          simp only [List.getElem_toArray, List.getElem_cons_zero, List.getElem_cons_succ, execOp, Act.eval]
          go_simp
          rw [if_pos (by omega), if_neg (by omega)]
        · have e17 : a.tmps[17]?.getD undef = .slice (some ⟨b, off + n * 2, none⟩) (bs.length - n) (cap - n) := hI.val 6 17 rfl (hall 6 (by kernel_rfl))
          have C := IH.out (bs.length - n) (by omega) (some ⟨b, off + n * 2, none⟩) (cap - n) (bs.drop n) W (by omega) (T2.out W b0) (by omega)
          rw [show ptsV (some ⟨b, off + n * 2, none⟩) (cap - n) (bs.drop n) = .slice (some ⟨b, off + n * 2, none⟩) (bs.length - n) (cap - n) by show Value.slice _ _ _ = _; rw [l2]] at C
          refine StepV.done rfl (wanted_free rfl) fun K hK => ?_
          refine op_call 45 #[.slice (some ⟨b, off + n * 2, none⟩) (bs.length - n) (cap - n)] (fun v W2 => Gives W2 v (psort (bs.drop n)) ∧ Below W.heap.size W W2) ?_ C (fun v W2 ⟨h1, h2⟩ => hK v W2 h2 h1)
          clear hall hI hK C
          simp only [List.getElem_toArray, List.getElem_cons_zero, List.getElem_cons_succ, execOp]
          go_simp
        · obtain ⟨p14, q14, e14, k14⟩ : ∃ p c, a.tmps[14]?.getD undef = ptsV p c (psort (bs.take n)) ∧ Lies W p c (psort (bs.take n)) := hI.val 3 14 rfl (hall 3 (by kernel_rfl))
          obtain ⟨p18, q18, e18, k18⟩ : ∃ p c, a.tmps[18]?.getD undef = ptsV p c (psort (bs.drop n)) ∧ Lies W p c (psort (bs.drop n)) := hI.val 7 18 rfl (hall 7 (by kernel_rfl))
          have C := (refMerge_any p14 q14 (psort (bs.take n)) p18 q18 (psort (bs.drop n)) W k14 k18 (by rw [psort_length]; omega) (by rw [psort_length]; omega)).mono (R' := fun e W2 => ∃ v, e = .returned v ∧ Gives W2 v (mrg (psort (bs.take n)) (psort (bs.drop n))) ∧ Below W.heap.size W W2) (fun e W2 ⟨v, he, ho, hb⟩ => ⟨v, he, ho.lies, hb⟩)
          refine StepV.done rfl (wanted_free rfl) fun K hK => ?_
          refine op_call 58 #[ptsV p14 q14 (psort (bs.take n)), ptsV p18 q18 (psort (bs.drop n))] (fun v W2 => Gives W2 v (mrg (psort (bs.take n)) (psort (bs.drop n))) ∧ Below W.heap.size W W2) ?_ C (fun v W2 ⟨h1, h2⟩ => hK v W2 h2 h1)
          clear hall hI hK C
          simp only [List.getElem_toArray, List.getElem_cons_zero, List.getElem_cons_succ, execOp]
          go_simp
        · have f := hI.val 8 19 rfl (hall 8 (by kernel_rfl))
          refine StepV.done rfl (wanted_free rfl) fun K hK => ?_
          exact op_assign rfl (hK _ _ (Below.refl _ _) f)
      case done =>
        intro a W hv hI
        obtain ⟨t, df⟩ := a
        obtain rfl : df = [] := hI.defs
        have hz : t.size = 20 := hI.size
        have b0 := hI.below
        obtain ⟨p2, q2', e2, k2⟩ : ∃ p c, t[2]?.getD undef = ptsV p c (mrg (psort (bs.take n)) (psort (bs.drop n))) ∧ Lies W p c (mrg (psort (bs.take n)) (psort (bs.drop n))) := hv 9 2 rfl
        clear hv hI
        obtain ⟨ys, hy, ht⟩ := arr_slots t 20 hz
        have hls : (slotsFrom ys 0 20).toArray = #[ys 0, ys 1, ys 2, ys 3, ys 4, ys 5, ys 6, ys 7, ys 8, ys 9, ys 10, ys 11, ys 12, ys 13, ys 14, ys 15, ys 16, ys 17, ys 18, ys 19] := rfl
        rw [hy] at e2
        rw [ht, hls, e2]
        rw [HS.out] at k2 ⊢
        have K2 := Lib.hid k2
        have B0 := Lib.hid b0
        clear ht hls hz hy e2 k2 b0
        go_wp2_with fail
        go_ret
        exact ⟨_, rfl, ⟨p2, q2', rfl, K2.out⟩, B0.out⟩
end Go.Proofs.Ytppbbhijlkfioaa.Pts

namespace Go.Proofs.Ytppbbhijlkfioaa.Stq
open Go.ChangeShapes Go.WideShapes Go.RowKit Go.Deep Pts
variable {H : Type} {enc : TypeId × Value → H} {w : World} {base : Nat} {spare : Nat → Bool} {held : Bool}

theorem laidOut : laidOutB Try.prog = true := by kernel_rfl
/-- Each number of a point fits its kind. -/
def PtOk (x : Pt) : Prop := (Lit.int .u64 x.1).wf = true ∧ (Lit.int .i64 x.2).wf = true
set_option maxRecDepth 100000 in
theorem pt_under : ∃ f0 f1 : Field, Try.prog.underlying 28 = some (.struct #[f0, f1]) ∧ (f0.type = 23 ∧ f0.offset = 0) ∧ (f1.type = 3 ∧ f1.offset = 1) :=
  ⟨_, _, Try.underlying28, ⟨rfl, rfl⟩, ⟨rfl, rfl⟩⟩
theorem pt_size : Try.prog.cellsOf 28 = 2 := by kernel_rfl
theorem u64_size : Try.prog.cellsOf 23 = 1 := by kernel_rfl
theorem int_size : Try.prog.cellsOf 3 = 1 := by kernel_rfl

set_option maxRecDepth 100000 in
/-- A parameter that is a row of points. -/
theorem open_points {r : Reach} {b0 : Nat} {v : Value} {d : DataW H} {ps : List MemPlace} (hv : Value.okWide Try.prog w r b0 22 v) (h : DataW.Trod enc Try.prog w base spare held 22 v d ps) :
    ∃ (a : Option Addr) (cap : Nat) (bs : List Pt), v = ptsV a cap bs ∧ Lies w a cap bs ∧ ∀ x ∈ bs, PtOk x := by
  obtain ⟨f0, f1, hu, ⟨t0, o0⟩, ⟨t1, o1⟩⟩ := pt_under
  obtain ⟨a, len, cap, rfl⟩ := okWide_slice Try.underlying22 hv
  obtain ⟨fuel, hf⟩ := h
  rcases open_slice_pairs Try.underlying22 hu pt_size o0 o1 (by rw [t0]; exact u64_size) (by rw [t1]; exact int_size) hf with ⟨hc, _⟩ | ⟨ad, l, c, m, n, V0, V1, D0, D1, P0, P1, hc, _, hl, hm, hmm, _, hall⟩
  · simp [Value.cells] at hc
    obtain ⟨rfl, rfl, rfl⟩ := hc
    exact ⟨none, 0, [], rfl, lies_nil w, fun x hx => by cases hx⟩
  · simp [Value.cells] at hc
    obtain ⟨rfl, rfl, rfl⟩ := hc
    have hlm : len ≤ m := by rw [hmm]; split <;> omega
    have each : ∀ i, i < len → ∃ x : Pt, V0 i = .int .u64 x.1 ∧ V1 i = .int .i64 x.2 ∧ PtOk x := by
      intro i hi
      obtain ⟨_, _, h0, h1⟩ := hall i (by omega)
      rw [t0] at h0
      rw [t1] at h1
      obtain ⟨x, e0, _, w0⟩ := DataW.trod_int Try.underlying23 h0
      obtain ⟨y, e1, _, w1⟩ := DataW.trod_int Try.underlying3 h1
      simp only [List.cons.injEq, and_true] at e0 e1
      exact ⟨(x, y), e0, e1, w0, w1⟩
    obtain ⟨q, hq⟩ := choose_lt each
    refine ⟨some ad, cap, (List.range len).map q, by simp [ptsV], ⟨hm, by simpa using hl, fun hne => ?_⟩, ?_⟩
    · have hpos : 0 < len := by
        cases len with
        | zero => simp at hne
        | succ k => omega
      obtain ⟨b, off, spot⟩ := ad
      have hspot : spot = none := by simpa [Addr.add] using World.cell?_spot (hall 0 (by omega)).1
      subst hspot
      refine ⟨b, off, rfl, fun i x hi => ?_⟩
      rw [List.getElem?_map] at hi
      cases hr : (List.range len)[i]? with
      | none => rw [hr] at hi; cases hi
      | some k =>
        rw [hr] at hi
        obtain ⟨hlt, hk⟩ := List.getElem?_eq_some_iff.1 hr
        rw [List.getElem_range] at hk
        subst hk
        simp at hi
        subst hi
        have hlt' : i < len := by simpa using hlt
        obtain ⟨c0, c1, _, _⟩ := hall i (by omega)
        obtain ⟨e0, e1, _⟩ := hq i hlt'
        rw [add_plain] at c0 c1
        exact ⟨c0.trans (by rw [e0]), by rw [← e1]; simpa [Nat.add_assoc] using c1⟩
    · intro x hx
      obtain ⟨i, hi, rfl⟩ := List.mem_map.1 hx
      exact (hq i (List.mem_range.1 hi)).2.2

set_option maxRecDepth 100000 in
/-- A parameter that is a point. -/
theorem open_point {r : Reach} {b0 : Nat} {v : Value} {d : DataW H} {ps : List MemPlace} (hv : Value.okWide Try.prog w r b0 28 v) (h : DataW.Trod enc Try.prog w base spare held 28 v d ps) :
    ∃ x : Pt, v = .agg #[.int .u64 x.1, .int .i64 x.2] ∧ PtOk x := by
  obtain ⟨f0, f1, hu, ⟨t0, o0⟩, ⟨t1, o1⟩⟩ := pt_under
  obtain ⟨cs, rfl, hz⟩ := okWide_struct hu hv
  obtain ⟨fuel, hf⟩ := h
  obtain ⟨y0, y1, n, hx, hl, g0, g1⟩ := trod_struct2 hu hf
  rw [t0, o0, u64_size] at g0
  rw [t1, o1, int_size] at g1
  rw [pt_size] at hz
  obtain ⟨l⟩ := cs
  match l, hz with
  | [c0, c1], _ =>
    obtain ⟨x, e0, _, w0⟩ := DataW.trod_int Try.underlying23 g0
    obtain ⟨y, e1, _, w1⟩ := DataW.trod_int Try.underlying3 g1
    simp only [Value.cells, List.drop_zero, List.take_succ_cons, List.take_zero, List.cons.injEq, and_true] at e0
    simp only [Value.cells, List.drop_succ_cons, List.drop_zero, List.take_succ_cons, List.take_zero, List.cons.injEq, and_true] at e1
    subst e0 e1
    exact ⟨(x, y), rfl, w0, w1⟩
end Go.Proofs.Ytppbbhijlkfioaa.Stq
