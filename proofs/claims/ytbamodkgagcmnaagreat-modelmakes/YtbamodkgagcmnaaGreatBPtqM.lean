/-
  Points: a slice of points, as a list of pairs; rows of them that a call makes or may write.
-/
import Derived.Test.YtbamodkgagcmnaaGreatBPolM
import Derived.Lib.SliceRun
import Derived.BigQuiet
import Derived.WalkSmall
import Derived.Test.YtbamodkgagcmnaaGreatBOctGM
import Derived.Test.YtbamodkgagcmnaaGreatBFnvM
set_option maxRecDepth 100000
namespace Go.Proofs.YtbamodkgagcmnaaGreat.Pts
open Go.RowKit Go.Shelf Rgn
open Pol (below2 below_alloc grown_none add_at)

/-- A point: its Hash, its Id. -/
abbrev Pt := Int × Int
abbrev ptV (x : Pt) : Value := .agg #[.int .u64 x.1, .int .i64 x.2]
/-- The value of a slice of so many points. -/
abbrev ptsV (a : Option Addr) (cap : Nat) (bs : List Pt) : Value := .slice a bs.length cap
/-- These points lie there. -/
structure Lies (W : World) (a : Option Addr) (cap : Nat) (bs : List Pt) : Prop where
  max : cap ≤ maxLen
  len : bs.length ≤ cap
  cell : bs ≠ [] → ∃ b off, a = some ⟨b, off, none⟩ ∧ ∀ i x, bs[i]? = some x → W.cell? ⟨b, off + i * 2, none⟩ = some (.int .u64 x.1) ∧ W.cell? ⟨b, off + i * 2 + 1, none⟩ = some (.int .i64 x.2)
theorem Lies.kept {W W' : World} {a : Option Addr} {cap : Nat} {bs : List Pt} (h : Lies W a cap bs) (hb : Below W.heap.size W W') : Lies W' a cap bs :=
  ⟨h.max, h.len, fun hn => by
    obtain ⟨b, off, e, hc⟩ := h.cell hn
    refine ⟨b, off, e, fun i x hi => ?_⟩
    obtain ⟨c0, c1⟩ := hc i x hi
    exact ⟨(hb.cell (p := ⟨b, off + i * 2, none⟩) (World.block_lt_of_cell? W _ c0)).trans c0, (hb.cell (p := ⟨b, off + i * 2 + 1, none⟩) (World.block_lt_of_cell? W _ c1)).trans c1⟩⟩
theorem lies_nil (W : World) : Lies W none 0 [] := ⟨by unfold maxLen; omega, Nat.le_refl _, fun h => absurd rfl h⟩
/-- A point that stands at a place. -/
theorem Lies.at {W : World} {a : Option Addr} {cap : Nat} {bs : List Pt} (h : Lies W a cap bs) {k : Nat} (hk : k < bs.length) : ∃ b off, a = some ⟨b, off, none⟩ ∧ W.cell? ⟨b, off + k * 2, none⟩ = some (.int .u64 bs[k].1) ∧ W.cell? ⟨b, off + k * 2 + 1, none⟩ = some (.int .i64 bs[k].2) := by
  obtain ⟨b, off, e, hc⟩ := h.cell (fun e => by rw [e] at hk; exact absurd hk (by simp))
  exact ⟨b, off, e, hc k _ (List.getElem?_eq_getElem hk)⟩

/-- The cells of a row. -/
def flat (bs : List Pt) : List Value := bs.flatMap fun x => [.int .u64 x.1, .int .i64 x.2]
theorem flat_length (bs : List Pt) : (flat bs).length = bs.length * 2 := by
  induction bs with
  | nil => rfl
  | cons x bs ih => unfold flat at *; rw [List.flatMap_cons, List.length_append, ih]; simp; omega
theorem flat_more (bs : List Pt) (y : Pt) : flat (bs ++ [y]) = flat bs ++ [.int .u64 y.1, .int .i64 y.2] := by simp [flat]
theorem flat_get (bs : List Pt) : ∀ (i : Nat) (x : Pt), bs[i]? = some x → (flat bs)[i * 2]? = some (.int .u64 x.1) ∧ (flat bs)[i * 2 + 1]? = some (.int .i64 x.2) := by
  induction bs with
  | nil => intro i x h; simp at h
  | cons y bs ih =>
    intro i x h
    have e : flat (y :: bs) = .int .u64 y.1 :: .int .i64 y.2 :: flat bs := by simp [flat]
    cases i with
    | zero => simp at h; subst h; rw [e]; exact ⟨rfl, rfl⟩
    | succ i =>
      obtain ⟨h0, h1⟩ := ih i x (by simpa using h)
      rw [e, show (i + 1) * 2 = i * 2 + 1 + 1 by omega]
      exact ⟨by simpa using h0, by simpa using h1⟩
/-- A row that the call has made: it lies in no block below B. -/
def Own (B : Nat) (W : World) (v : Value) (bs : List Pt) : Prop := W.ownsRow B 211 2 v bs.length (flat bs)
theorem own_nil (B : Nat) (W : World) : Own B W (.slice none 0 0) [] := World.ownsRow_nil W B _ 2
theorem Own.kept {B : Nat} {W W' : World} {v : Value} {bs : List Pt} (h : Own B W v bs) (hb : Below W.heap.size W W') : Own B W' v bs :=
  World.ownsRow.kept h (grown_none hb) (by cases v.ownBlock <;> simp)
theorem own_less {B B' : Nat} {W : World} {v : Value} {bs : List Pt} (hB : B ≤ B') (h : Own B' W v bs) : Own B W v bs := by
  refine ⟨h.1, ?_⟩
  rcases h.2 with h0 | ⟨g, cap, cur, hv, hb, r⟩
  · exact .inl h0
  · exact .inr ⟨g, cap, cur, hv, Nat.le_trans hB hb, r⟩
theorem Own.lies {B : Nat} {W : World} {v : Value} {bs : List Pt} (h : Own B W v bs) : ∃ a cap, v = ptsV a cap bs ∧ Lies W a cap bs := by
  rcases h.2 with ⟨rfl, h0⟩ | ⟨g, cap, cur, rfl, hb, hg, hn, hm, hs, htake⟩
  · have : bs = [] := List.eq_nil_of_length_eq_zero h0
    subst this
    exact ⟨none, 0, rfl, lies_nil W⟩
  · refine ⟨some ⟨g, 0, none⟩, cap, rfl, hm, hn, fun _ => ⟨g, 0, rfl, fun i x hi => ?_⟩⟩
    have hc := World.ownsRow.cells h (g := g) rfl
    obtain ⟨h0, h1⟩ := flat_get bs i x hi
    have c0 := hc _ _ h0
    have c1 := hc _ _ h1
    rw [add_at] at c0 c1
    exact ⟨c0, c1⟩

theorem info_bk : (Tryz.prog.info? 211).map (fun i => (i.zero, i.size, i.bytes)) = some (some (.agg #[.int .u64 0, .int .i64 0]), 2, 16) := by kernel_rfl
theorem take_more (bs : List Pt) (k : Nat) (hk : k < bs.length) : bs.take (k + 1) = bs.take k ++ [bs[k]] := by rw [List.take_succ_eq_append_getElem hk]
theorem flat_one (bs : List Pt) : ∀ u ∈ flat bs, u.oneCell' = true := by
  intro u hu
  simp only [flat, List.mem_flatMap] at hu
  obtain ⟨x, _, hx⟩ := hu
  simp at hx; rcases hx with rfl | rfl <;> rfl
theorem flat_lies {W : World} {b off cap : Nat} {bs : List Pt} (h : Lies W (some ⟨b, off, none⟩) cap bs) (j : Nat) (u : Value) (hj : (flat bs)[j]? = some u) : W.cell? ⟨b, off + j, none⟩ = some u := by
  have hl : j < bs.length * 2 := by
    rw [← flat_length]; exact (List.getElem?_eq_some_iff.1 hj).1
  have hk : j / 2 < bs.length := by omega
  obtain ⟨b', off', e, hc⟩ := h.cell (fun e => by rw [e] at hk; exact absurd hk (by simp))
  cases e
  obtain ⟨c0, c1⟩ := hc (j / 2) bs[j / 2] (List.getElem?_eq_getElem hk)
  obtain ⟨f0, f1⟩ := flat_get bs (j / 2) bs[j / 2] (List.getElem?_eq_getElem hk)
  rcases Nat.mod_two_eq_zero_or_one j with h0 | h0
  · have e : j / 2 * 2 = j := by omega
    rw [e] at f0 c0
    rw [f0] at hj; cases hj; exact c0
  · have e : j / 2 * 2 + 1 = j := by omega
    rw [e] at f1
    rw [Nat.add_assoc, e] at c1
    rw [f1] at hj; cases hj; exact c1
/-- A row of points that may be written. -/
def Row (W : World) (g cap : Nat) (bs : List Pt) : Prop :=
  ∃ cur : Array Value, W.heap[g]? = some (.cells cur 211 (0, 0)) ∧ bs.length ≤ cap ∧ cap ≤ maxLen ∧ cur.size = cap * 2 ∧ cur.toList.take (bs.length * 2) = flat bs
theorem Own.row {B : Nat} {W : World} {v : Value} {bs : List Pt} (h : Own B W v bs) (hn : bs ≠ []) : ∃ g cap, v = ptsV (some ⟨g, 0, none⟩) cap bs ∧ B ≤ g ∧ Row W g cap bs := by
  rcases h.2 with ⟨_, h0⟩ | ⟨g, cap, cur, rfl, hb, r⟩
  · exact absurd (List.eq_nil_of_length_eq_zero h0) hn
  · exact ⟨g, cap, rfl, hb, cur, r⟩
theorem Row.own {B : Nat} {W : World} {g cap : Nat} {bs : List Pt} (h : Row W g cap bs) (hB : B ≤ g) : Own B W (ptsV (some ⟨g, 0, none⟩) cap bs) bs := by
  obtain ⟨cur, r⟩ := h
  exact ⟨flat_length bs, .inr ⟨g, cap, cur, rfl, hB, r⟩⟩
theorem Row.lt {W : World} {g cap : Nat} {bs : List Pt} (h : Row W g cap bs) : g < W.heap.size := by
  obtain ⟨cur, hg, _⟩ := h
  rcases Nat.lt_or_ge g W.heap.size with h | h
  · exact h
  · rw [Array.getElem?_eq_none h] at hg; cases hg
theorem Row.len {W : World} {g cap : Nat} {bs : List Pt} (h : Row W g cap bs) : bs.length ≤ cap ∧ cap ≤ maxLen := by
  obtain ⟨cur, _, h1, h2, _⟩ := h; exact ⟨h1, h2⟩
theorem Row.kept {W W' : World} {g cap : Nat} {bs : List Pt} (h : Row W g cap bs) (hb : Below W.heap.size W W') : Row W' g cap bs := by
  have hl := h.lt
  obtain ⟨cur, hg, r⟩ := h
  exact ⟨cur, (hb.block g hl).trans hg, r⟩
theorem Row.cell {W : World} {g cap : Nat} {bs : List Pt} (h : Row W g cap bs) {i : Nat} (hi : i < bs.length) :
    W.cell? ⟨g, i * 2, none⟩ = some (.int .u64 bs[i].1) ∧ W.cell? ⟨g, i * 2 + 1, none⟩ = some (.int .i64 bs[i].2) ∧ W.frozen? ⟨g, i * 2, none⟩ = false ∧ W.frozen? ⟨g, i * 2 + 1, none⟩ = false := by
  obtain ⟨cur, hg, h1, h2, h3, h4⟩ := h
  obtain ⟨f0, f1⟩ := flat_get bs i bs[i] (List.getElem?_eq_getElem hi)
  rw [← h4, List.getElem?_take_of_lt (by omega)] at f0 f1
  rw [Array.getElem?_toList] at f0 f1
  refine ⟨?_, ?_, ?_, ?_⟩ <;> simp [World.cell?, World.frozen?, hg, f0, f1]
theorem Row.lies {W : World} {g cap : Nat} {bs : List Pt} (h : Row W g cap bs) : Lies W (some ⟨g, 0, none⟩) cap bs :=
  ⟨h.len.2, h.len.1, fun _ => ⟨g, 0, rfl, fun i x hi => by
    obtain ⟨hl, e⟩ := List.getElem?_eq_some_iff.1 hi
    obtain ⟨c0, c1, _⟩ := h.cell hl
    rw [e] at c0 c1
    rw [Nat.zero_add]; exact ⟨c0, c1⟩⟩⟩
theorem flat_set (bs : List Pt) : ∀ (i : Nat) (x : Pt), flat (bs.set i x) = ((flat bs).set (i * 2) (.int .u64 x.1)).set (i * 2 + 1) (.int .i64 x.2) := by
  induction bs with
  | nil => intro i x; simp [flat]
  | cons y bs ih =>
    intro i x
    have e : ∀ (y : Pt) bs, flat (y :: bs) = .int .u64 y.1 :: .int .i64 y.2 :: flat bs := fun y bs => by simp [flat]
    cases i with
    | zero => simp [e]
    | succ i =>
      rw [List.set_cons_succ, e, e, ih i x, show (i + 1) * 2 = i * 2 + 1 + 1 by omega]
      simp [List.set_cons_succ]
/-- A world in which a point stands at a place of a row. -/
def put2 (W : World) (g i : Nat) (x : Pt) : World := (W.setCell ⟨g, i * 2, none⟩ (.int .u64 x.1)).setCell ⟨g, i * 2 + 1, none⟩ (.int .i64 x.2)
theorem Row.put {W : World} {g cap : Nat} {bs : List Pt} (h : Row W g cap bs) (i : Nat) (x : Pt) : Row (put2 W g i x) g cap (bs.set i x) := by
  obtain ⟨cur, hg, h1, h2, h3, h4⟩ := h
  refine ⟨(cur.setIfInBounds (i * 2) (.int .u64 x.1)).setIfInBounds (i * 2 + 1) (.int .i64 x.2), heap_setCell_same _ _ _ _ _ _ (heap_setCell_same _ _ _ _ _ _ hg), by simpa using h1, h2, by simpa using h3, ?_⟩
  rw [List.length_set, flat_set, ← h4]
  simp [List.take_set]
theorem Row.put_other {W : World} {g cap : Nat} {bs : List Pt} (h : Row W g cap bs) {a : Addr} (ha : g ≠ a.block) (v : Value) : Row (W.setCell a v) g cap bs := by
  obtain ⟨cur, hg, r⟩ := h
  exact ⟨cur, (heap_setCell_other _ _ _ _ ha).trans hg, r⟩
theorem Row.drew {W : World} {g cap : Nat} {bs : List Pt} (h : Row W g cap bs) : Row W.drew g cap bs := h
theorem Row.cut {W : World} {g cap : Nat} {bs : List Pt} (h : Row W g cap bs) (i : Nat) : Row W g cap (bs.take i) := by
  obtain ⟨cur, hg, h1, h2, h3, h4⟩ := h
  have hl : (bs.take i).length ≤ bs.length := by simp; omega
  refine ⟨cur, hg, by omega, h2, h3, ?_⟩
  have e : flat (bs.take i) = (flat bs).take ((bs.take i).length * 2) := by
    have e1 : flat bs = flat (bs.take i) ++ flat (bs.drop i) := by
      conv => lhs; rw [← List.take_append_drop i bs]
      unfold flat
      rw [List.flatMap_append]
    rw [e1]
    exact (List.take_left' (flat_length (bs.take i))).symm
  rw [e, ← h4, List.take_take]
  congr 1; omega
theorem below_put {B : Nat} {w W : World} (h : Below B w W) {g : Nat} (hg : B ≤ g) (i : Nat) (x : Pt) : Below B w (put2 W g i x) := (h.setCell (p := ⟨g, i * 2, none⟩) hg _).setCell (p := ⟨g, i * 2 + 1, none⟩) hg _

/-- A value that is a row of points. -/
def Gives (W : World) (v : Value) (bs : List Pt) : Prop := ∃ a cap, v = ptsV a cap bs ∧ Lies W a cap bs
end Go.Proofs.YtbamodkgagcmnaaGreat.Pts

namespace Go.Proofs.YtbamodkgagcmnaaGreat.Pts

/-- Does one stand ahead? -/
def less (x y : Pt) : Bool := decide (x.1 < y.1 ∨ x.1 = y.1 ∧ x.2 < y.2)
theorem less_iff (x y : Pt) : less x y = true ↔ x.1 < y.1 ∨ x.1 = y.1 ∧ x.2 < y.2 := decide_eq_true_iff
theorem less_not (x y : Pt) : less x y = false ↔ ¬ (x.1 < y.1 ∨ x.1 = y.1 ∧ x.2 < y.2) := decide_eq_false_iff_not
/-- Not behind. -/
def le (x y : Pt) : Bool := !less y x
theorem le_iff (x y : Pt) : le x y = true ↔ x.1 < y.1 ∨ x.1 = y.1 ∧ x.2 ≤ y.2 := by
  unfold le
  rw [Bool.not_eq_true', less_not]
  omega
theorem le_trans (x y z : Pt) (h1 : le x y = true) (h2 : le y z = true) : le x z = true := by rw [le_iff] at *; omega
theorem le_total (x y : Pt) : (le x y || le y x) = true := by rw [Bool.or_eq_true, le_iff, le_iff]; omega
/-- In order. -/
abbrev Rise (l : List Pt) : Prop := l.Pairwise fun x y => le x y = true
def psort (l : List Pt) : List Pt := l.mergeSort le
theorem psort_perm (l : List Pt) : (psort l).Perm l := List.mergeSort_perm l le
theorem psort_rise (l : List Pt) : Rise (psort l) := List.pairwise_mergeSort le_trans le_total l
theorem psort_length (l : List Pt) : (psort l).length = l.length := (psort_perm l).length_eq
/-- Two lists in order, in one. -/
def mrg (a b : List Pt) : List Pt := List.merge a b le
end Go.Proofs.YtbamodkgagcmnaaGreat.Pts

namespace Go.Proofs.YtbamodkgagcmnaaGreat.Pts
open Pol (Bk without sorted with_ chk)

/-- How many points a weight asks for. -/
def cnt (g : Int) : Nat := 8 * (max 0 (min g 16)).toNat
/-- The points of one backend, where hash tells where each is. -/
def own (hash : Int → Nat → Int) (x : Bk) : List Pt := (List.range (cnt x.2)).map fun n => (hash x.1 n, x.1)
/-- The points of a pool, one backend behind the other. -/
def pts (hash : Int → Nat → Int) (z : List Bk) : List Pt := z.flatMap (own hash)
/-- The points of a pool, in order. -/
def ofL (hash : Int → Nat → Int) (z : List Bk) : List Pt := psort (pts hash z)
section
variable (hash : Int → Nat → Int)
theorem own_id (x : Bk) (p : Pt) (h : p ∈ own hash x) : p.2 = x.1 := by
  obtain ⟨n, _, rfl⟩ := List.mem_map.1 h; rfl
theorem own_length (x : Bk) : (own hash x).length = cnt x.2 := by simp [own]
theorem ofL_rise (z : List Bk) : Rise (ofL hash z) := psort_rise _
theorem own_in (x : Bk) (n : Nat) (hn : n < cnt x.2) : (hash x.1 n, x.1) ∈ own hash x := List.mem_map.2 ⟨n, List.mem_range.2 hn, rfl⟩
theorem in_ofL (z : List Bk) (x : Bk) (hx : x ∈ z) (n : Nat) (hn : n < cnt x.2) : (hash x.1 n, x.1) ∈ ofL hash z :=
  (psort_perm _).mem_iff.2 (List.mem_flatMap.2 ⟨x, hx, own_in hash x n hn⟩)
end
end Go.Proofs.YtbamodkgagcmnaaGreat.Pts

namespace Go.Proofs.YtbamodkgagcmnaaGreat.Pts
open Go.RowKit Go.Shelf

/-- A number as a uint64. -/
def uw (x : Int) : Int := IntKind.u64.wrap x
theorem uw_in (x : Int) : 0 ≤ uw x ∧ uw x ≤ 18446744073709551615 := by
  simp only [uw, IntKind.wrap, IntKind.signed, IntKind.bits]; simp; omega
/-- The ten bytes that Hash sums. -/
def hashS (id n : Int) : ByteArray := Oct.str (Oct.bytes (uw id).toNat 4) ++ Oct.str (Oct.bytes (uw n).toNat 2) ++ ⟨#[0, 0, 0, 0]⟩
/-- Where the point n of the backend id is. -/
def hashV (id n : Int) : Int := (Fnv.jn 14695981039346656037 (hashS id n).data.toList : Nat)

end Go.Proofs.YtbamodkgagcmnaaGreat.Pts
