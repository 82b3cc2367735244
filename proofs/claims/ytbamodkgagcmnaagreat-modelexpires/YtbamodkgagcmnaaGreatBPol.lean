/-
  Pools: a slice of backends, as a list of pairs; the document's Find (package gangplankref08).
-/
import Derived.WalkKit
import Derived.WalkMore
import Derived.OwnWalkIn
import Derived.LoopNIn
import Derived.Shelf.Abstract
import Derived.Below
import Derived.Lib.Hide
import Derived.Laws.AppendOwn
import Derived.Laws.StructEq
import Derived.Test.YtbamodkgagcmnaaGreatProg
import Derived.Test.YtbamodkgagcmnaaGreatBRgn
import Derived.OwnWalk
import Derived.BigQuiet
import Derived.WalkSmall
import Derived.ProofKit
import Derived.OpenShut
import Derived.ChangeMaps5
import Derived.Deep.SlicePairs
import Derived.Carry
set_option maxRecDepth 100000
namespace Go.Proofs.YtbamodkgagcmnaaGreat.Pol
open Go.RowKit Go.Shelf Rgn

/-- A backend: its Id, its Weight. -/
abbrev Bk := Int × Int
/-- The value of a slice of so many backends. -/
abbrev polV (a : Option Addr) (cap : Nat) (bs : List Bk) : Value := .slice a bs.length cap
/-- These backends lie there. -/
structure Lies (W : World) (a : Option Addr) (cap : Nat) (bs : List Bk) : Prop where
  max : cap ≤ maxLen
  len : bs.length ≤ cap
  cell : bs ≠ [] → ∃ b off, a = some ⟨b, off, none⟩ ∧ ∀ i x, bs[i]? = some x → W.cell? ⟨b, off + i * 2, none⟩ = some (.int .i64 x.1) ∧ W.cell? ⟨b, off + i * 2 + 1, none⟩ = some (.int .i64 x.2)
theorem Lies.kept {W W' : World} {a : Option Addr} {cap : Nat} {bs : List Bk} (h : Lies W a cap bs) (hb : Below W.heap.size W W') : Lies W' a cap bs :=
  ⟨h.max, h.len, fun hn => by
    obtain ⟨b, off, e, hc⟩ := h.cell hn
    refine ⟨b, off, e, fun i x hi => ?_⟩
    obtain ⟨c0, c1⟩ := hc i x hi
    exact ⟨(hb.cell (p := ⟨b, off + i * 2, none⟩) (World.block_lt_of_cell? W _ c0)).trans c0, (hb.cell (p := ⟨b, off + i * 2 + 1, none⟩) (World.block_lt_of_cell? W _ c1)).trans c1⟩⟩
theorem lies_nil (W : World) : Lies W none 0 [] := ⟨by unfold maxLen; omega, Nat.le_refl _, fun h => absurd rfl h⟩
/-- A backend that stands at a place. -/
theorem Lies.at {W : World} {a : Option Addr} {cap : Nat} {bs : List Bk} (h : Lies W a cap bs) {k : Nat} (hk : k < bs.length) : ∃ b off, a = some ⟨b, off, none⟩ ∧ W.cell? ⟨b, off + k * 2, none⟩ = some (.int .i64 bs[k].1) ∧ W.cell? ⟨b, off + k * 2 + 1, none⟩ = some (.int .i64 bs[k].2) := by
  obtain ⟨b, off, e, hc⟩ := h.cell (fun e => by rw [e] at hk; exact absurd hk (by simp))
  exact ⟨b, off, e, hc k _ (List.getElem?_eq_getElem hk)⟩

/-- Where the first one of an Id stands; -1, if there is none. -/
def find : List Bk → Int → Nat → Int
  | [], _, _ => -1
  | x :: bs, id, k => if x.1 = id then k else find bs id (k + 1)
theorem find_drop (bs : List Bk) (id : Int) : ∀ (k m : Nat), k ≤ bs.length → (∀ j x, j < k → bs[j]? = some x → x.1 ≠ id) → find bs id m = find (bs.drop k) id (m + k) := by
  induction bs with
  | nil => intro k m hk _; simp at hk; subst hk; rfl
  | cons x bs ih =>
    intro k m hk hno
    cases k with
    | zero => rfl
    | succ k =>
      rw [List.drop_succ_cons]
      have h0 := hno 0 x (by omega) rfl
      rw [show find (x :: bs) id m = find bs id (m + 1) from if_neg h0, ih k (m + 1) (by simpa using hk) (fun j y hj hy => hno (j + 1) y (by omega) (by simpa using hy))]
      congr 1; omega
theorem find_hit (bs : List Bk) (id : Int) (k : Nat) (hk : k < bs.length) (hno : ∀ j x, j < k → bs[j]? = some x → x.1 ≠ id) (h : bs[k].1 = id) : find bs id 0 = k := by
  rw [find_drop bs id k 0 (by omega) hno, List.drop_eq_getElem_cons hk, Nat.zero_add]
  exact if_pos h
theorem find_none (bs : List Bk) (id : Int) (hno : ∀ j x, j < bs.length → bs[j]? = some x → x.1 ≠ id) : find bs id 0 = -1 := by
  rw [find_drop bs id bs.length 0 (Nat.le_refl _) hno, List.drop_length]; rfl
end Go.Proofs.YtbamodkgagcmnaaGreat.Pol

namespace Go.Proofs.YtbamodkgagcmnaaGreat.Pol
open Go.RowKit Go.Shelf Rgn

theorem below2 {w0 w1 w2 : World} (h1 : Below w0.heap.size w0 w1) (h2 : Below w1.heap.size w1 w2) : Below w0.heap.size w0 w2 := h1.trans (h2.mono h1.size)
theorem below_alloc (W : World) (o : Obj) : Below W.heap.size W (W.alloc o) := (Below.refl _ W).alloc (Nat.le_refl _) o
/-- The cells of a pool. -/
def flat (bs : List Bk) : List Value := bs.flatMap fun x => [.int .i64 x.1, .int .i64 x.2]
theorem flat_length (bs : List Bk) : (flat bs).length = bs.length * 2 := by
  induction bs with
  | nil => rfl
  | cons x bs ih => unfold flat at *; rw [List.flatMap_cons, List.length_append, ih]; simp; omega
theorem flat_more (bs : List Bk) (y : Bk) : flat (bs ++ [y]) = flat bs ++ [.int .i64 y.1, .int .i64 y.2] := by simp [flat]
theorem flat_get (bs : List Bk) : ∀ (i : Nat) (x : Bk), bs[i]? = some x → (flat bs)[i * 2]? = some (.int .i64 x.1) ∧ (flat bs)[i * 2 + 1]? = some (.int .i64 x.2) := by
  induction bs with
  | nil => intro i x h; simp at h
  | cons y bs ih =>
    intro i x h
    have e : flat (y :: bs) = .int .i64 y.1 :: .int .i64 y.2 :: flat bs := by simp [flat]
    cases i with
    | zero => simp at h; subst h; rw [e]; exact ⟨rfl, rfl⟩
    | succ i =>
      obtain ⟨h0, h1⟩ := ih i x (by simpa using h)
      rw [e, show (i + 1) * 2 = i * 2 + 1 + 1 by omega]
      exact ⟨by simpa using h0, by simpa using h1⟩
/-- A pool that the call has made: it lies in no block below B. -/
def Own (B : Nat) (W : World) (v : Value) (bs : List Bk) : Prop := W.ownsRow B 83 2 v bs.length (flat bs)
theorem own_nil (B : Nat) (W : World) : Own B W (.slice none 0 0) [] := World.ownsRow_nil W B _ 2
theorem grown_none {W W' : World} (hb : Below W.heap.size W W') : W.grownBy W' none := ⟨hb.os, hb.tape, hb.output, hb.size, fun k hk _ => hb.block k hk⟩
theorem Own.kept {B : Nat} {W W' : World} {v : Value} {bs : List Bk} (h : Own B W v bs) (hb : Below W.heap.size W W') : Own B W' v bs :=
  World.ownsRow.kept h (grown_none hb) (by cases v.ownBlock <;> simp)
theorem own_less {B B' : Nat} {W : World} {v : Value} {bs : List Bk} (hB : B ≤ B') (h : Own B' W v bs) : Own B W v bs := by
  refine ⟨h.1, ?_⟩
  rcases h.2 with h0 | ⟨g, cap, cur, hv, hb, r⟩
  · exact .inl h0
  · exact .inr ⟨g, cap, cur, hv, Nat.le_trans hB hb, r⟩
theorem add_at (g j : Nat) : (⟨g, 0, none⟩ : Addr).add j = ⟨g, 0 + j, none⟩ := by
  cases j <;> simp [Addr.add]
theorem Own.lies {B : Nat} {W : World} {v : Value} {bs : List Bk} (h : Own B W v bs) : ∃ a cap, v = polV a cap bs ∧ Lies W a cap bs := by
  rcases h.2 with ⟨rfl, h0⟩ | ⟨g, cap, cur, rfl, hb, hg, hn, hm, hs, htake⟩
  · have : bs = [] := List.eq_nil_of_length_eq_zero h0
    subst this
    exact ⟨none, 0, rfl, lies_nil W⟩
  · refine ⟨some ⟨g, 0, none⟩, cap, rfl, hm, hn, fun _ => ⟨g, 0, rfl, fun i x hi => ?_⟩⟩
    have hc := World.ownsRow.cells h (g := g) rfl
    obtain ⟨h0, h1⟩ := flat_get bs i x hi
    have c0 := hc _ _ h0
    have c1 := hc _ _ h1
    rw [add_at] at c0 c1
    exact ⟨c0, c1⟩

theorem info_bk : (Tryz.prog.info? 83).map (fun i => (i.zero, i.size, i.bytes)) = some (some (.agg #[.int .i64 0, .int .i64 0]), 2, 16) := by kernel_rfl
/-- One backend more: the walk's step at 'out = append(out, b)'. -/
theorem wpList_more {w : World} {ops : Array Oper} {rest : List Oper} {o : Oper} {a : Act} {Q : Exit → Act → World → Prop} (hgd : o.guard = none) (s x : Operand)
    (ho : o.op = .call { callee := .builtin .append, args := #[s, x], argTypes := #[32, 32] }) (B g : Nat) (bs : List Bk) (y : Bk) (v : Value) (hs : a.eval s = v) (hx : a.eval x = .slice (some ⟨g, 0, none⟩) 1 1)
    (hown : Own B w v bs) (c0 : w.cell? ⟨g, 0, none⟩ = some (.int .i64 y.1)) (c1 : w.cell? ⟨g, 1, none⟩ = some (.int .i64 y.2)) (hl : bs.length ≤ 8796093022207) (hB : B ≤ w.heap.size)
    (h : ∀ v' w', Hid (Own B w' v' (bs ++ [y])) → Hid (Below B w w') → wpList Tryz.prog ops Q rest (a.put o.dst v') w') : wpList Tryz.prog ops Q (o :: rest) a w := by
  obtain ⟨i0, hi, hz0, hz1, hz2⟩ := info_parts info_bk
  refine wpList_append_own _ hgd s x 32 ho B 83 i0 (.agg #[.int .i64 0, .int .i64 0]) 2 16 Tryz.underlying32 hi hz0 hz1 hz2 rfl (by decide) v bs.length (flat bs) hs hown ⟨g, 0, none⟩ 1 1 [.int .i64 y.1, .int .i64 y.2] hx rfl ?c1 ?c2 ?c3 ?c4 hB ?_
  case c1 =>
    intro j u hj
    match j, hj with
    | 0, hj => simp at hj; subst hj; simpa [Addr.add] using c0
    | 1, hj => simp at hj; subst hj; simpa [Addr.add] using c1
  case c2 => intro u hu; simp at hu; rcases hu with rfl | rfl <;> rfl
  case c3 => unfold maxLen; omega
  case c4 => omega
  intro v' w' h1 h2 _
  refine h v' w' ?_ ?_
  · show Own B w' v' (bs ++ [y])
    unfold Own
    rw [flat_more, List.length_append]
    exact h1
  · exact (Below.refl B w).grown h2 hB (fun k hk => (World.ownsRow.lt hown k hk).1)

/-- A pool without all backends of an Id. -/
def without (bs : List Bk) (id : Int) : List Bk := bs.filter fun x => x.1 != id
theorem take_more (bs : List Bk) (k : Nat) (hk : k < bs.length) : bs.take (k + 1) = bs.take k ++ [bs[k]] := by rw [List.take_succ_eq_append_getElem hk]
theorem without_le (bs : List Bk) (id : Int) (k : Nat) : (without (bs.take k) id).length ≤ bs.length := Nat.le_trans (List.length_filter_le _ _) (List.length_take_le' ..)
end Go.Proofs.YtbamodkgagcmnaaGreat.Pol

namespace Go.Proofs.YtbamodkgagcmnaaGreat.Pol
open Go.RowKit Go.Shelf Rgn

/-- A backend that may stand at a place of a pool. -/
def fine (bs : List Bk) (i : Nat) (x : Bk) : Prop := 1 ≤ x.1 ∧ x.1 ≤ 65535 ∧ 1 ≤ x.2 ∧ x.2 ≤ 16 ∧ find bs x.1 0 = i
/-- A pool that may be. -/
def chk (bs : List Bk) : Prop := bs.length ≤ 32 ∧ ∀ i x, bs[i]? = some x → fine bs i x
/-- What Check tells. -/
def chkV (c : Bool) : Value := match c with
  | true => .int .i64 0
  | false => .int .i64 10
end Go.Proofs.YtbamodkgagcmnaaGreat.Pol

namespace Go.Proofs.YtbamodkgagcmnaaGreat.Pol
open Go.RowKit Go.Shelf Rgn

/-- A pool with a backend: instead of the first of its Id, or behind all. -/
def with_ : List Bk → Bk → List Bk
  | [], y => [y]
  | x :: bs, y => if x.1 = y.1 then y :: bs else x :: with_ bs y
/-- y instead of what stands at a place, counted from m on. -/
def inst (p : Int) (y : Bk) : Nat → List Bk → List Bk
  | _, [] => []
  | m, x :: bs => (if (m : Int) = p then y else x) :: inst p y (m + 1) bs
theorem inst_length (p : Int) (y : Bk) (bs : List Bk) : ∀ m, (inst p y m bs).length = bs.length := by
  induction bs with
  | nil => intro m; rfl
  | cons x bs ih => intro m; simp [inst, ih]
theorem inst_more (p : Int) (y x : Bk) (bs : List Bk) : ∀ m, inst p y m (bs ++ [x]) = inst p y m bs ++ [if ((m + bs.length : Nat) : Int) = p then y else x] := by
  induction bs with
  | nil => intro m; rfl
  | cons z bs ih =>
    intro m
    simp only [List.cons_append, inst, ih (m + 1), List.length_cons]
    rw [show m + 1 + bs.length = m + (bs.length + 1) by omega]
theorem inst_past (p : Int) (y : Bk) (bs : List Bk) : ∀ m : Nat, p < (m : Int) → inst p y m bs = bs := by
  induction bs with
  | nil => intro m _; rfl
  | cons x bs ih =>
    intro m h
    simp only [inst]
    rw [if_neg (by omega), ih (m + 1) (by omega)]
theorem find_ge (bs : List Bk) (id : Int) : ∀ m, find bs id m = -1 ∨ (m : Int) ≤ find bs id m := by
  induction bs with
  | nil => intro m; exact .inl rfl
  | cons x bs ih =>
    intro m
    unfold find
    split
    · exact .inr (Int.le_refl _)
    · rcases ih (m + 1) with h | h
      · exact .inl h
      · exact .inr (by omega)
theorem with_eq (y : Bk) (bs : List Bk) : ∀ m, inst (find bs y.1 m) y m bs ++ (if find bs y.1 m < 0 then [y] else []) = with_ bs y := by
  induction bs with
  | nil => intro m; simp [inst, find, with_]
  | cons x bs ih =>
    intro m
    unfold with_
    by_cases h : x.1 = y.1
    · rw [if_pos h, show find (x :: bs) y.1 m = (m : Int) from if_pos h]
      simp only [inst]
      rw [if_pos trivial, inst_past _ _ _ _ (by omega), if_neg (by omega), List.append_nil]
    · rw [if_neg h, show find (x :: bs) y.1 m = find bs y.1 (m + 1) from if_neg h]
      have hg := find_ge bs y.1 (m + 1)
      simp only [inst]
      rw [if_neg (by omega), List.cons_append, ih (m + 1)]
end Go.Proofs.YtbamodkgagcmnaaGreat.Pol

namespace Go.Proofs.YtbamodkgagcmnaaGreat.Pol
open Go.RowKit Go.Shelf Rgn

/-- A backend among others, behind those of no greater Id. -/
def ins : List Bk → Bk → List Bk
  | [], y => [y]
  | x :: bs, y => if y.1 < x.1 then y :: x :: bs else x :: ins bs y
/-- In order. -/
def sorted (bs : List Bk) : List Bk := bs.foldl ins []
/-- Whether one of a greater Id stands among the first ones. -/
def seen (bs : List Bk) (y : Bk) : Bool := bs.any fun x => decide (y.1 < x.1)
/-- What put has laid behind some rounds. -/
def part (bs : List Bk) (y : Bk) : List Bk := if seen bs y then ins bs y else bs
theorem ins_seen (bs : List Bk) (y : Bk) (h : seen bs y = false) : ins bs y = bs ++ [y] := by
  induction bs with
  | nil => rfl
  | cons x bs ih =>
    simp only [seen, List.any_cons, Bool.or_eq_false_iff, decide_eq_false_iff_not] at h
    unfold ins
    rw [if_neg h.1, ih h.2, List.cons_append]
theorem ins_lt (x : Bk) (bs : List Bk) (y : Bk) (h : y.1 < x.1) : ins (x :: bs) y = y :: x :: bs := if_pos h
theorem ins_ge (x : Bk) (bs : List Bk) (y : Bk) (h : ¬ y.1 < x.1) : ins (x :: bs) y = x :: ins bs y := if_neg h
theorem ins_more (bs : List Bk) (y x : Bk) (h : seen bs y = true) : ins (bs ++ [x]) y = ins bs y ++ [x] := by
  induction bs with
  | nil => simp [seen] at h
  | cons z bs ih =>
    rw [List.cons_append]
    by_cases hz : y.1 < z.1
    · rw [ins_lt _ _ _ hz, ins_lt _ _ _ hz]; rfl
    · have h' : seen bs y = true := by simpa [seen, hz] using h
      rw [ins_ge _ _ _ hz, ins_ge _ _ _ hz, ih h']; rfl
theorem ins_hit (bs : List Bk) (y x : Bk) (h : seen bs y = false) (hx : y.1 < x.1) : ins (bs ++ [x]) y = bs ++ [y] ++ [x] := by
  induction bs with
  | nil => simp [ins, hx]
  | cons z bs ih =>
    simp only [seen, List.any_cons, Bool.or_eq_false_iff, decide_eq_false_iff_not] at h
    show ins (z :: (bs ++ [x])) y = _
    unfold ins; rw [if_neg h.1, ih h.2]; rfl
theorem seen_more (bs : List Bk) (y x : Bk) : seen (bs ++ [x]) y = (seen bs y || decide (y.1 < x.1)) := by simp [seen]
theorem part_done (bs : List Bk) (y x : Bk) (h : seen bs y = true) : part (bs ++ [x]) y = part bs y ++ [x] := by
  unfold part; rw [seen_more, h, Bool.true_or, if_pos rfl, if_pos rfl, ins_more bs y x h]
theorem part_hit (bs : List Bk) (y x : Bk) (h : seen bs y = false) (hx : y.1 < x.1) : part (bs ++ [x]) y = part bs y ++ [y] ++ [x] := by
  unfold part; rw [seen_more, h, decide_eq_true hx, Bool.false_or, if_pos rfl, if_neg (by simp), ins_hit bs y x h hx]
theorem part_not (bs : List Bk) (y x : Bk) (h : seen bs y = false) (hx : ¬ y.1 < x.1) : part (bs ++ [x]) y = part bs y ++ [x] := by
  unfold part; rw [seen_more, h, decide_eq_false hx, Bool.false_or, if_neg (by simp), if_neg (by simp)]
theorem part_length (bs : List Bk) (y : Bk) : (part bs y).length ≤ bs.length + 1 := by
  have hi : ∀ bs : List Bk, (ins bs y).length = bs.length + 1 := by
    intro bs
    induction bs with
    | nil => rfl
    | cons x bs ih => unfold ins; split <;> simp [ih]
  unfold part; split
  · rw [hi]; exact Nat.le_refl _
  · omega
end Go.Proofs.YtbamodkgagcmnaaGreat.Pol

namespace Go.Proofs.YtbamodkgagcmnaaGreat.Pol
open Go.RowKit Go.Shelf Rgn

theorem ins_length (bs : List Bk) (y : Bk) : (ins bs y).length = bs.length + 1 := by
  induction bs with
  | nil => rfl
  | cons x bs ih => unfold ins; split <;> simp [ih]
theorem sorted_more (bs : List Bk) (x : Bk) : sorted (bs ++ [x]) = ins (sorted bs) x := by simp [sorted]
theorem sorted_length (bs : List Bk) : (sorted bs).length = bs.length := by
  have h : ∀ (bs os : List Bk), (bs.foldl ins os).length = os.length + bs.length := by
    intro bs
    induction bs with
    | nil => intro os; rfl
    | cons x bs ih => intro os; rw [List.foldl_cons, ih, ins_length, List.length_cons]; omega
  unfold sorted; rw [h]; simp

/-- How two backends are compared. -/
theorem bk_cmp (x y : Bk) (c : Bool) (h : x = y ↔ c = true) (W : World) : (Op.equalIn 10000 83 (.agg #[.int .i64 x.1, .int .i64 x.2]) (.agg #[.int .i64 y.1, .int .i64 y.2])).run Tryz.prog W = .ok c W := by
  rw [Prod.ext_iff] at h
  go_simp
  cases c <;> (repeat' split) <;> simp_all
end Go.Proofs.YtbamodkgagcmnaaGreat.Pol

namespace Go.Proofs.YtbamodkgagcmnaaGreat.Pol
open Go.RowKit Go.Shelf Rgn

/-- The value of a slice of so many numbers. -/
abbrev intsV (a : Option Addr) (cap : Nat) (zs : List Int) : Value := .slice a zs.length cap
/-- These numbers lie there. -/
structure LiesI (W : World) (a : Option Addr) (cap : Nat) (zs : List Int) : Prop where
  max : cap ≤ maxLen
  len : zs.length ≤ cap
  cell : zs ≠ [] → ∃ b off, a = some ⟨b, off, none⟩ ∧ ∀ i x, zs[i]? = some x → W.cell? ⟨b, off + i, none⟩ = some (.int .i64 x)
theorem LiesI.kept {W W' : World} {a : Option Addr} {cap : Nat} {zs : List Int} (h : LiesI W a cap zs) (hb : Below W.heap.size W W') : LiesI W' a cap zs :=
  ⟨h.max, h.len, fun hn => by
    obtain ⟨b, off, e, hc⟩ := h.cell hn
    refine ⟨b, off, e, fun i x hi => ?_⟩
    have c0 := hc i x hi
    exact (hb.cell (p := ⟨b, off + i, none⟩) (World.block_lt_of_cell? W _ c0)).trans c0⟩
theorem LiesI.at {W : World} {a : Option Addr} {cap : Nat} {zs : List Int} (h : LiesI W a cap zs) {k : Nat} (hk : k < zs.length) : ∃ b off, a = some ⟨b, off, none⟩ ∧ W.cell? ⟨b, off + k, none⟩ = some (.int .i64 zs[k]) := by
  obtain ⟨b, off, e, hc⟩ := h.cell (fun e => by rw [e] at hk; exact absurd hk (by simp))
  exact ⟨b, off, e, hc k _ (List.getElem?_eq_getElem hk)⟩
/-- Numbers that the call has laid. -/
def OwnI (B : Nat) (W : World) (v : Value) (zs : List Int) : Prop := W.ownsRow B 3 1 v zs.length (zs.map fun z => .int .i64 z)
theorem ownI_nil (B : Nat) (W : World) : OwnI B W (.slice none 0 0) [] := World.ownsRow_nil W B _ 1
theorem OwnI.kept {B : Nat} {W W' : World} {v : Value} {zs : List Int} (h : OwnI B W v zs) (hb : Below W.heap.size W W') : OwnI B W' v zs :=
  World.ownsRow.kept h (grown_none hb) (by cases v.ownBlock <;> simp)
theorem ownI_less {B B' : Nat} {W : World} {v : Value} {zs : List Int} (hB : B ≤ B') (h : OwnI B' W v zs) : OwnI B W v zs := by
  refine ⟨h.1, ?_⟩
  rcases h.2 with h0 | ⟨g, cap, cur, hv, hb, r⟩
  · exact .inl h0
  · exact .inr ⟨g, cap, cur, hv, Nat.le_trans hB hb, r⟩
theorem OwnI.lies {B : Nat} {W : World} {v : Value} {zs : List Int} (h : OwnI B W v zs) : ∃ a cap, v = intsV a cap zs ∧ LiesI W a cap zs := by
  rcases h.2 with ⟨rfl, h0⟩ | ⟨g, cap, cur, rfl, hb, hg, hn, hm, hs, htake⟩
  · have : zs = [] := List.eq_nil_of_length_eq_zero h0
    subst this
    exact ⟨none, 0, rfl, by unfold maxLen; omega, Nat.le_refl _, fun h => absurd rfl h⟩
  · refine ⟨some ⟨g, 0, none⟩, cap, rfl, hm, hn, fun _ => ⟨g, 0, rfl, fun i x hi => ?_⟩⟩
    have c0 := World.ownsRow.cells h (g := g) rfl i (.int .i64 x) (by rw [List.getElem?_map, hi]; rfl)
    rw [add_at] at c0
    exact c0
theorem info_int : (Tryz.prog.info? 3).map (fun i => (i.zero, i.size, i.bytes)) = some (some (.int .i64 0), 1, 8) := by kernel_rfl
end Go.Proofs.YtbamodkgagcmnaaGreat.Pol

namespace Go.Proofs.YtbamodkgagcmnaaGreat.Pol
open Go.RowKit Go.Shelf Rgn

/-- The Id of the last one. -/
def lastId (t : List Bk) : Option Int := t.getLast?.map (·.1)
/-- Is x's Id told behind t? -/
def tells (bs' : List Bk) (t : List Bk) (x : Bk) : Bool := decide (find bs' x.1 0 < 0) && decide (lastId t ≠ some x.1)
/-- The Ids of a row in order that are none of bs', each once. -/
def gonL (bs' : List Bk) (t : List Bk) : List Bk → List Int
  | [] => []
  | x :: s => (if tells bs' t x then [x.1] else []) ++ gonL bs' (t ++ [x]) s
def gone (bs bs' : List Bk) : List Int := gonL bs' [] (sorted bs)
theorem gonL_more (bs' : List Bk) (x : Bk) (s : List Bk) : ∀ t, gonL bs' t (s ++ [x]) = gonL bs' t s ++ (if tells bs' (t ++ s) x then [x.1] else []) := by
  induction s with
  | nil => intro t; simp [gonL]
  | cons y s ih =>
    intro t
    rw [List.cons_append]
    unfold gonL
    rw [ih, List.append_assoc, List.append_assoc]; rfl
theorem gonL_length (bs' : List Bk) (s : List Bk) : ∀ t, (gonL bs' t s).length ≤ s.length := by
  induction s with
  | nil => intro t; exact Nat.le_refl _
  | cons y s ih =>
    intro t
    unfold gonL
    rw [List.length_append, List.length_cons]
    have := ih (t ++ [y])
    split
    · rw [List.length_singleton]; omega
    · simp; omega
theorem lastId_take (s : List Bk) (j : Nat) (h : j < s.length) : lastId (s.take (j + 1)) = some s[j].1 := by
  unfold lastId
  rw [List.take_succ_eq_append_getElem h, List.getLast?_append]
  rfl
end Go.Proofs.YtbamodkgagcmnaaGreat.Pol

namespace Go.Proofs.YtbamodkgagcmnaaGreat.Pol

/-! ### find -/
theorem find_cases (id : Int) (bs : List Bk) : ∀ m, (find bs id m = -1 ∧ ∀ x ∈ bs, x.1 ≠ id) ∨ ∃ k x, find bs id m = ((m + k : Nat) : Int) ∧ bs[k]? = some x ∧ x.1 = id ∧ ∀ j y, j < k → bs[j]? = some y → y.1 ≠ id := by
  induction bs with
  | nil => intro m; exact .inl ⟨rfl, fun x hx => by cases hx⟩
  | cons x bs ih =>
    intro m
    by_cases h : x.1 = id
    · exact .inr ⟨0, x, by unfold find; rw [if_pos h]; rfl, rfl, h, fun j y hj => absurd hj (by omega)⟩
    · have e : find (x :: bs) id m = find bs id (m + 1) := if_neg h
      rcases ih (m + 1) with ⟨h1, h2⟩ | ⟨k, y, h1, h2, h3, h4⟩
      · exact .inl ⟨e.trans h1, fun y hy => by rcases List.mem_cons.1 hy with rfl | hy; exact h; exact h2 y hy⟩
      · refine .inr ⟨k + 1, y, ?_, by simpa using h2, h3, fun j z hj hz => ?_⟩
        · rw [e, h1]; congr 1; omega
        · cases j with
          | zero => simp at hz; subst hz; exact h
          | succ j => exact h4 j z (by omega) (by simpa using hz)
theorem find_neg (bs : List Bk) (id : Int) : find bs id 0 < 0 ↔ ∀ x ∈ bs, x.1 ≠ id := by
  rcases find_cases id bs 0 with ⟨h1, h2⟩ | ⟨k, x, h1, h2, h3, _⟩
  · rw [h1]; exact ⟨fun _ => h2, fun _ => by omega⟩
  · rw [h1]; exact ⟨fun h => absurd h (by omega), fun h => absurd h3 (h x (List.mem_of_getElem? h2))⟩
theorem find_pos (bs : List Bk) (id : Int) : 0 ≤ find bs id 0 ↔ ∃ x ∈ bs, x.1 = id := by
  constructor
  · intro h
    rcases find_cases id bs 0 with ⟨h1, _⟩ | ⟨k, x, _, h2, h3, _⟩
    · omega
    · exact ⟨x, List.mem_of_getElem? h2, h3⟩
  · rintro ⟨x, hx, e⟩
    rcases Int.lt_or_le (find bs id 0) 0 with h | h
    · exact absurd e ((find_neg bs id).1 h x hx)
    · exact h
theorem find_is (bs : List Bk) (id : Int) (h : 0 ≤ find bs id 0) : ∃ (k : Nat) (x : Bk), find bs id 0 = (k : Int) ∧ k < bs.length ∧ bs[k]? = some x ∧ x.1 = id := by
  rcases find_cases id bs 0 with ⟨h1, _⟩ | ⟨k, x, h1, h2, h3, _⟩
  · omega
  · exact ⟨k, x, by rw [h1, Nat.zero_add], (List.getElem?_eq_some_iff.1 h2).1, h2, h3⟩
/-- The first backend of an Id. -/
def first (bs : List Bk) (id : Int) : Option Bk := bs.find? fun x => x.1 == id
theorem find_first (bs : List Bk) (id : Int) (k : Nat) (h : find bs id 0 = (k : Int)) : first bs id = bs[k]? := by
  rcases find_cases id bs 0 with ⟨h1, _⟩ | ⟨k', x, h1, h2, h3, h4⟩
  · omega
  · obtain rfl : k = k' := by omega
    rw [h2]
    unfold first
    rw [List.find?_eq_some_iff_getElem]
    obtain ⟨hk, he⟩ := List.getElem?_eq_some_iff.1 h2
    refine ⟨by simp [h3], k, hk, he, fun j hj => ?_⟩
    have := h4 j bs[j] hj (List.getElem?_eq_getElem (by omega))
    simpa using this

/-! ### Check -/
def rng (x : Bk) : Prop := 1 ≤ x.1 ∧ x.1 ≤ 65535 ∧ 1 ≤ x.2 ∧ x.2 ≤ 16
theorem nodup_find (bs : List Bk) : (bs.map (·.1)).Nodup ↔ ∀ (i : Nat) (x : Bk), bs[i]? = some x → find bs x.1 0 = (i : Int) := by
  constructor
  · intro hn i x hi
    rcases find_cases x.1 bs 0 with ⟨_, h2⟩ | ⟨k, y, h1, h2, h3, _⟩
    · exact absurd rfl (h2 x (List.mem_of_getElem? hi))
    · have : k = i := by
        have a1 : (bs.map (·.1))[k]? = some x.1 := by rw [List.getElem?_map, h2]; simp [h3]
        have a2 : (bs.map (·.1))[i]? = some x.1 := by rw [List.getElem?_map, hi]; rfl
        have hk := (List.getElem?_eq_some_iff.1 a1).1
        exact (List.getElem?_inj hk hn).1 (a1.trans a2.symm)
      rw [h1, this, Nat.zero_add]
  · intro h
    show List.Pairwise _ _
    rw [List.pairwise_iff_getElem]
    intro i j hi hj hij he
    have hi' : i < bs.length := by simpa using hi
    have hj' : j < bs.length := by simpa using hj
    rw [List.getElem_map, List.getElem_map] at he
    have f1 := h i _ (List.getElem?_eq_getElem hi')
    have f2 := h j _ (List.getElem?_eq_getElem hj')
    rw [he] at f1
    omega
theorem chk_iff (bs : List Bk) : chk bs ↔ bs.length ≤ 32 ∧ (∀ x ∈ bs, rng x) ∧ (bs.map (·.1)).Nodup := by
  constructor
  · rintro ⟨h1, h2⟩
    refine ⟨h1, fun x hx => ?_, (nodup_find bs).2 fun i x hi => (h2 i x hi).2.2.2.2⟩
    obtain ⟨i, hi⟩ := List.getElem?_of_mem hx
    obtain ⟨a, b, c, d, _⟩ := h2 i x hi
    exact ⟨a, b, c, d⟩
  · rintro ⟨h1, h2, h3⟩
    refine ⟨h1, fun i x hi => ?_⟩
    obtain ⟨a, b, c, d⟩ := h2 x (List.mem_of_getElem? hi)
    exact ⟨a, b, c, d, (nodup_find bs).1 h3 i x hi⟩

/-! ### With -/
theorem with_mem (y : Bk) (bs : List Bk) : y ∈ with_ bs y := by
  induction bs with
  | nil => simp [with_]
  | cons x bs ih => unfold with_; split <;> simp [ih]
theorem with_first (y : Bk) (bs : List Bk) : first (with_ bs y) y.1 = some y := by
  induction bs with
  | nil => simp [with_, first]
  | cons x bs ih =>
    unfold with_
    split
    · simp [first]
    · rename_i h
      unfold first at *
      rw [List.find?_cons, show (x.1 == y.1) = false from beq_false_of_ne h]
      exact ih
theorem with_found (y : Bk) (bs : List Bk) : ∃ k : Nat, find (with_ bs y) y.1 0 = (k : Int) ∧ k < (with_ bs y).length ∧ (with_ bs y)[k]? = some y := by
  obtain ⟨k, x, h1, h2, h3, _⟩ := find_is (with_ bs y) y.1 ((find_pos _ _).2 ⟨y, with_mem y bs, rfl⟩)
  refine ⟨k, h1, h2, ?_⟩
  rw [← find_first _ _ k h1, with_first]
theorem with_other (y : Bk) (bs : List Bk) (id : Int) (h : id ≠ y.1) : (∃ x ∈ with_ bs y, x.1 = id) ↔ ∃ x ∈ bs, x.1 = id := by
  induction bs with
  | nil => simp [with_]; exact fun e => h e.symm
  | cons x bs ih =>
    unfold with_
    split
    · rename_i e
      simp only [List.mem_cons, exists_eq_or_imp]
      constructor
      · rintro (h1 | h1)
        · exact absurd h1.symm h
        · exact .inr h1
      · rintro (h1 | h1)
        · exact absurd (h1.symm.trans e) h
        · exact .inr h1
    · simp only [List.mem_cons, exists_eq_or_imp, ih]
theorem with_twice (y : Bk) (bs : List Bk) : with_ (with_ bs y) y = with_ bs y := by
  induction bs with
  | nil => simp [with_]
  | cons x bs ih =>
    by_cases h : x.1 = y.1
    · rw [show with_ (x :: bs) y = y :: bs from if_pos h]; exact if_pos rfl
    · rw [show with_ (x :: bs) y = x :: with_ bs y from if_neg h, show with_ (x :: with_ bs y) y = x :: with_ (with_ bs y) y from if_neg h, ih]
theorem with_length (y : Bk) (bs : List Bk) : (with_ bs y).length ≤ bs.length + 1 := by
  induction bs with
  | nil => simp [with_]
  | cons x bs ih => unfold with_; split <;> simp; omega
theorem with_all (y : Bk) (bs : List Bk) (P : Bk → Prop) (h : ∀ x ∈ bs, P x) : (∀ x ∈ with_ bs y, P x) ↔ P y := by
  constructor
  · intro h1; exact h1 y (with_mem y bs)
  · intro hy
    induction bs with
    | nil => simpa [with_] using hy
    | cons x bs ih =>
      unfold with_
      split
      · intro z hz; rcases List.mem_cons.1 hz with rfl | hz
        · exact hy
        · exact h z (List.mem_cons_of_mem _ hz)
      · intro z hz; rcases List.mem_cons.1 hz with rfl | hz
        · exact h _ (List.mem_cons_self ..)
        · exact ih (fun w hw => h w (List.mem_cons_of_mem _ hw)) z hz
theorem with_nodup (y : Bk) (bs : List Bk) (h : (bs.map (·.1)).Nodup) : ((with_ bs y).map (·.1)).Nodup := by
  induction bs with
  | nil => simp [with_]
  | cons x bs ih =>
    rw [List.map_cons, List.nodup_cons] at h
    unfold with_
    split
    · rename_i e
      rw [List.map_cons, List.nodup_cons, ← e]; exact h
    · rename_i e
      rw [List.map_cons, List.nodup_cons]
      refine ⟨fun hm => h.1 ?_, ih h.2⟩
      obtain ⟨z, hz, he⟩ := List.mem_map.1 hm
      obtain ⟨z', hz', he'⟩ := (with_other y bs x.1 e).1 ⟨z, hz, he⟩
      exact List.mem_map.2 ⟨z', hz', he'⟩
theorem with_chk (y : Bk) (bs : List Bk) (h : chk bs) : chk (with_ bs y) ↔ rng y ∧ (with_ bs y).length ≤ 32 := by
  obtain ⟨_, h2, h3⟩ := (chk_iff bs).1 h
  rw [chk_iff, with_all y bs rng h2]
  exact ⟨fun ⟨a, b, _⟩ => ⟨b, a⟩, fun ⟨a, b⟩ => ⟨b, a, with_nodup y bs h3⟩⟩

/-! ### Without -/
theorem without_none (bs : List Bk) (id : Int) : find (without bs id) id 0 = -1 := by
  rcases find_cases id (without bs id) 0 with ⟨h1, _⟩ | ⟨k, x, _, h2, h3, _⟩
  · exact h1
  · have := List.mem_filter.1 (List.mem_of_getElem? h2)
    simp [h3] at this
theorem without_other (bs : List Bk) (id other : Int) (h : id ≠ other) : (∃ x ∈ without bs id, x.1 = other) ↔ ∃ x ∈ bs, x.1 = other := by
  constructor
  · rintro ⟨x, hx, e⟩; exact ⟨x, (List.mem_filter.1 hx).1, e⟩
  · rintro ⟨x, hx, e⟩; exact ⟨x, List.mem_filter.2 ⟨hx, by simp [e]; exact fun h' => h h'.symm⟩, e⟩
theorem without_length (bs : List Bk) (id : Int) : (without bs id).length ≤ bs.length := List.length_filter_le ..
theorem without_twice (bs : List Bk) (id : Int) : without (without bs id) id = without bs id := by simp [without]
theorem without_chk (bs : List Bk) (id : Int) (h : chk bs) : chk (without bs id) := by
  obtain ⟨h1, h2, h3⟩ := (chk_iff bs).1 h
  refine (chk_iff _).2 ⟨Nat.le_trans (without_length bs id) h1, fun x hx => h2 x (List.mem_filter.1 hx).1, ?_⟩
  exact h3.sublist ((List.filter_sublist ..).map _)
theorem without_with (bs : List Bk) (y : Bk) : without (with_ bs y) y.1 = without bs y.1 := by
  induction bs with
  | nil => simp [with_, without]
  | cons x bs ih =>
    unfold without at *
    by_cases h : x.1 = y.1
    · rw [show with_ (x :: bs) y = y :: bs from if_pos h]; simp [h]
    · rw [show with_ (x :: bs) y = x :: with_ bs y from if_neg h, List.filter_cons, List.filter_cons, ih]
theorem with_with (bs : List Bk) (y c : Bk) (h : y.1 = c.1) : with_ (with_ bs y) c = with_ bs c := by
  induction bs with
  | nil => simp [with_, h]
  | cons x bs ih =>
    by_cases hx : x.1 = y.1
    · rw [show with_ (x :: bs) y = y :: bs from if_pos hx, show with_ (x :: bs) c = c :: bs from if_pos (hx.trans h)]; exact if_pos h
    · have hx' : ¬ x.1 = c.1 := by rw [← h]; exact hx
      rw [show with_ (x :: bs) y = x :: with_ bs y from if_neg hx, show with_ (x :: bs) c = x :: with_ bs c from if_neg hx', show with_ (x :: with_ bs y) c = x :: with_ (with_ bs y) c from if_neg hx', ih]
end Go.Proofs.YtbamodkgagcmnaaGreat.Pol

namespace Go.Proofs.YtbamodkgagcmnaaGreat.Pol

/-- It rises. -/
def Rises (s : List Bk) : Prop := s.Pairwise fun x y => x.1 ≤ y.1
theorem ins_perm (s : List Bk) (y : Bk) : (ins s y).Perm (y :: s) := by
  induction s with
  | nil => exact .refl _
  | cons x s ih =>
    unfold ins
    split
    · exact .refl _
    · exact (ih.cons x).trans (.swap y x s)
theorem ins_rises (s : List Bk) (y : Bk) (h : Rises s) : Rises (ins s y) := by
  induction s with
  | nil => simp [ins, Rises]
  | cons x s ih =>
    unfold Rises at h
    rw [List.pairwise_cons] at h
    unfold ins
    split
    · rename_i hx
      unfold Rises
      rw [List.pairwise_cons, List.pairwise_cons]
      refine ⟨fun z hz => ?_, h⟩
      rcases List.mem_cons.1 hz with rfl | hz
      · omega
      · have := h.1 z hz; omega
    · rename_i hx
      unfold Rises
      rw [List.pairwise_cons]
      refine ⟨fun z hz => ?_, ih h.2⟩
      rcases List.mem_cons.1 ((ins_perm s y).mem_iff.1 hz) with rfl | hz
      · omega
      · exact h.1 z hz
theorem ins_first (s : List Bk) (y : Bk) (id : Int) (h : Rises s) : first (ins s y) id = first (s ++ [y]) id := by
  induction s with
  | nil => rfl
  | cons x s ih =>
    unfold Rises at h
    rw [List.pairwise_cons] at h
    unfold ins
    split
    · rename_i hx
      unfold first
      by_cases hy : y.1 = id
      · have hn : s.find? (fun z => z.1 == id) = none := by
          rw [List.find?_eq_none]
          intro z hz
          have := h.1 z hz
          simp; omega
        rw [List.find?_cons_of_pos (by simp [hy]), List.cons_append, List.find?_cons_of_neg (by simp; omega), List.find?_append, hn]
        simp [hy]
      · rw [List.find?_cons_of_neg (by simp [hy]), List.find?_append]
        simp [hy]
    · have e := ih h.2
      unfold first at *
      rw [List.find?_cons, List.cons_append, List.find?_cons, e]
theorem fold_all (bs : List Bk) : ∀ s, Rises s → Rises (bs.foldl ins s) ∧ (bs.foldl ins s).Perm (s ++ bs) ∧ ∀ id, first (bs.foldl ins s) id = first (s ++ bs) id := by
  induction bs with
  | nil => intro s h; rw [List.append_nil]; exact ⟨h, .refl _, fun _ => rfl⟩
  | cons x bs ih =>
    intro s h
    obtain ⟨h1, h2, h3⟩ := ih (ins s x) (ins_rises s x h)
    refine ⟨h1, h2.trans ?_, fun id => ?_⟩
    · exact ((ins_perm s x).append_right bs).trans (List.perm_middle.symm)
    · rw [List.foldl_cons, h3 id, show s ++ x :: bs = (s ++ [x]) ++ bs by simp]
      have := ins_first s x id h
      unfold first at *
      rw [List.find?_append, List.find?_append, this]
theorem sorted_rises (bs : List Bk) : Rises (sorted bs) := (fold_all bs [] List.Pairwise.nil).1
theorem sorted_perm (bs : List Bk) : (sorted bs).Perm bs := (fold_all bs [] List.Pairwise.nil).2.1
theorem sorted_first (bs : List Bk) (id : Int) : first (sorted bs) id = first bs id := (fold_all bs [] List.Pairwise.nil).2.2 id
theorem sorted_mem (bs : List Bk) (id : Int) : (∃ x ∈ sorted bs, x.1 = id) ↔ ∃ x ∈ bs, x.1 = id :=
  ⟨fun ⟨x, hx, e⟩ => ⟨x, (sorted_perm bs).mem_iff.1 hx, e⟩, fun ⟨x, hx, e⟩ => ⟨x, (sorted_perm bs).mem_iff.2 hx, e⟩⟩
theorem sorted_chk (bs : List Bk) : chk (sorted bs) ↔ chk bs := by
  rw [chk_iff, chk_iff, sorted_length, ((sorted_perm bs).map (·.1)).nodup_iff]
  exact and_congr_right fun _ => and_congr_left fun _ => ⟨fun h x hx => h x ((sorted_perm bs).mem_iff.2 hx), fun h x hx => h x ((sorted_perm bs).mem_iff.1 hx)⟩
theorem fold_rises (t : List Bk) : ∀ s, Rises (s ++ t) → t.foldl ins s = s ++ t := by
  induction t with
  | nil => intro s _; simp
  | cons x t ih =>
    intro s h
    have hs : seen s x = false := by
      unfold seen
      rw [List.any_eq_false]
      intro z hz
      have := (List.pairwise_append.1 h).2.2 z hz x (List.mem_cons_self ..)
      simp; omega
    rw [List.foldl_cons, ins_seen s x hs, ih (s ++ [x]) (by simpa using h)]
    simp
theorem sorted_twice (bs : List Bk) : sorted (sorted bs) = sorted bs := fold_rises (sorted bs) [] (sorted_rises bs)

/-! ### Gone -/
theorem last_snoc (t : List Bk) (x : Bk) : lastId (t ++ [x]) = some x.1 := by unfold lastId; rw [List.getLast?_append]; rfl
theorem gonL_cons (bs' t : List Bk) (x : Bk) (s : List Bk) : gonL bs' t (x :: s) = (if tells bs' t x = true then [x.1] else []) ++ gonL bs' (t ++ [x]) s := rfl
theorem gonL_rises (bs' : List Bk) (s : List Bk) : ∀ t, Rises s → (∀ l, lastId t = some l → ∀ x ∈ s, l ≤ x.1) →
    (gonL bs' t s).Pairwise (· < ·) ∧ (∀ z ∈ gonL bs' t s, ∀ l, lastId t = some l → l < z) ∧ ∀ z, z ∈ gonL bs' t s ↔ (∃ x ∈ s, x.1 = z) ∧ find bs' z 0 < 0 ∧ lastId t ≠ some z := by
  induction s with
  | nil => intro t _ _; exact ⟨List.Pairwise.nil, fun z hz => (by cases hz), fun z => ⟨fun hz => (by cases hz), fun ⟨⟨x, hx, _⟩, _⟩ => (by cases hx)⟩⟩
  | cons x s ih =>
    intro t hr hl
    unfold Rises at hr
    rw [List.pairwise_cons] at hr
    obtain ⟨i1, i2, i3⟩ := ih (t ++ [x]) hr.2 (fun l e y hy => by rw [last_snoc] at e; cases e; exact hr.1 y hy)
    have i2' : ∀ z ∈ gonL bs' (t ++ [x]) s, x.1 < z := fun z hz => i2 z hz x.1 (last_snoc t x)
    have hm : ∀ z, z ∈ gonL bs' t (x :: s) ↔ (tells bs' t x = true ∧ z = x.1) ∨ z ∈ gonL bs' (t ++ [x]) s := by
      intro z
      rw [gonL_cons, List.mem_append]
      by_cases h : tells bs' t x = true
      · rw [if_pos h]; simp [h]
      · rw [if_neg h]; simp [h]
    have ht : tells bs' t x = true ↔ find bs' x.1 0 < 0 ∧ lastId t ≠ some x.1 := by unfold tells; rw [Bool.and_eq_true, decide_eq_true_eq, decide_eq_true_eq]
    refine ⟨?_, fun z hz l e => ?_, fun z => ?_⟩
    · rw [gonL_cons, List.pairwise_append]
      refine ⟨by split <;> simp, i1, fun a ha b hb => ?_⟩
      by_cases h : tells bs' t x = true
      · rw [if_pos h] at ha
        obtain rfl := List.mem_singleton.1 ha
        exact i2' b hb
      · rw [if_neg h] at ha; cases ha
    · have hx := hl l e x (List.mem_cons_self ..)
      rcases (hm z).1 hz with ⟨h1, rfl⟩ | h1
      · have := (ht.1 h1).2
        rw [e] at this
        have : l ≠ x.1 := fun h => this (by rw [h])
        omega
      · have := i2' z h1; omega
    · rw [hm, i3]
      constructor
      · rintro (⟨h1, rfl⟩ | ⟨⟨y, hy, e⟩, h2, h3⟩)
        · exact ⟨⟨x, List.mem_cons_self .., rfl⟩, ht.1 h1⟩
        · refine ⟨⟨y, List.mem_cons_of_mem _ hy, e⟩, h2, fun hlz => h3 ?_⟩
          have a := hl z hlz x (List.mem_cons_self ..)
          have b := hr.1 y hy
          rw [last_snoc]; congr 1; omega
      · rintro ⟨⟨y, hy, e⟩, h2, h3⟩
        by_cases hx : x.1 = z
        · exact .inl ⟨ht.2 ⟨by rw [hx]; exact h2, by rw [hx]; exact h3⟩, hx.symm⟩
        · refine .inr ⟨?_, h2, by rw [last_snoc]; intro h; cases h; exact hx rfl⟩
          rcases List.mem_cons.1 hy with rfl | hy
          · exact absurd e hx
          · exact ⟨y, hy, e⟩
theorem gone_rises (bs bs' : List Bk) : (gone bs bs').Pairwise (· < ·) := (gonL_rises bs' (sorted bs) [] (sorted_rises bs) (fun l e => by cases e)).1
theorem gone_mem (bs bs' : List Bk) (z : Int) : z ∈ gone bs bs' ↔ 0 ≤ find bs z 0 ∧ find bs' z 0 < 0 := by
  rw [find_pos, ← sorted_mem]
  have := (gonL_rises bs' (sorted bs) [] (sorted_rises bs) (fun l e => by cases e)).2.2 z
  rw [show gone bs bs' = gonL bs' [] (sorted bs) from rfl, this]
  exact ⟨fun ⟨a, b, _⟩ => ⟨a, b⟩, fun ⟨a, b⟩ => ⟨a, b, fun h => by cases h⟩⟩
theorem gone_self (bs : List Bk) : gone bs bs = [] := by
  rw [List.eq_nil_iff_forall_not_mem]
  intro z hz
  have := (gone_mem bs bs z).1 hz
  omega
theorem gone_length (bs bs' : List Bk) : (gone bs bs').length ≤ bs.length := by
  have := gonL_length bs' (sorted bs) []
  rwa [sorted_length] at this
end Go.Proofs.YtbamodkgagcmnaaGreat.Pol

namespace Go.Proofs.YtbamodkgagcmnaaGreat.Stp
open Go.ChangeShapes Go.WideShapes Go.RowKit Go.Deep Pol
variable {H : Type} {enc : TypeId × Value → H} {w : World} {base : Nat} {spare : Nat → Bool} {held : Bool}

theorem laidOut : laidOutB Tryz.prog = true := by kernel_rfl
/-- Each number of a backend fits an int. -/
def BkOk (x : Bk) : Prop := (Lit.int .i64 x.1).wf = true ∧ (Lit.int .i64 x.2).wf = true
set_option maxRecDepth 100000 in
theorem bk_under : ∃ f0 f1 : Field, Tryz.prog.underlying 83 = some (.struct #[f0, f1]) ∧ (f0.type = 3 ∧ f0.offset = 0) ∧ (f1.type = 3 ∧ f1.offset = 1) :=
  ⟨_, _, Tryz.underlying83, ⟨rfl, rfl⟩, ⟨rfl, rfl⟩⟩
theorem bk_size : Tryz.prog.cellsOf 83 = 2 := by kernel_rfl
theorem int_size : Tryz.prog.cellsOf 3 = 1 := by kernel_rfl

set_option maxRecDepth 100000 in
/-- A parameter that is a pool. -/
theorem open_pool {r : Reach} {b0 : Nat} {v : Value} {d : DataW H} {ps : List MemPlace} (hv : Value.okWide Tryz.prog w r b0 32 v) (h : DataW.Trod enc Tryz.prog w base spare held 32 v d ps) :
    ∃ (a : Option Addr) (cap : Nat) (bs : List Bk), v = polV a cap bs ∧ Lies w a cap bs ∧ ∀ x ∈ bs, BkOk x := by
  obtain ⟨f0, f1, hu, ⟨t0, o0⟩, ⟨t1, o1⟩⟩ := bk_under
  obtain ⟨a, len, cap, rfl⟩ := okWide_slice Tryz.underlying32 hv
  obtain ⟨fuel, hf⟩ := h
  rcases open_slice_pairs Tryz.underlying32 hu bk_size o0 o1 (by rw [t0]; exact int_size) (by rw [t1]; exact int_size) hf with ⟨hc, _⟩ | ⟨ad, l, c, m, n, V0, V1, D0, D1, P0, P1, hc, _, hl, hm, hmm, _, hall⟩
  · simp [Value.cells] at hc
    obtain ⟨rfl, rfl, rfl⟩ := hc
    exact ⟨none, 0, [], rfl, lies_nil w, fun x hx => by cases hx⟩
  · simp [Value.cells] at hc
    obtain ⟨rfl, rfl, rfl⟩ := hc
    have hlm : len ≤ m := by rw [hmm]; split <;> omega
    have each : ∀ i, i < len → ∃ x : Bk, V0 i = .int .i64 x.1 ∧ V1 i = .int .i64 x.2 ∧ BkOk x := by
      intro i hi
      obtain ⟨_, _, h0, h1⟩ := hall i (by omega)
      rw [t0] at h0
      rw [t1] at h1
      obtain ⟨x, e0, _, w0⟩ := DataW.trod_int Tryz.underlying3 h0
      obtain ⟨y, e1, _, w1⟩ := DataW.trod_int Tryz.underlying3 h1
      simp only [List.cons.injEq, and_true] at e0 e1
      exact ⟨(x, y), e0, e1, w0, w1⟩
    obtain ⟨q, hq⟩ := choose_lt each
    refine ⟨some ad, cap, (List.range len).map q, by simp [polV], ⟨hm, by simpa using hl, fun hne => ?_⟩, ?_⟩
    · have hpos : 0 < len := by
        cases len with
        | zero => simp at hne
        | succ k => omega
      obtain ⟨b, off, spot⟩ := ad
      have hspot : spot = none := by simpa [Addr.add] using World.cell?_spot (hall 0 (by omega)).1
      subst hspot
      refine ⟨b, off, rfl, fun i x hi => ?_⟩
      rw [List.getElem?_map] at hi
      cases hr : (List.range len)[i]? with
      | none => rw [hr] at hi; cases hi
      | some k =>
        rw [hr] at hi
        obtain ⟨hlt, hk⟩ := List.getElem?_eq_some_iff.1 hr
        rw [List.getElem_range] at hk
        subst hk
        simp at hi
        subst hi
        have hlt' : i < len := by simpa using hlt
        obtain ⟨c0, c1, _, _⟩ := hall i (by omega)
        obtain ⟨e0, e1, _⟩ := hq i hlt'
        rw [add_plain] at c0 c1
        exact ⟨c0.trans (by rw [e0]), by rw [← e1]; simpa [Nat.add_assoc] using c1⟩
    · intro x hx
      obtain ⟨i, hi, rfl⟩ := List.mem_map.1 hx
      exact (hq i (List.mem_range.1 hi)).2.2

set_option maxRecDepth 100000 in
/-- A parameter that is a backend. -/
theorem open_backend {r : Reach} {b0 : Nat} {v : Value} {d : DataW H} {ps : List MemPlace} (hv : Value.okWide Tryz.prog w r b0 83 v) (h : DataW.Trod enc Tryz.prog w base spare held 83 v d ps) :
    ∃ x : Bk, v = .agg #[.int .i64 x.1, .int .i64 x.2] ∧ BkOk x := by
  obtain ⟨f0, f1, hu, ⟨t0, o0⟩, ⟨t1, o1⟩⟩ := bk_under
  obtain ⟨cs, rfl, hz⟩ := okWide_struct hu hv
  obtain ⟨fuel, hf⟩ := h
  obtain ⟨y0, y1, n, hx, hl, g0, g1⟩ := trod_struct2 hu hf
  rw [t0, o0, int_size] at g0
  rw [t1, o1, int_size] at g1
  rw [bk_size] at hz
  obtain ⟨l⟩ := cs
  match l, hz with
  | [c0, c1], _ =>
    obtain ⟨x, e0, _, w0⟩ := DataW.trod_int Tryz.underlying3 g0
    obtain ⟨y, e1, _, w1⟩ := DataW.trod_int Tryz.underlying3 g1
    simp only [Value.cells, List.drop_zero, List.take_succ_cons, List.take_zero, List.cons.injEq, and_true] at e0
    simp only [Value.cells, List.drop_succ_cons, List.drop_zero, List.take_succ_cons, List.take_zero, List.cons.injEq, and_true] at e1
    subst e0 e1
    exact ⟨(x, y), rfl, w0, w1⟩
end Go.Proofs.YtbamodkgagcmnaaGreat.Stp
