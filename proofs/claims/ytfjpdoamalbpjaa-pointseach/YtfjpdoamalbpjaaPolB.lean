/-
  Pools that a call makes: one backend more is appended; the document's Without.
-/
import Derived.Test.YtfjpdoamalbpjaaPolA
import Derived.OwnWalk
namespace Go.Proofs.Ytfjpdoamalbpjaa.Pol
open Go.RowKit Go.Shelf Rgn

theorem below2 {w0 w1 w2 : World} (h1 : Below w0.heap.size w0 w1) (h2 : Below w1.heap.size w1 w2) : Below w0.heap.size w0 w2 := h1.trans (h2.mono h1.size)
theorem below_alloc (W : World) (o : Obj) : Below W.heap.size W (W.alloc o) := (Below.refl _ W).alloc (Nat.le_refl _) o
/-- The cells of a pool. -/
def flat (bs : List Bk) : List Value := bs.flatMap fun x => [.int .i64 x.1, .int .i64 x.2]
theorem flat_length (bs : List Bk) : (flat bs).length = bs.length * 2 := by
  induction bs with
  | nil => rfl
  | cons x bs ih => unfold flat at *; rw [List.flatMap_cons, List.length_append, ih]; simp; omega
theorem flat_more (bs : List Bk) (y : Bk) : flat (bs ++ [y]) = flat bs ++ [.int .i64 y.1, .int .i64 y.2] := by simp [flat]
theorem flat_get (bs : List Bk) : ∀ (i : Nat) (x : Bk), bs[i]? = some x → (flat bs)[i * 2]? = some (.int .i64 x.1) ∧ (flat bs)[i * 2 + 1]? = some (.int .i64 x.2) := by
  induction bs with
  | nil => intro i x h; simp at h
  | cons y bs ih =>
    intro i x h
    have e : flat (y :: bs) = .int .i64 y.1 :: .int .i64 y.2 :: flat bs := by simp [flat]
    cases i with
    | zero => simp at h; subst h; rw [e]; exact ⟨rfl, rfl⟩
    | succ i =>
      obtain ⟨h0, h1⟩ := ih i x (by simpa using h)
      rw [e, show (i + 1) * 2 = i * 2 + 1 + 1 by omega]
      exact ⟨by simpa using h0, by simpa using h1⟩
/-- A pool that the call has made: it lies in no block below B. -/
def Own (B : Nat) (W : World) (v : Value) (bs : List Bk) : Prop := W.ownsRow B 35 2 v bs.length (flat bs)
theorem own_nil (B : Nat) (W : World) : Own B W (.slice none 0 0) [] := World.ownsRow_nil W B _ 2
theorem grown_none {W W' : World} (hb : Below W.heap.size W W') : W.grownBy W' none := ⟨hb.os, hb.tape, hb.output, hb.size, fun k hk _ => hb.block k hk⟩
theorem Own.kept {B : Nat} {W W' : World} {v : Value} {bs : List Bk} (h : Own B W v bs) (hb : Below W.heap.size W W') : Own B W' v bs :=
  World.ownsRow.kept h (grown_none hb) (by cases v.ownBlock <;> simp)
theorem own_less {B B' : Nat} {W : World} {v : Value} {bs : List Bk} (hB : B ≤ B') (h : Own B' W v bs) : Own B W v bs := by
  refine ⟨h.1, ?_⟩
  rcases h.2 with h0 | ⟨g, cap, cur, hv, hb, r⟩
  · exact .inl h0
  · exact .inr ⟨g, cap, cur, hv, Nat.le_trans hB hb, r⟩
theorem add_at (g j : Nat) : (⟨g, 0, none⟩ : Addr).add j = ⟨g, 0 + j, none⟩ := by
  cases j <;> simp [Addr.add]
theorem Own.lies {B : Nat} {W : World} {v : Value} {bs : List Bk} (h : Own B W v bs) : ∃ a cap, v = polV a cap bs ∧ Lies W a cap bs := by
  rcases h.2 with ⟨rfl, h0⟩ | ⟨g, cap, cur, rfl, hb, hg, hn, hm, hs, htake⟩
  · have : bs = [] := List.eq_nil_of_length_eq_zero h0
    subst this
    exact ⟨none, 0, rfl, lies_nil W⟩
  · refine ⟨some ⟨g, 0, none⟩, cap, rfl, hm, hn, fun _ => ⟨g, 0, rfl, fun i x hi => ?_⟩⟩
    have hc := World.ownsRow.cells h (g := g) rfl
    obtain ⟨h0, h1⟩ := flat_get bs i x hi
    have c0 := hc _ _ h0
    have c1 := hc _ _ h1
    rw [add_at] at c0 c1
    exact ⟨c0, c1⟩

theorem info_bk : (Try.prog.info? 35).map (fun i => (i.zero, i.size, i.bytes)) = some (some (.agg #[.int .i64 0, .int .i64 0]), 2, 16) := by kernel_rfl
/-- One backend more: the walk's step at 'out = append(out, b)'. -/
theorem wpList_more {w : World} {ops : Array Oper} {rest : List Oper} {o : Oper} {a : Act} {Q : Exit → Act → World → Prop} (hgd : o.guard = none) (s x : Operand)
    (ho : o.op = .call { callee := .builtin .append, args := #[s, x], argTypes := #[22, 22] }) (B g : Nat) (bs : List Bk) (y : Bk) (v : Value) (hs : a.eval s = v) (hx : a.eval x = .slice (some ⟨g, 0, none⟩) 1 1)
    (hown : Own B w v bs) (c0 : w.cell? ⟨g, 0, none⟩ = some (.int .i64 y.1)) (c1 : w.cell? ⟨g, 1, none⟩ = some (.int .i64 y.2)) (hl : bs.length ≤ 1099511627776) (hB : B ≤ w.heap.size)
    (h : ∀ v' w', Hid (Own B w' v' (bs ++ [y])) → Hid (Below B w w') → wpList Try.prog ops Q rest (a.put o.dst v') w') : wpList Try.prog ops Q (o :: rest) a w := by
  obtain ⟨i0, hi, hz0, hz1, hz2⟩ := info_parts info_bk
  refine wpList_append_own _ hgd s x 22 ho B 35 i0 (.agg #[.int .i64 0, .int .i64 0]) 2 16 Try.underlying22 hi hz0 hz1 hz2 rfl (by decide) v bs.length (flat bs) hs hown ⟨g, 0, none⟩ 1 1 [.int .i64 y.1, .int .i64 y.2] hx rfl ?c1 ?c2 ?c3 ?c4 hB ?_
  case c1 =>
    intro j u hj
    match j, hj with
    | 0, hj => simp at hj; subst hj; simpa [Addr.add] using c0
    | 1, hj => simp at hj; subst hj; simpa [Addr.add] using c1
  case c2 => intro u hu; simp at hu; rcases hu with rfl | rfl <;> rfl
  case c3 => unfold maxLen; omega
  case c4 => omega
  intro v' w' h1 h2 _
  refine h v' w' ?_ ?_
  · show Own B w' v' (bs ++ [y])
    unfold Own
    rw [flat_more, List.length_append]
    exact h1
  · exact (Below.refl B w).grown h2 hB (fun k hk => (World.ownsRow.lt hown k hk).1)

/-- A pool without all backends of an Id. -/
def without (bs : List Bk) (id : Int) : List Bk := bs.filter fun x => x.1 != id
theorem take_more (bs : List Bk) (k : Nat) (hk : k < bs.length) : bs.take (k + 1) = bs.take k ++ [bs[k]] := by rw [List.take_succ_eq_append_getElem hk]
theorem without_le (bs : List Bk) (id : Int) (k : Nat) : (without (bs.take k) id).length ≤ bs.length := Nat.le_trans (List.length_filter_le _ _) (List.length_take_le' ..)
end Go.Proofs.Ytfjpdoamalbpjaa.Pol
