/-
  A region that draws its order, by one invariant: whatever may come up keeps it, so no order is gone through by itself.
-/
import Derived.WalkKit
import Derived.RangeFuncNested
import Derived.RegionTactic
import Derived.Lib.Hide
namespace Go.Proofs.Ythokjkllmflgkaa.Rgn
open Go Go.RowKit

/-- One more is done. -/
def upd (d : Nat → Bool) (i : Nat) : Nat → Bool := fun j => if j = i then true else d j
theorem upd_same (d : Nat → Bool) (i : Nat) : upd d i i = true := if_pos rfl
theorem upd_other (d : Nat → Bool) {i j : Nat} (h : j ≠ i) : upd d i j = d j := if_neg h
/-- One value more is there. -/
def upv {α : Type} (x : Nat → α) (i : Nat) (v : α) : Nat → α := fun j => if j = i then v else x j
theorem upv_same {α : Type} (x : Nat → α) (i : Nat) (v : α) : upv x i v i = v := if_pos rfl
theorem upv_other {α : Type} (x : Nat → α) {i j : Nat} (v : α) (h : j ≠ i) : upv x i v j = x j := if_neg h

/-- Each operation waits for such alone as stand ahead of it. -/
def ahead (md : Region.Mode) (ops : Array Oper) : Bool :=
  (List.range ops.size).all fun i => ((ops[i]?).map (·.after.all fun e => !Region.binds md e || decide (e.on < i))).getD true

section
variable {P : Program} {ops : Array Oper} {Q : Exit → Act → World → Prop} {md : Region.Mode}

theorem ahead_of (h : ahead md ops = true) {i : Nat} {o : Oper} (ho : ops[i]? = some o) : ∀ e ∈ o.after, Region.binds md e = true → e.on < i := by
  intro e he hb
  have hi : i < ops.size := (Array.getElem?_eq_some_iff.1 ho).1
  have h1 := List.all_eq_true.1 h i (List.mem_range.2 hi)
  simp only [ho, Option.map_some, Option.getD_some] at h1
  have h2 := Array.all_eq_true_iff_forall_mem.1 h1 e he
  simpa [hb] using h2

theorem getD_false_lt {l : Array Bool} {j : Nat} (h : l.getD j false = true) : j < l.size := by
  rcases Nat.lt_or_ge j l.size with h' | h'
  · exact h'
  · simp [Array.getElem?_eq_none h'] at h

theorem all_listed (ha : ahead md ops = true) {l : Array Bool} (hsz : l.size = ops.size) (hr : Region.ready md ops l = []) : ∀ i, i < ops.size → l.getD i false = true := by
  intro i
  induction i using Nat.strongRecOn with
  | _ i ih =>
    intro hi
    cases hb : l.getD i false with
    | true => rfl
    | false =>
      exfalso
      have ho : ops[i]? = some ops[i] := Array.getElem?_eq_getElem hi
      have hm : i ∈ Region.ready md ops l := mem_ready.2 ⟨by simpa [hsz, hi] using hb, _, ho, fun e he hbd => by
        have hlt := ahead_of ha ho e he hbd
        exact ih e.on hlt (by omega)⟩
      rw [hr] at hm; cases hm

theorem count_set {l : List Bool} {i : Nat} (h : l[i]? = some false) : (l.set i true).count false + 1 = l.count false := by
  induction l generalizing i with
  | nil => simp at h
  | cons b l ih =>
    cases i with
    | zero => simp at h; subst h; simp
    | succ i =>
      have h1 : l[i]? = some false := by simpa using h
      have := ih h1
      simp only [List.set_cons_succ, List.count_cons]
      omega

theorem wpAny_inv (I : (Nat → Bool) → Act → World → Prop) (ha : ahead md ops = true)
    (hstep : ∀ d a w i o, ops[i]? = some o → d i = false → (∀ e ∈ o.after, Region.binds md e = true → d e.on = true) → I d a w → wpOp P ops Q i (fun a' w' => I (upd d i) a' w') a w)
    (hdone : ∀ d a w, (∀ i, i < ops.size → d i = true) → I d a w → Q .normal a w) :
    ∀ (fuel : Nat) (l : Array Bool) (d : Nat → Bool) (a : Act) (w : World), l.size = ops.size → (∀ j, j < ops.size → d j = l.getD j false) → l.toList.count false ≤ fuel → I d a w → wpAny P md ops Q fuel l a w := by
  intro fuel
  induction fuel with
  | zero =>
    intro l d a w hsz hd hc hI
    have hno : ∀ j, j < ops.size → l.getD j false = true := by
      intro j hj
      cases hb : l.getD j false with
      | true => rfl
      | false =>
        exfalso
        have hm : false ∈ l.toList := by
          have : l.toList[j]? = some false := by
            rw [Array.getElem?_toList]; simp [hsz ▸ hj] at hb ⊢; exact hb
          exact List.mem_of_getElem? this
        have := List.count_pos_iff.2 hm
        omega
    refine ⟨?_, hdone d a w (fun i hi => (hd i hi).trans (hno i hi)) hI⟩
    cases hr : Region.ready md ops l with
    | nil => rfl
    | cons x xs =>
      exfalso
      have hm : x ∈ Region.ready md ops l := by rw [hr]; simp
      obtain ⟨h0, o, ho, _⟩ := mem_ready.1 hm
      have hx : x < ops.size := (Array.getElem?_eq_some_iff.1 ho).1
      have h1 := hno x hx
      simp [hsz, hx] at h0 h1
      rw [h0] at h1; cases h1
  | succ fuel ih =>
    intro l d a w hsz hd hc hI
    refine ⟨fun hr => hdone d a w (fun i hi => (hd i hi).trans (all_listed ha hsz hr i hi)) hI, fun i hi => ?_⟩
    obtain ⟨h0, o, ho, hall⟩ := mem_ready.1 hi
    have hx : i < ops.size := (Array.getElem?_eq_some_iff.1 ho).1
    have hl : l.toList[i]? = some false := by
      rw [Array.getElem?_toList]; simp [hsz, hx] at h0 ⊢; exact h0
    have hdi : d i = false := by rw [hd i hx]; simp [hsz, hx] at h0 ⊢; exact h0
    refine wpOp_mono (fun a' w' hI' => ih _ (upd d i) a' w' (by simpa using hsz) (fun j hj => ?_) ?_ hI') (hstep d a w i o ho hdi (fun e he hb => ?_) hI)
    · by_cases hji : j = i
      · subst hji; rw [upd_same]; simp [hsz, hx]
      · rw [upd_other d hji, getD_set_ne false (Ne.symm hji)]; exact hd j hj
    · have := count_set hl
      rw [Array.toList_setIfInBounds]; omega
    · have h1 := hall e he hb
      have h2 := getD_false_lt h1
      rw [hd e.on (by omega)]; exact h1

/-- Whether operation i waits for operation j. -/
def waits (md : Region.Mode) (ops : Array Oper) (i j : Nat) : Bool := ((ops[i]?).map (·.after.any fun e => Region.binds md e && e.on == j)).getD false

/-- A region that draws, by its invariant. -/
theorem wp_region_inv {id : Nat} {a : Act} {w : World} (I : (Nat → Bool) → Act → World → Prop) (hm : P.follows .mixedOrders = true) (ha : ahead .any ops = true)
    (hstep : ∀ d a w i, i < ops.size → d i = false → (∀ j, waits .any ops i j = true → d j = true) → I d a w → wpOp P ops Q i (fun a' w' => I (upd d i) a' w') a w)
    (hdone : ∀ d a w, (∀ i, i < ops.size → d i = true) → I d a w → Q .normal a w)
    (hI : I (fun _ => false) a w.drew) : (Code.region id ops true).wp P Q a w := by
  refine wp_region_any hm (wpAny_inv I ha (fun d a w i o ho hd hall h => ?_) hdone ops.size _ (fun _ => false) a _ (by simp) (fun j hj => by simp [hj]) (by simp) hI)
  refine hstep d a w i (Array.getElem?_eq_some_iff.1 ho).1 hd (fun j hj => ?_) h
  unfold waits at hj
  simp only [ho, Option.map_some, Option.getD_some] at hj
  obtain ⟨n, hn, hb⟩ := Array.any_eq_true.1 hj
  rw [Bool.and_eq_true, beq_iff_eq] at hb
  obtain ⟨h1, rfl⟩ := hb
  exact hall _ (Array.getElem_mem hn) h1
end

/-- The invariant of 'x, y, .. := e, f, ..' where the variables are boxes: operations below m only yield (a call may lay blocks), the next k make the boxes, the last k lay what was yielded into them. -/
structure Inv (m k : Nat) (W : World) (ty : Nat → TypeId) (zero val vals : Nat → Value) (d : Nat → Bool) (x : Nat → Value) (b : Nat → Nat) (w : World) : Prop where
  below : Below W.heap.size W w
  pure : ∀ i, i < m → d i = true → x i = vals i
  order : ∀ i, m ≤ i → i < m + k → d (i + k) = true → d i = true
  cell : ∀ i, m ≤ i → i < m + k → d i = true → x i = .pointer (some ⟨b i, 0, none⟩) ∧ W.heap.size ≤ b i ∧ Boxed w (b i) (ty i) (if d (i + k) = true then val i else zero i)
  apart : ∀ i j, m ≤ i → i < m + k → m ≤ j → j < m + k → d i = true → d j = true → b i = b j → i = j

section
variable {m k : Nat} {W w : World} {ty : Nat → TypeId} {zero val vals : Nat → Value} {d : Nat → Bool} {x : Nat → Value} {b : Nat → Nat}

theorem Inv.start (w : World) (x : Nat → Value) (b : Nat → Nat) (h : Below W.heap.size W w) : Inv m k W ty zero val vals (fun _ => false) x b w :=
  ⟨h, fun _ _ h => (by cases h), fun _ _ _ h => (by cases h), fun _ _ _ h => (by cases h), fun _ _ _ _ _ _ h => (by cases h)⟩

theorem boxed_below {w w' : World} {B t : Nat} {v : Value} (h : Boxed w B t v) (hb : Below w.heap.size w w') : Boxed w' B t v := (hb.block B h.lt).trans h

theorem Inv.yields (h : Inv m k W ty zero val vals d x b w) {i : Nat} (hi : i < m) {w' : World} (hb : Below w.heap.size w w') : Inv m k W ty zero val vals (upd d i) (upv x i (vals i)) b w' where
  below := h.below.trans (hb.mono h.below.size)
  pure j hj hd := by
    by_cases e : j = i
    · subst e; rw [upv_same]
    · rw [upv_other x _ e]; rw [upd_other d e] at hd; exact h.pure j hj hd
  order j h1 h2 hd := by
    rw [upd_other d (by omega)] at hd ⊢; exact h.order j h1 h2 hd
  cell j h1 h2 hd := by
    rw [upd_other d (by omega)] at hd ⊢
    rw [upv_other x _ (by omega)]
    obtain ⟨a1, a2, a3⟩ := h.cell j h1 h2 hd
    exact ⟨a1, a2, boxed_below a3 hb⟩
  apart j l h1 h2 h3 h4 hj hl := by
    rw [upd_other d (by omega)] at hj hl; exact h.apart j l h1 h2 h3 h4 hj hl

theorem Inv.makes (h : Inv m k W ty zero val vals d x b w) {i : Nat} (h1 : m ≤ i) (h2 : i < m + k) (hd : d i = false) :
    Inv m k W ty zero val vals (upd d i) (upv x i (.pointer (some ⟨w.heap.size, 0, none⟩))) (upv b i w.heap.size) (w.alloc (.cells #[zero i] (ty i))) where
  below := h.below.alloc h.below.size _
  pure j hj hdj := by
    rw [upv_other x _ (by omega)]; rw [upd_other d (by omega)] at hdj; exact h.pure j hj hdj
  order j h3 h4 hdj := by
    by_cases e : j = i
    · subst e; exact upd_same _ _
    · rw [upd_other d (by omega)] at hdj; rw [upd_other d e]; exact h.order j h3 h4 hdj
  cell j h3 h4 hdj := by
    by_cases e : j = i
    · subst e
      rw [upv_same, upv_same, upd_other d (by omega)]
      have hn : d (j + k) = false := by
        cases hk : d (j + k) with
        | false => rfl
        | true => rw [h.order j h3 h4 hk] at hd; cases hd
      rw [hn, if_neg (by simp)]
      exact ⟨rfl, h.below.size, Boxed.new _ _ _⟩
    · rw [upd_other d e] at hdj
      rw [upv_other x _ e, upv_other b _ e, upd_other d (by omega)]
      obtain ⟨a1, a2, a3⟩ := h.cell j h3 h4 hdj
      exact ⟨a1, a2, a3.alloc _⟩
  apart j l h3 h4 h5 h6 hj hl he := by
    by_cases e : j = i
    · by_cases e' : l = i
      · omega
      · exfalso
        rw [upd_other d e'] at hl
        rw [e, upv_same, upv_other b _ e'] at he
        have := (h.cell l h5 h6 hl).2.2.lt
        omega
    · rw [upd_other d e] at hj
      by_cases e' : l = i
      · exfalso
        rw [e', upv_same, upv_other b _ e] at he
        have := (h.cell j h3 h4 hj).2.2.lt
        omega
      · rw [upd_other d e'] at hl
        rw [upv_other b _ e, upv_other b _ e'] at he
        exact h.apart j l h3 h4 h5 h6 hj hl he

theorem Inv.lays (h : Inv m k W ty zero val vals d x b w) {i : Nat} (h1 : m ≤ i) (h2 : i < m + k) (hd : d i = true) :
    Inv m k W ty zero val vals (upd d (i + k)) x b (w.setCell ⟨b i, 0, none⟩ (val i)) where
  below := h.below.setCell (p := ⟨b i, 0, none⟩) (h.cell i h1 h2 hd).2.1 _
  pure j hj hdj := by
    rw [upd_other d (by omega)] at hdj; exact h.pure j hj hdj
  order j h3 h4 hdj := by
    by_cases e : j = i
    · subst e; rw [upd_other d (by omega)]; exact hd
    · rw [upd_other d (by omega)] at hdj; rw [upd_other d (by omega)]; exact h.order j h3 h4 hdj
  cell j h3 h4 hdj := by
    rw [upd_other d (by omega)] at hdj
    obtain ⟨a1, a2, a3⟩ := h.cell j h3 h4 hdj
    by_cases e : j = i
    · subst e
      rw [upd_same, if_pos rfl]
      exact ⟨a1, a2, a3.set _⟩
    · rw [upd_other d (by omega)]
      exact ⟨a1, a2, a3.other (fun hb => e (h.apart j i h3 h4 h1 h2 hdj hd hb)) _⟩
  apart j l h3 h4 h5 h6 hj hl := by
    rw [upd_other d (by omega)] at hj hl; exact h.apart j l h3 h4 h5 h6 hj hl
end
end Go.Proofs.Ythokjkllmflgkaa.Rgn
