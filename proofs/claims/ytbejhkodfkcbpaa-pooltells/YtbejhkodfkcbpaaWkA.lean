/-
  Pools: what a slot holds; the document's examples, first part.
-/
import Derived.Test.YtbejhkodfkcbpaaSrtB
import Derived.Test.YtbejhkodfkcbpaaPolS
import Derived.Test.YtbejhkodfkcbpaaRgnV
import Derived.OpenShut
namespace Go.Proofs.Ytbejhkodfkcbpaa.Pol
open Go.RowKit Go.Shelf Rgn

/-- What a slot holds. -/
inductive Sp where
  | is (v : Value)
  | pool (bs : List Bk)
  | ints (zs : List Int)
  | any
def Sp.holds : Sp → World → Value → Prop
  | .is v, _, u => u = v
  | .pool bs, w, u => ∃ p c, u = polV p c bs ∧ Lies w p c bs
  | .ints zs, w, u => ∃ p c, u = intsV p c zs ∧ LiesI w p c zs
  | .any, _, _ => True
theorem Sp.kept (s : Sp) (w w' : World) (v : Value) (h : s.holds w v) (hb : Below w.heap.size w w') : s.holds w' v := by
  cases s with
  | is _ => exact h
  | pool _ => obtain ⟨p, c, e, hl⟩ := h; exact ⟨p, c, e, hl.kept hb⟩
  | ints _ => obtain ⟨p, c, e, hl⟩ := h; exact ⟨p, c, e, hl.kept hb⟩
  | any => trivial
/-- What the slots of some operations hold. -/
def spV (l : List Sp) (i : Nat) (w : World) (v : Value) : Prop := (l.getD i .any).holds w v
theorem spV_kept (l : List Sp) : ∀ j w w' v, spV l j w v → Below w.heap.size w w' → spV l j w' v := fun _ w w' v h hb => Sp.kept _ w w' v h hb

theorem lies_new1 (W : World) (x : Bk) : Lies (W.alloc (.cells #[.int .i64 x.1, .int .i64 x.2] 24)) (some ⟨W.heap.size, 0, none⟩) 1 [x] :=
  ⟨by unfold maxLen; omega, Nat.le_refl _, fun _ => ⟨W.heap.size, 0, rfl, fun i y hi => by
    match i, hi with
    | 0, hi => simp at hi; subst hi; simp
    | (i + 1), hi => simp at hi⟩⟩
theorem lies_new2 (W : World) (x y : Bk) : Lies (W.alloc (.cells #[.int .i64 x.1, .int .i64 x.2, .int .i64 y.1, .int .i64 y.2] 24)) (some ⟨W.heap.size, 0, none⟩) 2 [x, y] :=
  ⟨by unfold maxLen; omega, Nat.le_refl _, fun _ => ⟨W.heap.size, 0, rfl, fun i z hi => by
    match i, hi with
    | 0, hi => simp at hi; subst hi; simp
    | 1, hi => simp at hi; subst hi; simp
    | (i + 2), hi => simp at hi⟩⟩
theorem liesI_new1 (W : World) (z : Int) : LiesI (W.alloc (.cells #[.int .i64 z] 3)) (some ⟨W.heap.size, 0, none⟩) 1 [z] :=
  ⟨by unfold maxLen; omega, Nat.le_refl _, fun _ => ⟨W.heap.size, 0, rfl, fun i y hi => by
    match i, hi with
    | 0, hi => simp at hi; subst hi; simp
    | (i + 1), hi => simp at hi⟩⟩
theorem Check_yes (a : Option Addr) (cap : Nat) (bs : List Bk) (hc : chk bs) (w : World) (h : Lies w a cap bs) :
    Calls Try.prog 20 #[polV a cap bs] w fun e W' => e = .returned (.int .i64 0) ∧ Below w.heap.size w W' := Check_told a cap bs true (by simp [hc]) w h
theorem Check_no (a : Option Addr) (cap : Nat) (bs : List Bk) (hc : ¬ chk bs) (w : World) (h : Lies w a cap bs) :
    Calls Try.prog 20 #[polV a cap bs] w fun e W' => e = .returned (.int .i64 10) ∧ Below w.heap.size w W' := Check_told a cap bs false (by simp [hc]) w h
theorem refCheck_yes (a : Option Addr) (cap : Nat) (bs : List Bk) (hc : chk bs) (w : World) (h : Lies w a cap bs) :
    Calls Try.prog 21 #[polV a cap bs] w fun e W' => e = .returned (.int .i64 0) ∧ Below w.heap.size w W' := refCheck_any a cap bs true (by simp [hc]) w h
theorem refCheck_no (a : Option Addr) (cap : Nat) (bs : List Bk) (hc : ¬ chk bs) (w : World) (h : Lies w a cap bs) :
    Calls Try.prog 21 #[polV a cap bs] w fun e W' => e = .returned (.int .i64 10) ∧ Below w.heap.size w W' := refCheck_any a cap bs false (by simp [hc]) w h
end Go.Proofs.Ytbejhkodfkcbpaa.Pol
