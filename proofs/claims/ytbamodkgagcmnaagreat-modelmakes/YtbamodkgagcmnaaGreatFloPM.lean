/-
  Flows, plain facts: what the laws say of putting, deleting and tidying.
-/
import Derived.Test.YtbamodkgagcmnaaGreatBFloM
import Derived.Test.YtbamodkgagcmnaaGreatBTabM
set_option maxRecDepth 100000
namespace Go.Proofs.YtbamodkgagcmnaaGreat.Flo
open RowG Tab Prb

section
variable {T U : List Ent} {k o : ByteArray} {b d : Int} {q n : Nat}
theorem put_no (h : place T k = none) (b d : Int) : putT T k b d = T ∧ putE T k = 12 ∧ find home T k = none ∧ count 1 T = T.length := by
  have h2 := put_laid T k b d
  rw [h] at h2
  have hn : put home T k b d = none := by
    cases hp : put home T k b d with
    | none => rfl
    | some U => rw [hp] at h2; cases h2.2
  obtain ⟨h3, h4⟩ := put_none hn
  refine ⟨by unfold putT; rw [h]; rfl, by unfold putE; rw [h]; rfl, h3, count_all.2 h4⟩
theorem put_yes (h : place T k = some q) (b d : Int) : put home T k b d = some (putT T k b d) ∧ putE T k = 0 := by
  have h2 := put_laid T k b d
  refine ⟨?_, by unfold putE; rw [h]; rfl⟩
  unfold putT
  rw [h] at h2 ⊢
  cases hp : put home T k b d with
  | none => rw [hp] at h2; cases h2.2
  | some U => rw [hp] at h2; exact congrArg some h2.1
theorem ent_mem {a : Nat} (h : a < T.length) : ent T a ∈ T := by rw [ent_at h]; exact List.getElem_mem h
/-- No key is longer. -/
def Short (n : Nat) (T : List Ent) : Prop := ∀ x ∈ T, x.key.size ≤ n
theorem short_laid {x : Ent} {p : Option Nat} (h : Short n T) (hx : x.key.size ≤ n) : Short n (laid T x p) := laid_keys h hx
theorem short_put (h : Short n T) (hk : k.size ≤ n) : Short n (putT T k b d) := short_laid h hk
theorem short_new (m n : Nat) : Short n (new m) := by
  intro x hx
  rw [show x = ent0 from List.eq_of_mem_replicate hx]
  show 0 ≤ n
  omega
theorem short_tidy (h : Short n T) : Short n (tidyC T) := by
  have key : ∀ (l : List (Fin T.length)) (U : List Ent), Short n U → Short n (l.foldl (fun U i => more U (ent T i.1)) U) := by
    intro l
    induction l with
    | nil => intro U hU; exact hU
    | cons i l ih => intro U hU; exact ih _ (short_laid hU (h _ (ent_mem i.2)))
  exact key _ _ (short_new _ _)
theorem short_settle (h : Short n T) : Short n (settleC T) := by
  unfold settleC
  split
  · exact short_tidy h
  · exact h
theorem short_del (h : Short n T) : Short n (delT T k) := by
  unfold delT
  split
  · exact short_settle (short_laid (p := some _) h (by show 0 ≤ n; omega))
  · exact h
theorem Short.wide {m : Nat} (h : Short n T) (hm : n ≤ m) : ∀ x ∈ T, x.key.size ≤ m := fun x hx => Nat.le_trans (h x hx) hm

theorem settleC_settle (h : T.length ≤ 64) : settleC T = Tab.settle home T := by
  unfold settleC Tab.settle
  rw [tidyC_tidy h]
/-- What a table without a flow is. -/
structure Less (T U : List Ent) (k : ByteArray) : Prop where
  len : U.length = T.length
  right : Right home U
  gone : find home U k = none
  cnt : count 1 U + 1 = count 1 T
  tombs : 2 * count 2 U ≤ U.length
  none : ∀ o, k ≠ o → (find home T o = none ↔ find home U o = none)
  same : ∀ o, k ≠ o → ∀ p r, find home T o = some p → find home U o = some r → ent U r = ent T p
/-- What is put and deleted has changed nothing. -/
structure Back (T V : List Ent) : Prop where
  len : V.length = T.length
  right : Right home V
  cnt : count 1 V = count 1 T
  none : ∀ o, find home T o = none ↔ find home V o = none
  same : ∀ o p r, find home T o = some p → find home V o = some r → ent V r = ent T p
/-- A table into which just these keys have been put. -/
structure Many (n : Nat) (own : List ByteArray) (T : List Ent) : Prop where
  len : T.length = n
  right : Right home T
  short : Short 60 T
  mem : ∀ k, k ∈ own ↔ find home T k ≠ none
  cnt : count 1 T = own.length
end
end Go.Proofs.YtbamodkgagcmnaaGreat.Flo
