/-
  Flows, plain facts: what the laws say of putting, deleting and tidying.
-/
import Derived.Test.YtbamodkgagcmnaaGreatBFlo
import Derived.Test.YtbamodkgagcmnaaGreatBTab
set_option maxRecDepth 100000
namespace Go.Proofs.YtbamodkgagcmnaaGreat.Flo
open RowG Tab Prb

section
variable {T U : List Ent} {k o : ByteArray} {b d : Int} {q n : Nat}
theorem put_no (h : place T k = none) (b d : Int) : putT T k b d = T ∧ putE T k = 12 ∧ find home T k = none ∧ count 1 T = T.length := by
  have h2 := put_laid T k b d
  rw [h] at h2
  have hn : put home T k b d = none := by
    cases hp : put home T k b d with
    | none => rfl
    | some U => rw [hp] at h2; cases h2.2
  obtain ⟨h3, h4⟩ := put_none hn
  refine ⟨by unfold putT; rw [h]; rfl, by unfold putE; rw [h]; rfl, h3, count_all.2 h4⟩
theorem put_yes (h : place T k = some q) (b d : Int) : put home T k b d = some (putT T k b d) ∧ putE T k = 0 := by
  have h2 := put_laid T k b d
  refine ⟨?_, by unfold putE; rw [h]; rfl⟩
  unfold putT
  rw [h] at h2 ⊢
  cases hp : put home T k b d with
  | none => rw [hp] at h2; cases h2.2
  | some U => rw [hp] at h2; exact congrArg some h2.1
theorem put_there (h : put home T k b d = some U) : ∃ a, a < U.length ∧ find home U k = some a ∧ ent U a = live k b d := by
  obtain ⟨a, ha, rfl, hf, _⟩ := put_some h
  exact ⟨a, by simpa using ha, hf, by rw [ent_set T a _ ha, if_pos rfl]⟩
theorem mem_ent {x : Ent} (h : x ∈ T) : ∃ a, a < T.length ∧ ent T a = x := by
  obtain ⟨a, ha, rfl⟩ := List.getElem_of_mem h
  exact ⟨a, ha, ent_at ha⟩
theorem ent_mem {a : Nat} (h : a < T.length) : ent T a ∈ T := by rw [ent_at h]; exact List.getElem_mem h
/-- No key is longer. -/
def Short (n : Nat) (T : List Ent) : Prop := ∀ x ∈ T, x.key.size ≤ n
theorem short_laid {x : Ent} {p : Option Nat} (h : Short n T) (hx : x.key.size ≤ n) : Short n (laid T x p) := laid_keys h hx
theorem short_put (h : Short n T) (hk : k.size ≤ n) : Short n (putT T k b d) := short_laid h hk
theorem short_new (m n : Nat) : Short n (new m) := by
  intro x hx
  rw [show x = ent0 from List.eq_of_mem_replicate hx]
  show 0 ≤ n
  omega
theorem short_tidy (h : Short n T) : Short n (tidyC T) := by
  have key : ∀ (l : List (Fin T.length)) (U : List Ent), Short n U → Short n (l.foldl (fun U i => more U (ent T i.1)) U) := by
    intro l
    induction l with
    | nil => intro U hU; exact hU
    | cons i l ih => intro U hU; exact ih _ (short_laid hU (h _ (ent_mem i.2)))
  exact key _ _ (short_new _ _)
theorem short_settle (h : Short n T) : Short n (settleC T) := by
  unfold settleC
  split
  · exact short_tidy h
  · exact h
theorem short_del (h : Short n T) : Short n (delT T k) := by
  unfold delT
  split
  · exact short_settle (short_laid (p := some _) h (by show 0 ≤ n; omega))
  · exact h
theorem Short.wide {m : Nat} (h : Short n T) (hm : n ≤ m) : ∀ x ∈ T, x.key.size ≤ m := fun x hx => Nat.le_trans (h x hx) hm

theorem settleC_settle (h : T.length ≤ 64) : settleC T = Tab.settle home T := by
  unfold settleC Tab.settle
  rw [tidyC_tidy h]
theorem has_tombs {E : List Ent} (h : Has home n E T) : count 2 T = 0 := by
  unfold count
  rw [List.length_eq_zero_iff, List.filter_eq_nil_iff]
  intro e he
  obtain ⟨a, ha, rfl⟩ := mem_ent he
  rcases h.st a (by rw [← h.len]; exact ha) with h2 | h2 <;> simp [h2]
/-- What a table without a flow is. -/
structure Less (T U : List Ent) (k : ByteArray) : Prop where
  len : U.length = T.length
  right : Right home U
  gone : find home U k = none
  cnt : count 1 U + 1 = count 1 T
  tombs : 2 * count 2 U ≤ U.length
  none : ∀ o, k ≠ o → (find home T o = none ↔ find home U o = none)
  same : ∀ o, k ≠ o → ∀ p r, find home T o = some p → find home U o = some r → ent U r = ent T p
theorem del_less (hl : T.length ≤ 64) (hr : Right home T) (hf : find home T k = some q) : Less T (delT T k) k := by
  have hq := (find_some hf).1
  have e : delT T k = Tab.settle home (T.set q tomb) := by
    unfold delT
    rw [hf]
    exact settleC_settle (by rw [List.length_set]; exact hl)
  obtain ⟨hr1, hn1⟩ := hr.bury hf
  obtain ⟨s1, s2, s3, s4, s5⟩ := settle_same hr1
  have hc := bury_count hf
  rw [e]
  refine ⟨by rw [s1, List.length_set], s2, (s5 k).1.1 hn1, by rw [s3]; exact hc, by rw [s1]; exact s4, fun o ho => ?_, fun o ho p r hp hr' => ?_⟩
  · rw [← (s5 o).1, bury_other hf ho]
  · rw [(s5 o).2 p r (by rw [bury_other hf ho]; exact hp) hr', ent_set T q _ hq, if_neg]
    rintro rfl
    exact ho ((find_some hf).2.2.symm.trans (find_some hp).2.2)
/-- What is put and deleted has changed nothing. -/
structure Back (T V : List Ent) : Prop where
  len : V.length = T.length
  right : Right home V
  cnt : count 1 V = count 1 T
  none : ∀ o, find home T o = none ↔ find home V o = none
  same : ∀ o p r, find home T o = some p → find home V o = some r → ent V r = ent T p
theorem put_back (hl : T.length ≤ 64) (hr : Right home T) (hn : find home T k = none) (hp : put home T k b d = some U) : (∃ a, find home U k = some a) ∧ Back T (delT U k) := by
  obtain ⟨a, ha, hf, hx⟩ := put_there hp
  have hR := hr.puts hp
  have hL := put_length hp
  have hS := del_less (by rw [hL]; exact hl) hR hf
  have hc := put_count hp
  rw [hn] at hc
  have hcnt := hS.cnt
  refine ⟨⟨a, hf⟩, hS.len.trans hL, hS.right, by simp at hc; omega, fun o => ?_, fun o p r h1 h2 => ?_⟩
  · by_cases ho : k = o
    · subst ho; exact ⟨fun _ => hS.gone, fun _ => hn⟩
    · rw [← hS.none o ho]
      constructor
      · exact fun h => hr.put_absent hp ho h
      · intro h
        cases h3 : find home T o with
        | none => rfl
        | some p => rw [(put_other hp ho h3).1] at h; cases h
  · have ho : k ≠ o := by rintro rfl; rw [hn] at h1; cases h1
    obtain ⟨h3, h4⟩ := put_other hp ho h1
    rw [hS.same o ho p r h3 h2, h4]

/-- A table into which just these keys have been put. -/
structure Many (n : Nat) (own : List ByteArray) (T : List Ent) : Prop where
  len : T.length = n
  right : Right home T
  short : Short 60 T
  mem : ∀ k, k ∈ own ↔ find home T k ≠ none
  cnt : count 1 T = own.length
theorem many_new (n : Nat) : Many n [] (new n) where
  len := by simp [new]
  right := (has_new home n).right
  short := short_new _ _
  mem k := by
    constructor
    · intro h; cases h
    · intro h
      exact absurd (find_none fun a _ hh => by rw [new_ent] at hh; exact absurd hh.1 (by decide)) h
  cnt := (has_new home n).cnt
theorem many_put {own : List ByteArray} (h : Many n own T) (hk : k.size ≤ 60) (hp : put home T k b d = some U) (own' : List ByteArray) (hm : ∀ o, o ∈ own' ↔ o ∈ own ∨ o = k) (hc : own'.length = own.length + (if (find home T k).isSome then 0 else 1)) : Many n own' U where
  len := (put_length hp).trans h.len
  right := h.right.puts hp
  short := by
    obtain ⟨a, _, rfl, _⟩ := put_some hp
    exact short_laid (p := some a) (x := live k b d) h.short hk
  mem o := by
    obtain ⟨a, _, hf, _⟩ := put_there hp
    rw [hm]
    by_cases ho : k = o
    · subst ho
      rw [hf]
      exact ⟨fun _ => by simp, fun _ => .inr rfl⟩
    · rw [h.mem]
      constructor
      · rintro (hn | e)
        · cases h3 : find home T o with
          | none => exact absurd h3 hn
          | some p => rw [(put_other hp ho h3).1]; simp
        · exact absurd e.symm ho
      · intro hn
        exact .inl fun h3 => hn (h.right.put_absent hp ho h3)
  cnt := by rw [put_count hp, h.cnt, hc]
theorem many_old {own : List ByteArray} (h : Many n own T) (hk : k.size ≤ 60) (hp : put home T k b d = some U) (hm : k ∈ own) : Many n own U := by
  refine many_put h hk hp own (fun o => ⟨.inl, ?_⟩) ?_
  · rintro (ho | rfl)
    · exact ho
    · exact hm
  · have := (h.mem k).1 hm
    cases h3 : find home T k with
    | none => exact absurd h3 this
    | some p => simp
theorem many_more {own : List ByteArray} (h : Many n own T) (hk : k.size ≤ 60) (hp : put home T k b d = some U) (hm : k ∉ own) : Many n (own ++ [k]) U := by
  refine many_put h hk hp _ (fun o => by rw [List.mem_append, List.mem_singleton]) ?_
  have : find home T k = none := Classical.not_not.1 fun h3 => hm ((h.mem k).2 h3)
  rw [this]; simp
theorem many_told {own : List ByteArray} (h : Many n own T) (k : ByteArray) : (place T k).isSome = true ↔ k ∈ own ∨ own.length < n := by
  cases hp : place T k with
  | none =>
    obtain ⟨_, _, h3, h4⟩ := put_no hp 0 0
    rw [h.cnt, h.len] at h4
    constructor
    · intro h; cases h
    · rintro (hm | hl)
      · exact absurd h3 ((h.mem k).1 hm)
      · omega
  | some q =>
    refine ⟨fun _ => ?_, fun _ => rfl⟩
    obtain ⟨h1, _⟩ := put_yes hp 0 0
    by_cases hm : k ∈ own
    · exact .inl hm
    · right
      have hn : find home T k = none := Classical.not_not.1 fun h3 => hm ((h.mem k).2 h3)
      have hc := put_count h1
      rw [hn, h.cnt] at hc
      have hle := count_le 1 (putT T k 0 0)
      rw [put_length h1, h.len] at hle
      simp at hc
      omega
end
end Go.Proofs.YtbamodkgagcmnaaGreat.Flo
