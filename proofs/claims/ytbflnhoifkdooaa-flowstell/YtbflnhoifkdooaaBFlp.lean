/-
  Flows, plain facts: what the laws say of putting, deleting, tidying and of keys.
-/
import Derived.Test.YtbflnhoifkdooaaBFlo
import Derived.Test.YtbflnhoifkdooaaBTab
namespace Go.Proofs.Ytbflnhoifkdooaa.Flo
open RowG Tab Prb

section
variable {T U : List Ent} {k o : ByteArray} {b d : Int} {q n : Nat}
theorem put_no (h : place T k = none) (b d : Int) : putT T k b d = T ∧ putE T k = 12 ∧ find home T k = none ∧ count 1 T = T.length := by
  have h2 := put_laid T k b d
  rw [h] at h2
  have hn : put home T k b d = none := by
    cases hp : put home T k b d with
    | none => rfl
    | some U => rw [hp] at h2; cases h2.2
  obtain ⟨h3, h4⟩ := put_none hn
  refine ⟨by unfold putT; rw [h]; rfl, by unfold putE; rw [h]; rfl, h3, count_all.2 h4⟩
theorem put_yes (h : place T k = some q) (b d : Int) : put home T k b d = some (putT T k b d) ∧ putE T k = 0 := by
  have h2 := put_laid T k b d
  refine ⟨?_, by unfold putE; rw [h]; rfl⟩
  unfold putT
  rw [h] at h2 ⊢
  cases hp : put home T k b d with
  | none => rw [hp] at h2; cases h2.2
  | some U => rw [hp] at h2; exact congrArg some h2.1
theorem put_there (h : put home T k b d = some U) : ∃ a, a < U.length ∧ find home U k = some a ∧ ent U a = live k b d := by
  obtain ⟨a, ha, rfl, hf, _⟩ := put_some h
  exact ⟨a, by simpa using ha, hf, by rw [ent_set T a _ ha, if_pos rfl]⟩
theorem mem_ent {x : Ent} (h : x ∈ T) : ∃ a, a < T.length ∧ ent T a = x := by
  obtain ⟨a, ha, rfl⟩ := List.getElem_of_mem h
  exact ⟨a, ha, ent_at ha⟩
theorem ent_mem {a : Nat} (h : a < T.length) : ent T a ∈ T := by rw [ent_at h]; exact List.getElem_mem h
theorem keys_mem : k ∈ keys T ↔ ∃ a, a < T.length ∧ Hit (ent T a) k := by
  unfold keys
  rw [List.mem_map]
  constructor
  · rintro ⟨e, he, rfl⟩
    rw [List.mem_filter] at he
    obtain ⟨a, ha, rfl⟩ := mem_ent he.1
    exact ⟨a, ha, by simpa using he.2, rfl⟩
  · rintro ⟨a, ha, h1, h2⟩
    exact ⟨ent T a, List.mem_filter.2 ⟨ent_mem ha, by simpa using h1⟩, h2⟩
theorem keys_find (h : Right home T) : k ∈ keys T ↔ find home T k ≠ none := by
  rw [keys_mem]
  constructor
  · rintro ⟨a, ha, hh⟩ hn
    exact h.absent.1 hn a ha hh
  · intro hn
    cases hf : find home T k with
    | none => exact absurd hf hn
    | some a => exact ⟨a, find_some hf⟩
/-- How often a text is there. -/
def times (k : ByteArray) (ks : List ByteArray) : Nat := (ks.filter fun x => decide (x = k)).length
theorem times_nil (k : ByteArray) : times k [] = 0 := rfl
theorem times_snoc (k : ByteArray) (ks : List ByteArray) (x : ByteArray) : times k (ks ++ [x]) = times k ks + (if x = k then 1 else 0) := by
  unfold times
  rw [List.filter_append, List.length_append, List.filter_cons, List.filter_nil]
  by_cases h : x = k
  · rw [if_pos (by simpa using h), if_pos h]; rfl
  · rw [if_neg (by simpa using h), if_neg h]; rfl
theorem times_le (k : ByteArray) (ks : List ByteArray) : times k ks ≤ ks.length := List.length_filter_le _ _
theorem times_not {k : ByteArray} {ks : List ByteArray} (h : k ∉ ks) : times k ks = 0 := by
  unfold times
  rw [List.length_eq_zero_iff, List.filter_eq_nil_iff]
  intro x hx hc
  rw [← show x = k by simpa using hc] at h
  exact h hx
theorem times_one {k : ByteArray} : ∀ {ks : List ByteArray}, ks.Nodup → k ∈ ks → times k ks = 1
  | x :: ks, hd, hm => by
    rw [List.nodup_cons] at hd
    have e : times k (x :: ks) = (if x = k then 1 else 0) + times k ks := by
      unfold times
      rw [List.filter_cons]
      by_cases h : x = k
      · rw [if_pos (by simpa using h), if_pos h, List.length_cons]; omega
      · rw [if_neg (by simpa using h), if_neg h]; omega
    rw [e]
    by_cases h : x = k
    · subst h; rw [if_pos rfl, times_not hd.1]
    · rw [if_neg h, times_one hd.2 ((List.mem_cons.1 hm).resolve_left (fun e => h e.symm))]
theorem keys_times (h : Right home T) (k : ByteArray) : times k (keys T) = if (find home T k).isSome then 1 else 0 := by
  have hd : (keys T).Nodup := h.keys
  cases hf : find home T k with
  | none => exact times_not fun hm => (keys_find h).1 hm hf
  | some a => exact times_one hd ((keys_find h).2 (by rw [hf]; simp))

/-- No key is longer. -/
def Short (n : Nat) (T : List Ent) : Prop := ∀ x ∈ T, x.key.size ≤ n
theorem short_laid {x : Ent} {p : Option Nat} (h : Short n T) (hx : x.key.size ≤ n) : Short n (laid T x p) := laid_keys h hx
theorem short_put (h : Short n T) (hk : k.size ≤ n) : Short n (putT T k b d) := short_laid h hk
theorem short_new (m n : Nat) : Short n (new m) := by
  intro x hx
  rw [show x = ent0 from List.eq_of_mem_replicate hx]
  show 0 ≤ n
  omega
theorem short_tidy (h : Short n T) : Short n (tidyC T) := by
  have key : ∀ (l : List (Fin T.length)) (U : List Ent), Short n U → Short n (l.foldl (fun U i => more U (ent T i.1)) U) := by
    intro l
    induction l with
    | nil => intro U hU; exact hU
    | cons i l ih => intro U hU; exact ih _ (short_laid hU (h _ (ent_mem i.2)))
  exact key _ _ (short_new _ _)
theorem short_settle (h : Short n T) : Short n (settleC T) := by
  unfold settleC
  split
  · exact short_tidy h
  · exact h
theorem short_del (h : Short n T) : Short n (delT T k) := by
  unfold delT
  split
  · exact short_settle (short_laid (p := some _) h (by show 0 ≤ n; omega))
  · exact h
theorem Short.wide {m : Nat} (h : Short n T) (hm : n ≤ m) : ∀ x ∈ T, x.key.size ≤ m := fun x hx => Nat.le_trans (h x hx) hm

theorem settleC_settle (h : T.length ≤ 64) : settleC T = Tab.settle home T := by
  unfold settleC Tab.settle
  rw [tidyC_tidy h]
theorem has_tombs {E : List Ent} (h : Has home n E T) : count 2 T = 0 := by
  unfold count
  rw [List.length_eq_zero_iff, List.filter_eq_nil_iff]
  intro e he
  obtain ⟨a, ha, rfl⟩ := mem_ent he
  rcases h.st a (by rw [← h.len]; exact ha) with h2 | h2 <;> simp [h2]
/-- What a table without a flow is. -/
structure Less (T U : List Ent) (k : ByteArray) : Prop where
  len : U.length = T.length
  right : Right home U
  gone : find home U k = none
  cnt : count 1 U + 1 = count 1 T
  tombs : 2 * count 2 U ≤ U.length
  none : ∀ o, k ≠ o → (find home T o = none ↔ find home U o = none)
  same : ∀ o, k ≠ o → ∀ p r, find home T o = some p → find home U o = some r → ent U r = ent T p
theorem del_less (hl : T.length ≤ 64) (hr : Right home T) (hf : find home T k = some q) : Less T (delT T k) k := by
  have hq := (find_some hf).1
  have e : delT T k = Tab.settle home (T.set q tomb) := by
    unfold delT
    rw [hf]
    exact settleC_settle (by rw [List.length_set]; exact hl)
  obtain ⟨hr1, hn1⟩ := hr.bury hf
  obtain ⟨s1, s2, s3, s4, s5⟩ := settle_same hr1
  have hc := bury_count hf
  rw [e]
  refine ⟨by rw [s1, List.length_set], s2, (s5 k).1.1 hn1, by rw [s3]; exact hc, by rw [s1]; exact s4, fun o ho => ?_, fun o ho p r hp hr' => ?_⟩
  · rw [← (s5 o).1, bury_other hf ho]
  · rw [(s5 o).2 p r (by rw [bury_other hf ho]; exact hp) hr', ent_set T q _ hq, if_neg]
    rintro rfl
    exact ho ((find_some hf).2.2.symm.trans (find_some hp).2.2)
/-- What is put and deleted has changed nothing. -/
structure Back (T V : List Ent) : Prop where
  len : V.length = T.length
  right : Right home V
  cnt : count 1 V = count 1 T
  none : ∀ o, find home T o = none ↔ find home V o = none
  same : ∀ o p r, find home T o = some p → find home V o = some r → ent V r = ent T p
theorem put_back (hl : T.length ≤ 64) (hr : Right home T) (hn : find home T k = none) (hp : put home T k b d = some U) : (∃ a, find home U k = some a) ∧ Back T (delT U k) := by
  obtain ⟨a, ha, hf, hx⟩ := put_there hp
  have hR := hr.puts hp
  have hL := put_length hp
  have hS := del_less (by rw [hL]; exact hl) hR hf
  have hc := put_count hp
  rw [hn] at hc
  have hcnt := hS.cnt
  refine ⟨⟨a, hf⟩, hS.len.trans hL, hS.right, by simp at hc; omega, fun o => ?_, fun o p r h1 h2 => ?_⟩
  · by_cases ho : k = o
    · subst ho; exact ⟨fun _ => hS.gone, fun _ => hn⟩
    · rw [← hS.none o ho]
      constructor
      · exact fun h => hr.put_absent hp ho h
      · intro h
        cases h3 : find home T o with
        | none => rfl
        | some p => rw [(put_other hp ho h3).1] at h; cases h
  · have ho : k ≠ o := by rintro rfl; rw [hn] at h1; cases h1
    obtain ⟨h3, h4⟩ := put_other hp ho h1
    rw [hS.same o ho p r h3 h2, h4]

/-- A table into which just these keys have been put. -/
structure Many (n : Nat) (own : List ByteArray) (T : List Ent) : Prop where
  len : T.length = n
  right : Right home T
  short : Short 60 T
  mem : ∀ k, k ∈ own ↔ find home T k ≠ none
  cnt : count 1 T = own.length
theorem many_new (n : Nat) : Many n [] (new n) where
  len := by simp [new]
  right := (has_new home n).right
  short := short_new _ _
  mem k := by
    constructor
    · intro h; cases h
    · intro h
      exact absurd (find_none fun a _ hh => by rw [new_ent] at hh; exact absurd hh.1 (by decide)) h
  cnt := (has_new home n).cnt
theorem many_put {own : List ByteArray} (h : Many n own T) (hk : k.size ≤ 60) (hp : put home T k b d = some U) (own' : List ByteArray) (hm : ∀ o, o ∈ own' ↔ o ∈ own ∨ o = k) (hc : own'.length = own.length + (if (find home T k).isSome then 0 else 1)) : Many n own' U where
  len := (put_length hp).trans h.len
  right := h.right.puts hp
  short := by
    obtain ⟨a, _, rfl, _⟩ := put_some hp
    exact short_laid (p := some a) (x := live k b d) h.short hk
  mem o := by
    obtain ⟨a, _, hf, _⟩ := put_there hp
    rw [hm]
    by_cases ho : k = o
    · subst ho
      rw [hf]
      exact ⟨fun _ => by simp, fun _ => .inr rfl⟩
    · rw [h.mem]
      constructor
      · rintro (hn | e)
        · cases h3 : find home T o with
          | none => exact absurd h3 hn
          | some p => rw [(put_other hp ho h3).1]; simp
        · exact absurd e.symm ho
      · intro hn
        exact .inl fun h3 => hn (h.right.put_absent hp ho h3)
  cnt := by rw [put_count hp, h.cnt, hc]
theorem many_old {own : List ByteArray} (h : Many n own T) (hk : k.size ≤ 60) (hp : put home T k b d = some U) (hm : k ∈ own) : Many n own U := by
  refine many_put h hk hp own (fun o => ⟨.inl, ?_⟩) ?_
  · rintro (ho | rfl)
    · exact ho
    · exact hm
  · have := (h.mem k).1 hm
    cases h3 : find home T k with
    | none => exact absurd h3 this
    | some p => simp
theorem many_more {own : List ByteArray} (h : Many n own T) (hk : k.size ≤ 60) (hp : put home T k b d = some U) (hm : k ∉ own) : Many n (own ++ [k]) U := by
  refine many_put h hk hp _ (fun o => by rw [List.mem_append, List.mem_singleton]) ?_
  have : find home T k = none := Classical.not_not.1 fun h3 => hm ((h.mem k).2 h3)
  rw [this]; simp
theorem many_told {own : List ByteArray} (h : Many n own T) (k : ByteArray) : (place T k).isSome = true ↔ k ∈ own ∨ own.length < n := by
  cases hp : place T k with
  | none =>
    obtain ⟨_, _, h3, h4⟩ := put_no hp 0 0
    rw [h.cnt, h.len] at h4
    constructor
    · intro h; cases h
    · rintro (hm | hl)
      · exact absurd h3 ((h.mem k).1 hm)
      · omega
  | some q =>
    refine ⟨fun _ => ?_, fun _ => rfl⟩
    obtain ⟨h1, _⟩ := put_yes hp 0 0
    by_cases hm : k ∈ own
    · exact .inl hm
    · right
      have hn : find home T k = none := Classical.not_not.1 fun h3 => hm ((h.mem k).2 h3)
      have hc := put_count h1
      rw [hn, h.cnt] at hc
      have hle := count_le 1 (putT T k 0 0)
      rw [put_length h1, h.len] at hle
      simp at hc
      omega
end
end Go.Proofs.Ytbflnhoifkdooaa.Flo

namespace Go.Proofs.Ytbflnhoifkdooaa.Stx
open Go.ChangeShapes Go.WideShapes Go.RowKit RowG
variable {H : Type} {enc : TypeId × Value → H} {w : World} {base : Nat} {spare : Nat → Bool} {held : Bool}

theorem open_texts {r : Reach} {b0 : Nat} {v : Value} {d : DataW H} {ps : List MemPlace} (hv : Value.okWide Try.prog w r b0 34 v) (h : DataW.Trod enc Try.prog w base spare held 34 v d ps) :
    ∃ (a : Option Addr) (cap : Nat) (ks : List ByteArray), v = rowV a cap ks ∧ Lies Flo.txtK w a cap ks ∧ ∀ x ∈ ks, x.size ≤ maxLen := by
  refine open_rows (Ok := fun x : ByteArray => x.size ≤ maxLen) Try.underlying34 Ste.str_size (fun n cs x h => ?_) hv h
  obtain ⟨s, e, _, hs⟩ := DataW.trod_string Try.underlying9 h
  exact ⟨s, e, hs⟩
end Go.Proofs.Ytbflnhoifkdooaa.Stx

namespace Go.Proofs.Ytbflnhoifkdooaa.Flo
open Go.RowKit Go.Shelf RowG Tab Prb

theorem own_apart {α β : Type} {K : Kind α} {K' : Kind β} {S S' : TypeId} {B B' : Nat} {W : World} {v v' : Value} {xs : List α} {ys : List β} (h : RowG.Own K S B W v xs) (h' : RowG.Own K' S' B' W v' ys) (hne : S' ≠ S) : v.ownBlock = none ∨ v.ownBlock ≠ v'.ownBlock := by
  rcases h'.2 with ⟨rfl, _⟩ | ⟨g, cap, cur, rfl, _, hg, _⟩
  · cases hv : v.ownBlock with
    | none => exact .inl rfl
    | some k => exact .inr (by simp [Value.ownBlock])
  · rcases own_ne h hg (fun cur' e => by cases e; exact hne rfl) with h1 | h1
    · exact .inl h1
    · exact .inr h1
/-- One text more: the walk's step at 'own = append(own, x)'; which block has turned. -/
theorem wpList_text {w : World} {ops : Array Oper} {rest : List Oper} {o : Oper} {a : Act} {Q : Exit → Act → World → Prop} (hgd : o.guard = none) (s x : Operand)
    (ho : o.op = .call { callee := .builtin .append, args := #[s, x], argTypes := #[34, 34] }) (B g : Nat) (xs : List ByteArray) (y : ByteArray) (v : Value) (hs : a.eval s = v) (hx : a.eval x = .slice (some ⟨g, 0, none⟩) 1 1)
    (hown : RowG.Own txtK 9 B w v xs) (hy : w.cell? ⟨g, 0, none⟩ = some (.string y)) (hl : xs.length ≤ 1000000) (hB : B ≤ w.heap.size)
    (h : ∀ g' cap' w', Hid (RowG.Own txtK 9 B w' (.slice (some ⟨g', 0, none⟩) (xs.length + 1) cap') (xs ++ [y])) → Hid (w.grownBy w' v.ownBlock) → wpList Try.prog ops Q rest (a.put o.dst (.slice (some ⟨g', 0, none⟩) (xs.length + 1) cap')) w') : wpList Try.prog ops Q (o :: rest) a w := by
  obtain ⟨i0, hi, hz0, hz1, hz2⟩ := info_parts info_txt
  refine wpList_append_own _ hgd s x 34 ho B 9 i0 (.string ⟨#[]⟩) 1 16 Try.underlying34 hi hz0 hz1 hz2 rfl (by decide) v xs.length (flat txtK xs) hs hown ⟨g, 0, none⟩ 1 1 [.string y] hx rfl ?c1 ?c2 ?c3 ?c4 hB ?_
  case c1 =>
    intro j u hj
    match j, hj with
    | 0, hj => simp at hj; subst hj; simpa [Addr.add] using hy
  case c2 => intro u hu; simp at hu; subst hu; rfl
  case c3 => unfold maxLen; omega
  case c4 => omega
  intro v' w' h1 h2 _
  obtain ⟨g', cap', rfl⟩ := ownsRow_succ h1
  refine h g' cap' w' ?_ h2
  show RowG.Own txtK 9 B w' _ (xs ++ [y])
  unfold RowG.Own
  rw [flat_more, List.length_append]
  exact h1
end Go.Proofs.Ytbflnhoifkdooaa.Flo
