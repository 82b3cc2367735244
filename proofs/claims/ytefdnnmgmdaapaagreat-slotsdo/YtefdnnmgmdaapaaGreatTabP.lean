/-
  Tables of flows, plain facts: ways, what is found, where there is room, what is put, buried and tidied.
-/
import Derived.Test.YtefdnnmgmdaapaaGreatProg
namespace Go.Proofs.YtefdnnmgmdaapaaGreat.Tab

/-- An entry: its state, its key, its backend, its deadline. -/
structure Ent where
  st : Int
  key : ByteArray
  be : Int
  dl : Int
deriving DecidableEq
def ent0 : Ent := ⟨0, ⟨#[]⟩, 0, 0⟩
/-- What stands at a place. -/
def ent (T : List Ent) (a : Nat) : Ent := T[a]?.getD ent0
/-- A live entry of a key. -/
def Hit (e : Ent) (k : ByteArray) : Prop := e.st = 1 ∧ e.key = k
instance (e : Ent) (k : ByteArray) : Decidable (Hit e k) := inferInstanceAs (Decidable (_ ∧ _))
/-- The places of a way. -/
def wayOf (n h : Nat) : List Nat := (List.range n).map fun i => (h + i) % n
theorem way_length (n h : Nat) : (wayOf n h).length = n := by simp [wayOf]
theorem way_mem {n h a : Nat} : a ∈ wayOf n h ↔ a < n := by
  unfold wayOf
  rw [List.mem_map]
  constructor
  · rintro ⟨i, hi, rfl⟩
    exact Nat.mod_lt _ (by have := List.mem_range.1 hi; omega)
  · intro ha
    have hn : 0 < n := by omega
    have hh := Nat.mod_lt h hn
    refine ⟨(a + n - h % n) % n, List.mem_range.2 (Nat.mod_lt _ hn), ?_⟩
    rw [Nat.add_mod, Nat.mod_mod]
    rcases Nat.lt_or_ge a (h % n) with h1 | h1
    · rw [Nat.mod_eq_of_lt (show a + n - h % n < n by omega), show h % n + (a + n - h % n) = a + n by omega, Nat.add_mod_right, Nat.mod_eq_of_lt ha]
    · rw [show a + n - h % n = (a - h % n) + n by omega, Nat.add_mod_right, Nat.mod_eq_of_lt (show a - h % n < n by omega), show h % n + (a - h % n) = a by omega, Nat.mod_eq_of_lt ha]

/-- The first place with a live entry of a key, with no empty one ahead. -/
def findP (T : List Ent) (k : ByteArray) : List Nat → Option Nat
  | [] => none
  | a :: l => if (ent T a).st = 0 then none else if Hit (ent T a) k then some a else findP T k l
/-- The first place that is not live. -/
def roomP (T : List Ent) : List Nat → Option Nat
  | [] => none
  | a :: l => if (ent T a).st = 1 then roomP T l else some a
theorem findP_some {T : List Ent} {k : ByteArray} : ∀ {l : List Nat} {a : Nat}, findP T k l = some a → a ∈ l ∧ Hit (ent T a) k
  | b :: l, a, h => by
    unfold findP at h
    split at h
    · cases h
    · split at h
      · rename_i hh; cases h; exact ⟨by simp, hh⟩
      · obtain ⟨h1, h2⟩ := findP_some h; exact ⟨by simp [h1], h2⟩
theorem findP_none {T : List Ent} {k : ByteArray} : ∀ {l : List Nat}, (∀ a ∈ l, ¬ Hit (ent T a) k) → findP T k l = none
  | [], _ => rfl
  | b :: l, h => by
    unfold findP
    split
    · rfl
    · rw [if_neg (h b (by simp))]
      exact findP_none fun a ha => h a (by simp [ha])
theorem roomP_some {T : List Ent} : ∀ {l : List Nat} {a : Nat}, roomP T l = some a → a ∈ l ∧ (ent T a).st ≠ 1
  | b :: l, a, h => by
    unfold roomP at h
    split at h
    · obtain ⟨h1, h2⟩ := roomP_some h; exact ⟨by simp [h1], h2⟩
    · rename_i hh; cases h; exact ⟨by simp, hh⟩
theorem roomP_none {T : List Ent} : ∀ {l : List Nat}, roomP T l = none ↔ ∀ a ∈ l, (ent T a).st = 1
  | [] => by simp [roomP]
  | b :: l => by
    unfold roomP
    split
    · rename_i hh
      rw [roomP_none]; simp [hh]
    · rename_i hh
      constructor
      · intro h; cases h
      · intro h; exact absurd (h b (by simp)) hh
theorem ent_set (T : List Ent) (a : Nat) (e : Ent) (ha : a < T.length) (b : Nat) : ent (T.set a e) b = if b = a then e else ent T b := by
  unfold ent
  by_cases h : b = a
  · subst h; rw [if_pos rfl, List.getElem?_set_self ha]; rfl
  · rw [if_neg h, List.getElem?_set_ne (Ne.symm h)]
theorem ent_at {T : List Ent} {a : Nat} (ha : a < T.length) : ent T a = T[a] := by unfold ent; rw [List.getElem?_eq_getElem ha]; rfl
/-- An entry that is passed over. -/
def Pass (e : Ent) (k : ByteArray) : Prop := e.st ≠ 0 ∧ ¬ Hit e k
/-- What is passed over, before and behind, makes no difference. -/
theorem findP_pass {T : List Ent} {k : ByteArray} {a : Nat} {e : Ent} (ha : a < T.length) (h1 : Pass (ent T a) k) (h2 : Pass e k) : ∀ l : List Nat, findP (T.set a e) k l = findP T k l
  | [] => rfl
  | b :: l => by
    unfold findP
    rw [ent_set T a e ha, findP_pass ha h1 h2 l]
    by_cases hb : b = a
    · subst hb
      rw [if_pos rfl, if_neg h2.1, if_neg h2.2, if_neg h1.1, if_neg h1.2]
    · rw [if_neg hb]
/-- What was found is found, whatever takes the place of what is no live entry. -/
theorem findP_keep {T : List Ent} {k : ByteArray} {a : Nat} {e : Ent} (ha : a < T.length) (h1 : (ent T a).st ≠ 1) (h2 : Pass e k) : ∀ {l : List Nat} {b : Nat}, findP T k l = some b → findP (T.set a e) k l = some b
  | c :: l, b, h => by
    unfold findP at h ⊢
    rw [ent_set T a e ha]
    by_cases hc : c = a
    · subst hc
      rw [if_pos rfl, if_neg h2.1, if_neg h2.2]
      split at h
      · cases h
      · rw [if_neg (fun hh => h1 hh.1)] at h
        exact findP_keep ha h1 h2 h
    · rw [if_neg hc]
      split at h
      · cases h
      · rename_i h0
        rw [if_neg h0]
        split at h
        · rename_i hh; rw [if_pos hh]; exact h
        · rename_i hh; rw [if_neg hh]; exact findP_keep ha h1 h2 h
/-- What is put where there is room is found there. -/
theorem findP_room {T : List Ent} {k : ByteArray} {e : Ent} (he : Hit e k) : ∀ {l : List Nat} {a : Nat}, a < T.length → findP T k l = none → roomP T l = some a → findP (T.set a e) k l = some a
  | c :: l, a, ha, hf, hr => by
    have h0 : e.st ≠ 0 := by rw [he.1]; decide
    unfold findP at hf ⊢
    unfold roomP at hr
    rw [ent_set T a e ha]
    by_cases hc : c = a
    · subst hc
      rw [if_pos rfl, if_neg h0, if_pos he]
    · rw [if_neg hc]
      split at hr
      · rename_i h1
        have hn : ¬ (ent T c).st = 0 := by rw [h1]; decide
        rw [if_neg hn] at hf ⊢
        split at hf
        · cases hf
        · rename_i hh
          rw [if_neg hh]
          exact findP_room he ha hf hr
      · cases hr; exact absurd rfl hc
/-- What is put where it was found is found there. -/
theorem findP_again {T : List Ent} {k : ByteArray} {e : Ent} (he : Hit e k) : ∀ {l : List Nat} {a : Nat}, a < T.length → findP T k l = some a → findP (T.set a e) k l = some a
  | c :: l, a, ha, hf => by
    have h0 : e.st ≠ 0 := by rw [he.1]; decide
    unfold findP at hf ⊢
    rw [ent_set T a e ha]
    by_cases hc : c = a
    · subst hc
      rw [if_pos rfl, if_neg h0, if_pos he]
    · rw [if_neg hc]
      split at hf
      · cases hf
      · rename_i hn
        rw [if_neg hn]
        split at hf
        · cases hf; exact absurd rfl hc
        · rename_i hh
          rw [if_neg hh]
          exact findP_again he ha hf

/-- How many have a state. -/
def count (s : Int) (T : List Ent) : Nat := (T.filter fun e => e.st == s).length
theorem count_set (s : Int) (e : Ent) : ∀ (T : List Ent) (a : Nat), a < T.length → count s (T.set a e) + (if (ent T a).st = s then 1 else 0) = count s T + (if e.st = s then 1 else 0)
  | [], a, h => absurd h (by simp)
  | x :: T, 0, _ => by
    have hx : ent (x :: T) 0 = x := rfl
    rw [hx, List.set_cons_zero]
    unfold count
    rw [List.filter_cons, List.filter_cons]
    by_cases h1 : e.st = s <;> by_cases h2 : x.st = s <;> simp [h1, h2]
  | x :: T, a + 1, h => by
    have ih := count_set s e T a (by simpa using h)
    have hx : ent (x :: T) (a + 1) = ent T a := rfl
    rw [hx, List.set_cons_succ]
    unfold count at ih ⊢
    have e1 : ∀ l : List Ent, ((x :: l).filter fun e => e.st == s).length = (l.filter fun e => e.st == s).length + (if x.st = s then 1 else 0) := by
      intro l
      rw [List.filter_cons]
      by_cases h2 : x.st = s <;> simp [h2]
    rw [e1, e1]
    omega
theorem count_le (s : Int) (T : List Ent) : count s T ≤ T.length := List.length_filter_le _ _
theorem count_all {s : Int} {T : List Ent} : count s T = T.length ↔ ∀ a, a < T.length → (ent T a).st = s := by
  unfold count
  rw [List.length_filter_eq_length_iff]
  constructor
  · intro h a ha
    have := h T[a] (List.getElem_mem ha)
    rw [ent_at ha]; simpa using this
  · intro h e he
    obtain ⟨a, ha, rfl⟩ := List.getElem_of_mem he
    have := h a ha
    rw [ent_at ha] at this; simpa using this

section
variable (home : ByteArray → Nat → Nat)
/-- Where a key stands. -/
def find (T : List Ent) (k : ByteArray) : Option Nat := findP T k (wayOf T.length (home k T.length))
/-- Where a key may be put. -/
def room (T : List Ent) (k : ByteArray) : Option Nat := match find home T k with
  | some _ => none
  | none => roomP T (wayOf T.length (home k T.length))
variable {home} {T : List Ent} {k : ByteArray} {a : Nat} {e : Ent}
theorem find_some (h : find home T k = some a) : a < T.length ∧ Hit (ent T a) k := by
  obtain ⟨h1, h2⟩ := findP_some h
  exact ⟨way_mem.1 h1, h2⟩
theorem find_none (h : ∀ a, a < T.length → ¬ Hit (ent T a) k) : find home T k = none := findP_none fun a ha => h a (way_mem.1 ha)
theorem room_some (h : room home T k = some a) : a < T.length ∧ (ent T a).st ≠ 1 ∧ find home T k = none ∧ roomP T (wayOf T.length (home k T.length)) = some a := by
  unfold room at h
  split at h
  · cases h
  · rename_i hf
    obtain ⟨h1, h2⟩ := roomP_some h
    exact ⟨way_mem.1 h1, h2, hf, h⟩
theorem room_none (hf : find home T k = none) (h : room home T k = none) : ∀ a, a < T.length → (ent T a).st = 1 := by
  unfold room at h
  rw [hf] at h
  exact fun a ha => roomP_none.1 h a (way_mem.2 ha)
theorem find_pass (ha : a < T.length) (h1 : Pass (ent T a) k) (h2 : Pass e k) : find home (T.set a e) k = find home T k := by
  unfold find; rw [List.length_set]; exact findP_pass ha h1 h2 _
theorem find_keep {b : Nat} (ha : a < T.length) (h1 : (ent T a).st ≠ 1) (h2 : Pass e k) (h : find home T k = some b) : find home (T.set a e) k = some b := by
  unfold find; rw [List.length_set]; exact findP_keep ha h1 h2 h
theorem find_room (he : Hit e k) (h : room home T k = some a) : find home (T.set a e) k = some a := by
  obtain ⟨h1, _, h3, h4⟩ := room_some h
  unfold find; rw [List.length_set]; exact findP_room he h1 h3 h4
theorem find_again (he : Hit e k) (h : find home T k = some a) : find home (T.set a e) k = some a := by
  obtain ⟨h1, _⟩ := find_some h
  unfold find at h ⊢; rw [List.length_set]; exact findP_again he h1 h
end
end Go.Proofs.YtefdnnmgmdaapaaGreat.Tab
