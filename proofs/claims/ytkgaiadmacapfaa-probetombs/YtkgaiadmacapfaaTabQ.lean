/-
  Tables of flows, plain facts: tables that are right; what is put, buried and tidied.
-/
import Derived.Test.YtkgaiadmacapfaaTabP
namespace Go.Proofs.Ytkgaiadmacapfaa.Tab

def live (k : ByteArray) (b d : Int) : Ent := ⟨1, k, b, d⟩
def tomb : Ent := ⟨2, ⟨#[]⟩, 0, 0⟩
theorem hit_live (k : ByteArray) (b d : Int) : Hit (live k b d) k := ⟨rfl, rfl⟩
theorem pass_live {k o : ByteArray} (b d : Int) (h : k ≠ o) : Pass (live k b d) o := ⟨by show (1 : Int) ≠ 0; decide, fun hh => h hh.2⟩
theorem pass_tomb (o : ByteArray) : Pass tomb o := ⟨by show (2 : Int) ≠ 0; decide, fun hh => by have := hh.1; revert this; show (2 : Int) = 1 → False; decide⟩
theorem pass_hit {e : Ent} {k o : ByteArray} (h : Hit e k) (ho : k ≠ o) : Pass e o := ⟨by rw [h.1]; decide, fun hh => ho (h.2.symm.trans hh.2)⟩
theorem live_of {e : Ent} (h : e.st = 1) : live e.key e.be e.dl = e := by cases e; simp only at h; subst h; rfl

section
variable {home : ByteArray → Nat → Nat} {T U : List Ent} {k o : ByteArray} {a b : Nat} {be dl : Int}
/-- Each live entry is found at its own place. -/
def Right (home : ByteArray → Nat → Nat) (T : List Ent) : Prop := ∀ a, a < T.length → (ent T a).st = 1 → find home T (ent T a).key = some a
theorem Right.finds (h : Right home T) (ha : a < T.length) (hh : Hit (ent T a) k) : find home T k = some a := by rw [← hh.2]; exact h a ha hh.1
theorem Right.one (h : Right home T) (ha : a < T.length) (hb : b < T.length) (h1 : Hit (ent T a) k) (h2 : Hit (ent T b) k) : a = b := by
  have := h.finds ha h1
  rw [h.finds hb h2] at this
  exact (Option.some.inj this).symm
theorem Right.absent (h : Right home T) : find home T k = none ↔ ∀ a, a < T.length → ¬ Hit (ent T a) k :=
  ⟨fun hn a ha hh => (by rw [h.finds ha hh] at hn; cases hn), fun hn => find_none hn⟩

/-- A flow more. -/
def put (home : ByteArray → Nat → Nat) (T : List Ent) (k : ByteArray) (be dl : Int) : Option (List Ent) := match find home T k with
  | some a => some (T.set a (live k be dl))
  | none => match room home T k with
    | some a => some (T.set a (live k be dl))
    | none => none
theorem put_none (h : put home T k be dl = none) : find home T k = none ∧ ∀ a, a < T.length → (ent T a).st = 1 := by
  unfold put at h
  split at h
  · cases h
  · rename_i hf
    split at h
    · cases h
    · rename_i hr; exact ⟨hf, room_none hf hr⟩
/-- Where it is put. -/
theorem put_some (h : put home T k be dl = some U) : ∃ a, a < T.length ∧ U = T.set a (live k be dl) ∧ find home U k = some a ∧ ((ent T a).st ≠ 1 ∧ find home T k = none ∨ Hit (ent T a) k ∧ find home T k = some a) := by
  unfold put at h
  split at h
  · rename_i a hf
    cases h
    obtain ⟨h1, h2⟩ := find_some hf
    exact ⟨a, h1, rfl, find_again (hit_live k be dl) hf, .inr ⟨h2, hf⟩⟩
  · rename_i hf
    split at h
    · rename_i a hr
      cases h
      obtain ⟨h1, h2, _, _⟩ := room_some hr
      exact ⟨a, h1, rfl, find_room (hit_live k be dl) hr, .inl ⟨h2, hf⟩⟩
    · cases h
theorem put_length (h : put home T k be dl = some U) : U.length = T.length := by
  obtain ⟨a, _, rfl, _⟩ := put_some h; simp
/-- All else stays. -/
theorem put_other (h : put home T k be dl = some U) (ho : k ≠ o) (hf : find home T o = some b) : find home U o = some b ∧ ent U b = ent T b := by
  obtain ⟨a, ha, rfl, _, hc⟩ := put_some h
  obtain ⟨hb, hh⟩ := find_some hf
  have hab : b ≠ a := by
    rintro rfl
    rcases hc with ⟨h1, _⟩ | ⟨h1, _⟩
    · exact h1 hh.1
    · exact ho (h1.2.symm.trans hh.2)
  refine ⟨?_, by rw [ent_set T a _ ha, if_neg hab]⟩
  rcases hc with ⟨h1, _⟩ | ⟨h1, _⟩
  · exact find_keep ha h1 (pass_live be dl ho) hf
  · rw [find_pass ha (pass_hit h1 ho) (pass_live be dl ho)]; exact hf
theorem put_ent (h : put home T k be dl = some U) (ho : k ≠ o) : Hit (ent U a) o → Hit (ent T a) o := by
  obtain ⟨c, hc, rfl, _, _⟩ := put_some h
  rw [ent_set T c _ hc]
  split
  · intro hh; exact absurd hh.2 ho
  · exact id
theorem Right.puts (hr : Right home T) (h : put home T k be dl = some U) : Right home U := by
  intro b hb hl
  rw [put_length h] at hb
  by_cases hk : k = (ent U b).key
  · obtain ⟨a, ha, e, hf, hc⟩ := put_some h
    rw [← hk, hf]
    congr 1
    by_cases hab : a = b
    · exact hab
    · exfalso
      have hbT : ent U b = ent T b := by rw [e, ent_set T a _ ha, if_neg (Ne.symm hab)]
      have hhit : Hit (ent T b) k := ⟨by rw [← hbT]; exact hl, by rw [← hbT]; exact hk.symm⟩
      rcases hc with ⟨_, hn⟩ | ⟨h1, _⟩
      · rw [hr.finds hb hhit] at hn; cases hn
      · exact hab (hr.one ha hb h1 hhit)
  · have hT := put_ent (o := (ent U b).key) h hk ⟨hl, rfl⟩
    exact (put_other h hk (hr.finds hb hT)).1
theorem Right.put_absent (hr : Right home T) (h : put home T k be dl = some U) (ho : k ≠ o) (hf : find home T o = none) : find home U o = none :=
  find_none fun a ha hh => (hr.absent.1 hf) a (by rw [put_length h] at ha; exact ha) (put_ent h ho hh)
theorem put_count (h : put home T k be dl = some U) : count 1 U = count 1 T + (if (find home T k).isSome then 0 else 1) := by
  obtain ⟨a, ha, rfl, _, hc⟩ := put_some h
  have := count_set 1 (live k be dl) T a ha
  rw [if_pos (show (live k be dl).st = 1 from rfl)] at this
  rcases hc with ⟨h1, hn⟩ | ⟨h1, hn⟩
  · rw [if_neg h1] at this
    rw [hn]; simpa using this
  · rw [if_pos h1.1] at this
    rw [hn]; simp; omega
/-- There is room unless all are live. -/
theorem put_room (h : find home T k ≠ none ∨ count 1 T < T.length) : ∃ U, put home T k be dl = some U := by
  cases hp : put home T k be dl with
  | some U => exact ⟨U, rfl⟩
  | none =>
    obtain ⟨hf, hall⟩ := put_none hp
    rcases h with h | h
    · exact absurd hf h
    · have := count_all.2 hall
      omega

/-- A tomb instead of one. -/
theorem bury_other (hf : find home T k = some a) (ho : k ≠ o) : find home (T.set a tomb) o = find home T o := by
  obtain ⟨ha, hh⟩ := find_some hf
  exact find_pass ha (pass_hit hh ho) (pass_tomb o)
theorem bury_count (hf : find home T k = some a) : count 1 (T.set a tomb) + 1 = count 1 T := by
  obtain ⟨ha, hh⟩ := find_some hf
  have := count_set 1 tomb T a ha
  rw [if_pos hh.1, if_neg (by show ¬ (2 : Int) = 1; decide)] at this
  exact this
theorem bury_ent (hf : find home T k = some a) (h : (ent (T.set a tomb) b).st = 1) : b ≠ a ∧ ent (T.set a tomb) b = ent T b := by
  obtain ⟨ha, _⟩ := find_some hf
  rw [ent_set T a _ ha] at h ⊢
  split at h
  · exact absurd h (by show ¬ (2 : Int) = 1; decide)
  · rename_i hne; exact ⟨hne, by rw [if_neg hne]⟩
theorem Right.bury (hr : Right home T) (hf : find home T k = some a) : Right home (T.set a tomb) ∧ find home (T.set a tomb) k = none := by
  obtain ⟨ha, hh⟩ := find_some hf
  have hno : ∀ b, b < T.length → (ent (T.set a tomb) b).st = 1 → (ent (T.set a tomb) b).key ≠ k := by
    intro b hb hl hk
    obtain ⟨hne, he⟩ := bury_ent hf hl
    exact hne (hr.one hb ha ⟨by rw [← he]; exact hl, by rw [← he]; exact hk⟩ hh)
  constructor
  · intro b hb hl
    rw [List.length_set] at hb
    obtain ⟨_, he⟩ := bury_ent hf hl
    rw [bury_other hf (Ne.symm (hno b hb hl))]
    exact hr.finds hb ⟨by rw [← he]; exact hl, by rw [he]⟩
  · exact find_none fun b hb hh' => hno b (by simpa using hb) hh'.1 hh'.2

/-- A table without flows. -/
def new (n : Nat) : List Ent := List.replicate n ent0
theorem new_ent (n a : Nat) : ent (new n) a = ent0 := by
  unfold ent new
  rw [List.getElem?_replicate]
  split <;> rfl
/-- A table into which these flows, and none else, have been put. -/
structure Has (home : ByteArray → Nat → Nat) (n : Nat) (E : List Ent) (T : List Ent) : Prop where
  len : T.length = n
  right : Right home T
  st : ∀ a, a < n → (ent T a).st = 0 ∨ (ent T a).st = 1
  same : ∀ e : Ent, e.st = 1 → ((∃ a, a < n ∧ ent T a = e) ↔ e ∈ E)
  cnt : count 1 T = E.length
theorem has_new (home : ByteArray → Nat → Nat) (n : Nat) : Has home n [] (new n) where
  len := by simp [new]
  right a _ h := by rw [new_ent] at h; exact absurd h (by decide)
  st a _ := .inl (by rw [new_ent]; rfl)
  same e he := by
    constructor
    · rintro ⟨a, _, rfl⟩; rw [new_ent] at he; exact absurd he (by decide)
    · intro h; cases h
  cnt := by
    unfold count new
    rw [List.filter_replicate, if_neg (by decide)]
/-- One that is not there yet. -/
theorem Has.more {n : Nat} {E : List Ent} (h : Has home n E T) (e : Ent) (he : e.st = 1) (hk : ∀ x ∈ E, x.key ≠ e.key) (hn : E.length < n) :
    ∃ U, Tab.put home T e.key e.be e.dl = some U ∧ Has home n (E ++ [e]) U := by
  have hf : find home T e.key = none := find_none fun a ha hh => hk _ ((h.same _ hh.1).1 ⟨a, by rw [← h.len]; exact ha, rfl⟩) hh.2
  obtain ⟨U, hU⟩ := put_room (home := home) (T := T) (k := e.key) (be := e.be) (dl := e.dl) (.inr (by rw [h.cnt, h.len]; exact hn))
  refine ⟨U, hU, (put_length hU).trans h.len, h.right.puts hU, ?_, ?_, ?_⟩
  · intro b hb
    obtain ⟨a, ha, rfl, _⟩ := put_some hU
    rw [ent_set T a _ ha]
    split
    · exact .inr rfl
    · exact h.st b hb
  · intro x hx
    obtain ⟨a, ha, rfl, _, hc⟩ := put_some hU
    rw [live_of he]
    rcases hc with ⟨h1, _⟩ | ⟨_, h2⟩
    · rw [List.mem_append, List.mem_singleton, ← h.same x hx]
      constructor
      · rintro ⟨b, hb, hbx⟩
        rw [ent_set T a _ ha] at hbx
        split at hbx
        · exact .inr hbx.symm
        · exact .inl ⟨b, hb, hbx⟩
      · rintro (⟨b, hb, hbx⟩ | rfl)
        · refine ⟨b, hb, ?_⟩
          rw [ent_set T a _ ha, if_neg (fun hba => ?_)]
          · exact hbx
          · subst hba; rw [hbx] at h1; exact h1 hx
        · exact ⟨a, by rw [← h.len]; exact ha, by rw [ent_set T a _ ha, if_pos rfl]⟩
    · rw [hf] at h2; cases h2
  · rw [put_count hU, hf, h.cnt]; simp
/-- All live entries, one behind the other, put into a table without flows. -/
def fill (home : ByteArray → Nat → Nat) (n : Nat) (E : List Ent) : List Ent := E.foldl (fun out e => (put home out e.key e.be e.dl).getD out) (new n)
theorem fill_has (n : Nat) (E : List Ent) (hE : ∀ x ∈ E, x.st = 1) (hk : (E.map (·.key)).Nodup) (hn : E.length ≤ n) : Has home n E (fill home n E) := by
  have key : ∀ (R D out : List Ent), (∀ x ∈ D ++ R, x.st = 1) → ((D ++ R).map (·.key)).Nodup → (D ++ R).length ≤ n → Has home n D out → Has home n (D ++ R) (R.foldl (fun out e => (Tab.put home out e.key e.be e.dl).getD out) out) := by
    intro R
    induction R with
    | nil => intro D out _ _ _ h; rw [List.append_nil]; exact h
    | cons e R ih =>
      intro D out hs hd hl h
      have hne : ∀ x ∈ D, x.key ≠ e.key := by
        intro x hx he
        rw [List.map_append, List.nodup_append] at hd
        exact hd.2.2 _ (List.mem_map.2 ⟨x, hx, rfl⟩) _ (List.mem_map.2 ⟨e, by simp, rfl⟩) he
      obtain ⟨U, hU, hH⟩ := h.more e (hs e (by simp)) hne (by simp at hl; omega)
      rw [List.foldl_cons, hU]
      have := ih (D ++ [e]) U (by simpa using hs) (by simpa using hd) (by simpa using hl) hH
      simpa using this
  exact key E [] (new n) (by simpa using hE) (by simpa using hk) (by simpa using hn) (has_new home n)
theorem Right.keys (h : Right home T) : ((T.filter fun e => e.st == 1).map (·.key)).Nodup := by
  rw [List.Nodup, List.pairwise_map, List.pairwise_filter, List.pairwise_iff_getElem]
  intro i j hi hj hij h1 h2 he
  have := h.one (a := i) (b := j) (k := T[i].key) hi hj (by rw [ent_at hi]; exact ⟨by simpa using h1, rfl⟩) (by rw [ent_at hj]; exact ⟨by simpa using h2, he.symm⟩)
  omega
/-- Tidied. -/
def tidy (home : ByteArray → Nat → Nat) (T : List Ent) : List Ent := fill home T.length (T.filter fun e => e.st == 1)
theorem Right.tidyHas (h : Right home T) : Has home T.length (T.filter fun e => e.st == 1) (tidy home T) :=
  fill_has T.length _ (fun x hx => by simpa using (List.mem_filter.1 hx).2) h.keys (List.length_filter_le _ _)
/-- What is found in it. -/
theorem Right.tidied (h : Right home T) (k : ByteArray) : (find home T k = none ↔ find home (Tab.tidy home T) k = none) ∧ ∀ a b, find home T k = some a → find home (Tab.tidy home T) k = some b → ent (Tab.tidy home T) b = ent T a := by
  have hH := h.tidyHas
  have iff1 : ∀ e : Ent, e.st = 1 → ((∃ a, a < T.length ∧ ent (Tab.tidy home T) a = e) ↔ ∃ a, a < T.length ∧ ent T a = e) := by
    intro e he
    rw [hH.same e he, List.mem_filter]
    constructor
    · rintro ⟨hm, _⟩
      obtain ⟨a, ha, rfl⟩ := List.getElem_of_mem hm
      exact ⟨a, ha, ent_at ha⟩
    · rintro ⟨a, ha, rfl⟩
      exact ⟨by rw [ent_at ha]; exact List.getElem_mem ha, by simpa using he⟩
  constructor
  · rw [h.absent, hH.right.absent, hH.len]
    constructor
    · intro hn a ha hh
      obtain ⟨b, hb, e⟩ := (iff1 _ hh.1).1 ⟨a, ha, rfl⟩
      exact hn b hb (by rw [e]; exact hh)
    · intro hn a ha hh
      obtain ⟨b, hb, e⟩ := (iff1 _ hh.1).2 ⟨a, ha, rfl⟩
      exact hn b hb (by rw [e]; exact hh)
  · intro a b ha hb
    obtain ⟨ha1, ha2⟩ := find_some ha
    obtain ⟨hb1, hb2⟩ := find_some hb
    rw [hH.len] at hb1
    obtain ⟨c, hc, e⟩ := (iff1 _ hb2.1).1 ⟨b, hb1, rfl⟩
    have : c = a := h.one hc ha1 (by rw [e]; exact hb2) ha2
    subst this
    exact e.symm
end
end Go.Proofs.Ytkgaiadmacapfaa.Tab
