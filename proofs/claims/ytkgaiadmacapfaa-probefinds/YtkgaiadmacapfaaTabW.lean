/-
  Tables of flows, plain facts: a way goes on from its home, and around.
-/
import Derived.Test.YtkgaiadmacapfaaTabQ
namespace Go.Proofs.Ytkgaiadmacapfaa.Tab

/-- A place, or -1. -/
def zOf : Option Nat → Int
  | some a => (a : Int)
  | none => -1
theorem zOf_neg (o : Option Nat) : zOf o < 0 ↔ o = none := by cases o <;> simp [zOf] <;> omega
theorem zOf_some {o : Option Nat} {a : Nat} : zOf o = (a : Int) ↔ o = some a := by cases o <;> simp [zOf] <;> omega
theorem zOf_inj {o p : Option Nat} (h : zOf o = zOf p) : o = p := by
  cases o <;> cases p <;> simp [zOf] at h ⊢ <;> omega

theorem mod_step (n r i : Nat) (hr : r < n) (hi : i < n) : (r + i) % n = if r + i < n then r + i else r + i - n := by
  split
  · rename_i h; exact Nat.mod_eq_of_lt h
  · rename_i h
    rw [Nat.mod_eq_sub_mod (by omega), Nat.mod_eq_of_lt (by omega)]
theorem mod_home (n h i : Nat) : (h + i) % n = (h % n + i) % n := by rw [Nat.mod_add_mod]
theorem way_inj {n h i j : Nat} (hi : i < n) (hj : j < n) (e : (h + i) % n = (h + j) % n) : i = j := by
  have hr := Nat.mod_lt h (show 0 < n by omega)
  rw [mod_home n h i, mod_home n h j, mod_step n _ i hr hi, mod_step n _ j hr hj] at e
  split at e <;> split at e <;> omega
theorem way_at {n h i : Nat} (hi : i < n) : (wayOf n h)[i]? = some ((h + i) % n) := by
  unfold wayOf
  rw [List.getElem?_map, List.getElem?_range hi]; rfl
theorem way_drop {n h i : Nat} (hi : i < n) : (wayOf n h).drop i = (h + i) % n :: (wayOf n h).drop (i + 1) := by
  have hl : i < (wayOf n h).length := by rw [way_length]; exact hi
  rw [List.drop_eq_getElem_cons hl]
  congr 1
  have := way_at (h := h) hi
  rw [List.getElem?_eq_getElem hl] at this
  exact Option.some.inj this
theorem findP_skip (T : List Ent) (k : ByteArray) (n h : Nat) : ∀ m, m ≤ n → (∀ i, i < m → Pass (ent T ((h + i) % n)) k) → findP T k (wayOf n h) = findP T k ((wayOf n h).drop m)
  | 0, _, _ => by rw [List.drop_zero]
  | m + 1, hm, hp => by
    rw [findP_skip T k n h m (by omega) (fun i hi => hp i (by omega)), way_drop (by omega)]
    have := hp m (by omega)
    conv => lhs; unfold findP
    rw [if_neg this.1, if_neg this.2]
theorem roomP_skip (T : List Ent) (n h : Nat) : ∀ m, m ≤ n → (∀ i, i < m → (ent T ((h + i) % n)).st = 1) → roomP T (wayOf n h) = roomP T ((wayOf n h).drop m)
  | 0, _, _ => by rw [List.drop_zero]
  | m + 1, hm, hp => by
    rw [roomP_skip T n h m (by omega) (fun i hi => hp i (by omega)), way_drop (by omega)]
    conv => lhs; unfold roomP
    rw [if_pos (hp m (by omega))]
/-- The first m places of a way hold e, all others nothing. -/
def wayT (n h : Nat) (e : Ent) : Nat → List Ent
  | 0 => List.replicate n ent0
  | m + 1 => (wayT n h e m).set ((h + m) % n) e
theorem wayT_length (n h : Nat) (e : Ent) : ∀ m, (wayT n h e m).length = n
  | 0 => by simp [wayT]
  | m + 1 => by unfold wayT; rw [List.length_set]; exact wayT_length n h e m
theorem wayT_ent (n h : Nat) (e : Ent) : ∀ m, m ≤ n → ∀ i, i < n → ent (wayT n h e m) ((h + i) % n) = if i < m then e else ent0
  | 0, _, i, hi => by
    unfold wayT ent
    rw [if_neg (by omega), List.getElem?_replicate]
    split <;> rfl
  | m + 1, hm, i, hi => by
    unfold wayT
    rw [ent_set _ _ _ (by rw [wayT_length]; exact Nat.mod_lt _ (by omega)), wayT_ent n h e m (by omega) i hi]
    by_cases h1 : i = m
    · subst h1; rw [if_pos rfl, if_pos (by omega)]
    · rw [if_neg (fun h' => h1 (way_inj hi (by omega) h'))]
      by_cases h2 : i < m
      · rw [if_pos h2, if_pos (by omega)]
      · rw [if_neg h2, if_neg (by omega)]
section
variable {home : ByteArray → Nat → Nat} {n m : Nat} {k o : ByteArray} {b d : Int}
/-- On such a table the key is not found, and there is room at the next place. -/
theorem wayT_find (hm : m < n) (ho : o ≠ k) : find home (wayT n (home k n) (live o b d) m) k = none := by
  unfold find
  rw [wayT_length, findP_skip _ _ _ _ m (by omega) (fun i hi => by rw [wayT_ent _ _ _ m (by omega) i (by omega), if_pos hi]; exact pass_live b d ho), way_drop hm]
  unfold findP
  rw [wayT_ent _ _ _ m (by omega) m hm, if_neg (Nat.lt_irrefl m)]
  rfl
theorem wayT_room (hm : m < n) (ho : o ≠ k) : room home (wayT n (home k n) (live o b d) m) k = some ((home k n + m) % n) := by
  unfold room
  rw [wayT_find hm ho]
  show roomP _ _ = _
  rw [wayT_length, roomP_skip _ _ _ m (by omega) (fun i hi => by rw [wayT_ent _ _ _ m (by omega) i (by omega), if_pos hi]; rfl), way_drop hm]
  unfold roomP
  rw [wayT_ent _ _ _ m (by omega) m hm, if_neg (Nat.lt_irrefl m)]
  rfl
end
/-- What is told of a table: what is found is live, what is room is not, there is neither just if all are live. -/
theorem told_finds {home : ByteArray → Nat → Nat} (T : List Ent) (k : ByteArray) :
    (∃ a, find home T k = some a ∧ room home T k = none ∧ a < T.length ∧ Hit (ent T a) k) ∨ (find home T k = none ∧ ∃ a, room home T k = some a ∧ a < T.length ∧ (ent T a).st ≠ 1) ∨ (find home T k = none ∧ room home T k = none ∧ count 1 T = T.length) := by
  cases hf : find home T k with
  | some a =>
    obtain ⟨h1, h2⟩ := find_some hf
    exact .inl ⟨a, rfl, by unfold room; rw [hf], h1, h2⟩
  | none =>
    cases hr : room home T k with
    | some a =>
      obtain ⟨h1, h2, _⟩ := room_some hr
      exact .inr (.inl ⟨rfl, a, rfl, h1, h2⟩)
    | none => exact .inr (.inr ⟨rfl, rfl, count_all.2 (room_none hf hr)⟩)
/-- What is put where there is room. -/
theorem told_puts {home : ByteArray → Nat → Nat} {T : List Ent} {k : ByteArray} {a : Nat} (b d : Int) (h : room home T k = some a) :
    find home (T.set a (live k b d)) k = some a ∧ count 1 (T.set a (live k b d)) = count 1 T + 1 ∧ ∀ o, k ≠ o → ∀ c, find home T o = some c → find home (T.set a (live k b d)) o = some c := by
  obtain ⟨h1, h2, _⟩ := room_some h
  refine ⟨find_room (hit_live k b d) h, ?_, fun o ho c hc => find_keep h1 h2 (pass_live b d ho) hc⟩
  have := count_set 1 (live k b d) T a h1
  rw [if_neg h2, if_pos (show (live k b d).st = 1 from rfl)] at this
  omega
/-- With a tomb instead of one. -/
theorem told_tombs {home : ByteArray → Nat → Nat} {T : List Ent} {k : ByteArray} {a : Nat} (h : find home T k = some a) :
    (∀ o, k ≠ o → find home (T.set a tomb) o = find home T o) ∧ count 1 (T.set a tomb) + 1 = count 1 T := by
  obtain ⟨h1, h2⟩ := find_some h
  refine ⟨fun o ho => find_pass h1 (pass_hit h2 ho) (pass_tomb o), ?_⟩
  have := count_set 1 tomb T a h1
  rw [if_pos h2.1, if_neg (show ¬ tomb.st = 1 by decide)] at this
  omega
end Go.Proofs.Ytkgaiadmacapfaa.Tab
