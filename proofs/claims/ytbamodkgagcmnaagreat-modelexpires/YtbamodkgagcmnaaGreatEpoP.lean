/-
  Slots that are free, taken or retired, plain facts: what each act does to them, and what holds of them.
-/
import Derived.WalkKit
set_option maxRecDepth 100000
namespace Go.Proofs.YtbamodkgagcmnaaGreat.Epo
open Go

/-- A slot's state (0 free, 1 taken, 2 retired), and at which epoch. -/
structure Slot where
  st : Int
  at' : Int
deriving DecidableEq
abbrev slot0 : Slot := ⟨0, 0⟩
/-- Something that is done: 0 Take, 1 Retire, 2 Free; others: Ripe. -/
structure Act where
  k : Int
  slot : Int
  at' : Int
  pins : List Int
def size (n : Int) : Nat := (max 0 (min n 8)).toNat
theorem size_le (n : Int) : size n ≤ 8 := by unfold size; omega
theorem size_in {n : Nat} (h : n ≤ 8) : size (n : Int) = n := by unfold size; omega
def new (n : Int) : List Slot := List.replicate (size n) slot0
/-- The first one that is so, counted from k on. -/
def first (p : Slot → Bool) : List Slot → Nat → Option Nat
  | [], _ => none
  | x :: l, k => if p x then some k else first p l (k + 1)
theorem first_none (p : Slot → Bool) : ∀ (l : List Slot) (k : Nat), (∀ x ∈ l, p x = false) → first p l k = none
  | [], _, _ => rfl
  | x :: l, k, h => by
    unfold first
    rw [if_neg (by rw [h x (by simp)]; simp)]
    exact first_none p l (k + 1) fun y hy => h y (by simp [hy])
theorem first_at (p : Slot → Bool) : ∀ (l : List Slot) (k i : Nat) (hi : i < l.length), p l[i] = true → (∀ j (hj : j < i), p (l[j]'(Nat.lt_trans hj hi)) = false) → first p l k = some (k + i)
  | [], _, i, hi, _, _ => by simp at hi
  | x :: l, k, 0, _, h, _ => by
    unfold first
    rw [if_pos (by simpa using h)]; rfl
  | x :: l, k, i + 1, hi, h, hn => by
    unfold first
    rw [if_neg (by have := hn 0 (by omega); simp at this; rw [this]; simp), first_at p l (k + 1) i (by simpa using hi) (by simpa using h) (fun j hj => by have := hn (j + 1) (by omega); simpa using this)]
    congr 1; omega
/-- What the first one is, told the other way. -/
theorem first_is (p : Slot → Bool) : ∀ (l : List Slot) (k : Nat), (first p l k = none ∧ ∀ x ∈ l, p x = false) ∨ ∃ i, ∃ hi : i < l.length, first p l k = some (k + i) ∧ p l[i] = true ∧ ∀ j (hj : j < i), p (l[j]'(Nat.lt_trans hj hi)) = false
  | [], _ => .inl ⟨rfl, by simp⟩
  | x :: l, k => by
    cases hx : p x with
    | true => exact .inr ⟨0, by simp, by unfold first; rw [if_pos hx]; rfl, by simpa using hx, fun j hj => by omega⟩
    | false =>
      have e : first p (x :: l) k = first p l (k + 1) := by rw [first, if_neg (by rw [hx]; simp)]
      rcases first_is p l (k + 1) with ⟨h1, h2⟩ | ⟨i, hi, h1, h2, h3⟩
      · refine .inl ⟨e.trans h1, fun y hy => ?_⟩
        rcases List.mem_cons.1 hy with rfl | hy
        · exact hx
        · exact h2 y hy
      · refine .inr ⟨i + 1, by simpa using hi, by rw [e, h1]; congr 1; omega, by simpa using h2, fun j hj => ?_⟩
        cases j with
        | zero => simpa using hx
        | succ j => simpa using h3 j (by omega)
theorem first_congr {p q : Slot → Bool} : ∀ (l : List Slot) (k : Nat), (∀ x ∈ l, p x = q x) → first p l k = first q l k
  | [], _, _ => rfl
  | x :: l, k, h => by
    unfold first
    rw [h x (by simp), first_congr l (k + 1) fun y hy => h y (by simp [hy])]

def state (l : List Slot) (i : Int) : Int := if 0 ≤ i ∧ i < (l.length : Int) then (l.getD i.toNat slot0).st else -1
theorem state_nat {l : List Slot} {i : Nat} (h : i < l.length) : state l (i : Int) = l[i].st := by
  unfold state
  rw [if_pos ⟨by omega, by omega⟩, Int.toNat_natCast, List.getD_eq_getElem?_getD, List.getElem?_eq_getElem h]; rfl
theorem state_out {l : List Slot} {i : Int} (h : ¬ (0 ≤ i ∧ i < (l.length : Int))) : state l i = -1 := if_neg h
theorem state_in {l : List Slot} {i : Int} (h : state l i ≠ -1) : ∃ k : Nat, i = (k : Nat) ∧ ∃ hk : k < l.length, state l i = l[k].st := by
  by_cases hi : 0 ≤ i ∧ i < (l.length : Int)
  · obtain ⟨k, rfl⟩ := Int.eq_ofNat_of_zero_le hi.1
    have hk : k < l.length := by omega
    exact ⟨k, rfl, hk, state_nat hk⟩
  · exact absurd (state_out hi) h
def take (l : List Slot) : List Slot × Int := match first (fun s => s.st == 0) l 0 with
  | some i => (l.set i ⟨1, 0⟩, (i : Int))
  | none => (l, -1)
def retire (l : List Slot) (i a : Int) : List Slot × Bool := if state l i = 1 then (l.set i.toNat ⟨2, a⟩, true) else (l, false)
def free (l : List Slot) (i : Int) : List Slot × Bool := if state l i = 2 then (l.set i.toNat slot0, true) else (l, false)
/-- Are all pins that are not 0 above an epoch? -/
def above (pins : List Int) (a : Int) : Bool := pins.all fun p => p == 0 || decide (a < p)
def ripe (l : List Slot) (pins : List Int) : Int := match first (fun s => s.st == 2 && above pins s.at') l 0 with
  | some i => (i : Int)
  | none => -1
def num (b : Bool) : Int := if b then 1 else 0
def act (l : List Slot) (x : Act) : List Slot × Int :=
  if x.k = 0 then take l
  else if x.k = 1 then ((retire l x.slot x.at').1, num (retire l x.slot x.at').2)
  else if x.k = 2 then ((free l x.slot).1, num (free l x.slot).2)
  else (l, ripe l x.pins)
def runs (l : List Slot) (xs : List Act) : List Slot := xs.foldl (fun l x => (act l x).1) l
theorem runs_take {l : List Slot} {xs : List Act} {k : Nat} (h : k < xs.length) : runs l (xs.take (k + 1)) = (act (runs l (xs.take k)) xs[k]).1 := by
  unfold runs
  rw [List.take_succ_eq_append_getElem h, List.foldl_append]; rfl

/-- What an act does: it takes a free slot, retires a taken one, frees a retired one, or changes nothing; and what it tells. -/
inductive Does (l : List Slot) (x : Act) : List Slot → Int → Prop
  | takes (i : Nat) (hi : i < l.length) (h0 : x.k = 0) (hs : l[i].st = 0) : Does l x (l.set i ⟨1, 0⟩) (i : Int)
  | full (h0 : x.k = 0) : Does l x l (-1)
  | retires (i : Nat) (hi : i < l.length) (h1 : x.k = 1) (hx : x.slot = (i : Int)) (hs : l[i].st = 1) : Does l x (l.set i ⟨2, x.at'⟩) 1
  | frees (i : Nat) (hi : i < l.length) (h2 : x.k = 2) (hx : x.slot = (i : Int)) (hs : l[i].st = 2) : Does l x (l.set i slot0) 1
  | not (h : x.k = 1 ∨ x.k = 2) : Does l x l 0
  | asks (h0 : x.k ≠ 0) (h1 : x.k ≠ 1) (h2 : x.k ≠ 2) : Does l x l (ripe l x.pins)
theorem act_does (l : List Slot) (x : Act) : Does l x (act l x).1 (act l x).2 := by
  unfold act
  by_cases h0 : x.k = 0
  · rw [if_pos h0]
    unfold take
    rcases first_is (fun s => s.st == 0) l 0 with ⟨h, _⟩ | ⟨i, hi, h, hp, _⟩
    · rw [h]; exact .full h0
    · rw [h, Nat.zero_add]; exact .takes i hi h0 (by simpa using hp)
  rw [if_neg h0]
  by_cases h1 : x.k = 1
  · rw [if_pos h1]
    unfold retire
    by_cases hs : state l x.slot = 1
    · rw [if_pos hs]
      obtain ⟨k, hk, hlt, he⟩ := state_in (l := l) (i := x.slot) (by rw [hs]; decide)
      have : x.slot.toNat = k := by omega
      rw [this]
      exact .retires k hlt h1 hk (by rw [← he, hs])
    · rw [if_neg hs]; exact .not (.inl h1)
  rw [if_neg h1]
  by_cases h2 : x.k = 2
  · rw [if_pos h2]
    unfold free
    by_cases hs : state l x.slot = 2
    · rw [if_pos hs]
      obtain ⟨k, hk, hlt, he⟩ := state_in (l := l) (i := x.slot) (by rw [hs]; decide)
      have : x.slot.toNat = k := by omega
      rw [this]
      exact .frees k hlt h2 hk (by rw [← he, hs])
    · rw [if_neg hs]; exact .not (.inr h2)
  rw [if_neg h2]
  exact .asks h0 h1 h2
theorem Does.length {l m : List Slot} {x : Act} {r : Int} (h : Does l x m r) : m.length = l.length := by
  cases h <;> simp
/-- All states are one of the three. -/
def Ok (l : List Slot) : Prop := ∀ s ∈ l, s.st = 0 ∨ s.st = 1 ∨ s.st = 2
theorem new_ok (n : Int) : Ok (new n) := fun s hs => by rw [List.eq_of_mem_replicate hs]; exact .inl rfl
theorem Does.ok {l m : List Slot} {x : Act} {r : Int} (h : Does l x m r) (ho : Ok l) : Ok m := by
  have key : ∀ (i : Nat) (s : Slot), (s.st = 0 ∨ s.st = 1 ∨ s.st = 2) → Ok (l.set i s) := fun i s hs y hy => by
    rcases List.mem_or_eq_of_mem_set hy with hy | rfl
    · exact ho y hy
    · exact hs
  cases h with
  | takes => exact key _ _ (.inr (.inl rfl))
  | full => exact ho
  | retires => exact key _ _ (.inr (.inr rfl))
  | frees => exact key _ _ (.inl rfl)
  | not => exact ho
  | asks => exact ho
theorem runs_keeps (n : Int) (xs : List Act) : (runs (new n) xs).length = size n ∧ Ok (runs (new n) xs) := by
  have key : ∀ (xs : List Act) (l : List Slot), Ok l → (runs l xs).length = l.length ∧ Ok (runs l xs) := by
    intro xs
    induction xs with
    | nil => intro l h; exact ⟨rfl, h⟩
    | cons x xs ih =>
      intro l h
      have d := act_does l x
      have := ih (act l x).1 (d.ok h)
      exact ⟨this.1.trans d.length, this.2⟩
  have := key xs (new n) (new_ok n)
  exact ⟨by rw [this.1]; simp [new], this.2⟩

/-- What a law keeps of eight slots: their states, and 0 where there is none. -/
def heldOf (l : List Slot) : List Int := l.map (·.st) ++ List.replicate (8 - l.length) 0
theorem heldOf_length {l : List Slot} (h : l.length ≤ 8) : (heldOf l).length = 8 := by simp [heldOf]; omega
theorem heldOf_new (n : Int) : heldOf (new n) = List.replicate 8 0 := by
  have := size_le n
  unfold heldOf new
  rw [List.map_replicate, List.length_replicate]
  show List.replicate (size n) (0 : Int) ++ List.replicate (8 - size n) 0 = _
  rw [List.replicate_append_replicate]; congr 1; omega
theorem heldOf_at {l : List Slot} (h : l.length ≤ 8) {i : Nat} (hi : i < l.length) : (heldOf l)[i]'(by rw [heldOf_length h]; omega) = l[i].st := by
  unfold heldOf
  rw [List.getElem_append_left (by simpa using hi)]; simp
theorem heldOf_out {l : List Slot} (h : l.length ≤ 8) {i : Nat} (hi : l.length ≤ i) (h8 : i < 8) : (heldOf l)[i]'(by rw [heldOf_length h]; omega) = 0 := by
  unfold heldOf
  rw [List.getElem_append_right (by simpa using hi)]; simp
theorem heldOf_set {l : List Slot} {i : Nat} (hi : i < l.length) (s : Slot) : heldOf (l.set i s) = (heldOf l).set i s.st := by
  unfold heldOf
  rw [List.set_append, if_pos (by simpa using hi), List.map_set, List.length_set]

/-- At which epochs slots were retired: what a law keeps of eight slots is so wherever one is retired. -/
def AtOk (l : List Slot) (ats : List Int) : Prop := ats.length = 8 ∧ ∀ i (hi : i < l.length) (ha : i < ats.length), l[i].st = 2 → ats[i] = l[i].at'
theorem atOk_new (n : Int) : AtOk (new n) (List.replicate 8 0) := ⟨by simp, fun i hi _ h => by simp [new] at h⟩
theorem AtOk.set {l : List Slot} {ats : List Int} (h : AtOk l ats) {i : Nat} (s : Slot) (hs : s.st ≠ 2) : AtOk (l.set i s) ats := by
  refine ⟨h.1, fun j hj ha h2 => ?_⟩
  have hj' : j < l.length := by simpa using hj
  by_cases e : i = j
  · subst e; rw [List.getElem_set_self] at h2; exact absurd h2 hs
  · rw [List.getElem_set_ne e] at h2 ⊢; exact h.2 j hj' ha h2
theorem AtOk.both {l : List Slot} {ats : List Int} (h : AtOk l ats) {i : Nat} (s : Slot) : AtOk (l.set i s) (ats.set i s.at') := by
  refine ⟨by simpa using h.1, fun j hj ha h2 => ?_⟩
  have hj' : j < l.length := by simpa using hj
  have ha' : j < ats.length := by simpa using ha
  by_cases e : i = j
  · subst e; rw [List.getElem_set_self, List.getElem_set_self]
  · rw [List.getElem_set_ne e] at h2 ⊢; rw [List.getElem_set_ne e]; exact h.2 j hj' ha' h2

/-- What is ripe: none, or the first that is retired and below all pins. -/
theorem ripe_is (l : List Slot) (pins : List Int) : (ripe l pins = -1 ∧ ∀ s ∈ l, ¬ (s.st = 2 ∧ above pins s.at' = true)) ∨
    ∃ i, ∃ hi : i < l.length, ripe l pins = (i : Int) ∧ l[i].st = 2 ∧ above pins l[i].at' = true ∧ ∀ j (hj : j < i), ¬ ((l[j]'(Nat.lt_trans hj hi)).st = 2 ∧ above pins (l[j]'(Nat.lt_trans hj hi)).at' = true) := by
  unfold ripe
  rcases first_is (fun s => s.st == 2 && above pins s.at') l 0 with ⟨h, hn⟩ | ⟨i, hi, h, hp, hn⟩
  · rw [h]
    refine .inl ⟨rfl, fun s hs ⟨h1, h2⟩ => ?_⟩
    have := hn s hs
    simp [h1, h2] at this
  · rw [h, Nat.zero_add]
    simp only [Bool.and_eq_true, beq_iff_eq] at hp
    refine .inr ⟨i, hi, rfl, hp.1, hp.2, fun j hj ⟨h1, h2⟩ => ?_⟩
    have := hn j hj
    simp [h1, h2] at this
theorem above_append (p q : List Int) (a : Int) : above (p ++ q) a = (above p a && above q a) := by simp [above]
theorem above_zero (p : List Int) (a : Int) : above (0 :: p) a = above p a := by simp [above]
theorem above_one (m a : Int) : above [m] a = true ↔ m = 0 ∨ a < m := by simp [above]
theorem above_mem {p : List Int} {a : Int} (h : above p a = true) {x : Int} (hx : x ∈ p) : x = 0 ∨ a < x := by
  have := List.all_eq_true.1 h x hx
  simpa using this
theorem ripe_zero (l : List Slot) (p : List Int) : ripe l (0 :: p) = ripe l p := by
  unfold ripe
  rw [first_congr (q := fun s => s.st == 2 && above p s.at') l 0 fun x _ => by rw [above_zero]]
theorem ripe_same (l : List Slot) (p : List Int) {m : Int} (h : m = 0) : ripe l (p ++ [m]) = ripe l p := by
  subst h
  unfold ripe
  rw [first_congr (q := fun s => s.st == 2 && above p s.at') l 0 fun x _ => by rw [above_append]; simp [above]]
/-- A pin more makes no slot ripe. -/
theorem ripe_more (l : List Slot) (p : List Int) (m : Int) (h : 0 ≤ ripe l (p ++ [m])) : 0 ≤ ripe l p ∧ ripe l p ≤ ripe l (p ++ [m]) := by
  rcases ripe_is l (p ++ [m]) with ⟨h1, _⟩ | ⟨i, hi, h1, h2, h3, _⟩
  · omega
  rw [above_append, Bool.and_eq_true] at h3
  rcases ripe_is l p with ⟨k1, k2⟩ | ⟨j, hj, k1, k2, k3, k4⟩
  · exact absurd ⟨h2, h3.1⟩ (k2 _ (List.getElem_mem hi))
  · refine ⟨by omega, ?_⟩
    rw [k1, h1]
    rcases Nat.lt_or_ge i j with hlt | hge
    · exact absurd ⟨h2, h3.1⟩ (k4 i hlt)
    · omega
/-- The lowest pin that is not 0; 0, if there is none (none: the second is false). -/
def low : List Int → Int × Bool := fun p => p.foldl (fun s x => if x ≠ 0 ∧ (s.2 = false ∨ x < s.1) then (x, true) else s) (0, false)
theorem low_snoc (p : List Int) (x : Int) : low (p ++ [x]) = if x ≠ 0 ∧ ((low p).2 = false ∨ x < (low p).1) then (x, true) else low p := by unfold low; rw [List.foldl_append]; rfl
theorem low_take {p : List Int} {k : Nat} (h : k < p.length) : low (p.take (k + 1)) = if p[k] ≠ 0 ∧ ((low (p.take k)).2 = false ∨ p[k] < (low (p.take k)).1) then (p[k], true) else low (p.take k) := by
  rw [List.take_succ_eq_append_getElem h, low_snoc]
theorem low_is (p : List Int) : ((low p).2 = false → (low p).1 = 0 ∧ ∀ x ∈ p, x = 0) ∧ ((low p).2 = true → (low p).1 ∈ p ∧ (low p).1 ≠ 0 ∧ ∀ x ∈ p, x = 0 ∨ (low p).1 ≤ x) := by
  have key : ∀ n (p : List Int), p.length = n → ((low p).2 = false → (low p).1 = 0 ∧ ∀ x ∈ p, x = 0) ∧ ((low p).2 = true → (low p).1 ∈ p ∧ (low p).1 ≠ 0 ∧ ∀ x ∈ p, x = 0 ∨ (low p).1 ≤ x) := by
    intro n
    induction n with
    | zero => intro p hp; obtain rfl := List.eq_nil_of_length_eq_zero hp; simp [low]
    | succ n ih =>
      intro p hp
      rcases List.eq_nil_or_concat p with rfl | ⟨q, x, rfl⟩
      · simp at hp
      rw [List.concat_eq_append] at hp ⊢
      have hq : q.length = n := by simp at hp; omega
      obtain ⟨i1, i2⟩ := ih q hq
      rw [low_snoc]
      by_cases hc : x ≠ 0 ∧ ((low q).2 = false ∨ x < (low q).1)
      · rw [if_pos hc]
        refine ⟨(fun h => by cases h), fun _ => ⟨by simp, hc.1, fun y hy => ?_⟩⟩
        rcases List.mem_append.1 hy with hy | hy
        · rcases hc.2 with h0 | h0
          · exact .inl ((i1 h0).2 y hy)
          · cases hb : (low q).2 with
            | false => exact .inl ((i1 hb).2 y hy)
            | true =>
              rcases (i2 hb).2.2 y hy with h | h
              · exact .inl h
              · right; show x ≤ y; omega
        · simp at hy; subst hy; exact .inr (Int.le_refl _)
      · rw [if_neg hc]
        refine ⟨fun h => ⟨(i1 h).1, fun y hy => ?_⟩, fun h => ⟨by simp [(i2 h).1], (i2 h).2.1, fun y hy => ?_⟩⟩
        · rcases List.mem_append.1 hy with hy | hy
          · exact (i1 h).2 y hy
          · simp at hy; subst hy
            exact Decidable.byContradiction fun hx => hc ⟨hx, .inl h⟩
        · rcases List.mem_append.1 hy with hy | hy
          · exact (i2 h).2.2 y hy
          · simp at hy; subst hy
            by_cases hx : y = 0
            · exact .inl hx
            · right
              exact Decidable.byContradiction fun hle => hc ⟨hx, .inr (by omega)⟩
  exact key _ p rfl
theorem above_low (p : List Int) (a : Int) : above p a = above [(low p).1] a := by
  obtain ⟨h1, h2⟩ := low_is p
  rw [Bool.eq_iff_iff, above_one]
  cases hb : (low p).2 with
  | false =>
    obtain ⟨e, h0⟩ := h1 hb
    refine ⟨fun _ => .inl e, fun _ => List.all_eq_true.2 fun x hx => by simp [h0 x hx]⟩
  | true =>
    obtain ⟨hm, hn, hl⟩ := h2 hb
    refine ⟨fun h => above_mem h hm, fun h => List.all_eq_true.2 fun x hx => ?_⟩
    rcases h with h | h
    · exact absurd h hn
    · rcases hl x hx with h' | h'
      · simp [h']
      · have : a < x := by omega
        simp [this]
theorem ripe_low (l : List Slot) (p : List Int) : ripe l p = ripe l [(low p).1] := by
  unfold ripe
  rw [first_congr (q := fun s => s.st == 2 && above [(low p).1] s.at') l 0 fun x _ => by rw [above_low]]
theorem ripe_no (l : List Slot) {p : List Int} (h : (low p).2 = false) : ripe l p = ripe l [] := by
  unfold ripe
  rw [first_congr (q := fun s => s.st == 2 && above [] s.at') l 0 fun x _ => by
    rw [show above p x.at' = true from List.all_eq_true.2 fun y hy => by simp [((low_is p).1 h).2 y hy]]; rfl]

/-- So many slots retired, the others free. -/
def some' (n k : Nat) (a : Int) : List Slot := List.replicate k ⟨2, a⟩ ++ List.replicate (n - k) slot0
theorem some_length {n k : Nat} (a : Int) (h : k ≤ n) : (some' n k a).length = n := by simp [some']; omega
theorem some_new {n : Nat} (a : Int) (h : n ≤ 8) : new (n : Int) = some' n 0 a := by simp [new, some', size_in h]
theorem some_lt {n k i : Nat} {a : Int} (hk : k ≤ n) (h : i < k) : (some' n k a)[i]'(by rw [some_length a hk]; omega) = ⟨2, a⟩ := by
  unfold some'
  rw [List.getElem_append_left (by simpa using h)]; simp
theorem some_ge {n k i : Nat} {a : Int} (hk : k ≤ n) (h : k ≤ i) (hi : i < n) : (some' n k a)[i]'(by rw [some_length a hk]; omega) = slot0 := by
  unfold some'
  rw [List.getElem_append_right (by simpa using h)]; simp
theorem some_take {n k : Nat} (a : Int) (h : k < n) : take (some' n k a) = ((some' n k a).set k ⟨1, 0⟩, (k : Int)) := by
  unfold take
  rw [first_at (fun s => s.st == 0) (some' n k a) 0 k (by rw [some_length a (by omega)]; exact h) (by rw [some_ge (by omega) (Nat.le_refl _) h]; rfl) (fun j hj => by rw [some_lt (by omega) hj]; rfl), Nat.zero_add]
theorem some_full (n : Nat) (a : Int) : take (some' n n a) = (some' n n a, -1) := by
  unfold take
  rw [first_none]
  intro x hx
  simp [some'] at hx
  rw [hx.2]; rfl
theorem some_next {n k : Nat} (a : Int) (h : k < n) (u : Slot) : ((some' n k a).set k u).set k ⟨2, a⟩ = some' n (k + 1) a := by
  rw [List.set_set]
  apply List.ext_getElem
  · rw [List.length_set, some_length a (by omega), some_length a (by omega)]
  · intro i h1 h2
    rw [List.length_set, some_length a (by omega)] at h1
    by_cases e : k = i
    · subst e; rw [List.getElem_set_self, some_lt (by omega) (by omega)]
    · rw [List.getElem_set_ne e]
      by_cases hlt : i < k
      · rw [some_lt (by omega) hlt, some_lt (by omega) (by omega)]
      · rw [some_ge (by omega) (by omega) h1, some_ge (by omega) (by omega) h1]
theorem some_ripe {n : Nat} (hn : 0 < n) (a : Int) (p : List Int) : ripe (some' n n a) p = if above p a = true then 0 else -1 := by
  rcases ripe_is (some' n n a) p with ⟨h1, h2⟩ | ⟨i, hi, h1, h2, h3, h4⟩
  · have h0 : (0 : Nat) < (some' n n a).length := by rw [some_length a (Nat.le_refl _)]; exact hn
    have := h2 _ (List.getElem_mem h0)
    rw [some_lt (Nat.le_refl _) hn] at this
    rw [h1, if_neg fun h => this ⟨rfl, h⟩]
  · rw [some_length a (Nat.le_refl _)] at hi
    rw [some_lt (Nat.le_refl _) hi] at h3
    rw [h1, if_pos h3]
    cases i with
    | zero => rfl
    | succ i =>
      have := h4 0 (by omega)
      rw [some_lt (Nat.le_refl _) hn] at this
      exact absurd ⟨rfl, h3⟩ this
theorem some_free {n : Nat} (hn : 0 < n) (a : Int) : free (some' n n a) ((n : Int) - 1) = ((some' n n a).set (n - 1) slot0, true) := by
  have e : ((n : Int) - 1) = ((n - 1 : Nat) : Int) := by omega
  have hl : n - 1 < (some' n n a).length := by rw [some_length a (Nat.le_refl _)]; omega
  unfold free
  rw [e, state_nat hl, if_pos (by rw [some_lt (Nat.le_refl _) (by omega)]), Int.toNat_natCast]
theorem some_last {n : Nat} (hn : 0 < n) (a : Int) : take ((some' n n a).set (n - 1) slot0) = (((some' n n a).set (n - 1) slot0).set (n - 1) ⟨1, 0⟩, ((n - 1 : Nat) : Int)) := by
  have hl : (some' n n a).length = n := some_length a (Nat.le_refl _)
  unfold take
  rw [first_at (fun s => s.st == 0) _ 0 (n - 1) (by rw [List.length_set, hl]; omega) (by rw [List.getElem_set_self]; rfl) (fun j hj => by rw [List.getElem_set_ne (by omega), some_lt (Nat.le_refl _) (by omega)]; rfl), Nat.zero_add]
end Go.Proofs.YtbamodkgagcmnaaGreat.Epo
