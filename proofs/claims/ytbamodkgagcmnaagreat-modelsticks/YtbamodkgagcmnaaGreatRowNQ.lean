/-
  Slots that are free, taken or retired, plain facts: what each act does to them, and what holds of them.
-/
import Derived.WalkKit
import Derived.Test.YtbamodkgagcmnaaGreatCelRQ
set_option maxRecDepth 100000
namespace Go.Proofs.YtbamodkgagcmnaaGreat.Epo
open Go

/-- A slot's state (0 free, 1 taken, 2 retired), and at which epoch. -/
structure Slot where
  st : Int
  at' : Int
deriving DecidableEq
abbrev slot0 : Slot := ⟨0, 0⟩
/-- Something that is done: 0 Take, 1 Retire, 2 Free; others: Ripe. -/
structure Act where
  k : Int
  slot : Int
  at' : Int
  pins : List Int
def size (n : Int) : Nat := (max 0 (min n 8)).toNat
theorem size_in {n : Nat} (h : n ≤ 8) : size (n : Int) = n := by unfold size; omega
def new (n : Int) : List Slot := List.replicate (size n) slot0
/-- The first one that is so, counted from k on. -/
def first (p : Slot → Bool) : List Slot → Nat → Option Nat
  | [], _ => none
  | x :: l, k => if p x then some k else first p l (k + 1)
def state (l : List Slot) (i : Int) : Int := if 0 ≤ i ∧ i < (l.length : Int) then (l.getD i.toNat slot0).st else -1
def take (l : List Slot) : List Slot × Int := match first (fun s => s.st == 0) l 0 with
  | some i => (l.set i ⟨1, 0⟩, (i : Int))
  | none => (l, -1)
def retire (l : List Slot) (i a : Int) : List Slot × Bool := if state l i = 1 then (l.set i.toNat ⟨2, a⟩, true) else (l, false)
def free (l : List Slot) (i : Int) : List Slot × Bool := if state l i = 2 then (l.set i.toNat slot0, true) else (l, false)
/-- Are all pins that are not 0 above an epoch? -/
def above (pins : List Int) (a : Int) : Bool := pins.all fun p => p == 0 || decide (a < p)
def ripe (l : List Slot) (pins : List Int) : Int := match first (fun s => s.st == 2 && above pins s.at') l 0 with
  | some i => (i : Int)
  | none => -1
def num (b : Bool) : Int := if b then 1 else 0
def act (l : List Slot) (x : Act) : List Slot × Int :=
  if x.k = 0 then take l
  else if x.k = 1 then ((retire l x.slot x.at').1, num (retire l x.slot x.at').2)
  else if x.k = 2 then ((free l x.slot).1, num (free l x.slot).2)
  else (l, ripe l x.pins)
def runs (l : List Slot) (xs : List Act) : List Slot := xs.foldl (fun l x => (act l x).1) l
theorem runs_take {l : List Slot} {xs : List Act} {k : Nat} (h : k < xs.length) : runs l (xs.take (k + 1)) = (act (runs l (xs.take k)) xs[k]).1 := by
  unfold runs
  rw [List.take_succ_eq_append_getElem h, List.foldl_append]; rfl

/-- What an act does: it takes a free slot, retires a taken one, frees a retired one, or changes nothing; and what it tells. -/
inductive Does (l : List Slot) (x : Act) : List Slot → Int → Prop
  | takes (i : Nat) (hi : i < l.length) (h0 : x.k = 0) (hs : l[i].st = 0) : Does l x (l.set i ⟨1, 0⟩) (i : Int)
  | full (h0 : x.k = 0) : Does l x l (-1)
  | retires (i : Nat) (hi : i < l.length) (h1 : x.k = 1) (hx : x.slot = (i : Int)) (hs : l[i].st = 1) : Does l x (l.set i ⟨2, x.at'⟩) 1
  | frees (i : Nat) (hi : i < l.length) (h2 : x.k = 2) (hx : x.slot = (i : Int)) (hs : l[i].st = 2) : Does l x (l.set i slot0) 1
  | not (h : x.k = 1 ∨ x.k = 2) : Does l x l 0
  | asks (h0 : x.k ≠ 0) (h1 : x.k ≠ 1) (h2 : x.k ≠ 2) : Does l x l (ripe l x.pins)
theorem Does.length {l m : List Slot} {x : Act} {r : Int} (h : Does l x m r) : m.length = l.length := by
  cases h <;> simp
/-- All states are one of the three. -/
def Ok (l : List Slot) : Prop := ∀ s ∈ l, s.st = 0 ∨ s.st = 1 ∨ s.st = 2
theorem Does.ok {l m : List Slot} {x : Act} {r : Int} (h : Does l x m r) (ho : Ok l) : Ok m := by
  have key : ∀ (i : Nat) (s : Slot), (s.st = 0 ∨ s.st = 1 ∨ s.st = 2) → Ok (l.set i s) := fun i s hs y hy => by
    rcases List.mem_or_eq_of_mem_set hy with hy | rfl
    · exact ho y hy
    · exact hs
  cases h with
  | takes => exact key _ _ (.inr (.inl rfl))
  | full => exact ho
  | retires => exact key _ _ (.inr (.inr rfl))
  | frees => exact key _ _ (.inl rfl)
  | not => exact ho
  | asks => exact ho
/-- What a law keeps of eight slots: their states, and 0 where there is none. -/
def heldOf (l : List Slot) : List Int := l.map (·.st) ++ List.replicate (8 - l.length) 0
/-- At which epochs slots were retired: what a law keeps of eight slots is so wherever one is retired. -/
def AtOk (l : List Slot) (ats : List Int) : Prop := ats.length = 8 ∧ ∀ i (hi : i < l.length) (ha : i < ats.length), l[i].st = 2 → ats[i] = l[i].at'
theorem AtOk.set {l : List Slot} {ats : List Int} (h : AtOk l ats) {i : Nat} (s : Slot) (hs : s.st ≠ 2) : AtOk (l.set i s) ats := by
  refine ⟨h.1, fun j hj ha h2 => ?_⟩
  have hj' : j < l.length := by simpa using hj
  by_cases e : i = j
  · subst e; rw [List.getElem_set_self] at h2; exact absurd h2 hs
  · rw [List.getElem_set_ne e] at h2 ⊢; exact h.2 j hj' ha h2
theorem AtOk.both {l : List Slot} {ats : List Int} (h : AtOk l ats) {i : Nat} (s : Slot) : AtOk (l.set i s) (ats.set i s.at') := by
  refine ⟨by simpa using h.1, fun j hj ha h2 => ?_⟩
  have hj' : j < l.length := by simpa using hj
  have ha' : j < ats.length := by simpa using ha
  by_cases e : i = j
  · subst e; rw [List.getElem_set_self, List.getElem_set_self]
  · rw [List.getElem_set_ne e] at h2 ⊢; rw [List.getElem_set_ne e]; exact h.2 j hj' ha' h2

/-- The lowest pin that is not 0; 0, if there is none (none: the second is false). -/
def low : List Int → Int × Bool := fun p => p.foldl (fun s x => if x ≠ 0 ∧ (s.2 = false ∨ x < s.1) then (x, true) else s) (0, false)
theorem low_snoc (p : List Int) (x : Int) : low (p ++ [x]) = if x ≠ 0 ∧ ((low p).2 = false ∨ x < (low p).1) then (x, true) else low p := by unfold low; rw [List.foldl_append]; rfl
theorem low_is (p : List Int) : ((low p).2 = false → (low p).1 = 0 ∧ ∀ x ∈ p, x = 0) ∧ ((low p).2 = true → (low p).1 ∈ p ∧ (low p).1 ≠ 0 ∧ ∀ x ∈ p, x = 0 ∨ (low p).1 ≤ x) := by
  have key : ∀ n (p : List Int), p.length = n → ((low p).2 = false → (low p).1 = 0 ∧ ∀ x ∈ p, x = 0) ∧ ((low p).2 = true → (low p).1 ∈ p ∧ (low p).1 ≠ 0 ∧ ∀ x ∈ p, x = 0 ∨ (low p).1 ≤ x) := by
    intro n
    induction n with
    | zero => intro p hp; obtain rfl := List.eq_nil_of_length_eq_zero hp; simp [low]
    | succ n ih =>
      intro p hp
      rcases List.eq_nil_or_concat p with rfl | ⟨q, x, rfl⟩
      · simp at hp
      rw [List.concat_eq_append] at hp ⊢
      have hq : q.length = n := by simp at hp; omega
      obtain ⟨i1, i2⟩ := ih q hq
      rw [low_snoc]
      by_cases hc : x ≠ 0 ∧ ((low q).2 = false ∨ x < (low q).1)
      · rw [if_pos hc]
        refine ⟨(fun h => by cases h), fun _ => ⟨by simp, hc.1, fun y hy => ?_⟩⟩
        rcases List.mem_append.1 hy with hy | hy
        · rcases hc.2 with h0 | h0
          · exact .inl ((i1 h0).2 y hy)
          · cases hb : (low q).2 with
            | false => exact .inl ((i1 hb).2 y hy)
            | true =>
              rcases (i2 hb).2.2 y hy with h | h
              · exact .inl h
              · right; show x ≤ y; omega
        · simp at hy; subst hy; exact .inr (Int.le_refl _)
      · rw [if_neg hc]
        refine ⟨fun h => ⟨(i1 h).1, fun y hy => ?_⟩, fun h => ⟨by simp [(i2 h).1], (i2 h).2.1, fun y hy => ?_⟩⟩
        · rcases List.mem_append.1 hy with hy | hy
          · exact (i1 h).2 y hy
          · simp at hy; subst hy
            exact Decidable.byContradiction fun hx => hc ⟨hx, .inl h⟩
        · rcases List.mem_append.1 hy with hy | hy
          · exact (i2 h).2.2 y hy
          · simp at hy; subst hy
            by_cases hx : y = 0
            · exact .inl hx
            · right
              exact Decidable.byContradiction fun hle => hc ⟨hx, .inr (by omega)⟩
  exact key _ p rfl
/-- So many slots retired, the others free. -/
def some' (n k : Nat) (a : Int) : List Slot := List.replicate k ⟨2, a⟩ ++ List.replicate (n - k) slot0
end Go.Proofs.YtbamodkgagcmnaaGreat.Epo

set_option maxRecDepth 100000
namespace Go.Proofs.YtbamodkgagcmnaaGreat.RowG
open Go.ChangeShapes Go.WideShapes Go.RowKit Go.Shelf Go.Deep
section
variable {α : Type} {K : Kind α} {Ok : α → Prop} {P : Program} {H : Type} {enc : TypeId × Value → H} {w : World} {base : Nat} {spare : Nat → Bool} {held : Bool} {t e : TypeId}
/-- A cell that is a row. -/
theorem trod_rows [Inhabited α] (ht : P.underlying t = some (.slice e)) (he : P.cellsOf e = K.c) (hel : ∀ n cs x, DataW.trod enc P w base spare held n e cs = some x → ∃ y : α, cs = K.enc y ∧ Ok y)
    (n : Nat) (cs : List Value) (x : DataW H × List MemPlace) (hf : DataW.trod enc P w base spare held n t cs = some x) :
    ∃ (a : Option Addr) (cap : Nat) (xs : List α), cs = [rowV a cap xs] ∧ Lies K w a cap xs ∧ ∀ x ∈ xs, Ok x := by
  rcases open_slice ht hf with ⟨rfl, _⟩ | ⟨ad, len, cap, m, n', D, Pl, rfl, _, hl, hm, hmm, _, hall⟩
  · exact ⟨none, 0, [], rfl, lies_nil w, fun x hx => by cases hx⟩
  · have hlm : len ≤ m := by rw [hmm]; split <;> omega
    have each : ∀ i, i < len → ∃ x : α, w.cells? base (ad.add (i * K.c)) K.c = some (K.enc x) ∧ Ok x := by
      intro i hi
      obtain ⟨cs, h1, h2⟩ := hall i (by omega)
      obtain ⟨y, rfl, ho⟩ := hel n' cs _ h2
      rw [he] at h1
      exact ⟨y, h1, ho⟩
    obtain ⟨q, hq⟩ := choose_lt each
    refine ⟨some ad, cap, (List.range len).map q, by simp [rowV], ⟨hm, by simpa using hl, fun hne => ?_⟩, ?_⟩
    · have hpos : 0 < len := by
        cases len with
        | zero => simp at hne
        | succ k => omega
      have cell : ∀ i, i < len → ∀ j, j < K.c → w.cell? ((ad.add (i * K.c)).add j) = (K.enc (q i))[j]? := fun i hi j hj => by
        obtain ⟨_, hlen, hcell⟩ := World.cells?_some (hq i hi).1
        exact hcell j hj
      obtain ⟨b, off, spot⟩ := ad
      have hspot : spot = none := by
        have h0 := cell 0 hpos 0 K.pos
        rw [List.getElem?_eq_getElem (by rw [K.len]; exact K.pos)] at h0
        simpa [Addr.add] using World.cell?_spot h0
      subst hspot
      refine ⟨b, off, rfl, fun i x hi j u hj => ?_⟩
      rw [List.getElem?_map] at hi
      cases hr : (List.range len)[i]? with
      | none => rw [hr] at hi; cases hi
      | some k =>
        rw [hr] at hi
        obtain ⟨hlt, hk⟩ := List.getElem?_eq_some_iff.1 hr
        rw [List.getElem_range] at hk
        subst hk
        simp at hi
        subst hi
        have hlt' : i < len := by simpa using hlt
        have hjl : j < K.c := by rw [← K.len (q i)]; exact (List.getElem?_eq_some_iff.1 hj).1
        have := cell i hlt' j hjl
        rw [Addr.add_lit, Addr.add_lit, hj] at this
        exact this
    · intro x hx
      obtain ⟨i, hi, rfl⟩ := List.mem_map.1 hx
      exact (hq i (List.mem_range.1 hi)).2
end
end Go.Proofs.YtbamodkgagcmnaaGreat.RowG
namespace Go.Proofs.YtbamodkgagcmnaaGreat.Epo
open Go.ChangeShapes Go.WideShapes Go.RowKit Go.Shelf Go.Deep RowG
/-- An act as it lies in memory: its pins are a row of their own. -/
structure ActM where
  k : Int
  slot : Int
  at' : Int
  p : Option Addr
  c : Nat
  pins : List Int
instance : Inhabited ActM := ⟨⟨0, 0, 0, none, 0, []⟩⟩
abbrev ActM.act (x : ActM) : Act := ⟨x.k, x.slot, x.at', x.pins⟩
def actM : Kind ActM := ⟨4, fun x => [.int .i64 x.k, .int .i64 x.slot, .int .i64 x.at', rowV x.p x.c x.pins], by decide, fun _ => rfl, fun x u hu => by
  simp at hu; rcases hu with rfl | rfl | rfl | rfl <;> rfl⟩
structure ActOk (w : World) (x : ActM) : Prop where
  k : (Lit.int .i64 x.k).wf = true
  slot : (Lit.int .i64 x.slot).wf = true
  at' : (Lit.int .i64 x.at').wf = true
  lies : Lies numK w x.p x.c x.pins
  pins : ∀ y ∈ x.pins, (Lit.int .i64 y).wf = true
section
variable {P : Program} {H : Type} {enc : TypeId × Value → H} {w : World} {base : Nat} {spare : Nat → Bool} {held : Bool} {e ti ts : TypeId} {f0 f1 f2 f3 : Field}
end
end Go.Proofs.YtbamodkgagcmnaaGreat.Epo
