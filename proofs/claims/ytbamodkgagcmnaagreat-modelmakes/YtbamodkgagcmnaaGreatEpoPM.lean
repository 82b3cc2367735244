/-
  Package model: Table, Copy.
-/
import Derived.Test.YtbamodkgagcmnaaGreatMdlJM
import Derived.ArgAppend
import Derived.Deep.RegionHeld3
import Derived.WalkKit
set_option maxRecDepth 100000
namespace Go.Proofs.YtbamodkgagcmnaaGreat.Mdl
open Go.RowKit Go.Shelf Go.WideShapes RowG Trn
open Pol (polV)
open Flo (Gives)
open Tab (Ent)
open Go.Proofs.YtbamodkgagcmnaaGreat.Mod (Bk Mo)

attribute [local go_sem] Oper.semAt_some

/-! ### Table -/
theorem eql_tab (a : Option Addr) (n c n' c' : Nat) (w : World) : (binOp .eql 90 (.slice a n c) (.slice none n' c')).run Tryz.prog w = .ok (.bool a.isNone) w := Lib.run_eql_slice_nil w _ _ a n c n' c' Tryz.underlying90
set_option maxHeartbeats 1000000 in
theorem CloneT_any (a : Option Addr) (cap : Nat) (T : List Ent) (w : World) (h : Lies entK w a cap T) (hl : T.length ≤ 3518437208883) :
    Calls Tryz.prog 53 #[rowV a cap T] w fun e W' => ∃ v, e = .returned v ∧ RowG.Own entK 66 w.heap.size W' v T ∧ Below w.heap.size w W' := by
  have H := Lib.hid h
  clear h
  have q22 := eql_tab
  cases a with
  | none =>
    have e : T = [] := by
      cases T with
      | nil => rfl
      | cons x T => obtain ⟨b, off, e, _⟩ := H.out.cell (by simp); cases e
    subst e
    go_enter Tryz.func53, Tryz.ntmps53
    go_wp2
    go_ret
    exact ⟨_, rfl, own_nil _ _, Below.refl _ _⟩
  | some p =>
    obtain ⟨i0, hi, hz0, hz1, hz2⟩ := info_parts Ste.info_ent
    have HC := Lib.hid (show ∀ j u, (flat entK T)[j]? = some u → w.cell? (p.add j) = some u from fun j u hj => by
      have hn : T ≠ [] := fun e => by subst e; simp [flat] at hj
      obtain ⟨b, off, rfl⟩ := Flo.Lies.addr H.out hn
      rw [Addr.add_lit]
      exact flat_lies H.out j u hj)
    go_enter Tryz.func53, Tryz.ntmps53
    go_wp2_with (at_builtin; refine wpList_append_own _ rfl _ _ 90 rfl w.heap.size 66 i0 (.agg Ste.zeroC) 4 40 Tryz.underlying90 hi hz0 hz1 hz2 rfl (by decide) _ _ _ rfl (World.ownsRow_made w #[] 0 (Nat.le_refl _) (Nat.zero_le _) (by simp)) p T.length cap (flat entK T) rfl ?qc1 ?qc2 ?qc3 ?qc4 ?qc5 ?qc6 ?_)
    case qc1 => exact flat_length T
    case qc2 => intro j u hj; exact Lib.cell?_alloc_some _ (HC.out j u hj)
    case qc3 => exact flat_one T
    case qc4 => unfold maxLen; omega
    case qc5 => omega
    case qc6 => simp
    intro v' w1 hown hgrow hnil
    have HO := Lib.hid hown
    have HG := Lib.hid hgrow
    clear hown hgrow hnil
    go_wp2
    go_ret
    refine ⟨_, rfl, ?_, ?_⟩
    · have := HO.out
      show w1.ownsRow w.heap.size 66 4 v' T.length (flat entK T)
      simpa using this
    · exact ((Below.refl _ w).alloc (Nat.le_refl _) _).grown HG.out (by simp) (by intro k hk; simp [Value.ownBlock] at hk; omega)


set_option maxHeartbeats 400000 in
theorem Table_told (f : Foot) (idle : Int) (mo : Mo) (i : Int) (w : World) (h : Held w f idle mo) : Calls Tryz.prog 22 #[f.v, .int .i64 i] w fun e W' => ∃ v, e = .returned v ∧ Gives W' v (tabAt mo i) ∧ Below w.heap.size w W' := by
  obtain ⟨pa, pc, P, sc, m, rfl, hl⟩ := h
  rw [tab_atM]
  have C := Lib.hid (at_told i w hl)
  have G := Lib.hid (atM_good hl i)
  generalize atM m i = x at *
  have F := fun W => (show (Instr.field 92 (shV x) 0).run Tryz.prog W = .ok (rowV x.p x.c x.T) W by kernel_rfl)
  clear hl
  go_enter Tryz.func22, Tryz.ntmps22
  go_wp2_with fail
  refine C.out.mono ?_
  rintro e w1 ⟨rfl, hb⟩
  have D := Lib.hid (CloneT_any x.p x.c x.T w1 (G.out.lies.kept hb) (by have := G.out.len; omega))
  have B1 := Lib.hid hb
  clear hb C
  go_wp2_with fail
  refine D.out.mono ?_
  rintro e w2 ⟨v, rfl, ho, hb⟩
  obtain ⟨a, c, rfl, hl⟩ := ho.lies
  have B2 := Lib.hid (below2 B1.out hb)
  have L2 := Lib.hid hl
  clear hb ho hl D
  go_wp2_with fail
  go_ret
  exact ⟨_, rfl, ⟨a, c, rfl, L2.out⟩, B2.out⟩

/-! ### Copy -/
section
variable {f : Foot} {idle : Int} {pa : Option Addr} {pc : Nat} {P : List Bk} {sc : Nat} {m : List ShM}
/-- A row of shards that lies at g. -/
structure ShRow (W : World) (g c : Nat) (m : List ShM) : Prop where
  row : Row shK 92 W g c m
  even : ∀ k v, W.cell? ⟨g, 2 * k, none⟩ = some v → ∃ a n c, v = .slice a n c
  odd : ∀ k v, W.cell? ⟨g, 2 * k + 1, none⟩ = some v → ∃ n, v = .int .i64 n
theorem ShRow.kept {W W' : World} {g c : Nat} (h : ShRow W g c m) (hb : Below W.heap.size W W') : ShRow W' g c m := by
  have e : W'.heap[g]? = W.heap[g]? := hb.block g h.row.lt
  have cell : ∀ k, W'.cell? ⟨g, k, none⟩ = W.cell? ⟨g, k, none⟩ := fun k => World.cell?_of_block (w := W) e
  exact ⟨h.row.kept hb, fun k v hv => h.even k v (by rwa [cell] at hv), fun k v hv => h.odd k v (by rwa [cell] at hv)⟩
end
end Go.Proofs.YtbamodkgagcmnaaGreat.Mdl

set_option maxRecDepth 100000
namespace Go.Proofs.YtbamodkgagcmnaaGreat.Epo
open Go

/-- A slot's state (0 free, 1 taken, 2 retired), and at which epoch. -/
structure Slot where
  st : Int
  at' : Int
deriving DecidableEq
abbrev slot0 : Slot := ⟨0, 0⟩
/-- Something that is done: 0 Take, 1 Retire, 2 Free; others: Ripe. -/
structure Act where
  k : Int
  slot : Int
  at' : Int
  pins : List Int
def size (n : Int) : Nat := (max 0 (min n 8)).toNat
theorem size_in {n : Nat} (h : n ≤ 8) : size (n : Int) = n := by unfold size; omega
def new (n : Int) : List Slot := List.replicate (size n) slot0
/-- The first one that is so, counted from k on. -/
def first (p : Slot → Bool) : List Slot → Nat → Option Nat
  | [], _ => none
  | x :: l, k => if p x then some k else first p l (k + 1)
def state (l : List Slot) (i : Int) : Int := if 0 ≤ i ∧ i < (l.length : Int) then (l.getD i.toNat slot0).st else -1
def take (l : List Slot) : List Slot × Int := match first (fun s => s.st == 0) l 0 with
  | some i => (l.set i ⟨1, 0⟩, (i : Int))
  | none => (l, -1)
def retire (l : List Slot) (i a : Int) : List Slot × Bool := if state l i = 1 then (l.set i.toNat ⟨2, a⟩, true) else (l, false)
def free (l : List Slot) (i : Int) : List Slot × Bool := if state l i = 2 then (l.set i.toNat slot0, true) else (l, false)
/-- Are all pins that are not 0 above an epoch? -/
def above (pins : List Int) (a : Int) : Bool := pins.all fun p => p == 0 || decide (a < p)
def ripe (l : List Slot) (pins : List Int) : Int := match first (fun s => s.st == 2 && above pins s.at') l 0 with
  | some i => (i : Int)
  | none => -1
def num (b : Bool) : Int := if b then 1 else 0
def act (l : List Slot) (x : Act) : List Slot × Int :=
  if x.k = 0 then take l
  else if x.k = 1 then ((retire l x.slot x.at').1, num (retire l x.slot x.at').2)
  else if x.k = 2 then ((free l x.slot).1, num (free l x.slot).2)
  else (l, ripe l x.pins)
def runs (l : List Slot) (xs : List Act) : List Slot := xs.foldl (fun l x => (act l x).1) l
/-- What an act does: it takes a free slot, retires a taken one, frees a retired one, or changes nothing; and what it tells. -/
inductive Does (l : List Slot) (x : Act) : List Slot → Int → Prop
  | takes (i : Nat) (hi : i < l.length) (h0 : x.k = 0) (hs : l[i].st = 0) : Does l x (l.set i ⟨1, 0⟩) (i : Int)
  | full (h0 : x.k = 0) : Does l x l (-1)
  | retires (i : Nat) (hi : i < l.length) (h1 : x.k = 1) (hx : x.slot = (i : Int)) (hs : l[i].st = 1) : Does l x (l.set i ⟨2, x.at'⟩) 1
  | frees (i : Nat) (hi : i < l.length) (h2 : x.k = 2) (hx : x.slot = (i : Int)) (hs : l[i].st = 2) : Does l x (l.set i slot0) 1
  | not (h : x.k = 1 ∨ x.k = 2) : Does l x l 0
  | asks (h0 : x.k ≠ 0) (h1 : x.k ≠ 1) (h2 : x.k ≠ 2) : Does l x l (ripe l x.pins)
theorem Does.length {l m : List Slot} {x : Act} {r : Int} (h : Does l x m r) : m.length = l.length := by
  cases h <;> simp
/-- All states are one of the three. -/
def Ok (l : List Slot) : Prop := ∀ s ∈ l, s.st = 0 ∨ s.st = 1 ∨ s.st = 2
theorem Does.ok {l m : List Slot} {x : Act} {r : Int} (h : Does l x m r) (ho : Ok l) : Ok m := by
  have key : ∀ (i : Nat) (s : Slot), (s.st = 0 ∨ s.st = 1 ∨ s.st = 2) → Ok (l.set i s) := fun i s hs y hy => by
    rcases List.mem_or_eq_of_mem_set hy with hy | rfl
    · exact ho y hy
    · exact hs
  cases h with
  | takes => exact key _ _ (.inr (.inl rfl))
  | full => exact ho
  | retires => exact key _ _ (.inr (.inr rfl))
  | frees => exact key _ _ (.inl rfl)
  | not => exact ho
  | asks => exact ho
/-- What a law keeps of eight slots: their states, and 0 where there is none. -/
def heldOf (l : List Slot) : List Int := l.map (·.st) ++ List.replicate (8 - l.length) 0
/-- At which epochs slots were retired: what a law keeps of eight slots is so wherever one is retired. -/
def AtOk (l : List Slot) (ats : List Int) : Prop := ats.length = 8 ∧ ∀ i (hi : i < l.length) (ha : i < ats.length), l[i].st = 2 → ats[i] = l[i].at'
theorem AtOk.set {l : List Slot} {ats : List Int} (h : AtOk l ats) {i : Nat} (s : Slot) (hs : s.st ≠ 2) : AtOk (l.set i s) ats := by
  refine ⟨h.1, fun j hj ha h2 => ?_⟩
  have hj' : j < l.length := by simpa using hj
  by_cases e : i = j
  · subst e; rw [List.getElem_set_self] at h2; exact absurd h2 hs
  · rw [List.getElem_set_ne e] at h2 ⊢; exact h.2 j hj' ha h2
theorem AtOk.both {l : List Slot} {ats : List Int} (h : AtOk l ats) {i : Nat} (s : Slot) : AtOk (l.set i s) (ats.set i s.at') := by
  refine ⟨by simpa using h.1, fun j hj ha h2 => ?_⟩
  have hj' : j < l.length := by simpa using hj
  have ha' : j < ats.length := by simpa using ha
  by_cases e : i = j
  · subst e; rw [List.getElem_set_self, List.getElem_set_self]
  · rw [List.getElem_set_ne e] at h2 ⊢; rw [List.getElem_set_ne e]; exact h.2 j hj' ha' h2

/-- The lowest pin that is not 0; 0, if there is none (none: the second is false). -/
def low : List Int → Int × Bool := fun p => p.foldl (fun s x => if x ≠ 0 ∧ (s.2 = false ∨ x < s.1) then (x, true) else s) (0, false)
theorem low_snoc (p : List Int) (x : Int) : low (p ++ [x]) = if x ≠ 0 ∧ ((low p).2 = false ∨ x < (low p).1) then (x, true) else low p := by unfold low; rw [List.foldl_append]; rfl
theorem low_is (p : List Int) : ((low p).2 = false → (low p).1 = 0 ∧ ∀ x ∈ p, x = 0) ∧ ((low p).2 = true → (low p).1 ∈ p ∧ (low p).1 ≠ 0 ∧ ∀ x ∈ p, x = 0 ∨ (low p).1 ≤ x) := by
  have key : ∀ n (p : List Int), p.length = n → ((low p).2 = false → (low p).1 = 0 ∧ ∀ x ∈ p, x = 0) ∧ ((low p).2 = true → (low p).1 ∈ p ∧ (low p).1 ≠ 0 ∧ ∀ x ∈ p, x = 0 ∨ (low p).1 ≤ x) := by
    intro n
    induction n with
    | zero => intro p hp; obtain rfl := List.eq_nil_of_length_eq_zero hp; simp [low]
    | succ n ih =>
      intro p hp
      rcases List.eq_nil_or_concat p with rfl | ⟨q, x, rfl⟩
      · simp at hp
      rw [List.concat_eq_append] at hp ⊢
      have hq : q.length = n := by simp at hp; omega
      obtain ⟨i1, i2⟩ := ih q hq
      rw [low_snoc]
      by_cases hc : x ≠ 0 ∧ ((low q).2 = false ∨ x < (low q).1)
      · rw [if_pos hc]
        refine ⟨(fun h => by cases h), fun _ => ⟨by simp, hc.1, fun y hy => ?_⟩⟩
        rcases List.mem_append.1 hy with hy | hy
        · rcases hc.2 with h0 | h0
          · exact .inl ((i1 h0).2 y hy)
          · cases hb : (low q).2 with
            | false => exact .inl ((i1 hb).2 y hy)
            | true =>
              rcases (i2 hb).2.2 y hy with h | h
              · exact .inl h
              · right; show x ≤ y; omega
        · simp at hy; subst hy; exact .inr (Int.le_refl _)
      · rw [if_neg hc]
        refine ⟨fun h => ⟨(i1 h).1, fun y hy => ?_⟩, fun h => ⟨by simp [(i2 h).1], (i2 h).2.1, fun y hy => ?_⟩⟩
        · rcases List.mem_append.1 hy with hy | hy
          · exact (i1 h).2 y hy
          · simp at hy; subst hy
            exact Decidable.byContradiction fun hx => hc ⟨hx, .inl h⟩
        · rcases List.mem_append.1 hy with hy | hy
          · exact (i2 h).2.2 y hy
          · simp at hy; subst hy
            by_cases hx : y = 0
            · exact .inl hx
            · right
              exact Decidable.byContradiction fun hle => hc ⟨hx, .inr (by omega)⟩
  exact key _ p rfl
/-- So many slots retired, the others free. -/
def some' (n k : Nat) (a : Int) : List Slot := List.replicate k ⟨2, a⟩ ++ List.replicate (n - k) slot0
end Go.Proofs.YtbamodkgagcmnaaGreat.Epo
