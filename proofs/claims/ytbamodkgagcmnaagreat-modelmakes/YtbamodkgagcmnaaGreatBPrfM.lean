/-
  Package model: has, at, fails, puts; what is handed on, when it is done (puts, update, stats).
-/
import Derived.Test.YtbamodkgagcmnaaGreatMdlAM
import Derived.Test.YtbamodkgagcmnaaGreatModGM
import Derived.Test.YtbamodkgagcmnaaGreatBPrbM
import Derived.WalkSmall
import Derived.Deep.RegionHeld3
set_option maxRecDepth 100000
namespace Go.Proofs.YtbamodkgagcmnaaGreat.Mdl
open Go.RowKit Go.Shelf RowG Trn
open Pol (polV)
open Go.Proofs.YtbamodkgagcmnaaGreat.Mod (Bk Mo Ans ansV ansC)

attribute [local go_sem] Oper.semAt_some

/-- Whether there is such a shard. -/
abbrev isB (n : Nat) (i : Int) : Bool := decide (0 ≤ i ∧ i < n)
def noShM : ShM := ⟨none, 0, [], 0⟩
/-- The shard at a place, as it lies. -/
def atM (m : List ShM) (i : Int) : ShM := if 0 ≤ i ∧ i < m.length then m.getD i.toNat noShM else noShM
theorem atM_in {m : List ShM} {k : Nat} (hk : k < m.length) : atM m (k : Int) = m[k] := by
  unfold atM
  rw [if_pos ⟨by omega, by omega⟩, Int.toNat_natCast, List.getD_eq_getElem?_getD, List.getElem?_eq_getElem hk]; rfl
theorem noShM_good (W : World) : noShM.Good W := ⟨lies_nil W, by simp [noShM], by simp [noShM], by simp [noShM]⟩
section
variable {f : Foot} {idle : Int} {pa : Option Addr} {pc : Nat} {P : List Bk} {sc : Nat} {m : List ShM}
theorem atM_good {w : World} (h : Lay w f idle pa pc P sc m) (i : Int) : (atM m i).Good w := by
  by_cases hi : 0 ≤ i ∧ i < m.length
  · obtain ⟨k, rfl⟩ := Int.eq_ofNat_of_zero_le hi.1
    have hk : k < m.length := by omega
    rw [atM_in hk]; exact h.good _ (List.getElem_mem hk)
  · rw [show atM m i = noShM from if_neg hi]; exact noShM_good w
set_option maxHeartbeats 400000 in
theorem has_told (i : Int) (w : World) (h : Lay w f idle pa pc P sc m) :
    Calls Tryz.prog 93 #[f.v, .int .i64 i] w fun e W' => e = .returned (.bool (isB m.length i)) ∧ W' = w := by
  obtain ⟨⟨-, -, c2⟩, -⟩ := h.cells
  clear h
  by_cases h0 : 0 ≤ i
  · have d0 : decide (0 ≤ i) = true := decide_eq_true h0
    have HB := Lib.hid (show decide (i < (m.length : Int)) = isB m.length i by unfold isB; rw [Bool.decide_and, d0, Bool.true_and])
    generalize isB m.length i = b at *
    have d1 := HB.out
    clear h0
    go_enter Tryz.func93, Tryz.ntmps93
    go_wp2_with fail
    go_ret
    exact ⟨rfl, rfl⟩
  · have d0 : decide (0 ≤ i) = false := decide_eq_false h0
    have HB := Lib.hid (show isB m.length i = false by unfold isB; rw [Bool.decide_and, d0, Bool.false_and])
    clear h0
    go_enter Tryz.func93, Tryz.ntmps93
    go_wp2_with fail
    go_ret
    exact ⟨by rw [HB.out]; rfl, rfl⟩
theorem new_shard (w : World) : let W := w.alloc (.cells #[.slice none 0 0, .int .i64 0] 92)
    Below w.heap.size w W ∧ W.cell? ⟨w.heap.size, 0, none⟩ = some (.slice none 0 0) ∧ W.cell? ⟨w.heap.size, 1, none⟩ = some (.int .i64 0) ∧ W.frozen? ⟨w.heap.size, 0, none⟩ = false ∧ W.frozen? ⟨w.heap.size, 1, none⟩ = false := by
  have := box2_cells (World.alloc_heap_new w (.cells #[.slice none 0 0, .int .i64 0] 92))
  exact ⟨(Below.refl _ w).alloc (Nat.le_refl _) _, this.1, this.2.1, this.2.2.1, this.2.2.2⟩
set_option maxHeartbeats 400000 in
theorem at_told (i : Int) (w : World) (h : Lay w f idle pa pc P sc m) :
    Calls Tryz.prog 54 #[f.v, .int .i64 i] w fun e W' => e = .returned (shV (atM m i)) ∧ Below w.heap.size w W' := by
  obtain ⟨b0, -⟩ := new_shard w
  have C := Lib.hid (has_told i _ (h.kept b0))
  have B0 := Lib.hid b0
  by_cases hi : 0 ≤ i ∧ i < m.length
  · have hb : isB m.length i = true := decide_eq_true hi
    obtain ⟨k, rfl⟩ := Int.eq_ofNat_of_zero_le hi.1
    have hk : k < m.length := by omega
    have hk2 := h.kept b0
    obtain ⟨⟨-, -, c2⟩, -⟩ := hk2.cells
    obtain ⟨⟨c3, c4⟩, -⟩ := hk2.shard hk
    have hl := h.row.len
    have hmx := hl.2
    unfold maxLen at hmx
    have HV := Lib.hid (atM_in hk)
    rw [hb] at C
    generalize m[k] = x at *
    generalize atM m (k : Int) = y at *
    obtain rfl := HV.out
    clear hi h hk2 HV hb b0
    go_enter Tryz.func54, Tryz.ntmps54
    go_wp2_with fail
    refine C.out.mono ?_
    rintro e w1 ⟨rfl, rfl⟩
    clear C
    go_wp2_with fail
    refine bodyPost_ret (v := shV y) (by simp [results, Tryz.results54, go_sem]) rfl ?_
    exact ⟨rfl, by first | exact B0.out | exact (Below.refl _ w).alloc (Nat.le_refl _) _⟩
  · have hb : isB m.length i = false := decide_eq_false hi
    have HV := Lib.hid (show atM m i = noShM from if_neg hi)
    rw [hb] at C
    clear hi h hb b0
    go_enter Tryz.func54, Tryz.ntmps54
    go_wp2_with fail
    refine C.out.mono ?_
    rintro e w1 ⟨rfl, rfl⟩
    clear C
    go_wp2_with fail
    refine bodyPost_ret (v := shV noShM) (by simp [results, Tryz.results54, go_sem, noShM]) rfl ?_
    exact ⟨by rw [HV.out], by first | exact B0.out | exact (Below.refl _ w).alloc (Nat.le_refl _) _⟩
set_option maxHeartbeats 400000 in
theorem fails_told (e : Int) (w : World) : Calls Tryz.prog 129 #[.int .i64 e] w fun r W' => r = .returned (.tuple #[ansV ⟨e, 0, false, 0⟩, .nilFunc]) ∧ Below w.heap.size w W' := by
  go_enter Tryz.func129, Tryz.ntmps129
  go_wp2_with fail
  refine bodyPost_ret (v := .tuple #[ansV ⟨e, 0, false, 0⟩, .nilFunc]) (by simp [results, Tryz.results129, go_sem]) rfl ?_
  exact ⟨rfl, (Below.refl _ w).alloc (Nat.le_refl _) _⟩
/-- What puts hands back: the place and the shard lie in boxes of its own. -/
abbrev putsV (b : Nat) : Value := .func (.func 169) #[] #[.pointer (some ⟨b, 0, none⟩), .pointer (some ⟨b + 1, 0, none⟩)]
structure Handed (W : World) (b : Nat) (i : Int) (x : ShM) : Prop where
  b0 : W.heap[b]? = some (.cells #[.int .i64 i] 3 (0, 0))
  b1 : W.heap[b + 1]? = some (.cells #[rowV x.p x.c x.T, .int .i64 (x.n : Nat)] 92 (0, 0))
theorem Handed.cells {W : World} {b : Nat} {i : Int} {x : ShM} (h : Handed W b i x) : W.cell? ⟨b, 0, none⟩ = some (.int .i64 i) ∧ W.cell? ⟨b + 1, 0, none⟩ = some (rowV x.p x.c x.T) ∧ W.cell? ⟨b + 1, 1, none⟩ = some (.int .i64 (x.n : Nat)) := by
  have h0 := h.b0
  have h2 := box2_cells h.b1
  exact ⟨by simp [World.cell?, h0], h2.1, h2.2.1⟩
theorem Handed.kept {W W' : World} {b : Nat} {i : Int} {x : ShM} (h : Handed W b i x) (hb : Below W.heap.size W W') : Handed W' b i x :=
  ⟨(hb.block b (heap_lt h.b0)).trans h.b0, (hb.block (b + 1) (heap_lt h.b1)).trans h.b1⟩
theorem Handed.turned {W W' : World} {b g : Nat} {i : Int} {x : ShM} (h : Handed W b i x) (ht : Turned (· = g) W W') (h0 : b ≠ g) (h1 : b + 1 ≠ g) : Handed W' b i x :=
  ⟨(ht.rest b (heap_lt h.b0) h0).trans h.b0, (ht.rest (b + 1) (heap_lt h.b1) h1).trans h.b1⟩
/-- It lies in no box of an answer. -/
theorem Handed.apart {W : World} {b g : Nat} {i : Int} {x : ShM} {cs : Array Value} (h : Handed W b i x) (hg : W.heap[g]? = some (.cells cs 39 (0, 0))) : b ≠ g ∧ b + 1 ≠ g := by
  refine ⟨fun e => ?_, fun e => ?_⟩
  · have := h.b0; rw [e, hg] at this; cases this
  · have := h.b1; rw [e, hg] at this; cases this
theorem new_handed (w : World) (i : Int) (x : ShM) : let W := (w.alloc (.cells #[.int .i64 i] 3)).alloc (.cells #[rowV x.p x.c x.T, .int .i64 (x.n : Nat)] 92)
    Handed W w.heap.size i x ∧ Below w.heap.size w W := by
  have b1 : Below w.heap.size w (w.alloc (.cells #[.int .i64 i] 3)) := (Below.refl _ w).alloc (Nat.le_refl _) _
  have h1 := World.alloc_heap_new w (.cells #[.int .i64 i] 3)
  have s1 := World.size_alloc w (.cells #[.int .i64 i] 3)
  generalize w.alloc (.cells #[.int .i64 i] 3) = W1 at *
  have b2 : Below W1.heap.size W1 (W1.alloc (.cells #[rowV x.p x.c x.T, .int .i64 (x.n : Nat)] 92)) := (Below.refl _ W1).alloc (Nat.le_refl _) _
  have h2 := World.alloc_heap_new W1 (.cells #[rowV x.p x.c x.T, .int .i64 (x.n : Nat)] 92)
  rw [s1] at h2
  exact ⟨⟨(b2.block w.heap.size (by omega)).trans h1, h2⟩, below2 b1 b2⟩
set_option maxHeartbeats 400000 in
theorem puts_told (i : Int) (x : ShM) (w : World) : Calls Tryz.prog 132 #[.int .i64 i, shV x] w fun e W' => e = .returned (putsV w.heap.size) ∧ Handed W' w.heap.size i x ∧ Below w.heap.size w W' := by
  have N := Lib.hid (new_handed w i x)
  go_enter Tryz.func132, Tryz.ntmps132
  go_wp2_with fail
  go_ret
  exact ⟨rfl, N.out.1, N.out.2⟩
set_option maxHeartbeats 1000000 in
/-- Done, it puts the shard there. -/
theorem puts1_told (b : Nat) (k : Nat) (x : ShM) (w : World) (h : Lay w f idle pa pc P sc m) (hk : k < m.length) (hx : x.Good w) (hH : Handed w b (k : Nat) x) :
    Calls Tryz.prog 169 #[f.v, .pointer (some ⟨b, 0, none⟩), .pointer (some ⟨b + 1, 0, none⟩)] w fun e W' => e = .returned (.tuple #[]) ∧ Lay W' f idle pa pc P sc (m.set k x) ∧ Turned f.has w W' := by
  have C := Lib.hid (has_told (k : Nat) w h)
  rw [show isB m.length (k : Nat) = true from decide_eq_true (by omega)] at C
  obtain ⟨⟨-, -, c2⟩, -⟩ := h.cells
  obtain ⟨⟨c3, c4⟩, fr⟩ := h.shard hk
  have f3 := fr (k * 2)
  have f4 := fr (k * 2 + 1)
  have hl := h.row.len
  have hmx := hl.2
  unfold maxLen at hmx
  obtain ⟨q0, q1, q2⟩ := hH.cells
  clear hH
  have HP := Lib.hid (h.put hk hx)
  have HT := Lib.hid (putW_turned w f k x)
  unfold putW at HP HT
  clear h hx fr
  go_enter Tryz.func169, Tryz.ntmps169
  go_wp2_with fail
  refine C.out.mono ?_
  rintro e w1 ⟨rfl, rfl⟩
  clear C
  go_wp2_with fail
  go_region
  go_end0
  exact ⟨rfl, HP.out.kept (Below.refl _ _).drew, HT.out.trans (.of_below (Below.refl _ _).drew)⟩
/-- What Update hands on: the pool lies in a box of its own. -/
abbrev updV (b : Nat) : Value := .func (.func 133) #[] #[.pointer (some ⟨b, 0, none⟩)]
set_option maxHeartbeats 400000 in
theorem update1_told (b : Nat) (pa' : Option Addr) (pc' : Nat) (P' : List Bk) (w : World) (h : Lay w f idle pa pc P sc m) (hp : Pol.Lies w pa' pc' P') (hl : P'.length ≤ 32) (hb : w.cell? ⟨b, 0, none⟩ = some (polV pa' pc' P')) :
    Calls Tryz.prog 133 #[f.v, .pointer (some ⟨b, 0, none⟩)] w fun e W' => e = .returned (.tuple #[]) ∧ Lay W' f idle pa' pc' P' sc m ∧ Turned f.has w W' := by
  obtain ⟨⟨-, c1, -⟩, -, f1, -⟩ := h.cells
  have HP := Lib.hid (h.pools hp hl)
  clear h hp
  go_enter Tryz.func133, Tryz.ntmps133
  go_wp2_with fail
  go_end0
  exact ⟨rfl, HP.out.1, HP.out.2⟩
set_option maxHeartbeats 400000 in
theorem stats1_told (f : Foot) (w : World) : Calls Tryz.prog 135 #[f.v] w fun e W' => e = .returned (.tuple #[]) ∧ W' = w := by
  go_enter Tryz.func135, Tryz.ntmps135
  go_wp2_with fail
  go_end0
  exact ⟨rfl, rfl⟩
end
set_option maxHeartbeats 400000 in
theorem live_told (a : Option Addr) (cap : Nat) (T : List Tab.Ent) (w : World) (hT : Lies entK w a cap T) : Calls Tryz.prog 134 #[rowV a cap T] w fun e W' => e = .returned (.int .i64 (Tab.count 1 T : Nat)) ∧ Below w.heap.size w W' := by
  have C := Lib.hid (Prb.Count_told a cap T 1 w hT)
  clear hT
  generalize Tab.count 1 T = n at *
  go_enter Tryz.func134, Tryz.ntmps134
  go_wp2_with fail
  refine C.out.mono ?_
  rintro e w1 ⟨rfl, hb⟩
  have B := Lib.hid hb
  clear hb C
  go_wp2_with fail
  go_ret
  exact ⟨rfl, B.out⟩
end Go.Proofs.YtbamodkgagcmnaaGreat.Mdl

set_option maxRecDepth 100000
namespace Go.Proofs.YtbamodkgagcmnaaGreat.Prb
open Go.RowKit Go.Shelf RowG Tab

/-- Few entries, with short keys. -/
def few (T : List Ent) : Prop := T.length ≤ 80 ∧ ∀ x ∈ T, x.key.size ≤ 60
instance (T : List Ent) : Decidable (few T) := inferInstanceAs (Decidable (_ ∧ _))
set_option maxRecDepth 100000 in
set_option maxHeartbeats 1000000 in
theorem refFew_any (a : Option Addr) (cap : Nat) (T : List Ent) (w : World) (hT : Lies entK w a cap T) (hk : ∀ x ∈ T, EntOk x) :
    Calls Tryz.prog 23 #[rowV a cap T] w fun e W' => e = .returned (.bool (decide (few T))) ∧ w = W' := by
  have hmx := hT.max
  have hln := hT.len
  unfold maxLen at hmx
  have H := Lib.hid hT
  clear hT
  go_enter Tryz.func23, Tryz.ntmps23
  by_cases h80 : T.length ≤ 80
  · have d0 : decide ((80 : Int) < (T.length : Int)) = false := by simp; omega
    go_wp2
    go_loop [3] (fun i => ∃ j : Nat, j ≤ T.length ∧ i = .int .i64 j ∧ ∀ x ∈ T.take j, x.key.size ≤ 60) (fun i => T.length - (intOf i).toNat)
    case atStart => exact ⟨0, Nat.zero_le _, rfl, fun x hx => by simp at hx⟩
    case round =>
      obtain ⟨j, hj, rfl, hno⟩ := hrel
      have HN := Lib.hid hno
      clear hno
      by_cases hlt : j < T.length
      · obtain ⟨b, off, rfl, c0, c1, c2, c3⟩ := H.out.ent hlt
        have hz := (hk _ (List.getElem_mem hlt)).key
        unfold maxLen at hz
        have HI := Lib.hid (List.take_succ_eq_append_getElem hlt)
        have HM := Lib.hid (List.getElem_mem hlt)
        generalize T[j] = x at *
        by_cases h60 : x.key.size ≤ 60
        · have d1 : decide ((60 : Int) < (x.key.size : Int)) = false := by simp; omega
          go_wp2_with fail
          refine ⟨⟨j + 1, by omega, by go_num, fun y hy => ?_⟩, by simp [intOf]; omega⟩
          rw [HI.out, List.mem_append] at hy
          rcases hy with hy | hy
          · exact HN.out y hy
          · simp at hy; subst hy; exact h60
        · have d1 : decide ((60 : Int) < (x.key.size : Int)) = true := by simp; omega
          have HF := Lib.hid (show decide (few T) = false from decide_eq_false fun h => h60 (h.2 _ HM.out))
          clear h60
          go_wp2_with fail
          go_ret
          exact ⟨by rw [HF.out]; rfl, rfl⟩
      · have HF := Lib.hid (show decide (few T) = true from decide_eq_true ⟨h80, fun x hx => HN.out x (by rw [List.take_of_length_le (by omega)]; exact hx)⟩)
        go_wp2
        go_ret
        exact ⟨by rw [HF.out]; rfl, rfl⟩
  · have d0 : decide ((80 : Int) < (T.length : Int)) = true := by simp; omega
    have HF := Lib.hid (show decide (few T) = false from decide_eq_false fun h => h80 h.1)
    clear h80
    go_wp2
    go_ret
    exact ⟨by rw [HF.out]; rfl, rfl⟩
end Go.Proofs.YtbamodkgagcmnaaGreat.Prb

namespace Go.Proofs.YtbamodkgagcmnaaGreat.Prb
open Go.RowKit Go.Shelf RowG Tab

/-- The first steps of a way. -/
def firsts (T : List Ent) (j : Nat) : List (Fin T.length) := (List.finRange T.length).take j
end Go.Proofs.YtbamodkgagcmnaaGreat.Prb
