/-
  Package probe: Find.
-/
import Derived.Test.YtkgaiadmacapfaaPrbA
import Derived.WalkMore
namespace Go.Proofs.Ytkgaiadmacapfaa.Prb
open Go.RowKit Go.Shelf RowG Tab

attribute [local go_sem] Oper.semAt_some

theorem wpIn_scope_wide {n : Nat} {P : Program} {c : Code} {Q : Exit → Act → World → Prop} {a : Act} {w : World} (h : c.wpIn Fence.wide n P (Exit.noGoto Q) a w) : (Code.scope c).wpIn Fence.wide n P Q a w := wpIn_wide.2 (wp_scope_straight (wpIn_wide.1 h))
/-- The places that a part of a way goes over. -/
def plL (T : List Ent) (k : ByteArray) (pre : List (Fin T.length)) : List Nat := pre.map fun i => pl T k i.1
theorem plL_all (T : List Ent) (k : ByteArray) : plL T k (List.finRange T.length) = wayOf T.length (home k T.length) := by
  unfold plL wayOf pl
  apply List.ext_getElem?
  intro i
  rw [List.getElem?_map, List.getElem?_map]
  by_cases h : i < T.length
  · rw [List.getElem?_eq_getElem (by simpa using h), List.getElem?_eq_getElem (by simpa using h)]; simp
  · rw [List.getElem?_eq_none (by simpa using h), List.getElem?_eq_none (by simpa using h)]; rfl
theorem plL_snoc (T : List Ent) (k : ByteArray) (pre : List (Fin T.length)) (x : Fin T.length) : plL T k (pre ++ [x]) = plL T k pre ++ [pl T k x.1] := by simp [plL]
/-- What is found hangs on no place behind. -/
def Told (T : List Ent) (k : ByteArray) (pre : List (Fin T.length)) (r : Option Nat) : Prop := ∀ l, findP T k (plL T k pre ++ l) = r
/-- Nothing was found, and no empty one. -/
def Passed (T : List Ent) (k : ByteArray) (pre : List (Fin T.length)) : Prop := ∀ l, findP T k (plL T k pre ++ l) = findP T k l
section
variable {T : List Ent} {k : ByteArray} {pre : List (Fin T.length)} {x : Fin T.length} {r : Option Nat}
theorem passed_nil : Passed T k [] := fun _ => rfl
theorem Passed.more (h : Passed T k pre) (h0 : (ent T (pl T k x.1)).st ≠ 0) (h1 : ¬ Hit (ent T (pl T k x.1)) k) : Passed T k (pre ++ [x]) := fun l => by
  rw [plL_snoc, List.append_assoc, h]
  conv => lhs; unfold findP
  exact (if_neg h0).trans (if_neg h1)
theorem Passed.empty (h : Passed T k pre) (h0 : (ent T (pl T k x.1)).st = 0) : Told T k (pre ++ [x]) none := fun l => by
  rw [plL_snoc, List.append_assoc, h]
  conv => lhs; unfold findP
  exact if_pos h0
theorem Passed.hit (h : Passed T k pre) (h1 : Hit (ent T (pl T k x.1)) k) : Told T k (pre ++ [x]) (some (pl T k x.1)) := fun l => by
  rw [plL_snoc, List.append_assoc, h]
  conv => lhs; unfold findP
  exact (if_neg (by rw [h1.1]; decide)).trans (if_pos h1)
theorem Told.find (h : Told T k pre r) (hp : ∃ l, pre ++ l = List.finRange T.length) : Tab.find home T k = r := by
  obtain ⟨l, hl⟩ := hp
  unfold Tab.find
  rw [← plL_all, ← hl]
  unfold plL
  rw [List.map_append]
  exact h _
theorem Passed.find (h : Passed T k (List.finRange T.length)) : Tab.find home T k = none := by
  unfold Tab.find
  rw [← plL_all, ← List.append_nil (plL T k (List.finRange T.length))]
  exact h []
end

theorem text_cmp (x y : ByteArray) : (x.toList == y.toList) = decide (x = y) := by
  rw [ByteArray.toList_eq, ByteArray.toList_eq]
  by_cases e : x = y
  · rw [e, decide_eq_true rfl]; exact beq_self_eq_true _
  · rw [decide_eq_false e]; exact beq_false_of_ne fun h => e (by cases x; cases y; exact congrArg _ (Array.ext' h))
theorem cell_many (W : World) (cs : Array Value) (t : TypeId) (i : Nat) (v : Value) (h : cs[i]? = some v) : (W.alloc (.cells cs t)).cell? ⟨W.heap.size, i, none⟩ = some v := by
  have := World.alloc_heap_new W (.cells cs t)
  unfold World.cell?
  rw [this]
  exact h

set_option maxRecDepth 100000 in
set_option maxHeartbeats 1000000 in
theorem Find_in (m : Nat) (hm : 3 ≤ m) (a : Option Addr) (cap : Nat) (T : List Ent) (k : ByteArray) (w : World) (hT : Lies entK w a cap T) (hk : k.size ≤ 4611686018427387904) :
    CallsIn Fence.wide m Try.prog 12 #[rowV a cap T, .string k] w fun e W' => e = .returned (.int .i64 (zOf (find home T k))) ∧ Below w.heap.size w W' := by
  have h1 : 1 ≤ m := by omega
  refine callsIn_of_wp_marks Try.func12 rfl trivial ?_ rfl
  simp only [Try.ntmps12, List.size_toArray, List.length_cons, List.length_nil, Nat.reduceAdd, Nat.reduceSub, Array.replicate_succ, Array.replicate_zero, List.push_toArray, List.append_toArray, List.nil_append, List.cons_append]
  gi_wp2
  refine wpIn_scope_wide ?_
  gi_wp2
  refine wpIn_label ?_
  gi_wp2_with fail
  refine ⟨trivial, ?_⟩
  gi_at_call 22
  refine (callsIn_wide.2 (way_told _ rfl k _)).mono ?_
  rintro e w' ⟨rfl, rfl⟩
  gi_wp2
  have c0 := Fnv.cell_new_o w (.string k) 9
  have c1 := Fnv.cell_new_o (w.alloc (.cells #[.string k] 9)) (.int .i64 (-1)) 3
  have c2 := Fnv.cell_new_o ((w.alloc (.cells #[.string k] 9)).alloc (.cells #[.int .i64 (-1)] 3)) (rowV a cap T) 22
  have c3 := Fnv.cell_new_o (((w.alloc (.cells #[.string k] 9)).alloc (.cells #[.int .i64 (-1)] 3)).alloc (.cells #[rowV a cap T] 22)) (.string k) 9
  simp only [World.size_alloc] at c1 c2 c3
  have k0 := Fnv.cell_alloc_o (.cells #[.string k] 9) (Fnv.cell_alloc_o (.cells #[rowV a cap T] 22) (Fnv.cell_alloc_o (.cells #[.int .i64 (-1)] 3) c0.1))
  have k1 := Fnv.cell_alloc_o (.cells #[.string k] 9) (Fnv.cell_alloc_o (.cells #[rowV a cap T] 22) c1.1)
  have f1 := Fnv.frozen_alloc_o (.cells #[.string k] 9) (Fnv.cell_alloc_o (.cells #[rowV a cap T] 22) c1.1) (Fnv.frozen_alloc_o (.cells #[rowV a cap T] 22) c1.1 c1.2)
  have k2 := Fnv.cell_alloc_o (.cells #[.string k] 9) c2.1
  have k3 := c3.1
  have hB0 : Below w.heap.size w ((((w.alloc (.cells #[.string k] 9)).alloc (.cells #[.int .i64 (-1)] 3)).alloc (.cells #[rowV a cap T] 22)).alloc (.cells #[.string k] 9)) :=
    ((((Below.refl _ w).alloc (Nat.le_refl _) _).alloc (by simp) _).alloc (by simp; omega) _).alloc (by simp; omega) _
  have hT0 := hT.kept hB0
  have hap : ∀ b off, a = some ⟨b, off, none⟩ → T ≠ [] → b < w.heap.size := fun b off e hn => by
    obtain ⟨b', off', e', hc⟩ := hT.cell hn
    rw [e] at e'; cases e'
    cases T with
    | nil => exact absurd rfl hn
    | cons x T => exact World.block_lt_of_cell? w ⟨b, off + 0 * 4 + 0, none⟩ (hc 0 x rfl 0 _ rfl)
  generalize hW0 : ((((w.alloc (.cells #[.string k] 9)).alloc (.cells #[.int .i64 (-1)] 3)).alloc (.cells #[rowV a cap T] 22)).alloc (.cells #[.string k] 9)) = W0 at *
  have hsz : W0.heap.size = w.heap.size + 4 := by rw [← hW0]; simp
  have HS := Lib.hid hsz
  clear c0 c1 c2 c3 hW0
  refine wpIn_rangeFunc_ownH rfl h1 (gf := 28) (lb := #[.pointer (some ⟨w.heap.size + 1 + 1 + 1, 0, none⟩), .pointer (some ⟨w.heap.size + 1 + 1, 0, none⟩)]) rfl trivial (enters_of Try.func28 (by kernel_rfl) rfl)
    (way_stops (m - 1) (by omega) (w.heap.size + 1 + 1 + 1) (w.heap.size + 1 + 1) (w.heap.size + 1) k hk a cap T (by omega) (fun b off e hn => by have := hap b off e hn; omega) W0 (by omega) (by omega) k3 k2 hT0) keepsBut_t keepsBut_b (Below.refl _ _) (fun _ => rfl)
    (fun pre W => ((W.cell? ⟨w.heap.size + 1, 0, none⟩ = some (.int .i64 (-1)) ∧ W.frozen? ⟨w.heap.size + 1, 0, none⟩ = false ∧ W.cell? ⟨w.heap.size, 0, none⟩ = some (.string k)) ∧ Below w.heap.size w W) ∧ Passed T k pre)
    (fun c pre W => ((c = .exit 0 ∧ ∃ r, Told T k pre r ∧ W.cell? ⟨w.heap.size + 1, 0, none⟩ = some (.int .i64 (zOf r))) ∧ Below w.heap.size w W))
    (OwnFrom.and (OwnFrom.and (Own.from (fun s A B row hs hg hr => ⟨cell_kept hs.1 hg hr, (frozen_kept hs.1 hg hr).trans hs.2.1, cell_kept hs.2.2 hg hr⟩) _) (ownFrom_below (Nat.le_refl _) (by omega))) (ownFrom_pure _ _))
    (fun c => OwnFrom.and (Own.from (fun s A B row hs hg hr => by obtain ⟨h1, r, h2, h3⟩ := hs; exact ⟨h1, r, h2, cell_kept h3 hg hr⟩) _) (ownFrom_below (Nat.le_refl _) (by omega)))
    ⟨⟨⟨k1, f1, k0⟩, hB0⟩, passed_nil⟩
    (fun x a' W => ∃ g, a' = { tmps := #[rowV a cap T, .string k, undef, .pointer (some ⟨w.heap.size, 0, none⟩), .int .i64 0, .pointer (some ⟨w.heap.size + 1, 0, none⟩), .int .i64 (pl T k x.1 : Nat), .pointer (some ⟨g, 0, none⟩), rowV a cap T, .string k, .func (.func 28) #[] #[.pointer (some ⟨w.heap.size + 1 + 1 + 1, 0, none⟩), .pointer (some ⟨w.heap.size + 1 + 1, 0, none⟩)], .int .i64 (pl T k x.1 : Nat), entV (ent T (pl T k x.1)), undef, undef, undef, undef, undef, undef, undef, undef, undef, undef, undef, undef, undef, undef, undef, undef], defers := [] } ∧ W.cell? ⟨g, 0, none⟩ = some (.int .i64 (ent T (pl T k x.1)).st) ∧ W.cell? ⟨g, 1, none⟩ = some (.string (ent T (pl T k x.1)).key))
    (fun x a' => Own.from (fun s A B row hs hg hr => by obtain ⟨g, h1, h2, h3⟩ := hs; exact ⟨g, h1, cell_kept h2 hg hr, cell_kept h3 hg hr⟩) _) ?assign ?body ?done ?stop
  case assign =>
    rintro l pre x W K ⟨⟨⟨i1, i2, i3⟩, hB⟩, hP⟩ hK
    simp only [wayV]
    clear k0 k1 f1 k2 k3 hB0 hT0 hT
    gi_wp2
    exact hK _ _ ((KeepsOthers.alloc _ _).from _) (fun b v _ hv => Fnv.cell_alloc_o _ hv) ⟨⟨⟨Fnv.cell_alloc_o _ i1, Fnv.frozen_alloc_o _ i1 i2, Fnv.cell_alloc_o _ i3⟩, hB.alloc hB.size _⟩, hP⟩ ⟨_, rfl, cell_many W _ _ 0 _ rfl, cell_many W _ _ 1 _ rfl⟩
  case body =>
    rintro l pre x a' W _ _ ⟨⟨⟨i1, i2, i3⟩, hB⟩, hP⟩ ⟨g, rfl, g0, g1⟩ _
    have M0 := Lib.hid (fun h0 => hP.empty (x := x) h0)
    have M1 := Lib.hid (fun h1 => hP.hit (x := x) h1)
    have M2 := Lib.hid (fun h0 h1 => hP.more (x := x) h0 h1)
    have HB := Lib.hid hB
    clear k0 k1 f1 k2 k3 hB0 hT0 hT hP hB hap
    generalize pl T k x.1 = q at *
    generalize ent T q = e at *
    by_cases s0 : e.st = 0
    · have d0 : (e.st == 0) = true := by simpa using s0
      gi_wp2
      exact ⟨KeepsFrom.refl _ _, ⟨rfl, none, M0.out s0, i1⟩, HB.out⟩
    · have d0 : (e.st == 0) = false := by simpa using s0
      by_cases s1 : e.st = 1
      · have d1 : (e.st == 1) = true := by simpa using s1
        by_cases s2 : e.key = k
        · have d2 : (e.key.toList == k.toList) = true := by rw [text_cmp]; exact decide_eq_true s2
          have MM := Lib.hid (M1.out ⟨s1, s2⟩)
          clear M0 M1 M2
          gi_wp2
          refine ⟨(KeepsOthers.setCell _ _ _).from _, ⟨rfl, some q, MM.out, ?_⟩, ?_⟩
          · exact World.cell?_setCell_same' _ _ _ (by rw [i1]; rfl)
          · exact HB.out.setCell (p := ⟨w.heap.size + 1, 0, none⟩) (by simp) _
        · have d2 : (e.key.toList == k.toList) = false := by rw [text_cmp]; exact decide_eq_false s2
          have MM := Lib.hid (M2.out s0 (fun h => s2 h.2))
          clear M0 M1 M2
          gi_wp2
          exact ⟨KeepsFrom.refl _ _, fun _ _ _ h => h, ⟨⟨i1, i2, i3⟩, HB.out⟩, MM.out⟩
      · have d1 : (e.st == 1) = false := by simpa using s1
        have MM := Lib.hid (M2.out s0 (fun h => s1 h.1))
        clear M0 M1 M2
        gi_wp2
        exact ⟨KeepsFrom.refl _ _, fun _ _ _ h => h, ⟨⟨i1, i2, i3⟩, HB.out⟩, MM.out⟩
  case done =>
    rintro D ys W hD rfl ⟨⟨⟨i1, _, _⟩, hB⟩, hP⟩ hK
    gi_wp2
    refine ⟨by simp, .inl ⟨_, _, rfl, run_takeDeferred hK, ?_⟩⟩
    exact ⟨.int .i64 (-1), by simp [results, Try.results12, go_sem], by rw [hP.find]; rfl, hB.trans (belowK_b (w := w) (Nat.le_refl _) W D _ _ (by omega) hK rfl rfl)⟩
  case stop =>
    rintro D c pre W hD hpre ⟨⟨rfl, r, ht, hc⟩, hB⟩ hK
    gi_wp2
    refine ⟨by simp, .inl ⟨_, _, rfl, run_takeDeferred hK, ?_⟩⟩
    exact ⟨.int .i64 (zOf r), by simp [results, Try.results12, go_sem], by rw [ht.find hpre], hB.trans (belowK_b (w := w) (Nat.le_refl _) W D _ _ (by omega) hK rfl rfl)⟩

/-- Where a key stands. -/
theorem Find_told (a : Option Addr) (cap : Nat) (T : List Ent) (k : ByteArray) (w : World) (hT : Lies entK w a cap T) (hk : k.size ≤ 4611686018427387904) :
    Calls Try.prog 12 #[rowV a cap T, .string k] w fun e W' => e = .returned (.int .i64 (zOf (find home T k))) ∧ Below w.heap.size w W' :=
  (callsIn_wide (n := 3)).1 (Find_in 3 (by omega) a cap T k w hT hk)
end Go.Proofs.Ytkgaiadmacapfaa.Prb
