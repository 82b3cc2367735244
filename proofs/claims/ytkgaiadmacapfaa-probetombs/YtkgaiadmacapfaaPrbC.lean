/-
  Package probe: Room.
-/
import Derived.Test.YtkgaiadmacapfaaPrbB
namespace Go.Proofs.Ytkgaiadmacapfaa.Prb
open Go.RowKit Go.Shelf RowG Tab

attribute [local go_sem] Oper.semAt_some

/-- Where room is hangs on no place behind. -/
def ToldR (T : List Ent) (k : ByteArray) (pre : List (Fin T.length)) (r : Option Nat) : Prop := ∀ l, roomP T (plL T k pre ++ l) = r
/-- All were live. -/
def Full (T : List Ent) (k : ByteArray) (pre : List (Fin T.length)) : Prop := ∀ l, roomP T (plL T k pre ++ l) = roomP T l
section
variable {T : List Ent} {k : ByteArray} {pre : List (Fin T.length)} {x : Fin T.length} {r : Option Nat}
theorem full_nil : Full T k [] := fun _ => rfl
theorem Full.more (h : Full T k pre) (h1 : (ent T (pl T k x.1)).st = 1) : Full T k (pre ++ [x]) := fun l => by
  rw [plL_snoc, List.append_assoc, h]
  conv => lhs; unfold roomP
  exact if_pos h1
theorem Full.free (h : Full T k pre) (h1 : (ent T (pl T k x.1)).st ≠ 1) : ToldR T k (pre ++ [x]) (some (pl T k x.1)) := fun l => by
  rw [plL_snoc, List.append_assoc, h]
  conv => lhs; unfold roomP
  exact if_neg h1
theorem ToldR.room (h : ToldR T k pre r) (hp : ∃ l, pre ++ l = List.finRange T.length) (hf : Tab.find home T k = none) : Tab.room home T k = r := by
  obtain ⟨l, hl⟩ := hp
  unfold Tab.room
  rw [hf]
  show roomP T _ = r
  rw [← plL_all, ← hl]
  unfold plL
  rw [List.map_append]
  exact h _
theorem Full.room (h : Full T k (List.finRange T.length)) (hf : Tab.find home T k = none) : Tab.room home T k = none := by
  unfold Tab.room
  rw [hf]
  show roomP T _ = none
  rw [← plL_all, ← List.append_nil (plL T k (List.finRange T.length))]
  exact h []
theorem room_found {q : Nat} (hf : Tab.find home T k = some q) : Tab.room home T k = none := by unfold Tab.room; rw [hf]
end
theorem zOf_ne (o : Option Nat) : (zOf o == -1) = o.isNone := by cases o <;> simp [zOf] <;> omega

set_option maxRecDepth 100000 in
set_option maxHeartbeats 1000000 in
theorem Room_in (m : Nat) (hm : 3 ≤ m) (a : Option Addr) (cap : Nat) (T : List Ent) (k : ByteArray) (w : World) (hT : Lies entK w a cap T) (hk : k.size ≤ 4611686018427387904) :
    CallsIn Fence.wide m Try.prog 14 #[rowV a cap T, .string k] w fun e W' => e = .returned (.int .i64 (zOf (room home T k))) ∧ Below w.heap.size w W' := by
  have h1 : 1 ≤ m := by omega
  have hap : ∀ b off, a = some ⟨b, off, none⟩ → T ≠ [] → b < w.heap.size := fun b off e hn => by
    obtain ⟨b', off', e', hc⟩ := hT.cell hn
    rw [e] at e'; cases e'
    cases T with
    | nil => exact absurd rfl hn
    | cons x T => exact World.block_lt_of_cell? w ⟨b, off + 0 * 4 + 0, none⟩ (hc 0 x rfl 0 _ rfl)
  have b0 : Below w.heap.size w (w.alloc (.cells #[.int .i64 0] 3)) := (Below.refl _ w).alloc (Nat.le_refl _) _
  have n0 := Fnv.cell_new_o w (.int .i64 0) 3
  have hT1 := hT.kept b0
  refine callsIn_of_wp_marks Try.func14 rfl trivial ?_ rfl
  simp only [Try.ntmps14, List.size_toArray, List.length_cons, List.length_nil, Nat.reduceAdd, Nat.reduceSub, Array.replicate_succ, Array.replicate_zero, List.push_toArray, List.append_toArray, List.nil_append, List.cons_append]
  gi_wp2_with fail
  refine ⟨trivial, ?_⟩
  gi_at_call 12
  refine (callsIn_wide.2 (Find_told a cap T k _ hT1 hk)).mono ?_
  rintro e w1 ⟨rfl, b1⟩
  have bb := below2 b0 b1
  have c0 : w1.cell? ⟨w.heap.size, 0, none⟩ = some (.int .i64 0) := (b1.cell (p := ⟨w.heap.size, 0, none⟩) (by simp)).trans n0.1
  have f0 : w1.frozen? ⟨w.heap.size, 0, none⟩ = false := (frozen_kept n0.1 (grown_none b1) (fun r e => by cases e)).trans n0.2
  have hz := World.size_alloc w (.cells #[.int .i64 0] 3)
  have hs1 : w.heap.size + 1 ≤ w1.heap.size := by rw [← hz]; exact b1.size
  have hT2 := hT1.kept b1
  clear hT hT1 n0 b0 b1 hz
  cases hf : Tab.find home T k with
  | some q =>
    have d1 : (zOf (some q) != -1) = true := by rw [bne, zOf_ne]; rfl
    have k0 : (w1.setCell ⟨w.heap.size, 0, none⟩ (.int .i64 (-1))).cell? ⟨w.heap.size, 0, none⟩ = some (.int .i64 (-1)) := World.cell?_setCell_same' _ _ _ (by rw [c0]; rfl)
    gi_wp2
    exact ⟨.int .i64 (-1), by simp [results, Try.results14, go_sem, k0], by rw [room_found hf]; rfl, bb.setCell (p := ⟨w.heap.size, 0, none⟩) (by simp) _⟩
  | none =>
    have d1 : (zOf none != -1) = false := by rw [bne, zOf_ne]; rfl
    have HF := Lib.hid hf
    clear hf
    gi_wp2_with fail
    refine ⟨trivial, ?_⟩
    gi_at_call 22
    refine (callsIn_wide.2 (way_told _ rfl k _)).mono ?_
    rintro e w' ⟨rfl, rfl⟩
    gi_wp2
    have c2 := Fnv.cell_new_o w1 (rowV a cap T) 22
    have c3 := Fnv.cell_new_o (w1.alloc (.cells #[rowV a cap T] 22)) (.string k) 9
    simp only [World.size_alloc] at c3
    have k1 := Fnv.cell_alloc_o (.cells #[.string k] 9) (Fnv.cell_alloc_o (.cells #[rowV a cap T] 22) c0)
    have f1 := Fnv.frozen_alloc_o (.cells #[.string k] 9) (Fnv.cell_alloc_o (.cells #[rowV a cap T] 22) c0) (Fnv.frozen_alloc_o (.cells #[rowV a cap T] 22) c0 f0)
    have k2 := Fnv.cell_alloc_o (.cells #[.string k] 9) c2.1
    have k3 := c3.1
    have hB1 : Below w1.heap.size w1 ((w1.alloc (.cells #[rowV a cap T] 22)).alloc (.cells #[.string k] 9)) := ((Below.refl _ w1).alloc (Nat.le_refl _) _).alloc (by simp) _
    have hB0 := below2 bb hB1
    have hT0 := hT2.kept hB1
    generalize hW0 : ((w1.alloc (.cells #[rowV a cap T] 22)).alloc (.cells #[.string k] 9)) = W0 at *
    have hsz : W0.heap.size = w1.heap.size + 2 := by rw [← hW0]; simp
    have HS := Lib.hid hsz
    clear c0 c2 c3 hW0 hT2 hB1
    refine wpIn_rangeFunc_ownH rfl h1 (gf := 28) (lb := #[.pointer (some ⟨w1.heap.size + 1, 0, none⟩), .pointer (some ⟨w1.heap.size, 0, none⟩)]) rfl trivial (enters_of Try.func28 (by kernel_rfl) rfl)
      (way_stops (m - 1) (by omega) (w1.heap.size + 1) w1.heap.size w.heap.size k hk a cap T (by omega) (fun b off e hn => by have := hap b off e hn; omega) W0 (by omega) (by omega) k3 k2 hT0) keepsBut_t keepsBut_b (Below.refl _ _) (fun _ => rfl)
      (fun pre W => ((W.cell? ⟨w.heap.size, 0, none⟩ = some (.int .i64 0) ∧ W.frozen? ⟨w.heap.size, 0, none⟩ = false) ∧ Below w.heap.size w W) ∧ Full T k pre)
      (fun c pre W => ((c = .ret ∧ ∃ r, ToldR T k pre r ∧ W.cell? ⟨w.heap.size, 0, none⟩ = some (.int .i64 (zOf r))) ∧ Below w.heap.size w W))
      (OwnFrom.and (OwnFrom.and (Own.from (fun s A B row hs hg hr => ⟨cell_kept hs.1 hg hr, (frozen_kept hs.1 hg hr).trans hs.2⟩) _) (ownFrom_below (Nat.le_refl _) (by omega))) (ownFrom_pure _ _))
      (fun c => OwnFrom.and (Own.from (fun s A B row hs hg hr => by obtain ⟨h1, r, h2, h3⟩ := hs; exact ⟨h1, r, h2, cell_kept h3 hg hr⟩) _) (ownFrom_below (Nat.le_refl _) (by omega)))
      ⟨⟨⟨k1, f1⟩, hB0⟩, full_nil⟩
      (fun x a' W => ∃ g, a' = { tmps := #[rowV a cap T, .string k, undef, undef, .pointer (some ⟨w.heap.size, 0, none⟩), .int .i64 (pl T k x.1 : Nat), .pointer (some ⟨g, 0, none⟩), rowV a cap T, .string k, .int .i64 (zOf none), .bool false, rowV a cap T, .string k, .func (.func 28) #[] #[.pointer (some ⟨w1.heap.size + 1, 0, none⟩), .pointer (some ⟨w1.heap.size, 0, none⟩)], .int .i64 (pl T k x.1 : Nat), entV (ent T (pl T k x.1)), undef, undef, undef, undef], defers := [] } ∧ W.cell? ⟨g, 0, none⟩ = some (.int .i64 (ent T (pl T k x.1)).st))
      (fun x a' => Own.from (fun s A B row hs hg hr => by obtain ⟨g, h1, h2⟩ := hs; exact ⟨g, h1, cell_kept h2 hg hr⟩) _) ?assign ?body ?done ?stop
    case assign =>
      rintro l pre x W K ⟨⟨⟨i1, i2⟩, hB⟩, hP⟩ hK
      simp only [wayV]
      clear k1 f1 k2 k3 hB0 hT0
      gi_wp2
      exact hK _ _ ((KeepsOthers.alloc _ _).from _) (fun b v _ hv => Fnv.cell_alloc_o _ hv) ⟨⟨⟨Fnv.cell_alloc_o _ i1, Fnv.frozen_alloc_o _ i1 i2⟩, hB.alloc hB.size _⟩, hP⟩ ⟨_, rfl, cell_many W _ _ 0 _ rfl⟩
    case body =>
      rintro l pre x a' W _ _ ⟨⟨⟨i1, i2⟩, hB⟩, hP⟩ ⟨g, rfl, g0⟩ _
      have M0 := Lib.hid (fun h0 => hP.free (x := x) h0)
      have M1 := Lib.hid (fun h1 => hP.more (x := x) h1)
      have HB := Lib.hid hB
      clear k1 f1 k2 k3 hB0 hT0 hP hB hap
      generalize pl T k x.1 = q at *
      generalize ent T q = e at *
      by_cases s1 : e.st = 1
      · have d2 : (e.st != 1) = false := by simpa using s1
        have MM := Lib.hid (M1.out s1)
        clear M0 M1
        gi_wp2
        exact ⟨KeepsFrom.refl _ _, fun _ _ _ h => h, ⟨⟨i1, i2⟩, HB.out⟩, MM.out⟩
      · have d2 : (e.st != 1) = true := by simpa using s1
        have MM := Lib.hid (M0.out s1)
        clear M0 M1
        gi_wp2
        refine ⟨(KeepsOthers.setCell _ _ _).from _, ⟨rfl, some q, MM.out, ?_⟩, ?_⟩
        · exact World.cell?_setCell_same' _ _ _ (by rw [i1]; rfl)
        · exact HB.out.setCell (p := ⟨w.heap.size, 0, none⟩) (by simp) _
    case done =>
      rintro D ys W hD rfl ⟨⟨⟨i1, i2⟩, hB⟩, hP⟩ hK
      have k5 : (W.setCell ⟨w.heap.size, 0, none⟩ (.int .i64 (-1))).cell? ⟨w.heap.size, 0, none⟩ = some (.int .i64 (-1)) := World.cell?_setCell_same' _ _ _ (by rw [i1]; rfl)
      have hK5 : (W.setCell ⟨w.heap.size, 0, none⟩ (.int .i64 (-1))).heap[D]? = some (.deferred (some [])) := (heap_setCell_other _ _ _ _ (by simp; omega)).trans hK
      gi_wp2
      refine ⟨by simp, .inl ⟨_, _, rfl, run_takeDeferred hK5, ?_⟩⟩
      have k6 := cell_kept k5 (grownBy_putObj' _ D (.deferred none)) (fun r e => by cases e; exact ⟨_, hK5, rfl⟩)
      exact ⟨.int .i64 (-1), by simp [results, Try.results14, go_sem, k6], by rw [hP.room HF.out]; rfl, (hB.setCell (p := ⟨w.heap.size, 0, none⟩) (by simp) _).trans (belowK_b (w := w) (Nat.le_refl _) _ D _ _ (by omega) hK5 rfl rfl)⟩
    case stop =>
      rintro D c pre W hD hpre ⟨⟨rfl, r, ht, hc⟩, hB⟩ hK
      gi_wp2
      refine ⟨by simp, .inl ⟨_, _, rfl, run_takeDeferred hK, ?_⟩⟩
      have k6 := cell_kept hc (grownBy_putObj' _ D (.deferred none)) (fun r e => by cases e; exact ⟨_, hK, rfl⟩)
      exact ⟨.int .i64 (zOf r), by simp [results, Try.results14, go_sem, k6], by rw [ht.room hpre HF.out], hB.trans (belowK_b (w := w) (Nat.le_refl _) _ D _ _ (by omega) hK rfl rfl)⟩

/-- Where a key may be put. -/
theorem Room_told (a : Option Addr) (cap : Nat) (T : List Ent) (k : ByteArray) (w : World) (hT : Lies entK w a cap T) (hk : k.size ≤ 4611686018427387904) :
    Calls Try.prog 14 #[rowV a cap T, .string k] w fun e W' => e = .returned (.int .i64 (zOf (room home T k))) ∧ Below w.heap.size w W' :=
  (callsIn_wide (n := 3)).1 (Room_in 3 (by omega) a cap T k w hT hk)
end Go.Proofs.Ytkgaiadmacapfaa.Prb
