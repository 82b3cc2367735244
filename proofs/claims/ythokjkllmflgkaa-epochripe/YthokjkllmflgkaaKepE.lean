/-
  Package epoch: Ripe.
-/
import Derived.Test.YthokjkllmflgkaaKepD
import Derived.Test.YthokjkllmflgkaaCelR
namespace Go.Proofs.Ythokjkllmflgkaa.Kep
open Go.RowKit Go.Shelf RowG Trn Epo

attribute [local go_sem] Oper.semAt_some

theorem wpIn_scope_wide {n : Nat} {P : Program} {c : Code} {Q : Exit → Go.Act → World → Prop} {a : Go.Act} {w : World} (h : c.wpIn Fence.wide n P (Exit.noGoto Q) a w) : (Code.scope c).wpIn Fence.wide n P Q a w := wpIn_wide.2 (wp_scope_straight (wpIn_wide.1 h))

theorem above_next {P : List Int} {j : Nat} (h : j < P.length) {a : Int} (hp : above (P.take j) a = true) (hx : P[j] = 0 ∨ a < P[j]) : above (P.take (j + 1)) a = true := by
  rw [List.take_succ_eq_append_getElem h, above_append, hp]
  simpa [above] using hx
theorem above_not {P : List Int} {j : Nat} (h : j < P.length) {a : Int} (h0 : P[j] ≠ 0) (hx : P[j] ≤ a) : above P a = false := by
  rw [← Bool.not_eq_true]
  intro hp
  rcases above_mem hp (List.getElem_mem h) with h | h
  · exact h0 h
  · omega
/-- What Ripe looks for. -/
def ripeF (P : List Int) (s : Slot) : Bool := s.st == 2 && above P s.at'
theorem ripe_some {L : List Slot} {P : List Int} {k : Nat} (h : Epo.first (ripeF P) L 0 = some k) : ripe L P = (k : Int) := by
  unfold ripe
  rw [show (fun s : Slot => s.st == 2 && above P s.at') = ripeF P from rfl, h]
theorem ripe_none {L : List Slot} {P : List Int} (h : Epo.first (ripeF P) L 0 = none) : ripe L P = -1 := by
  unfold ripe
  rw [show (fun s : Slot => s.st == 2 && above P s.at') = ripeF P from rfl, h]
theorem cell_many (W : World) (cs : Array Value) (t : TypeId) (i : Nat) (v : Value) (h : cs[i]? = some v) : (W.alloc (.cells cs t)).cell? ⟨W.heap.size, i, none⟩ = some v := by
  have := World.alloc_heap_new W (.cells cs t)
  unfold World.cell?
  rw [this]
  exact h

set_option maxRecDepth 100000 in
set_option maxHeartbeats 1000000 in
theorem Ripe_in (m : Nat) (hm : 3 ≤ m) (p : Nat) (L : List Slot) (a : Option Addr) (cap : Nat) (P : List Int) (w : World) (hp : Keeps w p L) (hP : Lies numK w a cap P) :
    CallsIn Fence.wide m Try.prog 16 #[.pointer (some ⟨p, 0, none⟩), rowV a cap P] w fun e W' => e = .returned (.int .i64 (ripe L P)) ∧ Below w.heap.size w W' := by
  have h1 : 1 ≤ m := by omega
  have hlt := hp.1.lt
  refine callsIn_of_wp_marks Try.func16 rfl trivial ?_ rfl
  simp only [Try.ntmps16, List.size_toArray, List.length_cons, List.length_nil, Nat.reduceAdd, Nat.reduceSub, Array.replicate_succ, Array.replicate_zero, List.push_toArray, List.append_toArray, List.nil_append, List.cons_append]
  gi_wp2_with fail
  refine wpIn_scope_wide ?_
  gi_wp2_with fail
  refine wpIn_label ?_
  gi_wp2_with fail
  refine ⟨trivial, ?_⟩
  gi_at_call 26
  refine (callsIn_wide.2 (each_told p _)).mono ?_
  rintro e w' ⟨rfl, rfl⟩
  gi_wp2
  have hL8 := hp.1.le
  have c0 := cell_new_o w (rowV a cap P) 30
  have c1 := cell_new_o (w.alloc (.cells #[rowV a cap P] 30)) (.int .i64 0) 3
  have c2 := cell_new_o ((w.alloc (.cells #[rowV a cap P] 30)).alloc (.cells #[.int .i64 0] 3)) (.pointer (some ⟨p, 0, none⟩)) 25
  simp only [World.size_alloc] at c1 c2
  have k0 := cell_alloc_o (.cells #[.pointer (some ⟨p, 0, none⟩)] 25) (cell_alloc_o (.cells #[.int .i64 0] 3) c0.1)
  have k1 := cell_alloc_o (.cells #[.pointer (some ⟨p, 0, none⟩)] 25) c1.1
  have f1 := frozen_alloc_o (.cells #[.pointer (some ⟨p, 0, none⟩)] 25) c1.1 c1.2
  have k2 := c2.1
  have hB0 : Below w.heap.size w (((w.alloc (.cells #[rowV a cap P] 30)).alloc (.cells #[.int .i64 0] 3)).alloc (.cells #[.pointer (some ⟨p, 0, none⟩)] 25)) :=
    (((Below.refl _ w).alloc (Nat.le_refl _) _).alloc (by simp) _).alloc (by simp; omega) _
  have hH0 := hp.1.kept hB0
  generalize hW0 : (((w.alloc (.cells #[rowV a cap P] 30)).alloc (.cells #[.int .i64 0] 3)).alloc (.cells #[.pointer (some ⟨p, 0, none⟩)] 25)) = W0 at *
  have hsz : W0.heap.size = w.heap.size + 3 := by rw [← hW0]; simp
  have HS := Lib.hid hsz
  clear c0 c1 c2 hW0
  refine wpIn_rangeFunc_ownH rfl h1 (gf := 30) (lb := #[.pointer (some ⟨w.heap.size + 1 + 1, 0, none⟩)]) rfl trivial (enters_of Try.func30 (by kernel_rfl) rfl)
    (each_stops (m - 1) (by omega) (w.heap.size + 1 + 1) p L hL8 W0 (by omega) k2 hH0) keepsAll_t keepsAll_b (Below.refl _ _) (fun _ => rfl)
    (fun pre W => ((W.cell? ⟨w.heap.size, 0, none⟩ = some (rowV a cap P) ∧ W.cell? ⟨w.heap.size + 1, 0, none⟩ = some (.int .i64 0) ∧ W.frozen? ⟨w.heap.size + 1, 0, none⟩ = false) ∧ Below w.heap.size w W) ∧ Pass L (ripeF P) pre)
    (fun c pre W => ((c = .ret ∧ ∃ k, Found L (ripeF P) pre k ∧ W.cell? ⟨w.heap.size + 1, 0, none⟩ = some (.int .i64 (k.1 : Nat))) ∧ Below w.heap.size w W))
    (OwnFrom.and (OwnFrom.and (Own.from (fun s A B row hs hg hr => ⟨cell_kept hs.1 hg hr, cell_kept hs.2.1 hg hr, (frozen_kept hs.2.1 hg hr).trans hs.2.2⟩) _) (ownFrom_below (Nat.le_refl _) (by omega))) (ownFrom_pure _ _))
    (fun c => OwnFrom.and (Own.from (fun s A B row hs hg hr => by obtain ⟨h1, k, h2, h3⟩ := hs; exact ⟨h1, k, h2, cell_kept h3 hg hr⟩) _) (ownFrom_below (Nat.le_refl _) (by omega)))
    ⟨⟨⟨k0, k1, f1⟩, hB0⟩, pass_nil⟩
    (fun x a' W => ∃ g, a' = { tmps := #[.pointer (some ⟨p, 0, none⟩), rowV a cap P, undef, .pointer (some ⟨w.heap.size, 0, none⟩), .pointer (some ⟨w.heap.size + 1, 0, none⟩), .int .i64 (x.1 : Nat), .pointer (some ⟨g, 0, none⟩), undef, undef, .pointer (some ⟨p, 0, none⟩), .func (.func 30) #[] #[.pointer (some ⟨w.heap.size + 1 + 1, 0, none⟩)], .int .i64 (x.1 : Nat), slotV L[x.1], undef, undef, undef, undef, undef, undef, undef, undef, undef, undef, undef, undef, undef, undef, undef, undef, undef, undef, undef], defers := [] } ∧ W.cell? ⟨g, 0, none⟩ = some (.int .i64 L[x.1].st) ∧ W.cell? ⟨g, 1, none⟩ = some (.int .i64 L[x.1].at'))
    (fun x a' => Own.from (fun s A B row hs hg hr => by obtain ⟨g, h1, h2, h3⟩ := hs; exact ⟨g, h1, cell_kept h2 hg hr, cell_kept h3 hg hr⟩) _) ?assign ?body ?done ?stop
  case assign =>
    rintro l pre x W K ⟨⟨⟨i1, i2, i3⟩, hB⟩, hP'⟩ hK
    simp only [eachV]
    clear k0 k1 f1 k2 hB0 hH0 hp hP
    gi_wp2
    exact hK _ _ ((KeepsOthers.alloc _ _).from _) (fun b v hv => cell_alloc_o _ hv) ⟨⟨⟨cell_alloc_o _ i1, cell_alloc_o _ i2, frozen_alloc_o _ i2 i3⟩, hB.alloc hB.size _⟩, hP'⟩ ⟨_, rfl, cell_many W _ _ 0 _ rfl, cell_many W _ _ 1 _ rfl⟩
  case body =>
    rintro l pre x a' W _ _ ⟨⟨⟨i1, i2, i3⟩, hB⟩, hP'⟩ ⟨g, rfl, g0, g1⟩ _
    have HB := Lib.hid hB
    have HX := Lib.hid hP'
    have HL := Lib.hid (hP.kept hB)
    have hmx := hP.max
    have hln := hP.len
    unfold maxLen at hmx
    have HN := Lib.hid (fun h => hP'.more (x := x) (f := ripeF P) h)
    have HY := Lib.hid (fun h => hP'.found (x := x) (f := ripeF P) h)
    have HE := Lib.hid (show ripeF P L[x.1] = (L[x.1].st == 2 && above P L[x.1].at') from rfl)
    clear k0 k1 f1 k2 hB0 hH0 hp hP hB hP'
    generalize L[x.1] = s at *
    by_cases s2 : s.st = 2
    · have d2 : (s.st != 2) = false := by simpa using s2
      have HS2 := Lib.hid s2
      clear s2
      gi_wp2
      gi_loopw [18] (fun i wr => ∃ j : Nat, j ≤ P.length ∧ i = .int .i64 j ∧ wr = W ∧ Hid (above (P.take j) s.at' = true)) (fun i _ => P.length - (intOf i).toNat)
      case atStart => exact ⟨0, Nat.zero_le _, rfl, rfl, Lib.hid rfl⟩
      case round =>
        obtain ⟨j, hj, rfl, rfl, hA⟩ := hrel
        by_cases hlt : j < P.length
        · obtain ⟨b, off, rfl, q0⟩ := HL.out.num hlt
          have HJ := Lib.hid hlt
          have dlt : decide (j < P.length) = true := decide_eq_true hlt
          have HG := Lib.hid (fun h => above_next hlt hA.out h)
          have HZ := Lib.hid (fun h h' => above_not (a := s.at') hlt h h')
          clear hA
          generalize P[j] = y at *
          by_cases y0 : y = 0
          · have e0 : (y != 0) = false := by simpa using y0
            have GG := Lib.hid (HG.out (.inl y0))
            clear HG HZ y0
            gi_wp2
            go_roundw
            case rel => exact ⟨j + 1, HJ.out, by simp, trivial, GG⟩
            case measure => have := HJ.out; simp [intOf]; omega
          · have e0 : (y != 0) = true := by simpa using y0
            by_cases y1 : y ≤ s.at'
            · have e1 : decide (y ≤ s.at') = true := decide_eq_true y1
              have MM := Lib.hid (HN.out (by rw [HE.out, HZ.out y0 y1]; simp))
              clear HG HZ y0 y1 HN HY HE
              gi_wp2
              exact ⟨KeepsFrom.refl _ _, fun _ _ h => h, ⟨⟨i1, i2, i3⟩, HB.out⟩, MM.out⟩
            · have e1 : decide (y ≤ s.at') = false := decide_eq_false y1
              have GG := Lib.hid (HG.out (.inr (by omega)))
              clear HG HZ y0 y1
              gi_wp2
              go_roundw
              case rel => exact ⟨j + 1, HJ.out, by simp, trivial, GG⟩
              case measure => have := HJ.out; simp [intOf]; omega
        · obtain rfl : j = P.length := by omega
          have MM := Lib.hid (HY.out (by rw [HE.out, HS2.out]; have := hA.out; rw [List.take_length] at this; simp [this]))
          clear HN HY HE hA
          gi_wp2
          exact ⟨(KeepsOthers.setCell _ _ _).from _, ⟨rfl, x, MM.out, World.cell?_setCell_same' _ _ _ (by rw [i2]; rfl)⟩, HB.out.setCell (p := ⟨w.heap.size + 1, 0, none⟩) (by simp) _⟩
    · have d2 : (s.st != 2) = true := by simpa using s2
      have MM := Lib.hid (HN.out (by rw [HE.out]; simp [s2]))
      clear HN HY HE s2
      gi_wp2
      exact ⟨KeepsFrom.refl _ _, fun _ _ h => h, ⟨⟨i1, i2, i3⟩, HB.out⟩, MM.out⟩
  case done =>
    rintro D ys W hD rfl ⟨⟨⟨i1, i2, i3⟩, hB⟩, hP'⟩ hK
    have k5 : (W.setCell ⟨w.heap.size + 1, 0, none⟩ (.int .i64 (-1))).cell? ⟨w.heap.size + 1, 0, none⟩ = some (.int .i64 (-1)) := World.cell?_setCell_same' _ _ _ (by rw [i2]; rfl)
    have hK5 : (W.setCell ⟨w.heap.size + 1, 0, none⟩ (.int .i64 (-1))).heap[D]? = some (.deferred (some [])) := (heap_setCell_other _ _ _ _ (by simp; omega)).trans hK
    gi_wp2
    refine ⟨by simp, .inl ⟨_, _, rfl, run_takeDeferred hK5, ?_⟩⟩
    have k6 := cell_kept k5 (grownBy_putObj' _ D (.deferred none)) (fun r e => by cases e; exact ⟨_, hK5, rfl⟩)
    exact ⟨.int .i64 (-1), by simp [results, Try.results16, go_sem, k6], by rw [ripe_none hP'.first], (hB.setCell (p := ⟨w.heap.size + 1, 0, none⟩) (by simp) _).trans (belowK_b (w := w) (Nat.le_refl _) _ D _ _ (by omega) hK5 rfl rfl)⟩
  case stop =>
    rintro D c pre W hD hpre ⟨⟨rfl, k, hF, hc⟩, hB⟩ hK
    gi_wp2
    refine ⟨by simp, .inl ⟨_, _, rfl, run_takeDeferred hK, ?_⟩⟩
    have k6 := cell_kept hc (grownBy_putObj' _ D (.deferred none)) (fun r e => by cases e; exact ⟨_, hK, rfl⟩)
    refine ⟨.int .i64 (k.1 : Nat), by simp [results, Try.results16, go_sem, k6], by rw [ripe_some (hF.first hpre)], hB.trans (belowK_b (w := w) (Nat.le_refl _) _ D _ _ (by omega) hK rfl rfl)⟩

/-- Which slot is ripe. -/
theorem Ripe_told {p : Nat} {L : List Slot} {a : Option Addr} {cap : Nat} {P : List Int} {w : World} (hp : Keeps w p L) (hP : Lies numK w a cap P) :
    Calls Try.prog 16 #[.pointer (some ⟨p, 0, none⟩), rowV a cap P] w fun e W' => e = .returned (.int .i64 (ripe L P)) ∧ Below w.heap.size w W' :=
  (callsIn_wide (n := 3)).1 (Ripe_in 3 (by omega) p L a cap P w hp hP)
end Go.Proofs.Ythokjkllmflgkaa.Kep
