/-
  Package epoch: Take.
-/
import Derived.Test.YthokjkllmflgkaaKepC
namespace Go.Proofs.Ythokjkllmflgkaa.Kep
open Go.RowKit Go.Shelf RowG Trn Epo

attribute [local go_sem] Oper.semAt_some

section
variable {L : List Slot} {f : Slot → Bool} {pre : List (Fin L.length)}
/-- None of these slots is so. -/
def Pass (L : List Slot) (f : Slot → Bool) (pre : List (Fin L.length)) : Prop := ∀ x ∈ pre, f L[x.1] = false
/-- The last one alone is so. -/
def Found (L : List Slot) (f : Slot → Bool) (pre : List (Fin L.length)) (k : Fin L.length) : Prop := ∃ q, pre = q ++ [k] ∧ Pass L f q ∧ f L[k.1] = true
theorem pass_nil : Pass L f [] := fun x hx => by cases hx
theorem Pass.more {x : Fin L.length} (h : Pass L f pre) (hx : f L[x.1] = false) : Pass L f (pre ++ [x]) := fun y hy => by
  rcases List.mem_append.1 hy with hy | hy
  · exact h y hy
  · simp at hy; subst hy; exact hx
theorem Pass.found {x : Fin L.length} (h : Pass L f pre) (hx : f L[x.1] = true) : Found L f (pre ++ [x]) x := ⟨pre, rfl, h, hx⟩
theorem Pass.first (h : Pass L f (List.finRange L.length)) : Epo.first f L 0 = none := first_none f L 0 fun x hx => by
  obtain ⟨i, hi, rfl⟩ := List.getElem_of_mem hx
  exact h ⟨i, hi⟩ (by simp)
theorem Found.first {k : Fin L.length} (h : Found L f pre k) (hp : ∃ l, pre ++ l = List.finRange L.length) : Epo.first f L 0 = some k.1 := by
  obtain ⟨q, rfl, hq, hk⟩ := h
  obtain ⟨l, hl⟩ := hp
  have hat : ∀ j (x : Fin L.length), (q ++ [k] ++ l)[j]? = some x → x.1 = j := fun j x hx => by
    rw [hl] at hx
    obtain ⟨hj, e⟩ := List.getElem?_eq_some_iff.1 hx
    simp at e; rw [← e]
  have hkl : k.1 = q.length := hat q.length k (by simp)
  have := first_at f L 0 k.1 k.2 hk (fun j hj => by
    have hjq : j < q.length := by omega
    have e : (q ++ [k] ++ l)[j]? = some q[j] := by
      rw [List.append_assoc, List.getElem?_append_left hjq, List.getElem?_eq_getElem hjq]
    have hx := hat j _ e
    have := hq _ (List.getElem_mem hjq)
    simpa [hx] using this)
  simpa using this
end
theorem cell_new_o (W : World) (v : Value) (t : TypeId) : (W.alloc (.cells #[v] t)).cell? ⟨W.heap.size, 0, none⟩ = some v ∧ (W.alloc (.cells #[v] t)).frozen? ⟨W.heap.size, 0, none⟩ = false :=
  ⟨(Boxed.new W t v).cell, (Boxed.new W t v).frozen⟩
theorem cell_alloc_o {W : World} {a : Addr} {v : Value} (o : Obj) (h : W.cell? a = some v) : (W.alloc o).cell? a = some v := cell_kept h (World.grownBy_alloc W o none) (fun r e => by cases e)
theorem frozen_alloc_o {W : World} {a : Addr} {v : Value} (o : Obj) (h : W.cell? a = some v) (hf : W.frozen? a = false) : (W.alloc o).frozen? a = false := (frozen_kept h (World.grownBy_alloc W o none) (fun r e => by cases e)).trans hf
theorem held_cells {W : World} {p : Nat} {L : List Slot} (h : Held W p L) : ∃ cur, W.heap[p]? = some (.cells cur 50 (0, 0)) := by
  obtain ⟨cur, h0, _⟩ := h.cur
  exact ⟨cur, h0⟩
theorem held_own {β : Type} (p : Nat) (L : β → List Slot) : Go.Own (fun (s : β) W => Held W p (L s)) := fun s A B row hs hg hr => by
  obtain ⟨cur, h0⟩ := held_cells hs
  exact hs.same (grownBy_keeps_cells hg hr h0 rfl)
theorem turned_from {β : Type} (S : Nat → Prop) (w : World) {B : Nat} (hB : w.heap.size ≤ B) : OwnFrom B (fun (_ : β) W => Turned S w W) := fun s A C row hs hg hr =>
  ⟨hg.os.trans hs.os, hg.tape.trans hs.tape, hg.output.trans hs.output, Nat.le_trans hs.size hg.size, fun k hk hn => (hg.block k (Nat.lt_of_lt_of_le hk hs.size) (fun e => by have := (hr k e.symm).1; omega)).trans (hs.rest k hk hn)⟩
theorem others_of_turned {S : Nat → Prop} {W W' : World} (h : Turned S W W') (hS : ∀ k, S k → ∃ o : Obj, W.heap[k]? = some o ∧ o.isCells = true) : KeepsOthers W W' :=
  ⟨h.size, fun k o hk ho => (h.rest k (heap_lt hk) (fun hs => by obtain ⟨o', h1, h2⟩ := hS k hs; rw [hk] at h1; cases h1; rw [ho] at h2; cases h2)).trans hk⟩
theorem Turned.setNew {S : Nat → Prop} {A B : World} (h : Turned S A B) {a : Addr} (ha : A.heap.size ≤ a.block) (v : Value) : Turned S A (B.setCell a v) :=
  ⟨h.os, h.tape, h.output, by simpa [World.setCell] using h.size, fun k hk hn => (Below.heap_setCell _ _ _ _ (by omega)).trans (h.rest k hk hn)⟩
theorem take_some {L : List Slot} {k : Nat} (h : Epo.first (fun s => s.st == 0) L 0 = some k) : take L = (L.set k ⟨1, 0⟩, (k : Int)) := by unfold take; rw [h]
theorem take_none {L : List Slot} (h : Epo.first (fun s => s.st == 0) L 0 = none) : take L = (L, -1) := by unfold take; rw [h]

set_option maxRecDepth 100000 in
set_option maxHeartbeats 1000000 in
theorem Take_in (m : Nat) (hm : 3 ≤ m) (p : Nat) (L : List Slot) (w : World) (hp : Keeps w p L) :
    CallsIn Fence.wide m Try.prog 17 #[.pointer (some ⟨p, 0, none⟩)] w (Acts p (take L).1 (.int .i64 (take L).2) w) := by
  have h1 : 1 ≤ m := by omega
  have hlt := hp.1.lt
  refine callsIn_of_wp_marks Try.func17 rfl trivial ?_ rfl
  simp only [Try.ntmps17, List.size_toArray, List.length_cons, List.length_nil, Nat.reduceAdd, Nat.reduceSub, Array.replicate_succ, Array.replicate_zero, List.push_toArray, List.append_toArray, List.nil_append, List.cons_append]
  gi_wp2_with fail
  refine ⟨trivial, ?_⟩
  gi_at_call 26
  refine (callsIn_wide.2 (each_told p _)).mono ?_
  rintro e w' ⟨rfl, rfl⟩
  gi_wp2
  have hL8 := hp.1.le
  have HPl := Lib.hid hp.2
  have c0 := cell_new_o w (.pointer (some ⟨p, 0, none⟩)) 25
  have c1 := cell_new_o (w.alloc (.cells #[.pointer (some ⟨p, 0, none⟩)] 25)) (.int .i64 0) 3
  have c2 := cell_new_o ((w.alloc (.cells #[.pointer (some ⟨p, 0, none⟩)] 25)).alloc (.cells #[.int .i64 0] 3)) (.pointer (some ⟨p, 0, none⟩)) 25
  simp only [World.size_alloc] at c1 c2
  have k0 := cell_alloc_o (.cells #[.pointer (some ⟨p, 0, none⟩)] 25) (cell_alloc_o (.cells #[.int .i64 0] 3) c0.1)
  have k1 := cell_alloc_o (.cells #[.pointer (some ⟨p, 0, none⟩)] 25) c1.1
  have f1 := frozen_alloc_o (.cells #[.pointer (some ⟨p, 0, none⟩)] 25) c1.1 c1.2
  have k2 := c2.1
  have hB0 : Below w.heap.size w (((w.alloc (.cells #[.pointer (some ⟨p, 0, none⟩)] 25)).alloc (.cells #[.int .i64 0] 3)).alloc (.cells #[.pointer (some ⟨p, 0, none⟩)] 25)) :=
    (((Below.refl _ w).alloc (Nat.le_refl _) _).alloc (by simp) _).alloc (by simp; omega) _
  have hH0 := hp.1.kept hB0
  generalize hW0 : (((w.alloc (.cells #[.pointer (some ⟨p, 0, none⟩)] 25)).alloc (.cells #[.int .i64 0] 3)).alloc (.cells #[.pointer (some ⟨p, 0, none⟩)] 25)) = W0 at *
  have hsz : W0.heap.size = w.heap.size + 3 := by rw [← hW0]; simp
  have HS := Lib.hid hsz
  clear c0 c1 c2 hW0
  refine wpIn_rangeFunc_ownF rfl h1 (gf := 30) (lb := #[.pointer (some ⟨w.heap.size + 1 + 1, 0, none⟩)]) rfl trivial (enters_of Try.func30 (by kernel_rfl) rfl)
    (each_stops (m - 1) (by omega) (w.heap.size + 1 + 1) p L hL8 W0 (by omega) k2 hH0) keepsAll_t keepsAll_b (Below.refl _ _) (fun _ => rfl)
    (fun pre W => (((W.cell? ⟨w.heap.size, 0, none⟩ = some (.pointer (some ⟨p, 0, none⟩)) ∧ W.cell? ⟨w.heap.size + 1, 0, none⟩ = some (.int .i64 0) ∧ W.frozen? ⟨w.heap.size + 1, 0, none⟩ = false) ∧ Held W p L) ∧ Below w.heap.size w W) ∧ Pass L (fun s => s.st == 0) pre)
    (fun c pre W => ((c = .ret ∧ ∃ k, Found L (fun s => s.st == 0) pre k ∧ W.cell? ⟨w.heap.size + 1, 0, none⟩ = some (.int .i64 (k.1 : Nat)) ∧ Held W p (L.set k.1 ⟨1, 0⟩)) ∧ Turned (fun j => j = p) w W))
    (OwnFrom.and (OwnFrom.and (OwnFrom.and (Own.from (fun s A B row hs hg hr => ⟨cell_kept hs.1 hg hr, cell_kept hs.2.1 hg hr, (frozen_kept hs.2.1 hg hr).trans hs.2.2⟩) _) (Own.from (held_own p fun _ => L) _)) (ownFrom_below (Nat.le_refl _) (by omega))) (ownFrom_pure _ _))
    (fun c => OwnFrom.and (Own.from (fun s A B row hs hg hr => by obtain ⟨h1, k, h2, h3, h4⟩ := hs; exact ⟨h1, k, h2, cell_kept h3 hg hr, held_own p (fun _ => L.set k.1 ⟨1, 0⟩) s A B row h4 hg hr⟩) _) (turned_from _ _ (by omega)))
    ⟨⟨⟨⟨k0, k1, f1⟩, hH0⟩, hB0⟩, pass_nil⟩
    (fun x => { tmps := #[.pointer (some ⟨p, 0, none⟩), .pointer (some ⟨w.heap.size, 0, none⟩), .pointer (some ⟨w.heap.size + 1, 0, none⟩), .int .i64 (x.1 : Nat), .pointer (some ⟨p, 0, none⟩), .func (.func 30) #[] #[.pointer (some ⟨w.heap.size + 1 + 1, 0, none⟩)], .int .i64 (x.1 : Nat), slotV L[x.1], undef, undef, undef, undef, undef, undef], defers := [] })
    ?assign ?body ?done ?stop
  case assign =>
    intro l x W K hK
    simp only [eachV]
    clear k0 k1 f1 k2 hB0 hH0 hp
    gi_wp2
    exact hK
  case body =>
    rintro l pre x W ⟨⟨⟨⟨i1, i2, i3⟩, hH⟩, hB⟩, hP⟩ _
    have HB := Lib.hid hB
    have HH := Lib.hid hH
    have HP := Lib.hid hP
    by_cases h0 : L[x.1].st = 0
    · have e0 : L[x.1] = ⟨0, 0⟩ := by
        rcases HPl.out _ (List.getElem_mem x.2) with h | ⟨_, h⟩ | ⟨h, _⟩
        · omega
        · exact (show L[x.1] = ⟨L[x.1].st, L[x.1].at'⟩ from rfl).trans (by rw [h0, h])
        · omega
      have C := Lib.hid (turn_yes hH x.1 x.2 ⟨0, 0⟩ ⟨1, 0⟩ e0)
      have HF := Lib.hid (hP.found (x := x) (f := fun s => s.st == 0) (by simp [h0]))
      dsimp only [slotV] at C
      clear k0 k1 f1 k2 hB0 hH0 hp hB hH hP h0 e0
      generalize slotV L[x.1] = sv at *
      have HX := Lib.hid HF.out
      clear HF
      gi_wp2_with fail
      refine ⟨trivial, fun _ => by omega, ?_⟩
      refine (CallsIn.inRound l (callsIn_wide.2 C.out)).mono ?_
      rintro e w3 ⟨rfl, hH3, hT3⟩
      have j2 := hT3.cell i2 (by simp; omega)
      have j3 : w3.frozen? ⟨w.heap.size + 1, 0, none⟩ = false := (World.frozen?_of_block (hT3.rest _ (World.block_lt_of_cell? W _ i2) (by simp; omega))).trans i3
      have HO := Lib.hid (others_of_turned hT3 (fun k hk => by subst hk; obtain ⟨cur, hc⟩ := held_cells HH.out; exact ⟨_, hc, rfl⟩))
      have HT := Lib.hid ((Turned.of_below (S := fun j => j = p) HB.out).trans hT3)
      have H3 := Lib.hid hH3
      clear hT3 hH3
      gi_wp2
      refine ⟨HO.out.trans (KeepsOthers.setCell _ _ _), ⟨rfl, x, HX.out, World.cell?_setCell_same' _ _ _ (by rw [j2]; rfl), H3.out.same (heap_setCell_other _ _ _ _ (by simp; omega))⟩, Turned.setNew HT.out (by simp) _⟩
    · have C := Lib.hid (turn_no hH (x.1 : Nat) ⟨0, 0⟩ ⟨1, 0⟩ (fun e => h0 (by rw [at1_nat x.2] at e; rw [e])))
      have HX := Lib.hid (hP.more (x := x) (f := fun s => s.st == 0) (by simpa using h0))
      dsimp only [slotV] at C
      clear k0 k1 f1 k2 hB0 hH0 hp hB hH hP h0
      generalize slotV L[x.1] = sv at *
      gi_wp2_with fail
      refine ⟨trivial, fun _ => by omega, ?_⟩
      refine (CallsIn.inRound l (callsIn_wide.2 C.out)).mono ?_
      rintro e w3 ⟨rfl, hb3⟩
      have j1 := keep_b i1 hb3
      have j2 := keep_b i2 hb3
      have j3 : w3.frozen? ⟨w.heap.size + 1, 0, none⟩ = false := (World.frozen?_of_block (hb3.block _ (World.block_lt_of_cell? W _ i2))).trans i3
      have HO := Lib.hid (KeepsOthers.of_grownBy (grown_none hb3) (fun j o e => by cases e))
      have HT := Lib.hid (HB.out.trans (hb3.mono HB.out.size))
      have H3 := Lib.hid (HH.out.kept hb3)
      have HK := Lib.hid (keepsAll_below hb3)
      clear hb3
      gi_wp2
      exact ⟨HO.out, HK.out, ⟨⟨⟨j1, j2, j3⟩, H3.out⟩, HT.out⟩, HX.out⟩
  case done =>
    rintro D ys W hD rfl ⟨⟨⟨⟨i1, i2, i3⟩, hH⟩, hB⟩, hP⟩ hK
    have k5 : (W.setCell ⟨w.heap.size + 1, 0, none⟩ (.int .i64 (-1))).cell? ⟨w.heap.size + 1, 0, none⟩ = some (.int .i64 (-1)) := World.cell?_setCell_same' _ _ _ (by rw [i2]; rfl)
    have hK5 : (W.setCell ⟨w.heap.size + 1, 0, none⟩ (.int .i64 (-1))).heap[D]? = some (.deferred (some [])) := (heap_setCell_other _ _ _ _ (by simp; omega)).trans hK
    gi_wp2
    refine ⟨by simp, .inl ⟨_, _, rfl, run_takeDeferred hK5, ?_⟩⟩
    have k6 := cell_kept k5 (grownBy_putObj' _ D (.deferred none)) (fun r e => by cases e; exact ⟨_, hK5, rfl⟩)
    refine ⟨.int .i64 (-1), by simp [results, Try.results17, go_sem, k6], ?_⟩
    rw [take_none hP.first]
    have hb6 := (hB.setCell (p := ⟨w.heap.size + 1, 0, none⟩) (by simp) (.int .i64 (-1))).trans (belowK_b (w := w) (Nat.le_refl _) _ D _ (.deferred none) (by omega) hK5 rfl rfl)
    exact ⟨rfl, ⟨hp.1.kept hb6, hp.2⟩, Turned.of_below hb6⟩
  case stop =>
    rintro D c pre W hD hpre ⟨⟨rfl, k, hF, hc, hH⟩, hT⟩ hK
    gi_wp2
    refine ⟨by simp, .inl ⟨_, _, rfl, run_takeDeferred hK, ?_⟩⟩
    have k6 := cell_kept hc (grownBy_putObj' _ D (.deferred none)) (fun r e => by cases e; exact ⟨_, hK, rfl⟩)
    refine ⟨.int .i64 (k.1 : Nat), by simp [results, Try.results17, go_sem, k6], ?_⟩
    rw [take_some (hF.first hpre)]
    have hg := grownBy_putObj' W D (.deferred none)
    refine ⟨rfl, ⟨hH.same (World.putObj_heap_other (by omega)), hp.2.set _ (.inr (.inr ⟨rfl, rfl⟩))⟩, turned_from (β := Unit) (fun j => j = p) w (B := w.heap.size) (Nat.le_refl _) () _ _ _ hT hg (fun r e => by cases e; exact ⟨by omega, _, hK, rfl⟩)⟩

/-- Take takes the lowest free slot. -/
theorem Take_told {p : Nat} {L : List Slot} {w : World} (hp : Keeps w p L) : Calls Try.prog 17 #[.pointer (some ⟨p, 0, none⟩)] w (Acts p (take L).1 (.int .i64 (take L).2) w) :=
  (callsIn_wide (n := 3)).1 (Take_in 3 (by omega) p L w hp)
end Go.Proofs.Ythokjkllmflgkaa.Kep
