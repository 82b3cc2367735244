/-
  The document's slots (package gangplankref15): New, with, Take, State, Retire, above, Ripe, Free.
-/
import Derived.Test.YthokjkllmflgkaaKepE
import Derived.Test.YthokjkllmflgkaaCelR
import Derived.WalkMore
import Derived.OwnWalk
import Derived.Laws.MakeOwn
import Derived.Lib.SliceRun
namespace Go.Proofs.Ythokjkllmflgkaa.Kep
open Go.RowKit Go.Shelf Go.WideShapes RowG Trn Epo

attribute [local go_sem] Oper.semAt_some

instance : Inhabited Slot := ⟨slot0⟩
/-- A slot's two cells. -/
def slotK : Kind Slot := ⟨2, fun x => [.int .i64 x.st, .int .i64 x.at'], by decide, fun _ => rfl, fun x u hu => by
  simp at hu; rcases hu with rfl | rfl <;> rfl⟩
theorem info_slot : (Try.prog.info? 59).map (fun i => (i.zero, i.size, i.bytes)) = some (some (.agg #[.int .i64 0, .int .i64 0]), slotK.c, 16) := by kernel_rfl
abbrev zeroS : Array Value := #[.int .i64 0, .int .i64 0]
/-- New slots. -/
theorem run_slots (n : Nat) (hn : n ≤ 1000000000) (W : World) : (Instr.makeSlice 27 (.int .i64 (n : Int)) (.int .i64 (n : Int))).run Try.prog W = .ok (.slice (some ⟨W.heap.size, 0, none⟩) n n) (W.alloc (.cells (madeCells zeroS (n * 2)) 59)) := by
  obtain ⟨i0, hi, hz0, hz1, hz2⟩ := info_parts info_slot
  have := run_make (P := Try.prog) W 27 59 i0 (.agg zeroS) Try.underlying27 hi hz0 .i64 .i64 n n (by omega) (Int.le_refl _) (by rw [hz2]; omega) (by omega)
  rw [hz1, show slotK.c = 2 from rfl, show (Value.agg zeroS).cells = zeroS from rfl] at this
  simpa using this
theorem row_slots (w : World) (n : Nat) (h : n ≤ maxLen) : Row slotK 59 (w.alloc (.cells (madeCells zeroS (n * 2)) 59)) w.heap.size n (List.replicate n slot0) :=
  ⟨_, World.alloc_heap_new w _, by simp, h, by simp [madeCells]; rfl, by
    rw [show n * 2 = n * slotK.c from rfl, made_flat (K := slotK) zeroS slot0 rfl, List.take_of_length_le (by rw [flat_length]; simp)]⟩
/-- A value that is a row of slots, made at a block or behind it. -/
def Gives (B : Nat) (W : World) (v : Value) (l : List Slot) : Prop := ∃ a cap, v = rowV a cap l ∧ Lies slotK W a cap l ∧ ∀ b off, a = some ⟨b, off, none⟩ → B ≤ b
theorem Gives.kept {B : Nat} {W W' : World} {v : Value} {l : List Slot} (h : Gives B W v l) (hb : Below W.heap.size W W') : Gives B W' v l := by
  obtain ⟨a, cap, e, hl, h'⟩ := h
  exact ⟨a, cap, e, hl.kept hb, h'⟩
theorem Gives.less {B B' : Nat} {W : World} {v : Value} {l : List Slot} (h : Gives B W v l) (hb : B' ≤ B) : Gives B' W v l := by
  obtain ⟨a, cap, e, hl, h'⟩ := h
  exact ⟨a, cap, e, hl, fun b off e => Nat.le_trans hb (h' b off e)⟩
theorem Gives.turned {B p : Nat} {W W' : World} {v : Value} {l : List Slot} (h : Gives B W v l) (ht : Turned (fun k => k = p) W W') (hp : p < B) : Gives B W' v l := by
  obtain ⟨a, cap, e, hl, h'⟩ := h
  exact ⟨a, cap, e, ht.lies hl fun _ b off e => by have := h' b off e; omega, h'⟩
/-- A slot at a place, cell by cell. -/
theorem lies_slot {W : World} {a : Option Addr} {cap : Nat} {T : List Slot} (h : Lies slotK W a cap T) {k : Nat} (hk : k < T.length) :
    ∃ b off, a = some ⟨b, off, none⟩ ∧ W.cell? ⟨b, off + k * 2, none⟩ = some (.int .i64 T[k].st) ∧ W.cell? ⟨b, off + k * 2 + 1, none⟩ = some (.int .i64 T[k].at') := by
  obtain ⟨b, off, e, hc⟩ := h.at hk
  exact ⟨b, off, e, hc 0 _ rfl, hc 1 _ rfl⟩
theorem row_put {Ty : TypeId} {W : World} {g cap : Nat} {T : List Slot} (h : Row slotK Ty W g cap T) {i : Nat} (hi : i < T.length) (x : Slot) : Row slotK Ty ((W.setCell ⟨g, i * 2, none⟩ (.int .i64 x.st)).setCell ⟨g, i * 2 + 1, none⟩ (.int .i64 x.at')) g cap (T.set i x) := h.put hi x

set_option maxHeartbeats 400000 in
theorem refNew_any (n : Int) (w : World) : Calls Try.prog 11 #[.int .i64 n] w fun e W' => ∃ v, e = .returned v ∧ Gives w.heap.size W' v (new n) ∧ Below w.heap.size w W' := by
  have made : ∀ m : Nat, m ≤ 8 → Gives w.heap.size (w.alloc (.cells (madeCells zeroS (m * 2)) 59)) (.slice (some ⟨w.heap.size, 0, none⟩) m m) (List.replicate m slot0) := fun m hm =>
    ⟨some ⟨w.heap.size, 0, none⟩, m, by simp [rowV], (row_slots w m (by unfold maxLen; omega)).lies, fun b off e => by injection e with e; injection e with e; omega⟩
  have al : ∀ m : Nat, Below w.heap.size w (w.alloc (.cells (madeCells zeroS (m * 2)) 59)) := fun m => (Below.refl _ w).alloc (Nat.le_refl _) _
  go_enter Try.func11, Try.ntmps11
  by_cases h1 : n ≤ 0
  · have M := Lib.hid (made 0 (by omega))
    have B := Lib.hid (al 0)
    have hmk := run_slots 0 (by omega) w
    simp only [Int.natCast_zero] at hmk
    have HS := Lib.hid (show new n = List.replicate 0 slot0 by unfold new size; rw [show (max 0 (min n 8)).toNat = 0 by omega])
    clear made al
    go_wp2_with fail
    all_goals first
      | omega
      | (go_ret; exact ⟨_, rfl, HS.out ▸ M.out, B.out⟩)
  by_cases h2 : 8 < n
  · have M := Lib.hid (made 8 (by omega))
    have B := Lib.hid (al 8)
    have hmk := run_slots 8 (by omega) w
    rw [show ((8 : Nat) : Int) = 8 from rfl] at hmk
    have HS := Lib.hid (show new n = List.replicate 8 slot0 by unfold new size; rw [show (max 0 (min n 8)).toNat = 8 by omega])
    clear made al
    go_wp2_with fail
    all_goals first
      | omega
      | (go_ret; exact ⟨_, rfl, HS.out ▸ M.out, B.out⟩)
  · obtain ⟨m, rfl⟩ := Int.eq_ofNat_of_zero_le (show 0 ≤ n by omega)
    have M := Lib.hid (made m (by omega))
    have B := Lib.hid (al m)
    have hmk := run_slots m (by omega) w
    have HS := Lib.hid (show new (m : Int) = List.replicate m slot0 by unfold new; rw [size_in (by omega)])
    clear made al
    go_wp2_with fail
    all_goals first
      | omega
      | (go_ret; exact ⟨_, rfl, HS.out ▸ M.out, B.out⟩)

set_option maxHeartbeats 1000000 in
theorem refWith_any (a : Option Addr) (cap : Nat) (l : List Slot) (k : Nat) (s : Slot) (w : World) (h : Lies slotK w a cap l) (hk : k < l.length) (hl : l.length ≤ 1000000000) :
    Calls Try.prog 28 #[rowV a cap l, .int .i64 (k : Nat), .agg #[.int .i64 s.st, .int .i64 s.at']] w fun e W' => ∃ v, e = .returned v ∧ Gives w.heap.size W' v (l.set k s) ∧ Below w.heap.size w W' := by
  obtain ⟨b, off, rfl, -⟩ := h.cell (fun e => by rw [e] at hk; exact absurd hk (by simp))
  have al0 : Below w.heap.size w (w.alloc (.cells #[.int .i64 s.st, .int .i64 s.at'] 59)) := (Below.refl _ w).alloc (Nat.le_refl _) _
  obtain ⟨x0, x1, -⟩ := box2_cells (World.alloc_heap_new w (.cells #[.int .i64 s.st, .int .i64 s.at'] 59))
  have hs0 := World.size_alloc w (.cells #[.int .i64 s.st, .int .i64 s.at'] 59)
  have al1 := al0.alloc (by simp) (.cells #[] 59)
  have R0 := Lib.hid ((row_new (K := slotK) (T := 59) (w.alloc (.cells #[.int .i64 s.st, .int .i64 s.at'] 59)) #[] 0 [] rfl (Nat.zero_le _) rfl).own (B := w.heap.size + 1) (by simp))
  have H := Lib.hid (h.kept al1)
  have AL := Lib.hid al1
  have y0 := cell_alloc_o (.cells #[] 59) x0
  have y1 := cell_alloc_o (.cells #[] 59) x1
  clear h al0 al1 x0 x1 hs0
  simp only [World.size_alloc] at R0
  go_enter Try.func28, Try.ntmps28
  go_wp2_with (at_builtin; refine wpList_join Try.underlying27 info_slot rfl rfl _ _ rfl (w.heap.size + 1) [] l _ b off cap rfl rfl R0.out H.out ?c1 ?c2 ?c3 ?_)
  case c1 => unfold maxLen; simp; omega
  case c2 => simp; omega
  case c3 => simp
  intro v' w1 ho hb
  obtain ⟨g, cap', rfl, hg, R⟩ := ho.out.row (by intro e; rw [e] at hk; exact absurd hk (by simp))
  have z0 := (hb.out.cell (p := ⟨w.heap.size, 0, none⟩) (by simp)).trans y0
  have z1 := (hb.out.cell (p := ⟨w.heap.size, 1, none⟩) (by simp)).trans y1
  have c0 := R.cell hk (j := 0) (u := .int .i64 l[k].st) rfl
  have c1 := R.cell hk (j := 1) (u := .int .i64 l[k].at') rfl
  have f0 : w1.frozen? ⟨g, k * 2, none⟩ = false := R.free _
  have f1 : w1.frozen? ⟨g, k * 2 + 1, none⟩ = false := R.free _
  have hk0 : (k : Int) < (l.length : Int) := by omega
  have hgz := Lib.hid hg
  have hge := Lib.hid (show w.heap.size ≤ g by omega)
  have RR := Lib.hid (row_put R hk s)
  have HB := Lib.hid (AL.out.trans (hb.out.mono (by omega)))
  have ne : w.heap.size ≠ g := by omega
  simp only [show slotK.c = 2 from rfl, Nat.add_zero] at c0 c1
  generalize l[k].st = q0 at *
  generalize l[k].at' = q1 at *
  clear R ho hb R0 H AL hg y0 y1
  go_wp2_with fail
  go_ret
  exact ⟨_, rfl, ⟨_, cap', by simp [rowV], RR.out.lies, fun b off e => by injection e with e; injection e with e; have := hge.out; omega⟩, (HB.out.setCell (p := ⟨g, k * 2, none⟩) (by have := hgz.out; simp; omega) _).setCell (p := ⟨g, k * 2 + 1, none⟩) (by have := hgz.out; simp; omega) _⟩

set_option maxHeartbeats 400000 in
theorem refState_any (a : Option Addr) (cap : Nat) (l : List Slot) (i : Int) (w : World) (h : Lies slotK w a cap l) :
    Calls Try.prog 15 #[rowV a cap l, .int .i64 i] w fun e W' => e = .returned (.int .i64 (state l i)) ∧ W' = w := by
  by_cases h0 : i < 0
  · have d0 : decide (i < 0) = true := decide_eq_true h0
    have HS := Lib.hid (state_out (l := l) (i := i) (by omega))
    go_enter Try.func15, Try.ntmps15
    go_wp2_with fail
    go_ret
    exact ⟨by rw [HS.out]; rfl, rfl⟩
  have d0 : decide (i < 0) = false := decide_eq_false h0
  obtain ⟨k, rfl⟩ := Int.eq_ofNat_of_zero_le (show 0 ≤ i by omega)
  by_cases h1 : k < l.length
  · obtain ⟨b, off, rfl, c0, -⟩ := lies_slot h h1
    have HS := Lib.hid (state_nat h1)
    have d1 : decide (l.length ≤ k) = false := decide_eq_false (by omega)
    have b0 : (k : Int) < (l.length : Int) := by omega
    generalize l[k] = s at *
    clear h h1
    go_enter Try.func15, Try.ntmps15
    go_wp2_with fail
    go_ret
    exact ⟨by rw [HS.out]; rfl, rfl⟩
  · have HS := Lib.hid (state_out (l := l) (i := (k : Int)) (by omega))
    have d1 : decide (l.length ≤ k) = true := decide_eq_true (by omega)
    go_enter Try.func15, Try.ntmps15
    go_wp2_with fail
    go_ret
    exact ⟨by rw [HS.out]; rfl, rfl⟩
/-- What a call of the document tells: slots, and a value. -/
def Tells (B : Nat) (l' : List Slot) (u : Value) (w : World) (e : Ending) (W' : World) : Prop := ∃ v, e = .returned (.tuple #[v, u]) ∧ Gives B W' v l' ∧ Below w.heap.size w W'
section
variable (a : Option Addr) (cap : Nat) (l : List Slot) (w : World) (h : Lies slotK w a cap l) (hl : l.length ≤ 1000000000) (B : Nat) (hB : ∀ b off, a = some ⟨b, off, none⟩ → B ≤ b) (hBw : B ≤ w.heap.size)
include h hl hB hBw
set_option maxHeartbeats 400000 in
theorem refRetire_any (i t : Int) : Calls Try.prog 22 #[rowV a cap l, .int .i64 i, .int .i64 t] w (Tells B (retire l i t).1 (.bool (retire l i t).2) w) := by
  have S := Lib.hid (refState_any a cap l i w h)
  by_cases hs : state l i = 1
  · obtain ⟨k, rfl, hk, -⟩ := state_in (l := l) (i := i) (by rw [hs]; decide)
    have C := Lib.hid (refWith_any a cap l k ⟨2, t⟩ w h hk hl)
    have HE := Lib.hid (show retire l (k : Int) t = (l.set k ⟨2, t⟩, true) from if_pos hs)
    have d1 : (state l (k : Int) != 1) = false := by simpa using hs
    dsimp only at C
    clear hs h
    generalize state l (k : Int) = u at *
    go_enter Try.func22, Try.ntmps22
    go_wp2_with fail
    refine S.out.mono ?_
    rintro e w1 ⟨rfl, rfl⟩
    go_wp2_with fail
    refine C.out.mono ?_
    rintro e w2 ⟨v, rfl, hg, hb⟩
    have HG := Lib.hid hg
    have HB := Lib.hid hb
    obtain ⟨a1, cap1, rfl, -⟩ := hg
    clear hb
    go_wp2_with fail
    refine bodyPost_ret (v := .tuple #[_, _]) (by simp [results, Try.results22, go_sem]; exact ⟨rfl, rfl⟩) rfl ?_
    exact ⟨_, by rw [HE.out], by rw [HE.out]; exact HG.out.less hBw, HB.out⟩
  · have HE := Lib.hid (show retire l i t = (l, false) from if_neg hs)
    have d1 : (state l i != 1) = true := by simpa using hs
    have H := Lib.hid h
    clear hs h
    generalize state l i = u at *
    go_enter Try.func22, Try.ntmps22
    go_wp2_with fail
    refine S.out.mono ?_
    rintro e w1 ⟨rfl, rfl⟩
    go_wp2_with fail
    refine bodyPost_ret (v := .tuple #[_, _]) (by simp [results, Try.results22, go_sem]; exact ⟨rfl, rfl⟩) rfl ?_
    exact ⟨_, by rw [HE.out], by rw [HE.out]; exact ⟨_, _, rfl, H.out, hB⟩, Below.refl _ _⟩
set_option maxHeartbeats 400000 in
theorem refFree_any (i : Int) : Calls Try.prog 23 #[rowV a cap l, .int .i64 i] w (Tells B (free l i).1 (.bool (free l i).2) w) := by
  have S := Lib.hid (refState_any a cap l i w h)
  by_cases hs : state l i = 2
  · obtain ⟨k, rfl, hk, -⟩ := state_in (l := l) (i := i) (by rw [hs]; decide)
    have C := Lib.hid (refWith_any a cap l k ⟨0, 0⟩ w h hk hl)
    have HE := Lib.hid (show free l (k : Int) = (l.set k ⟨0, 0⟩, true) from if_pos hs)
    have d1 : (state l (k : Int) != 2) = false := by simpa using hs
    dsimp only at C
    clear hs h
    generalize state l (k : Int) = u at *
    go_enter Try.func23, Try.ntmps23
    go_wp2_with fail
    refine S.out.mono ?_
    rintro e w1 ⟨rfl, rfl⟩
    go_wp2_with fail
    refine C.out.mono ?_
    rintro e w2 ⟨v, rfl, hg, hb⟩
    have HG := Lib.hid hg
    have HB := Lib.hid hb
    obtain ⟨a1, cap1, rfl, -⟩ := hg
    clear hb
    go_wp2_with fail
    refine bodyPost_ret (v := .tuple #[_, _]) (by simp [results, Try.results23, go_sem]; exact ⟨rfl, rfl⟩) rfl ?_
    exact ⟨_, by rw [HE.out], by rw [HE.out]; exact HG.out.less hBw, HB.out⟩
  · have HE := Lib.hid (show free l i = (l, false) from if_neg hs)
    have d1 : (state l i != 2) = true := by simpa using hs
    have H := Lib.hid h
    clear hs h
    generalize state l i = u at *
    go_enter Try.func23, Try.ntmps23
    go_wp2_with fail
    refine S.out.mono ?_
    rintro e w1 ⟨rfl, rfl⟩
    go_wp2_with fail
    refine bodyPost_ret (v := .tuple #[_, _]) (by simp [results, Try.results23, go_sem]; exact ⟨rfl, rfl⟩) rfl ?_
    exact ⟨_, by rw [HE.out], by rw [HE.out]; exact ⟨_, _, rfl, H.out, hB⟩, Below.refl _ _⟩
set_option maxHeartbeats 400000 in
theorem refTake_any : Calls Try.prog 21 #[rowV a cap l] w (Tells B (take l).1 (.int .i64 (take l).2) w) := by
  have H := Lib.hid h
  have HN := Lib.hid (fun hh => take_none (L := l) hh)
  have hcap := h.max
  have hlc := h.len
  unfold maxLen at hcap
  clear h
  go_enter Try.func21, Try.ntmps21
  go_wp2
  go_loopw [4] (fun i W => ∃ k : Nat, k ≤ l.length ∧ i = .int .i64 k ∧ W = w ∧ Hid (∀ j (hj : j < k) (hl : j < l.length), l[j].st ≠ 0)) (fun i _ => l.length - (intOf i).toNat)
  case atStart => exact ⟨0, Nat.zero_le _, rfl, rfl, Lib.hid fun j hj => absurd hj (by omega)⟩
  case round =>
    obtain ⟨k, hk, rfl, rfl, hA⟩ := hrel
    by_cases hlt : k < l.length
    · obtain ⟨b, off, rfl, c0, -⟩ := lies_slot H.out hlt
      by_cases h0 : l[k].st = 0
      · have HF := Lib.hid (take_some (L := l) (k := k) (by
          have := first_at (fun s : Slot => s.st == 0) l 0 k hlt (by simp [h0]) (fun j hj => by have := hA.out j hj (by omega); simpa using this)
          simpa using this))
        have C := Lib.hid (refWith_any _ cap l k ⟨1, 0⟩ _ H.out hlt hl)
        dsimp only at C
        clear hA
        rw [h0] at c0
        clear h0
        go_wp2_with fail
        refine C.out.mono ?_
        rintro e w2 ⟨v, rfl, hg, hb⟩
        have HG := Lib.hid hg
        have HB := Lib.hid hb
        obtain ⟨a1, cap1, rfl, -⟩ := hg
        clear hb
        go_wp2_with fail
        refine bodyPost_ret (v := .tuple #[_, _]) (by simp [results, Try.results21, go_sem]; exact ⟨rfl, rfl⟩) rfl ?_
        exact ⟨_, by rw [HF.out], by rw [HF.out]; exact HG.out.less hBw, HB.out⟩
      · have d0 : (l[k].st == 0) = false := by simpa using h0
        have HA := Lib.hid (show ∀ j (hj : j < k + 1) (hl : j < l.length), l[j].st ≠ 0 from fun j hj hl => by
          by_cases e : j = k
          · subst e; exact h0
          · exact hA.out j (by omega) hl)
        clear hA h0
        generalize l[k].st = u at *
        go_wp2
        refine ⟨⟨k + 1, by omega, by go_num, trivial, HA⟩, by simp [intOf]; omega⟩
    · have HF := Lib.hid (HN.out (first_none _ l 0 fun x hx => by
        obtain ⟨j, hj, rfl⟩ := List.getElem_of_mem hx
        have := hA.out j (by omega) hj
        simpa using this))
      clear hA
      go_wp2
      refine bodyPost_ret (v := .tuple #[_, _]) (by simp [results, Try.results21, go_sem]; exact ⟨rfl, rfl⟩) rfl ?_
      exact ⟨_, by rw [HF.out], by rw [HF.out]; exact ⟨_, _, rfl, H.out, hB⟩, Below.refl _ _⟩
end
set_option maxHeartbeats 400000 in
theorem refabove_any (a : Option Addr) (cap : Nat) (P : List Int) (t : Int) (w : World) (h : Lies numK w a cap P) :
    Calls Try.prog 29 #[rowV a cap P, .int .i64 t] w fun e W' => e = .returned (.bool (above P t)) ∧ W' = w := by
  have H := Lib.hid h
  have hcap := h.max
  have hlc := h.len
  unfold maxLen at hcap
  clear h
  go_enter Try.func29, Try.ntmps29
  go_wp2
  go_loopw [5] (fun i W => ∃ k : Nat, k ≤ P.length ∧ i = .int .i64 k ∧ W = w ∧ Hid (above (P.take k) t = true)) (fun i _ => P.length - (intOf i).toNat)
  case atStart => exact ⟨0, Nat.zero_le _, rfl, rfl, Lib.hid rfl⟩
  case round =>
    obtain ⟨k, hk, rfl, rfl, hA⟩ := hrel
    by_cases hlt : k < P.length
    · obtain ⟨b, off, rfl, c0⟩ := H.out.num hlt
      have HG := Lib.hid (fun h => above_next hlt hA.out h)
      have HZ := Lib.hid (fun h h' => above_not (a := t) hlt h h')
      clear hA
      have hk1 : k + 1 ≤ P.length := hlt
      generalize P[k] = y at *
      by_cases y0 : y = 0
      · have e0 : (y != 0) = false := by simpa using y0
        have GG := Lib.hid (HG.out (.inl y0))
        clear HG HZ y0
        go_wp2
        refine ⟨⟨k + 1, hk1, by go_num, trivial, GG⟩, by simp [intOf]; omega⟩
      · have e0 : (y != 0) = true := by simpa using y0
        by_cases y1 : y ≤ t
        · have e1 : decide (y ≤ t) = true := decide_eq_true y1
          have MM := Lib.hid (HZ.out y0 y1)
          clear HG HZ y0 y1
          go_wp2
          go_ret
          exact ⟨by rw [MM.out]; rfl, rfl⟩
        · have e1 : decide (y ≤ t) = false := decide_eq_false y1
          have GG := Lib.hid (HG.out (.inr (by omega)))
          clear HG HZ y0 y1
          go_wp2
          refine ⟨⟨k + 1, hk1, by go_num, trivial, GG⟩, by simp [intOf]; omega⟩
    · obtain rfl : k = P.length := by omega
      have MM := Lib.hid (show above P t = true by have := hA.out; rwa [List.take_length] at this)
      clear hA
      go_wp2
      go_ret
      exact ⟨by rw [MM.out]; rfl, rfl⟩
set_option maxHeartbeats 1000000 in
theorem refRipe_any (a : Option Addr) (cap : Nat) (l : List Slot) (a' : Option Addr) (cap' : Nat) (P : List Int) (w : World) (h : Lies slotK w a cap l) (hP : Lies numK w a' cap' P) :
    Calls Try.prog 24 #[rowV a cap l, rowV a' cap' P] w fun e W' => e = .returned (.int .i64 (ripe l P)) ∧ W' = w := by
  have H := Lib.hid h
  have HN := Lib.hid (fun hh => ripe_none (L := l) (P := P) hh)
  have HA0 := Lib.hid (fun t => refabove_any a' cap' P t w hP)
  have hcap := h.max
  have hlc := h.len
  unfold maxLen at hcap
  clear h hP
  go_enter Try.func24, Try.ntmps24
  go_wp2
  go_loopw [5] (fun i W => ∃ k : Nat, k ≤ l.length ∧ i = .int .i64 k ∧ W = w ∧ Hid (∀ j (hj : j < k) (hl : j < l.length), ripeF P l[j] = false)) (fun i _ => l.length - (intOf i).toNat)
  case atStart => exact ⟨0, Nat.zero_le _, rfl, rfl, Lib.hid fun j hj => absurd hj (by omega)⟩
  case round =>
    obtain ⟨k, hk, rfl, rfl, hA⟩ := hrel
    by_cases hlt : k < l.length
    · obtain ⟨b, off, rfl, c0, c1⟩ := lies_slot H.out hlt
      have hk1 : k + 1 ≤ l.length := hlt
      have hk0 : (k : Int) < (l.length : Int) := by omega
      have HF := Lib.hid (fun hx : ripeF P l[k] = true => ripe_some (L := l) (P := P) (k := k) (by
        have := first_at (ripeF P) l 0 k hlt hx (fun j hj => hA.out j hj (by omega))
        simpa using this))
      have HG := Lib.hid (fun hx : ripeF P l[k] = false => (show ∀ j (hj : j < k + 1) (hl : j < l.length), ripeF P l[j] = false from fun j hj hl => by
          by_cases e : j = k
          · subst e; exact hx
          · exact hA.out j (by omega) hl))
      have HE := Lib.hid (show ripeF P l[k] = (l[k].st == 2 && above P l[k].at') from rfl)
      clear hA
      generalize l[k] = s at *
      by_cases s2 : s.st = 2
      · have d2 : (s.st == 2) = true := by simpa using s2
        have C := Lib.hid (HA0.out s.at')
        cases hab : above P s.at' with
        | true =>
          have MM := Lib.hid (HF.out (by rw [HE.out, d2, hab]; rfl))
          rw [hab] at C
          clear HF HG HE hab s2
          go_wp2_with fail
          refine C.out.mono ?_
          rintro e w1 ⟨rfl, rfl⟩
          go_wp2_with fail
          go_ret
          exact ⟨by rw [MM.out]; rfl, rfl⟩
        | false =>
          have MM := Lib.hid (HG.out (by rw [HE.out, d2, hab]; rfl))
          rw [hab] at C
          clear HF HG HE hab s2
          go_wp2_with fail
          refine C.out.mono ?_
          rintro e w1 ⟨rfl, rfl⟩
          go_wp2_with fail
          refine ⟨⟨k + 1, hk1, by go_num, trivial, MM⟩, by simp [intOf]; omega⟩
      · have d2 : (s.st == 2) = false := by simpa using s2
        have MM := Lib.hid (HG.out (by rw [HE.out, d2]; rfl))
        clear HF HG HE s2
        go_wp2_with fail
        refine ⟨⟨k + 1, hk1, by go_num, trivial, MM⟩, by simp [intOf]; omega⟩
    · have MM := Lib.hid (HN.out (first_none _ l 0 fun x hx => by
        obtain ⟨j, hj, rfl⟩ := List.getElem_of_mem hx
        exact hA.out j (by omega) hj))
      clear hA
      go_wp2_with fail
      go_ret
      exact ⟨by rw [MM.out]; rfl, rfl⟩
end Go.Proofs.Ythokjkllmflgkaa.Kep
