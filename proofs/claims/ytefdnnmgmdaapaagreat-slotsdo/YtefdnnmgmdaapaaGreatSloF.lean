/-
  The document's slots (package gangplankref16), as they lie: New, With, Is, Ready, Begin, Spoil.
-/
import Derived.Test.YtefdnnmgmdaapaaGreatCelR
import Derived.Test.YtefdnnmgmdaapaaGreatSloP
import Derived.WalkMore
import Derived.OwnWalk
import Derived.Laws.MakeOwn
import Derived.Lib.SliceRun
namespace Go.Proofs.YtefdnnmgmdaapaaGreat.Slo
open Go.RowKit Go.Shelf Go.WideShapes RowG

attribute [local go_sem] Oper.semAt_some

/-- A slot as it lies: its state, its pool's row. -/
structure SlotM where
  st : Int
  p : Option Addr
  c : Nat
  pool : List (Int × Int)
def slot0 : SlotM := ⟨0, none, 0, []⟩
instance : Inhabited SlotM := ⟨slot0⟩
abbrev poolV (x : SlotM) : Value := .slice x.p x.pool.length x.c
/-- A slot's two cells. -/
def slotK : Kind SlotM := ⟨2, fun x => [.int .i64 x.st, poolV x], by decide, fun _ => rfl, fun x u hu => by
  simp at hu; rcases hu with rfl | rfl <;> rfl⟩
theorem info_slot : (Tryz.prog.info? 70).map (fun i => (i.zero, i.size, i.bytes)) = some (some (.agg #[.int .i64 0, .slice none 0 0]), slotK.c, 32) := by kernel_rfl
abbrev zeroS : Array Value := #[.int .i64 0, .slice none 0 0]
theorem cell_many_s (W : World) (cs : Array Value) (t : TypeId) (i : Nat) (v : Value) (h : cs[i]? = some v) : (W.alloc (.cells cs t)).cell? ⟨W.heap.size, i, none⟩ = some v := by
  have := World.alloc_heap_new W (.cells cs t)
  unfold World.cell?
  rw [this]
  exact h
theorem cell_alloc_s {W : World} {a : Addr} {v : Value} (o : Obj) (h : W.cell? a = some v) : (W.alloc o).cell? a = some v := cell_kept h (World.grownBy_alloc W o none) (fun r e => by cases e)
/-- New slots. -/
theorem run_slots (n : Nat) (hn : n ≤ 1000000000) (W : World) : (Instr.makeSlice 28 (.int .i64 (n : Int)) (.int .i64 (n : Int))).run Tryz.prog W = .ok (.slice (some ⟨W.heap.size, 0, none⟩) n n) (W.alloc (.cells (madeCells zeroS (n * 2)) 70)) := by
  obtain ⟨i0, hi, hz0, hz1, hz2⟩ := info_parts info_slot
  have := run_make (P := Tryz.prog) W 28 70 i0 (.agg zeroS) Tryz.underlying28 hi hz0 .i64 .i64 n n (by omega) (Int.le_refl _) (by rw [hz2]; omega) (by omega)
  rw [hz1, show slotK.c = 2 from rfl, show (Value.agg zeroS).cells = zeroS from rfl] at this
  simpa using this
theorem row_slots (w : World) (n : Nat) (h : n ≤ maxLen) : Row slotK 70 (w.alloc (.cells (madeCells zeroS (n * 2)) 70)) w.heap.size n (List.replicate n slot0) :=
  ⟨_, World.alloc_heap_new w _, by simp, h, by simp [madeCells]; rfl, by
    rw [show n * 2 = n * slotK.c from rfl, made_flat (K := slotK) zeroS slot0 rfl, List.take_of_length_le (by rw [flat_length]; simp)]⟩
/-- A value that is a row of slots, made at a block or behind it. -/
def Gives (B : Nat) (W : World) (v : Value) (l : List SlotM) : Prop := ∃ a cap, v = rowV a cap l ∧ Lies slotK W a cap l ∧ ∀ b off, a = some ⟨b, off, none⟩ → B ≤ b
theorem Gives.kept {B : Nat} {W W' : World} {v : Value} {l : List SlotM} (h : Gives B W v l) (hb : Below W.heap.size W W') : Gives B W' v l := by
  obtain ⟨a, cap, e, hl, h'⟩ := h
  exact ⟨a, cap, e, hl.kept hb, h'⟩
theorem Gives.less {B B' : Nat} {W : World} {v : Value} {l : List SlotM} (h : Gives B W v l) (hb : B' ≤ B) : Gives B' W v l := by
  obtain ⟨a, cap, e, hl, h'⟩ := h
  exact ⟨a, cap, e, hl, fun b off e => Nat.le_trans hb (h' b off e)⟩
/-- A slot at a place, cell by cell. -/
theorem lies_slot {W : World} {a : Option Addr} {cap : Nat} {T : List SlotM} (h : Lies slotK W a cap T) {k : Nat} (hk : k < T.length) :
    ∃ b off, a = some ⟨b, off, none⟩ ∧ W.cell? ⟨b, off + k * 2, none⟩ = some (.int .i64 T[k].st) ∧ W.cell? ⟨b, off + k * 2 + 1, none⟩ = some (poolV T[k]) := by
  obtain ⟨b, off, e, hc⟩ := h.at hk
  exact ⟨b, off, e, hc 0 _ rfl, hc 1 _ rfl⟩
theorem row_put {Ty : TypeId} {W : World} {g cap : Nat} {T : List SlotM} (h : Row slotK Ty W g cap T) {i : Nat} (hi : i < T.length) (x : SlotM) : Row slotK Ty ((W.setCell ⟨g, i * 2, none⟩ (.int .i64 x.st)).setCell ⟨g, i * 2 + 1, none⟩ (poolV x)) g cap (T.set i x) := h.put hi x
/-- New slots, as they lie. -/
def newM (n : Int) : List SlotM := List.replicate (max 0 (min n 8)).toNat slot0

set_option maxHeartbeats 400000 in
theorem refNew_any (n : Int) (w : World) : Calls Tryz.prog 7 #[.int .i64 n] w fun e W' => ∃ v, e = .returned v ∧ Gives w.heap.size W' v (newM n) ∧ Below w.heap.size w W' := by
  have made : ∀ m : Nat, m ≤ 8 → Gives w.heap.size (w.alloc (.cells (madeCells zeroS (m * 2)) 70)) (.slice (some ⟨w.heap.size, 0, none⟩) m m) (List.replicate m slot0) := fun m hm =>
    ⟨some ⟨w.heap.size, 0, none⟩, m, by simp [rowV], (row_slots w m (by unfold maxLen; omega)).lies, fun b off e => by injection e with e; injection e with e; omega⟩
  have al : ∀ m : Nat, Below w.heap.size w (w.alloc (.cells (madeCells zeroS (m * 2)) 70)) := fun m => (Below.refl _ w).alloc (Nat.le_refl _) _
  go_enter Tryz.func7, Tryz.ntmps7
  by_cases h1 : n ≤ 0
  · have M := Lib.hid (made 0 (by omega))
    have B := Lib.hid (al 0)
    have hmk := run_slots 0 (by omega) w
    simp only [Int.natCast_zero] at hmk
    have HS := Lib.hid (show newM n = List.replicate 0 slot0 by unfold newM; rw [show (max 0 (min n 8)).toNat = 0 by omega])
    clear made al
    go_wp2_with fail
    all_goals first
      | omega
      | (go_ret; exact ⟨_, rfl, HS.out ▸ M.out, B.out⟩)
  by_cases h2 : 8 < n
  · have M := Lib.hid (made 8 (by omega))
    have B := Lib.hid (al 8)
    have hmk := run_slots 8 (by omega) w
    rw [show ((8 : Nat) : Int) = 8 from rfl] at hmk
    have HS := Lib.hid (show newM n = List.replicate 8 slot0 by unfold newM; rw [show (max 0 (min n 8)).toNat = 8 by omega])
    clear made al
    go_wp2_with fail
    all_goals first
      | omega
      | (go_ret; exact ⟨_, rfl, HS.out ▸ M.out, B.out⟩)
  · obtain ⟨m, rfl⟩ := Int.eq_ofNat_of_zero_le (show 0 ≤ n by omega)
    have M := Lib.hid (made m (by omega))
    have B := Lib.hid (al m)
    have hmk := run_slots m (by omega) w
    have HS := Lib.hid (show newM (m : Int) = List.replicate m slot0 by unfold newM; rw [show (max 0 (min (m : Int) 8)).toNat = m by omega])
    clear made al
    go_wp2_with fail
    all_goals first
      | omega
      | (go_ret; exact ⟨_, rfl, HS.out ▸ M.out, B.out⟩)

set_option maxHeartbeats 1000000 in
theorem refWith_any (a : Option Addr) (cap : Nat) (l : List SlotM) (k : Nat) (s : SlotM) (w : World) (h : Lies slotK w a cap l) (hk : k < l.length) (hl : l.length ≤ 1000000000) :
    Calls Tryz.prog 38 #[rowV a cap l, .int .i64 (k : Nat), .agg #[.int .i64 s.st, poolV s]] w fun e W' => ∃ v, e = .returned v ∧ Gives w.heap.size W' v (l.set k s) ∧ Below w.heap.size w W' := by
  obtain ⟨b, off, rfl, -⟩ := h.cell (fun e => by rw [e] at hk; exact absurd hk (by simp))
  have al0 : Below w.heap.size w (w.alloc (.cells #[.int .i64 s.st, poolV s] 70)) := (Below.refl _ w).alloc (Nat.le_refl _) _
  have x0 := cell_many_s w #[.int .i64 s.st, poolV s] 70 0 _ rfl
  have x1 := cell_many_s w #[.int .i64 s.st, poolV s] 70 1 _ rfl
  have hs0 := World.size_alloc w (.cells #[.int .i64 s.st, poolV s] 70)
  have al1 := al0.alloc (by simp) (.cells #[] 70)
  have R0 := Lib.hid ((row_new (K := slotK) (T := 70) (w.alloc (.cells #[.int .i64 s.st, poolV s] 70)) #[] 0 [] rfl (Nat.zero_le _) rfl).own (B := w.heap.size + 1) (by simp))
  have H := Lib.hid (h.kept al1)
  have AL := Lib.hid al1
  have y0 := cell_alloc_s (.cells #[] 70) x0
  have y1 := cell_alloc_s (.cells #[] 70) x1
  clear h al0 al1 x0 x1 hs0
  simp only [World.size_alloc] at R0
  go_enter Tryz.func38, Tryz.ntmps38
  go_wp2_with (at_builtin; refine wpList_join Tryz.underlying28 info_slot rfl rfl _ _ rfl (w.heap.size + 1) [] l _ b off cap rfl rfl R0.out H.out ?c1 ?c2 ?c3 ?_)
  case c1 => unfold maxLen; simp; omega
  case c2 => simp; omega
  case c3 => simp
  intro v' w1 ho hb
  obtain ⟨g, cap', rfl, hg, R⟩ := ho.out.row (by intro e; rw [e] at hk; exact absurd hk (by simp))
  have z0 := (hb.out.cell (p := ⟨w.heap.size, 0, none⟩) (by simp)).trans y0
  have z1 := (hb.out.cell (p := ⟨w.heap.size, 1, none⟩) (by simp)).trans y1
  have c0 := R.cell hk (j := 0) (u := .int .i64 l[k].st) rfl
  have c1 := R.cell hk (j := 1) (u := poolV l[k]) rfl
  have f0 : w1.frozen? ⟨g, k * 2, none⟩ = false := R.free _
  have f1 : w1.frozen? ⟨g, k * 2 + 1, none⟩ = false := R.free _
  have hk0 : (k : Int) < (l.length : Int) := by omega
  have hgz := Lib.hid hg
  have hge := Lib.hid (show w.heap.size ≤ g by omega)
  have RR := Lib.hid (row_put R hk s)
  have HB := Lib.hid (AL.out.trans (hb.out.mono (by omega)))
  have ne : w.heap.size ≠ g := by omega
  simp only [show slotK.c = 2 from rfl, Nat.add_zero] at c0 c1
  generalize l[k].st = q0 at *
  generalize poolV l[k] = q1 at *
  clear R ho hb R0 H AL hg y0 y1
  go_wp2_with fail
  go_ret
  exact ⟨_, rfl, ⟨_, cap', by simp [rowV], RR.out.lies, fun b off e => by injection e with e; injection e with e; have := hge.out; omega⟩, (HB.out.setCell (p := ⟨g, k * 2, none⟩) (by have := hgz.out; simp; omega) _).setCell (p := ⟨g, k * 2 + 1, none⟩) (by have := hgz.out; simp; omega) _⟩
/-- Is there such a slot? -/
def isB (n : Nat) (i : Int) : Bool := decide (0 ≤ i ∧ i < (n : Int))
theorem isB_nat {n k : Nat} (h : k < n) : isB n (k : Int) = true := by unfold isB; exact decide_eq_true ⟨by omega, by omega⟩
theorem isB_out {n : Nat} {i : Int} (h : i < 0 ∨ (n : Int) ≤ i) : isB n i = false := by unfold isB; exact decide_eq_false (by omega)
set_option maxHeartbeats 400000 in
theorem refIs_any (a : Option Addr) (cap : Nat) (l : List SlotM) (i : Int) (w : World) :
    Calls Tryz.prog 37 #[rowV a cap l, .int .i64 i] w fun e W' => e = .returned (.bool (isB l.length i)) ∧ W' = w := by
  by_cases h0 : i < 0
  · have d0 : decide (0 ≤ i) = false := decide_eq_false (by omega)
    have HS := Lib.hid (isB_out (n := l.length) (i := i) (.inl h0))
    go_enter Tryz.func37, Tryz.ntmps37
    go_wp2_with fail
    go_ret
    exact ⟨by rw [HS.out]; rfl, rfl⟩
  have d0 : decide (0 ≤ i) = true := decide_eq_true (by omega)
  by_cases h1 : i < (l.length : Int)
  · have d1 : decide (i < (l.length : Int)) = true := decide_eq_true h1
    have HS := Lib.hid (show isB l.length i = true by unfold isB; exact decide_eq_true ⟨by omega, h1⟩)
    go_enter Tryz.func37, Tryz.ntmps37
    go_wp2_with fail
    go_ret
    exact ⟨by rw [HS.out]; rfl, rfl⟩
  · have d1 : decide (i < (l.length : Int)) = false := decide_eq_false h1
    have HS := Lib.hid (isB_out (n := l.length) (i := i) (.inr (by omega)))
    go_enter Tryz.func37, Tryz.ntmps37
    go_wp2_with fail
    go_ret
    exact ⟨by rw [HS.out]; rfl, rfl⟩
/-- What a call of the document tells: slots, and a value. -/
def Tells (B : Nat) (l' : List SlotM) (u : Value) (w : World) (e : Ending) (W' : World) : Prop := ∃ v, e = .returned (.tuple #[v, u]) ∧ Gives B W' v l' ∧ Below w.heap.size w W'
def builtM : SlotM := ⟨1, none, 0, []⟩
def beginM (l : List SlotM) (i : Int) : List SlotM × Bool := if isB l.length i = true then (l.set i.toNat builtM, true) else (l, false)
def spoilM (l : List SlotM) (i : Int) : List SlotM × Bool := if isB l.length i = true then (l.set i.toNat slot0, true) else (l, false)
theorem isB_some {n : Nat} {i : Int} (h : isB n i = true) : ∃ k : Nat, i = (k : Int) ∧ k < n := by
  unfold isB at h
  have := of_decide_eq_true h
  exact ⟨i.toNat, by omega, by omega⟩
section
variable (a : Option Addr) (cap : Nat) (l : List SlotM) (w : World) (h : Lies slotK w a cap l) (hl : l.length ≤ 1000000000) (B : Nat) (hB : ∀ b off, a = some ⟨b, off, none⟩ → B ≤ b) (hBw : B ≤ w.heap.size)
include h hl hB hBw
set_option maxHeartbeats 400000 in
theorem refBegin_any (i : Int) : Calls Tryz.prog 20 #[rowV a cap l, .int .i64 i] w (Tells B (beginM l i).1 (.bool (beginM l i).2) w) := by
  have S := Lib.hid (refIs_any a cap l i w)
  by_cases hs : isB l.length i = true
  · obtain ⟨k, rfl, hk⟩ := isB_some hs
    have C := Lib.hid (refWith_any a cap l k builtM w h hk hl)
    have HE := Lib.hid (show beginM l (k : Int) = (l.set k builtM, true) from if_pos hs)
    dsimp only [builtM, poolV, List.length_nil] at C
    rw [hs] at S
    clear hs h
    go_enter Tryz.func20, Tryz.ntmps20
    go_wp2_with fail
    refine S.out.mono ?_
    rintro e w1 ⟨rfl, rfl⟩
    go_wp2_with fail
    refine C.out.mono ?_
    rintro e w2 ⟨v, rfl, hg, hb⟩
    have HG := Lib.hid hg
    have HB := Lib.hid hb
    obtain ⟨a1, cap1, rfl, -⟩ := hg
    clear hb
    go_wp2_with fail
    refine bodyPost_ret (v := .tuple #[_, _]) (by simp [results, Tryz.results20, go_sem]; exact ⟨rfl, rfl⟩) rfl ?_
    exact ⟨_, by rw [HE.out], by rw [HE.out]; exact HG.out.less hBw, HB.out⟩
  · have hs' : isB l.length i = false := by simpa using hs
    have HE := Lib.hid (show beginM l i = (l, false) from if_neg hs)
    rw [hs'] at S
    have H := Lib.hid h
    clear hs hs' h
    go_enter Tryz.func20, Tryz.ntmps20
    go_wp2_with fail
    refine S.out.mono ?_
    rintro e w1 ⟨rfl, rfl⟩
    go_wp2_with fail
    refine bodyPost_ret (v := .tuple #[_, _]) (by simp [results, Tryz.results20, go_sem]; exact ⟨rfl, rfl⟩) rfl ?_
    exact ⟨_, by rw [HE.out], by rw [HE.out]; exact ⟨_, _, rfl, H.out, hB⟩, Below.refl _ _⟩
set_option maxHeartbeats 400000 in
theorem refSpoil_any (i : Int) : Calls Tryz.prog 22 #[rowV a cap l, .int .i64 i] w (Tells B (spoilM l i).1 (.bool (spoilM l i).2) w) := by
  have S := Lib.hid (refIs_any a cap l i w)
  by_cases hs : isB l.length i = true
  · obtain ⟨k, rfl, hk⟩ := isB_some hs
    have C := Lib.hid (refWith_any a cap l k slot0 w h hk hl)
    have HE := Lib.hid (show spoilM l (k : Int) = (l.set k slot0, true) from if_pos hs)
    dsimp only [slot0, poolV, List.length_nil] at C
    rw [hs] at S
    clear hs h
    go_enter Tryz.func22, Tryz.ntmps22
    go_wp2_with fail
    refine S.out.mono ?_
    rintro e w1 ⟨rfl, rfl⟩
    go_wp2_with fail
    refine C.out.mono ?_
    rintro e w2 ⟨v, rfl, hg, hb⟩
    have HG := Lib.hid hg
    have HB := Lib.hid hb
    obtain ⟨a1, cap1, rfl, -⟩ := hg
    clear hb
    go_wp2_with fail
    refine bodyPost_ret (v := .tuple #[_, _]) (by simp [results, Tryz.results22, go_sem]; exact ⟨rfl, rfl⟩) rfl ?_
    exact ⟨_, by rw [HE.out], by rw [HE.out]; exact HG.out.less hBw, HB.out⟩
  · have hs' : isB l.length i = false := by simpa using hs
    have HE := Lib.hid (show spoilM l i = (l, false) from if_neg hs)
    rw [hs'] at S
    have H := Lib.hid h
    clear hs hs' h
    go_enter Tryz.func22, Tryz.ntmps22
    go_wp2_with fail
    refine S.out.mono ?_
    rintro e w1 ⟨rfl, rfl⟩
    go_wp2_with fail
    refine bodyPost_ret (v := .tuple #[_, _]) (by simp [results, Tryz.results22, go_sem]; exact ⟨rfl, rfl⟩) rfl ?_
    exact ⟨_, by rw [HE.out], by rw [HE.out]; exact ⟨_, _, rfl, H.out, hB⟩, Below.refl _ _⟩
end
/-- A slot's state. -/
def stateM (l : List SlotM) (i : Int) : Int := (l.getD i.toNat slot0).st
def fillM (l : List SlotM) (i : Int) (p : Option Addr) (c : Nat) (P : List (Int × Int)) (good : Bool) : List SlotM × Bool := if isB l.length i = true ∧ stateM l i = 1 ∧ good = true then (l.set i.toNat ⟨2, p, c, P⟩, true) else (l, false)
set_option maxHeartbeats 1000000 in
/-- Fill, given what reference 8's Check tells of the pool. -/
theorem refFill_any (a : Option Addr) (cap : Nat) (l : List SlotM) (w : World) (h : Lies slotK w a cap l) (hl : l.length ≤ 1000000000) (B : Nat) (hB : ∀ b off, a = some ⟨b, off, none⟩ → B ≤ b) (hBw : B ≤ w.heap.size)
    (i : Int) (p : Option Addr) (c : Nat) (P : List (Int × Int)) (good : Bool) (hP : Calls Tryz.prog 39 #[.slice p P.length c] w fun e W' => e = .returned (.int .i64 (if good = true then 0 else 10)) ∧ Below w.heap.size w W') :
    Calls Tryz.prog 21 #[rowV a cap l, .int .i64 i, .slice p P.length c] w (Tells B (fillM l i p c P good).1 (.bool (fillM l i p c P good).2) w) := by
  have S := Lib.hid (refIs_any a cap l i w)
  have C := Lib.hid hP
  clear hP
  by_cases hs : isB l.length i = true
  · obtain ⟨k, rfl, hk⟩ := isB_some hs
    have hst : stateM l (k : Int) = l[k].st := by unfold stateM; rw [Int.toNat_natCast, List.getD_eq_getElem?_getD, List.getElem?_eq_getElem hk]; rfl
    have D := Lib.hid (show (∀ W', Below w.heap.size w W' → Calls Tryz.prog 38 #[rowV a cap l, .int .i64 (k : Nat), .agg #[.int .i64 2, .slice p P.length c]] W' fun e W2 => ∃ v, e = .returned v ∧ Gives W'.heap.size W2 v (l.set k ⟨2, p, c, P⟩) ∧ Below W'.heap.size W' W2) from fun W' hb => refWith_any a cap l k ⟨2, p, c, P⟩ W' (h.kept hb) hk hl)
    obtain ⟨b, off, rfl, c0, c1⟩ := lies_slot h hk
    have b0 : (k : Int) < (l.length : Int) := by omega
    by_cases h1 : l[k].st = 1
    · have d1 : (l[k].st != 1) = false := by simpa using h1
      cases good with
      | true =>
        have HE := Lib.hid (show fillM l (k : Int) p c P true = (l.set k ⟨2, p, c, P⟩, true) from if_pos ⟨hs, hst.trans h1, rfl⟩)
        rw [hs] at S
        generalize l[k] = s at *
        clear hs h h1 hst
        go_enter Tryz.func21, Tryz.ntmps21
        go_wp2_with fail
        refine S.out.mono ?_
        rintro e w1 ⟨rfl, rfl⟩
        go_wp2_with fail
        refine C.out.mono ?_
        rintro e w2 ⟨rfl, hb2⟩
        have HB2 := Lib.hid hb2
        have D2 := Lib.hid (D.out w2 hb2)
        clear hb2 D
        simp only [if_true]
        go_wp2_with fail
        refine D2.out.mono ?_
        rintro e w3 ⟨v, rfl, hg, hb⟩
        have HG := Lib.hid hg
        have HB := Lib.hid hb
        obtain ⟨a1, cap1, rfl, -⟩ := hg
        clear hb
        go_wp2_with fail
        refine bodyPost_ret (v := .tuple #[_, _]) (by simp [results, Tryz.results21, go_sem]; exact ⟨rfl, rfl⟩) rfl ?_
        exact ⟨_, by rw [HE.out], by rw [HE.out]; exact HG.out.less (Nat.le_trans hBw HB2.out.size), HB2.out.trans (HB.out.mono HB2.out.size)⟩
      | false =>
        have HE := Lib.hid (show fillM l (k : Int) p c P false = (l, false) from if_neg fun e => by cases e.2.2)
        rw [hs] at S
        have H := Lib.hid h
        generalize l[k] = s at *
        clear hs h h1 hst D
        go_enter Tryz.func21, Tryz.ntmps21
        go_wp2_with fail
        refine S.out.mono ?_
        rintro e w1 ⟨rfl, rfl⟩
        go_wp2_with fail
        refine C.out.mono ?_
        rintro e w2 ⟨rfl, hb2⟩
        have HB2 := Lib.hid hb2
        clear hb2
        simp only [Bool.false_eq_true, if_false]
        go_wp2_with fail
        refine bodyPost_ret (v := .tuple #[_, _]) (by simp [results, Tryz.results21, go_sem]; exact ⟨rfl, rfl⟩) rfl ?_
        exact ⟨_, by rw [HE.out], by rw [HE.out]; exact ⟨_, _, rfl, H.out.kept HB2.out, hB⟩, HB2.out⟩
    · have d1 : (l[k].st != 1) = true := by simpa using h1
      have HE := Lib.hid (show fillM l (k : Int) p c P good = (l, false) from if_neg fun e => h1 (hst.symm.trans e.2.1))
      rw [hs] at S
      have H := Lib.hid h
      generalize l[k] = s at *
      clear hs h h1 hst D
      go_enter Tryz.func21, Tryz.ntmps21
      go_wp2_with fail
      refine S.out.mono ?_
      rintro e w1 ⟨rfl, rfl⟩
      go_wp2_with fail
      refine bodyPost_ret (v := .tuple #[_, _]) (by simp [results, Tryz.results21, go_sem]; exact ⟨rfl, rfl⟩) rfl ?_
      exact ⟨_, by rw [HE.out], by rw [HE.out]; exact ⟨_, _, rfl, H.out, hB⟩, Below.refl _ _⟩
  · have hs' : isB l.length i = false := by simpa using hs
    have HE := Lib.hid (show fillM l i p c P good = (l, false) from if_neg fun e => hs e.1)
    rw [hs'] at S
    have H := Lib.hid h
    clear hs hs' h
    go_enter Tryz.func21, Tryz.ntmps21
    go_wp2_with fail
    refine S.out.mono ?_
    rintro e w1 ⟨rfl, rfl⟩
    go_wp2_with fail
    refine bodyPost_ret (v := .tuple #[_, _]) (by simp [results, Tryz.results21, go_sem]; exact ⟨rfl, rfl⟩) rfl ?_
    exact ⟨_, by rw [HE.out], by rw [HE.out]; exact ⟨_, _, rfl, H.out, hB⟩, Below.refl _ _⟩
/-- Is a slot ready? -/
def readyB (l : List SlotM) (i : Int) : Bool := isB l.length i && (l.getD i.toNat slot0).st == 2
set_option maxHeartbeats 400000 in
theorem refReady_any (a : Option Addr) (cap : Nat) (l : List SlotM) (i : Int) (w : World) (h : Lies slotK w a cap l) :
    Calls Tryz.prog 27 #[rowV a cap l, .int .i64 i] w fun e W' => e = .returned (.bool (readyB l i)) ∧ W' = w := by
  have S := Lib.hid (refIs_any a cap l i w)
  by_cases hs : isB l.length i = true
  · obtain ⟨k, rfl, hk⟩ := isB_some hs
    obtain ⟨b, off, rfl, c0, c1⟩ := lies_slot h hk
    have HE := Lib.hid (show readyB l (k : Int) = (l[k].st == 2) by unfold readyB; rw [hs, Int.toNat_natCast, List.getD_eq_getElem?_getD, List.getElem?_eq_getElem hk]; rfl)
    have b0 : (k : Int) < (l.length : Int) := by omega
    rw [hs] at S
    generalize l[k] = s at *
    clear hs h
    go_enter Tryz.func27, Tryz.ntmps27
    go_wp2_with fail
    refine S.out.mono ?_
    rintro e w1 ⟨rfl, rfl⟩
    go_wp2_with fail
    go_ret
    exact ⟨by rw [HE.out]; rfl, rfl⟩
  · have hs' : isB l.length i = false := by simpa using hs
    have HE := Lib.hid (show readyB l i = false by unfold readyB; rw [hs']; rfl)
    rw [hs'] at S
    clear hs hs' h
    go_enter Tryz.func27, Tryz.ntmps27
    go_wp2_with fail
    refine S.out.mono ?_
    rintro e w1 ⟨rfl, rfl⟩
    go_wp2_with fail
    go_ret
    exact ⟨by rw [HE.out]; rfl, rfl⟩
/-- The pool of a slot that is ready. -/
def poolM (l : List SlotM) (i : Int) : List (Int × Int) := (l.getD i.toNat slot0).pool
theorem readyB_some {l : List SlotM} {i : Int} (h : readyB l i = true) : ∃ k : Nat, ∃ hk : k < l.length, i = (k : Int) ∧ l[k].st = 2 ∧ poolM l i = l[k].pool := by
  unfold readyB at h
  rw [Bool.and_eq_true] at h
  obtain ⟨k, rfl, hk⟩ := isB_some h.1
  have e : l.getD (k : Int).toNat slot0 = l[k] := by rw [Int.toNat_natCast, List.getD_eq_getElem?_getD, List.getElem?_eq_getElem hk]; rfl
  refine ⟨k, hk, rfl, ?_, ?_⟩
  · have := h.2; rw [e] at this; simpa using this
  · unfold poolM; rw [e]
set_option maxHeartbeats 400000 in
theorem refSize_any (a : Option Addr) (cap : Nat) (l : List SlotM) (i : Int) (w : World) (h : Lies slotK w a cap l) :
    Calls Tryz.prog 15 #[rowV a cap l, .int .i64 i] w fun e W' => e = .returned (.tuple #[.int .i64 (if readyB l i = true then ((poolM l i).length : Nat) else 0), .bool (readyB l i)]) ∧ W' = w := by
  have S := Lib.hid (refReady_any a cap l i w h)
  cases hs : readyB l i with
  | true =>
    obtain ⟨k, hk, rfl, _, hp⟩ := readyB_some hs
    obtain ⟨b, off, rfl, c0, c1⟩ := lies_slot h hk
    have HE := Lib.hid hp
    have b0 : (k : Int) < (l.length : Int) := by omega
    rw [hs] at S
    generalize l[k] = s at *
    clear hs h hp
    go_enter Tryz.func15, Tryz.ntmps15
    go_wp2_with fail
    refine S.out.mono ?_
    rintro e w1 ⟨rfl, rfl⟩
    go_wp2_with fail
    refine bodyPost_ret (v := .tuple #[_, _]) (by simp [results, Tryz.results15, go_sem]; exact ⟨rfl, rfl⟩) rfl ?_
    exact ⟨by rw [HE.out], rfl⟩
  | false =>
    rw [hs] at S
    clear hs h
    go_enter Tryz.func15, Tryz.ntmps15
    go_wp2_with fail
    refine S.out.mono ?_
    rintro e w1 ⟨rfl, rfl⟩
    go_wp2_with fail
    refine bodyPost_ret (v := .tuple #[_, _]) (by simp [results, Tryz.results15, go_sem]; exact ⟨rfl, rfl⟩) rfl ?_
    exact ⟨rfl, rfl⟩
set_option maxHeartbeats 400000 in
/-- Pick, given what reference 10's Pick tells of the slot's pool. -/
theorem refPick_any (a : Option Addr) (cap : Nat) (l : List SlotM) (i h : Int) (w : World) (hL : Lies slotK w a cap l) (pk : List (Int × Int) → Int)
    (hP : ∀ k (hk : k < l.length), i = (k : Int) → l[k].st = 2 → Calls Tryz.prog 28 #[poolV l[k], .int .u64 h] w fun e W' => e = .returned (.int .i64 (pk l[k].pool)) ∧ Below w.heap.size w W') :
    Calls Tryz.prog 11 #[rowV a cap l, .int .i64 i, .int .u64 h] w fun e W' => e = .returned (.tuple #[.int .i64 (if readyB l i = true then pk (poolM l i) else 0), .bool (readyB l i)]) ∧ Below w.heap.size w W' := by
  have S := Lib.hid (refReady_any a cap l i w hL)
  cases hs : readyB l i with
  | true =>
    obtain ⟨k, hk, rfl, h2, hp⟩ := readyB_some hs
    have C := Lib.hid (hP k hk rfl h2)
    obtain ⟨b, off, rfl, c0, c1⟩ := lies_slot hL hk
    have HE := Lib.hid hp
    have b0 : (k : Int) < (l.length : Int) := by omega
    rw [hs] at S
    generalize l[k] = s at *
    clear hs hL hp hP
    go_enter Tryz.func11, Tryz.ntmps11
    go_wp2_with fail
    refine S.out.mono ?_
    rintro e w1 ⟨rfl, rfl⟩
    go_wp2_with fail
    refine C.out.mono ?_
    rintro e w2 ⟨rfl, hb⟩
    have HB := Lib.hid hb
    clear hb
    go_wp2_with fail
    refine bodyPost_ret (v := .tuple #[_, _]) (by simp [results, Tryz.results11, go_sem]; exact ⟨rfl, rfl⟩) rfl ?_
    exact ⟨by rw [HE.out], HB.out⟩
  | false =>
    rw [hs] at S
    clear hs hL hP
    go_enter Tryz.func11, Tryz.ntmps11
    go_wp2_with fail
    refine S.out.mono ?_
    rintro e w1 ⟨rfl, rfl⟩
    go_wp2_with fail
    refine bodyPost_ret (v := .tuple #[_, _]) (by simp [results, Tryz.results11, go_sem]; exact ⟨rfl, rfl⟩) rfl ?_
    exact ⟨rfl, Below.refl _ _⟩
set_option maxHeartbeats 400000 in
/-- Has, given what reference 8's Find tells of the slot's pool. -/
theorem refHas_any (a : Option Addr) (cap : Nat) (l : List SlotM) (i id : Int) (w : World) (hL : Lies slotK w a cap l) (fd : List (Int × Int) → Int)
    (hP : ∀ k (hk : k < l.length), i = (k : Int) → l[k].st = 2 → Calls Tryz.prog 32 #[poolV l[k], .int .i64 id] w fun e W' => e = .returned (.int .i64 (fd l[k].pool)) ∧ w = W') :
    Calls Tryz.prog 13 #[rowV a cap l, .int .i64 i, .int .i64 id] w fun e W' => e = .returned (.tuple #[.bool (readyB l i && decide (0 ≤ fd (poolM l i))), .bool (readyB l i)]) ∧ W' = w := by
  have S := Lib.hid (refReady_any a cap l i w hL)
  cases hs : readyB l i with
  | true =>
    obtain ⟨k, hk, rfl, h2, hp⟩ := readyB_some hs
    have C := Lib.hid (hP k hk rfl h2)
    obtain ⟨b, off, rfl, c0, c1⟩ := lies_slot hL hk
    have HE := Lib.hid hp
    have b0 : (k : Int) < (l.length : Int) := by omega
    rw [hs] at S
    generalize l[k] = s at *
    clear hs hL hp hP
    go_enter Tryz.func13, Tryz.ntmps13
    go_wp2_with fail
    refine S.out.mono ?_
    rintro e w1 ⟨rfl, rfl⟩
    go_wp2_with fail
    refine C.out.mono ?_
    rintro e w2 ⟨rfl, rfl⟩
    go_wp2_with fail
    refine bodyPost_ret (v := .tuple #[_, _]) (by simp [results, Tryz.results13, go_sem]; exact ⟨rfl, rfl⟩) rfl ?_
    exact ⟨by rw [HE.out]; rfl, rfl⟩
  | false =>
    rw [hs] at S
    clear hs hL hP
    go_enter Tryz.func13, Tryz.ntmps13
    go_wp2_with fail
    refine S.out.mono ?_
    rintro e w1 ⟨rfl, rfl⟩
    go_wp2_with fail
    refine bodyPost_ret (v := .tuple #[_, _]) (by simp [results, Tryz.results13, go_sem]; exact ⟨rfl, rfl⟩) rfl ?_
    exact ⟨rfl, rfl⟩
end Go.Proofs.YtefdnnmgmdaapaaGreat.Slo
