/-
  CellsDo: for every n, m and row of acts the law CellsDo answers true: whatever is done to cells and locks, they tell just what the document says. No condition.
-/
import Derived.Test.YtiokpccdkpgibaaRows
import Derived.Test.YtiokpccdkpgibaaSta
import Derived.Test.YtiokpccdkpgibaaCelH
import Derived.Test.YtiokpccdkpgibaaCelQ
import Derived.Test.YtiokpccdkpgibaaCelM
import Derived.ProofKit
import Derived.OpenShut
import Derived.ChangeMaps5
import Derived.BigQuiet
import Derived.WalkSmall
import Derived.Deep.RegionHeld3
import Derived.Laws.EntriesVeiled
namespace Go.Proofs.Ytiokpccdkpgibaa
open Go.ChangeShapes Go.WideShapes Go.ChangeAt Go.RowKit Go.Shelf
open Go.ChangeMaps (open_string shut_string)
open RowG Cel Rgn

set_option maxRecDepth 100000 in
set_option maxHeartbeats 2000000 in
theorem walk_CellsDo (a0 : Int) (a1 : Int) (a2 : Option Addr) (c2 : Nat) (z2 : List Cel.Act) (w : World) (_h0 : (Lit.int .i64 a0).wf = true) (_h1 : (Lit.int .i64 a1).wf = true) (h2 : Lies actK w a2 c2 z2) (_g2 : ∀ x ∈ z2, ActOk x) :
    Calls Try.prog 3 #[.int .i64 a0, .int .i64 a1, rowV a2 c2 z2] w fun e W' => e = .returned (.bool true) ∧ Below w.heap.size w W' := by
  have H2 := Lib.hid h2
  have hC2 := h2.len
  have hM2 := h2.max
  unfold maxLen at hM2
  clear h2
  go_enter Try.func3, Try.ntmps3
  go_wp2_with fail
  refine (works_any _).mono ?_
  rintro e w1 ⟨rfl, hb⟩
  have B1 := Lib.hid hb
  have L2 := Lib.hid (H2.out.kept hb)
  clear hb H2
  by_cases g0 : 60 < z2.length
  · have dg00 : decide ((60 : Int) < (z2.length : Int)) = true := decide_eq_true (by omega)
    have dg01 : decide (60 < z2.length) = true := decide_eq_true (by omega)
    go_wp2_with fail
    go_ret
    exact ⟨rfl, B1.out⟩
  have dg00 : decide ((60 : Int) < (z2.length : Int)) = false := decide_eq_false (by omega)
  have dg01 : decide (60 < z2.length) = false := decide_eq_false (by omega)
  have C := Lib.hid (New_told a0 a1)
  have R := Lib.hid (refNew_any a0 a1)
  generalize hs0 : Cel.new a0 a1 = s0 at *
  have O0 := Lib.hid (show ∀ x ∈ s0.locks, -1 ≤ x from by rw [← hs0]; exact new_own a0 a1)
  have Z0 := Lib.hid (show s0.shared = 0 from by rw [← hs0]; rfl)
  have LC := Lib.hid (show s0.cells.length ≤ 1024 from by rw [← hs0]; simp [Cel.new]; exact Cel.size_le a0)
  have LL := Lib.hid (show s0.locks.length ≤ 1024 from by rw [← hs0]; simp [Cel.new]; exact Cel.size_le a1)
  clear hs0
  go_wp2_with fail
  refine (C.out _).mono ?_
  rintro e w2 ⟨f, rfl, hh, hf, hb⟩
  have NL := Lib.hid (Foot.apart L2.out hf)
  have F := Lib.hid (Foot.ge hf)
  have B2 := Lib.hid hb
  have L2 := Lib.hid (L2.out.kept hb)
  have Hf := Lib.hid hh
  clear hh hf hb C
  have FL := Lib.hid Hf.out.lt
  obtain ⟨Bo, hBo⟩ : ∃ Bo, w2.heap.size = Bo := ⟨_, rfl⟩
  rw [hBo] at FL
  go_wp2_with fail
  refine (R.out _ Bo (by rw [hBo]; exact Nat.le_refl _)).mono ?_
  rintro e w3 ⟨vs, rfl, ⟨x, y, rfl, o1, o2⟩, hb⟩
  obtain ⟨ax, cx, rfl, -⟩ := o1.lies
  obtain ⟨ay, cy, rfl, -⟩ := o2.lies
  have O1 := Lib.hid o1
  have O2 := Lib.hid o2
  have L2 := Lib.hid (L2.out.kept hb)
  have Hf := Lib.hid (Hf.out.kept hb)
  have B3 := Lib.hid (B2.out.trans (hb.mono B2.out.size))
  have SB := Lib.hid (show Bo ≤ w3.heap.size from by rw [← hBo]; exact hb.size)
  clear o1 o2 hb R B2 hBo
  go_wp2_with fail
  have AL := Lib.hid (show Below w3.heap.size w3 (w3.alloc (.cells #[.slice ax s0.cells.length cx, .slice ay s0.locks.length cy, .int .i64 (s0.shared : Nat)] 28)) from (Below.refl _ _).alloc (Nat.le_refl _) _)
  have hb9 := World.alloc_heap_new w3 (.cells #[.slice ax s0.cells.length cx, .slice ay s0.locks.length cy, .int .i64 (s0.shared : Nat)] 28)
  have BS := Lib.hid hb9
  have O1 := Lib.hid (O1.out.kept AL.out)
  have O2 := Lib.hid (O2.out.kept AL.out)
  have Hf4 := Lib.hid (Hf.out.kept AL.out)
  have L4 := Lib.hid (L2.out.kept AL.out)
  have B4 := Lib.hid (B3.out.trans (AL.out.mono B3.out.size))
  have NB := Lib.hid (show z2 ≠ [] → ∀ b off, a2 = some ⟨b, off, none⟩ → ¬ (f.has b ∨ b = w3.heap.size) from fun hn b off e hk => hk.elim (NL.out hn b off e) (fun hb => by have := lies_lt L2.out hn e; omega))
  have NF := Lib.hid (show ¬ f.has w3.heap.size from fun hk => by have := Hf.out.lt _ hk; omega)
  have GE := Lib.hid (show ∀ k, (f.has k ∨ k = w3.heap.size) → w1.heap.size ≤ k from fun k hk => hk.elim (F.out k) (fun e => by have := B3.out.size; omega))
  clear hb9 AL B3 NL F Hf L2
  generalize hbs : w3.heap.size = bs at *
  generalize (w3.alloc (.cells #[.slice ax s0.cells.length cx, .slice ay s0.locks.length cy, .int .i64 (s0.shared : Nat)] 28)) = w4 at *
  clear hbs
  have hq : z2.length ≤ 60 := by omega
  go_loopw [10] (fun i W => ∃ (j : Nat) (x y : Value), j ≤ z2.length ∧ i = .int .i64 j ∧ Held W f (runs s0 (z2.take j)) ∧ W.heap[bs]? = some (.cells #[x, y, .int .i64 ((runs s0 (z2.take j)).shared : Nat)] 28 (0, 0)) ∧ RowG.Own numK 3 Bo W x (runs s0 (z2.take j)).cells ∧ RowG.Own numK 3 Bo W y (runs s0 (z2.take j)).locks ∧ Turned (fun k => f.has k ∨ k = bs) w4 W) (fun i _ => z2.length - (intOf i).toNat)
  case atStart => exact ⟨0, _, _, Nat.zero_le _, rfl, Hf4.out, BS.out, O1.out, O2.out, Turned.refl _ _⟩
  case round =>
    clear Hf4 BS O1 O2
    obtain ⟨j, x, y, hj, rfl, hh, hbs, o1, o2, ht⟩ := hrel
    have Hf := Lib.hid hh
    have BS := Lib.hid hbs
    have O1 := Lib.hid o1
    have O2 := Lib.hid o2
    have T := Lib.hid ht
    clear hh hbs o1 o2 ht
    by_cases hlt : j < z2.length
    case pos =>
      have RL := Lib.hid (T.out.lies L4.out NB.out)
      obtain ⟨bz, oz, rfl, y0, y1, y2, y3⟩ := RL.out.act hlt
      have NZ := Lib.hid (NB.out (fun e => by rw [e] at hlt; exact absurd hlt (by simp)) bz oz rfl)
      have HR := Lib.hid (runs_take (s := s0) hlt)
      have RR := ran_runs s0 (z2.take j)
      have hst : (runs s0 (z2.take j)).shared < 4611686018427387904 := by have h1 := RR.shared.2; have h2 := Z0.out; have h3 : (z2.take j).length ≤ z2.length := (by rw [List.length_take]; omega); omega
      have ST := Lib.hid hst
      have OR := Lib.hid (RR.own O0.out)
      have LC1 := Lib.hid (show (runs s0 (z2.take j)).cells.length ≤ 1000000000 from by have h1 := LC.out; have h2 := RR.cells; omega)
      have LL1 := Lib.hid (show (runs s0 (z2.take j)).locks.length ≤ 1000000000 from by have h1 := LL.out; have h2 := RR.locks; omega)
      clear RR hst
      generalize hu : z2[j] = u at *
      generalize runs s0 (z2.take j) = s at *
      obtain ⟨ax, cx, rfl, -⟩ := O1.out.lies
      obtain ⟨ay, cy, rfl, -⟩ := O2.out.lies
      have C := Lib.hid (do_any Hf.out ST.out OR.out u)
      go_wp2_with fail
      refine C.out.mono ?_
      rintro e w5 ⟨rfl, hh, ht⟩
      generalize hto : (act s u).2 = tv at *
      have TO := Lib.hid hto
      have AL := Lib.hid (show Below w5.heap.size w5 (w5.alloc (.cells #[.int .i64 tv.n, .bool tv.ok] 31)) from (Below.refl _ _).alloc (Nat.le_refl _) _)
      have T6 := Lib.hid (T.out.trans ((ht.mono fun k hk => Or.inl hk).trans (Turned.of_below AL.out)))
      have Hf6 := Lib.hid (hh.kept AL.out)
      have BS6 := Lib.hid ((AL.out.block _ (Nat.lt_of_lt_of_le (heap_lt BS.out) ht.size)).trans ((ht.rest _ (heap_lt BS.out) NF.out).trans BS.out))
      have O16 := Lib.hid ((own_same O1.out (fun g hg => ht.rest g (World.ownsRow.lt O1.out g hg).2 (fun hk => by have h1 := FL.out g hk; have h2 := (World.ownsRow.lt O1.out g hg).1; omega))).kept AL.out)
      have O26 := Lib.hid ((own_same O2.out (fun g hg => ht.rest g (World.ownsRow.lt O2.out g hg).2 (fun hk => by have h1 := FL.out g hk; have h2 := (World.ownsRow.lt O2.out g hg).1; omega))).kept AL.out)
      have hb11 := World.alloc_heap_new w5 (.cells #[.int .i64 tv.n, .bool tv.ok] 31)
      have TB6 := Lib.hid hb11
      have SZ := Lib.hid (show Bo ≤ (w5.alloc (.cells #[.int .i64 tv.n, .bool tv.ok] 31)).heap.size from by have h1 := AL.out.size; have h2 := ht.size; have h3 := T.out.size; have h4 := B4.out.size; have h5 := SB.out; have h6 := heap_lt BS.out; omega)
      have L6 := Lib.hid (T6.out.lies L4.out NB.out)
      have N11 := Lib.hid (show bs ≠ w5.heap.size from fun e => by have h1 := heap_lt BS.out; have h2 := ht.size; omega)
      clear hb11 hh ht hto C AL Hf BS O1 O2 T RL y0 y1 y2 y3
      go_wp2_with fail
      generalize hb11 : w5.heap.size = b11 at *
      generalize (w5.alloc (.cells #[.int .i64 tv.n, .bool tv.ok] 31)) = w6 at *
      clear hb11
      obtain ⟨⟨s0c, s1c, s2c⟩, -⟩ := box3_cells BS6.out
      obtain ⟨bz2, oz2, hbz, y0, y1, y2, y3⟩ := L6.out.act hlt
      cases hbz
      rw [hu] at y0 y1 y2 y3
      refine wp_region_box (doV Bo ax ay cx cy s u bz oz c2 z2 j) (doV_kept _ _ _ _ _ _ _ _ _ _ _ _) (by kernel_rfl) (by kernel_rfl) (by kernel_rfl) 11 (fun j => if j = 11 then 9 else 10) (fun j => if j = 11 then 28 else 31) (fun j => if j = 11 then 48 else 49) (fun i => i == 8 || i == 10) (by kernel_rfl) (by decide) ?box ?bd ?step ?late ?store ?done
      case box =>
        intro i lo hi W v h1 h2 hv
        have h2 : i < 13 := h2
        obtain rfl | rfl : i = 11 ∨ i = 12 := by omega
        · have hv : _ ∧ W.heap[lo]? = _ ∧ lo < hi := hv
          exact ⟨hv.2.2, heap_lt hv.2.1⟩
        · have hv : _ ∧ W.heap[lo]? = _ ∧ lo < hi := hv
          exact ⟨hv.2.2, heap_lt hv.2.1⟩
      case bd =>
        intro i h1 h2
        have h2 : i < 13 := h2
        obtain rfl | rfl : i = 11 ∨ i = 12 := by omega
        · rfl
        · rfl
      case step =>
        intro d lo hi a W i hlu hall hI
        have b0 := hI.below
        obtain rfl | rfl | rfl | rfl | rfl | rfl | rfl | rfl | rfl | rfl | rfl : i = 0 ∨ i = 1 ∨ i = 2 ∨ i = 3 ∨ i = 4 ∨ i = 5 ∨ i = 6 ∨ i = 7 ∨ i = 8 ∨ i = 9 ∨ i = 10 := by omega
        · have e9 : a.tmps[9]?.getD undef = .pointer (some ⟨bs, 0, none⟩) := hI.old 9 (unwritten_of (by kernel_rfl) _)
          have ks0c := (b0.cell (p := ⟨bs, 0, none⟩) (World.block_lt_of_cell? _ _ s0c)).trans s0c
          have ks1c := (b0.cell (p := ⟨bs, 1, none⟩) (World.block_lt_of_cell? _ _ s1c)).trans s1c
          have ks2c := (b0.cell (p := ⟨bs, 2, none⟩) (World.block_lt_of_cell? _ _ s2c)).trans s2c
          refine StepX.done rfl (wanted_free rfl) fun K hK => ?_
          refine op_run (stV ax ay cx cy s) W ?_ (hK _ _ (Below.refl _ _) rfl)
          clear hall hI hK
          simp only [List.getElem_toArray, List.getElem_cons_zero, execOp]
          go_simp
        · have e2 : a.tmps[2]?.getD undef = rowV (some ⟨bz, oz, none⟩) c2 z2 := hI.old 2 (unwritten_of (by kernel_rfl) _)
          refine StepX.done rfl (wanted_free rfl) fun K hK => ?_
          exact op_move rfl (hK _ _ (Below.refl _ _) e2)
        · have e10 : a.tmps[10]?.getD undef = .int .i64 (j : Nat) := hI.old 10 (unwritten_of (by kernel_rfl) _)
          refine StepX.done rfl (wanted_free rfl) fun K hK => ?_
          exact op_move rfl (hK _ _ (Below.refl _ _) e10)
        · have e43 : a.tmps[43]?.getD undef = rowV (some ⟨bz, oz, none⟩) c2 z2 := hI.val 1 43 rfl (hall 1 (by decide) (by kernel_rfl))
          have e44 : a.tmps[44]?.getD undef = .int .i64 (j : Nat) := hI.val 2 44 rfl (hall 2 (by decide) (by kernel_rfl))
          have hj0 : (j : Int) < (z2.length : Int) := by omega
          refine StepX.done rfl (wanted_free rfl) fun K hK => ?_
          refine op_run (.pointer (some ⟨bz, oz + j * 4, none⟩)) W ?_ (hK _ _ (Below.refl _ _) rfl)
          clear hall hI hK
          simp only [List.getElem_toArray, List.getElem_cons_zero, List.getElem_cons_succ, execOp]
          go_simp
        · have e45 : a.tmps[45]?.getD undef = .pointer (some ⟨bz, oz + j * 4, none⟩) := hI.val 3 45 rfl (hall 3 (by decide) (by kernel_rfl))
          have ky0 := (b0.cell (p := ⟨bz, oz + j * 4, none⟩) (World.block_lt_of_cell? _ _ y0)).trans y0
          have ky1 := (b0.cell (p := ⟨bz, oz + j * 4 + 1, none⟩) (World.block_lt_of_cell? _ _ y1)).trans y1
          have ky2 := (b0.cell (p := ⟨bz, oz + j * 4 + 2, none⟩) (World.block_lt_of_cell? _ _ y2)).trans y2
          have ky3 := (b0.cell (p := ⟨bz, oz + j * 4 + 3, none⟩) (World.block_lt_of_cell? _ _ y3)).trans y3
          refine StepX.done rfl (wanted_free rfl) fun K hK => ?_
          refine op_run (actV u) W ?_ (hK _ _ (Below.refl _ _) rfl)
          clear hall hI hK
          simp only [List.getElem_toArray, List.getElem_cons_zero, List.getElem_cons_succ, execOp]
          go_simp
        · have e42 : a.tmps[42]?.getD undef = stV ax ay cx cy s := hI.val 0 42 rfl (hall 0 (by decide) (by kernel_rfl))
          have e46 : a.tmps[46]?.getD undef = actV u := hI.val 4 46 rfl (hall 4 (by decide) (by kernel_rfl))
          refine StepX.done rfl (wanted_free rfl) fun K hK => ?_
          refine op_call 12 #[stV ax ay cx cy s, actV u] (fun v W2 => (∃ x y, v = .tuple #[.agg #[x, y, .int .i64 ((act s u).1.shared : Nat)], toldV (act s u).2] ∧ RowG.Own numK 3 Bo W2 x (act s u).1.cells ∧ RowG.Own numK 3 Bo W2 y (act s u).1.locks) ∧ Below W.heap.size W W2) ?_ ((Do_any ax ay cx cy s u W Bo (Nat.le_trans SZ.out b0.size) (O16.out.kept b0) (O26.out.kept b0) ST.out LC1.out LL1.out).mono fun e W2 ⟨v, he, ⟨x, y, hv, h1, h2⟩, hb⟩ => ⟨_, he, ⟨x, y, by rw [hv], h1, h2⟩, hb⟩) (fun v W2 ⟨h1, h2⟩ => hK v W2 h2 h1)
          clear hall hI hK
          simp only [List.getElem_toArray, List.getElem_cons_zero, List.getElem_cons_succ, execOp]
          go_simp
        · have f0 := hI.val 5 47 rfl (hall 5 (by decide) (by kernel_rfl))
          refine StepX.done rfl (wanted_free rfl) fun K hK => ?_
          exact op_move rfl (hK _ _ (Below.refl _ _) f0)
        · obtain ⟨x, y, e41, h1, h2⟩ : ∃ x y, a.tmps[41]?.getD undef = .tuple #[.agg #[x, y, .int .i64 ((act s u).1.shared : Nat)], toldV (act s u).2] ∧ RowG.Own numK 3 Bo W x (act s u).1.cells ∧ RowG.Own numK 3 Bo W y (act s u).1.locks := hI.val 6 41 rfl (hall 6 (by decide) (by kernel_rfl))
          refine StepX.done rfl (wanted_free rfl) fun K hK => ?_
          refine op_run (.agg #[x, y, .int .i64 ((act s u).1.shared : Nat)]) W ?_ (hK _ _ (Below.refl _ _) ⟨x, y, rfl, h1, h2⟩)
          clear hall hI hK h1 h2
          simp only [List.getElem_toArray, List.getElem_cons_zero, List.getElem_cons_succ, execOp]
          go_simp
        · obtain ⟨x, y, e41, h1, h2⟩ : ∃ x y, a.tmps[41]?.getD undef = .tuple #[.agg #[x, y, .int .i64 ((act s u).1.shared : Nat)], toldV (act s u).2] ∧ RowG.Own numK 3 Bo W x (act s u).1.cells ∧ RowG.Own numK 3 Bo W y (act s u).1.locks := hI.val 6 41 rfl (hall 6 (by decide) (by kernel_rfl))
          refine StepX.done rfl (wanted_free rfl) fun K hK => ?_
          refine op_run (toldV (act s u).2) W ?_ (hK _ _ (Below.refl _ _) rfl)
          clear hall hI hK h1 h2
          simp only [List.getElem_toArray, List.getElem_cons_zero, List.getElem_cons_succ, execOp]
          go_simp
        · refine StepX.done rfl (wanted_free rfl) fun K hK => ?_
          refine op_run (.pointer (some ⟨W.heap.size, 0, none⟩)) (W.alloc (.cells #[.slice none 0 0, .slice none 0 0, .int .i64 0] 28)) ?_ (hK _ _ ((Below.refl _ _).alloc (Nat.le_refl _) _) ⟨rfl, World.alloc_heap_new W _, by simp⟩)
          clear hall hI hK
          simp only [List.getElem_toArray, List.getElem_cons_zero, List.getElem_cons_succ, execOp]
          go_simp
        · refine StepX.done rfl (wanted_free rfl) fun K hK => ?_
          refine op_run (.pointer (some ⟨W.heap.size, 0, none⟩)) (W.alloc (.cells #[.int .i64 0, .bool false] 31)) ?_ (hK _ _ ((Below.refl _ _).alloc (Nat.le_refl _) _) ⟨rfl, World.alloc_heap_new W _, by simp⟩)
          clear hall hI hK
          simp only [List.getElem_toArray, List.getElem_cons_zero, List.getElem_cons_succ, execOp]
          go_simp
      case late =>
        intro d lo hi a W w7 i hlu hlt8 hall hI hsz
        obtain rfl | rfl : i = 8 ∨ i = 10 := by simp at hlt8; omega
        · obtain ⟨x, y, e41, h1, h2⟩ : ∃ x y, a.tmps[41]?.getD undef = .tuple #[.agg #[x, y, .int .i64 ((act s u).1.shared : Nat)], toldV (act s u).2] ∧ RowG.Own numK 3 Bo W x (act s u).1.cells ∧ RowG.Own numK 3 Bo W y (act s u).1.locks := hI.val 6 41 rfl (hall 6 (by decide) (by kernel_rfl))
          refine ⟨_, rfl, wanted_free rfl, fun K hK _ => ?_⟩
          refine op_run (toldV (act s u).2) w7 ?_ (hK _ rfl)
          clear hall hI hK h1 h2
          simp only [List.getElem_toArray, List.getElem_cons_zero, List.getElem_cons_succ, execOp]
          go_simp
        · refine ⟨_, rfl, wanted_free rfl, fun K _ hK => ?_⟩
          refine op_run (.pointer (some ⟨w7.heap.size, 0, none⟩)) (w7.alloc (.cells #[.int .i64 0, .bool false] 31)) ?_ (hK _ _ ⟨by rw [hsz], World.alloc_heap_new W _, by simp⟩)
          clear hall hI hK
          simp only [List.getElem_toArray, List.getElem_cons_zero, List.getElem_cons_succ, execOp]
          go_simp
      case store =>
        intro d lo hi a W w7 i hm hn hall hI hw
        have hn : i < 13 := hn
        obtain rfl | rfl : i = 11 ∨ i = 12 := by omega
        case inl =>
          obtain ⟨e12, h12, -⟩ : a.tmps[12]?.getD undef = .pointer (some ⟨lo 9, 0, none⟩) ∧ W.heap[lo 9]? = some (.cells #[.slice none 0 0, .slice none 0 0, .int .i64 0] 28 (0, 0)) ∧ lo 9 < hi 9 := hI.val 9 12 rfl (hall 9 (by decide) (by kernel_rfl))
          obtain ⟨x, y, e48, o1, o2⟩ : ∃ x y, a.tmps[48]?.getD undef = .agg #[x, y, .int .i64 ((act s u).1.shared : Nat)] ∧ RowG.Own numK 3 Bo W x (act s u).1.cells ∧ RowG.Own numK 3 Bo W y (act s u).1.locks := hI.val 7 48 rfl (hall 7 (by decide) (by kernel_rfl))
          obtain ⟨pa, q1, rfl, -⟩ := o1.lies
          obtain ⟨pb, q2, rfl, -⟩ := o2.lies
          clear o1 o2 hI
          have h9 := hw.trans h12
          obtain ⟨⟨c0, c1, c2⟩, f0, f1, f2⟩ := box3_cells (show w7.heap[lo 9]? = _ from h9)
          refine ⟨_, rfl, wanted_free rfl, fun K hK => ?_⟩
          have hs := hK _ (show Stored (lo 9) 28 (a.tmps[48]?.getD undef).cells w7 _ from by rw [e48]; exact stored3 h9 (.slice pa (act s u).1.cells.length q1) (.slice pb (act s u).1.locks.length q2) (.int .i64 ((act s u).1.shared : Nat)))
          clear hK
          unfold Oper.wp
          simp only [List.getElem_toArray, List.getElem_cons_zero, List.getElem_cons_succ, execOp]
          go_simp
          exact hs
        case inr =>
          obtain ⟨e13, h13, -⟩ : a.tmps[13]?.getD undef = .pointer (some ⟨lo 10, 0, none⟩) ∧ W.heap[lo 10]? = some (.cells #[.int .i64 0, .bool false] 31 (0, 0)) ∧ lo 10 < hi 10 := hI.val 10 13 rfl (hall 10 (by decide) (by kernel_rfl))
          have e49 : a.tmps[49]?.getD undef = toldV (act s u).2 := hI.val 8 49 rfl (hall 8 (by decide) (by kernel_rfl))
          clear hI
          have h10 := hw.trans h13
          obtain ⟨c0, c1, f0, f1⟩ := box2_cells (show w7.heap[lo 10]? = _ from h10)
          refine ⟨_, rfl, wanted_free rfl, fun K hK => ?_⟩
          have hs := hK _ (show Stored (lo 10) 31 (a.tmps[49]?.getD undef).cells w7 _ from by rw [e49]; exact stored2 h10 (.int .i64 (act s u).2.n) (.bool (act s u).2.ok))
          clear hK
          unfold Oper.wp
          simp only [List.getElem_toArray, List.getElem_cons_zero, List.getElem_cons_succ, execOp]
          go_simp
          exact hs
      case done =>
        intro lo hi a W w7 hI hM
        obtain ⟨e12, h12, l9⟩ : a.tmps[12]?.getD undef = .pointer (some ⟨lo 9, 0, none⟩) ∧ W.heap[lo 9]? = some (.cells #[.slice none 0 0, .slice none 0 0, .int .i64 0] 28 (0, 0)) ∧ lo 9 < hi 9 := hI.val 9 12 rfl rfl
        obtain ⟨e13, h13, l10⟩ : a.tmps[13]?.getD undef = .pointer (some ⟨lo 10, 0, none⟩) ∧ W.heap[lo 10]? = some (.cells #[.int .i64 0, .bool false] 31 (0, 0)) ∧ lo 10 < hi 10 := hI.val 10 13 rfl rfl
        obtain ⟨x, y, e48, o1, o2⟩ : ∃ x y, a.tmps[48]?.getD undef = .agg #[x, y, .int .i64 ((act s u).1.shared : Nat)] ∧ RowG.Own numK 3 Bo W x (act s u).1.cells ∧ RowG.Own numK 3 Bo W y (act s u).1.locks := hI.val 7 48 rfl rfl
        have e49 : a.tmps[49]?.getD undef = toldV (act s u).2 := hI.val 8 49 rfl rfl
        obtain ⟨pa, q1, rfl, -⟩ := o1.lies
        obtain ⟨pb, q2, rfl, -⟩ := o2.lies
        have g9 := (hI.lim 9 rfl).1
        have g10 := (hI.lim 10 rfl).1
        have d9 : w7.heap[lo 9]? = some (.cells #[.slice pa (act s u).1.cells.length q1, .slice pb (act s u).1.locks.length q2, .int .i64 ((act s u).1.shared : Nat)] 28 (0, 0)) := (hM.done 11 (by decide) (by decide) rfl).trans (by show some (Obj.cells (a.tmps[48]?.getD undef).cells _ _) = _; rw [e48]; rfl)
        have d10 : w7.heap[lo 10]? = some (.cells #[.int .i64 (act s u).2.n, .bool (act s u).2.ok] 31 (0, 0)) := (hM.done 12 (by decide) (by decide) rfl).trans (by show some (Obj.cells (a.tmps[49]?.getD undef).cells _ _) = _; rw [e49]; rfl)
        have hr : ∀ k, k ≠ lo 9 → k ≠ lo 10 → w7.heap[k]? = W.heap[k]? := fun k h1 h2 => hM.rest k fun j hj1 hj2 _ => by
          have hj2 : j < 13 := hj2
          obtain rfl | rfl : j = 11 ∨ j = 12 := by omega
          · exact h1
          · exact h2
        have hb7 : Below w6.heap.size w6 w7 := ⟨hM.os.trans hI.below.os, hM.tape.trans hI.below.tape, hM.output.trans hI.below.output, by rw [hM.size]; exact hI.below.size, fun k hk => (hr k (by omega) (by omega)).trans (hI.below.block k hk)⟩
        have p1 : RowG.Own numK 3 Bo w7 _ _ := own_same o1 fun g hg => hr g (fun e => by
          rcases RowG.own_ne o1 h12 (fun cur e' => by cases e') with h' | h'
          · rw [hg] at h'; cases h'
          · exact h' (by rw [hg, e])) (fun e => by
          rcases RowG.own_ne o1 h13 (fun cur e' => by cases e') with h' | h'
          · rw [hg] at h'; cases h'
          · exact h' (by rw [hg, e]))
        have p2 : RowG.Own numK 3 Bo w7 _ _ := own_same o2 fun g hg => hr g (fun e => by
          rcases RowG.own_ne o2 h12 (fun cur e' => by cases e') with h' | h'
          · rw [hg] at h'; cases h'
          · exact h' (by rw [hg, e])) (fun e => by
          rcases RowG.own_ne o2 h13 (fun cur e' => by cases e') with h' | h'
          · rw [hg] at h'; cases h'
          · exact h' (by rw [hg, e]))
        have P1 := Lib.hid p1
        have P2 := Lib.hid p2
        have D9 := Lib.hid d9
        have D10 := Lib.hid d10
        have Hf7 := Lib.hid (Hf6.out.kept hb7)
        have BS7 := Lib.hid ((hb7.block _ (heap_lt BS6.out)).trans BS6.out)
        have TB7 := Lib.hid ((hb7.block _ (heap_lt TB6.out)).trans TB6.out)
        have T7 := Lib.hid (T6.out.trans (Turned.of_below hb7))
        have N10 := Lib.hid (show bs ≠ lo 10 ∧ bs ≠ lo 9 from by have := heap_lt BS6.out; omega)
        obtain ⟨t, df⟩ := a
        obtain rfl : df = [] := hI.defs
        have hz : t.size = 62 := hI.size
        have e0 := hI.old 0 (unwritten_of (by kernel_rfl) _)
        have e1 := hI.old 1 (unwritten_of (by kernel_rfl) _)
        have e2 := hI.old 2 (unwritten_of (by kernel_rfl) _)
        have e3 := hI.old 3 (unwritten_of (by kernel_rfl) _)
        have e4 := hI.old 4 (unwritten_of (by kernel_rfl) _)
        have e5 := hI.old 5 (unwritten_of (by kernel_rfl) _)
        have e6 := hI.old 6 (unwritten_of (by kernel_rfl) _)
        have e7 := hI.old 7 (unwritten_of (by kernel_rfl) _)
        have e8 := hI.old 8 (unwritten_of (by kernel_rfl) _)
        have e9 := hI.old 9 (unwritten_of (by kernel_rfl) _)
        have e10 := hI.old 10 (unwritten_of (by kernel_rfl) _)
        have e11 := hI.old 11 (unwritten_of (by kernel_rfl) _)
        have e14 := hI.old 14 (unwritten_of (by kernel_rfl) _)
        have e15 := hI.old 15 (unwritten_of (by kernel_rfl) _)
        have e16 := hI.old 16 (unwritten_of (by kernel_rfl) _)
        have e17 := hI.old 17 (unwritten_of (by kernel_rfl) _)
        have e18 := hI.old 18 (unwritten_of (by kernel_rfl) _)
        have e19 := hI.old 19 (unwritten_of (by kernel_rfl) _)
        have e20 := hI.old 20 (unwritten_of (by kernel_rfl) _)
        have e21 := hI.old 21 (unwritten_of (by kernel_rfl) _)
        have e22 := hI.old 22 (unwritten_of (by kernel_rfl) _)
        have e23 := hI.old 23 (unwritten_of (by kernel_rfl) _)
        have e24 := hI.old 24 (unwritten_of (by kernel_rfl) _)
        have e25 := hI.old 25 (unwritten_of (by kernel_rfl) _)
        have e26 := hI.old 26 (unwritten_of (by kernel_rfl) _)
        have e27 := hI.old 27 (unwritten_of (by kernel_rfl) _)
        have e28 := hI.old 28 (unwritten_of (by kernel_rfl) _)
        have e29 := hI.old 29 (unwritten_of (by kernel_rfl) _)
        have e30 := hI.old 30 (unwritten_of (by kernel_rfl) _)
        have e31 := hI.old 31 (unwritten_of (by kernel_rfl) _)
        have e32 := hI.old 32 (unwritten_of (by kernel_rfl) _)
        have e33 := hI.old 33 (unwritten_of (by kernel_rfl) _)
        have e34 := hI.old 34 (unwritten_of (by kernel_rfl) _)
        have e35 := hI.old 35 (unwritten_of (by kernel_rfl) _)
        have e36 := hI.old 36 (unwritten_of (by kernel_rfl) _)
        have e37 := hI.old 37 (unwritten_of (by kernel_rfl) _)
        have e38 := hI.old 38 (unwritten_of (by kernel_rfl) _)
        have e39 := hI.old 39 (unwritten_of (by kernel_rfl) _)
        have e40 := hI.old 40 (unwritten_of (by kernel_rfl) _)
        have e50 := hI.old 50 (unwritten_of (by kernel_rfl) _)
        have e51 := hI.old 51 (unwritten_of (by kernel_rfl) _)
        have e52 := hI.old 52 (unwritten_of (by kernel_rfl) _)
        have e53 := hI.old 53 (unwritten_of (by kernel_rfl) _)
        have e54 := hI.old 54 (unwritten_of (by kernel_rfl) _)
        have e55 := hI.old 55 (unwritten_of (by kernel_rfl) _)
        have e56 := hI.old 56 (unwritten_of (by kernel_rfl) _)
        have e57 := hI.old 57 (unwritten_of (by kernel_rfl) _)
        have e58 := hI.old 58 (unwritten_of (by kernel_rfl) _)
        have e59 := hI.old 59 (unwritten_of (by kernel_rfl) _)
        have e60 := hI.old 60 (unwritten_of (by kernel_rfl) _)
        have e61 := hI.old 61 (unwritten_of (by kernel_rfl) _)
        clear hI hM h12 h13 o1 o2 g9 g10 l9 l10 d9 d10 hr hb7 p1 p2 e48 e49 O16 O26 Hf6 BS6 TB6 T6 L6 s0c s1c s2c y0 y1 y2 y3
        simp only [List.getElem?_toArray, List.getElem?_cons_succ, List.getElem?_cons_zero, Option.getD_some] at e0 e1 e2 e3 e4 e5 e6 e7 e8 e9 e10 e11 e14 e15 e16 e17 e18 e19 e20 e21 e22 e23 e24 e25 e26 e27 e28 e29 e30 e31 e32 e33 e34 e35 e36 e37 e38 e39 e40 e50 e51 e52 e53 e54 e55 e56 e57 e58 e59 e60 e61
        obtain ⟨ys, hy, ht⟩ := arr_slots t 62 hz
        have hl : (slotsFrom ys 0 62).toArray = #[ys 0, ys 1, ys 2, ys 3, ys 4, ys 5, ys 6, ys 7, ys 8, ys 9, ys 10, ys 11, ys 12, ys 13, ys 14, ys 15, ys 16, ys 17, ys 18, ys 19, ys 20, ys 21, ys 22, ys 23, ys 24, ys 25, ys 26, ys 27, ys 28, ys 29, ys 30, ys 31, ys 32, ys 33, ys 34, ys 35, ys 36, ys 37, ys 38, ys 39, ys 40, ys 41, ys 42, ys 43, ys 44, ys 45, ys 46, ys 47, ys 48, ys 49, ys 50, ys 51, ys 52, ys 53, ys 54, ys 55, ys 56, ys 57, ys 58, ys 59, ys 60, ys 61] := rfl
        rw [hy] at e0 e1 e2 e3 e4 e5 e6 e7 e8 e9 e10 e11 e14 e15 e16 e17 e18 e19 e20 e21 e22 e23 e24 e25 e26 e27 e28 e29 e30 e31 e32 e33 e34 e35 e36 e37 e38 e39 e40 e50 e51 e52 e53 e54 e55 e56 e57 e58 e59 e60 e61 e12 e13
        rw [ht, hl, e0, e1, e2, e3, e4, e5, e6, e7, e8, e9, e10, e11, e14, e15, e16, e17, e18, e19, e20, e21, e22, e23, e24, e25, e26, e27, e28, e29, e30, e31, e32, e33, e34, e35, e36, e37, e38, e39, e40, e50, e51, e52, e53, e54, e55, e56, e57, e58, e59, e60, e61, e12, e13]
        clear ht hl hz hy e0 e1 e2 e3 e4 e5 e6 e7 e8 e9 e10 e11 e14 e15 e16 e17 e18 e19 e20 e21 e22 e23 e24 e25 e26 e27 e28 e29 e30 e31 e32 e33 e34 e35 e36 e37 e38 e39 e40 e50 e51 e52 e53 e54 e55 e56 e57 e58 e59 e60 e61 e12 e13
        generalize lo 9 = b12 at *
        generalize lo 10 = b13 at *
        rw [TO.out] at D10
        generalize hs1 : (act s u).1 = s1 at *
        obtain ⟨⟨c0, c1, c2⟩, -⟩ := box3_cells D9.out
        obtain ⟨⟨q0, q1c, q2c⟩, f0, f1, f2⟩ := box3_cells BS7.out
        go_wp2_with fail
        have ST8 := Lib.hid (stored3 BS7.out (.slice pa s1.cells.length q1) (.slice pb s1.locks.length q2) (.int .i64 (s1.shared : Nat)))
        clear c0 c1 c2 q0 q1c q2c f0 f1 f2
        generalize (((w7.setCell ⟨bs, 0, none⟩ (.slice pa s1.cells.length q1)).setCell ⟨bs, 1, none⟩ (.slice pb s1.locks.length q2)).setCell ⟨bs, 2, none⟩ (.int .i64 (s1.shared : Nat))) = w8 at *
        have t8 : Turned (fun k => k = bs) w7 w8 := ⟨ST8.out.os, ST8.out.tape, ST8.out.output, by rw [ST8.out.size]; exact Nat.le_refl _, fun k _ hk => ST8.out.rest k hk⟩
        have Hf8 := Lib.hid (Hf7.out.turned t8 (fun k hk e => NF.out (e ▸ hk)))
        have T8 := Lib.hid (T7.out.trans (t8.mono fun k hk => Or.inr hk))
        have D8 := Lib.hid ST8.out.new
        obtain ⟨m0, m1, -⟩ := box2_cells ((ST8.out.rest _ N11.out.symm).trans TB7.out)
        obtain ⟨n0, n1, -⟩ := box2_cells ((ST8.out.rest _ N10.out.1.symm).trans D10.out)
        obtain ⟨⟨-, -, k2⟩, -⟩ := box3_cells D8.out
        have P18 := Lib.hid (own_same P1.out fun g hg => ST8.out.rest g fun e => by
          rcases RowG.own_ne P1.out BS7.out (fun cur e' => by cases e') with h' | h'
          · rw [hg] at h'; cases h'
          · exact h' (by rw [hg, e]))
        have P28 := Lib.hid (own_same P2.out fun g hg => ST8.out.rest g fun e => by
          rcases RowG.own_ne P2.out BS7.out (fun cur e' => by cases e') with h' | h'
          · rw [hg] at h'; cases h'
          · exact h' (by rw [hg, e]))
        have CQ := Lib.hid (Shared_quiet (Hf8.out.kept (Below.refl _ w8).drew))
        have CMP := told_cmp tv tv true (by simp)
        clear t8
        go_region_held3 (fun W => Below w8.heap.size w8 W ∧ W.cell? ⟨b11, 0, none⟩ = some (.int .i64 tv.n) ∧ W.cell? ⟨b11, 1, none⟩ = some (.bool tv.ok) ∧ W.cell? ⟨b13, 0, none⟩ = some (.int .i64 tv.n) ∧ W.cell? ⟨b13, 1, none⟩ = some (.bool tv.ok) ∧ W.cell? ⟨bs, 2, none⟩ = some (.int .i64 (s1.shared : Nat)))
          (first | exact ⟨(Below.refl _ w8).drew, m0, m1, n0, n1, k2⟩)
          (first | (go_at_call 13; refine CQ.out.mono ?_; rintro e w9 ⟨rfl, rfl⟩))
        rename_i hHeld
        have bq := hHeld.1
        clear hHeld
        have Hf9 := Lib.hid (Hf8.out.kept bq)
        have D9 := Lib.hid ((bq.block _ (heap_lt D8.out)).trans D8.out)
        have Q1 := Lib.hid (P18.out.kept bq)
        have Q2 := Lib.hid (P28.out.kept bq)
        have T9 := Lib.hid (T8.out.trans (Turned.of_below bq))
        clear bq CQ m0 m1 n0 n1 k2
        go_wp2_with fail
        go_roundw
        case rel =>
          exact ⟨j + 1, _, _, by omega, by go_num, by rw [HR.out]; exact Hf9.out, by rw [HR.out]; exact D9.out, by rw [HR.out]; exact Q1.out, by rw [HR.out]; exact Q2.out, T9.out⟩
        case measure => simp [intOf]; omega
    case neg =>
      obtain rfl : j = z2.length := by omega
      go_wp2_with fail
      go_ret
      exact ⟨rfl, Turned.below (B1.out.trans (B4.out.mono B1.out.size)) T.out (Nat.le_trans B1.out.size B4.out.size) (fun k hk => Nat.le_trans B1.out.size (GE.out k hk))⟩

theorem own_CellsDo : ownKnob Try.prog.godebug = none := by kernel_rfl
set_option maxRecDepth 100000 in
set_option maxHeartbeats 800000 in
theorem lifted_CellsDo (os : Os) (started : os.Started) (H : Type) (enc : TypeId × Value → H) :
    ReturnsInHanded {} Try.checked os 3 .any (Rows.cellsDoSpec.pre6 enc Try.prog Try.f3 Rows.cellsDoRow.domain false) (Rows.cellsDoSpec.post enc Try.prog Try.f3 false true false false) := by
  refine returnsInHanded_of_change (C := Try.checked) own_CellsDo started (by kernel_rfl) Try.func3
    (ChangeSpec.witness6 (enc := enc) (C := Try.checked) false ⟨#[], #[.int .i64 0, .int .i64 0, .slice none 0 0], []⟩ 8 (by kernel_rfl) (by kernel_rfl) (by kernel_rfl) (by kernel_rfl)) ?_
  intro W base args ds gs before hval0 hW _ _
  have hval : ∀ (j : Nat) t v, Try.f3.params[j]? = some t → args[j]? = some v → Value.okWide Try.prog W .any base t v := hval0
  have hW' := hW
  obtain ⟨p, q, hA0, hV, rfl, _, _⟩ := hW
  have hA : DataW.TrodAll enc Try.prog W 0 (fun _ => true) true Try.f3.params.toList args.toList ds p := hA0
  rw [Try.params3] at hA hval
  obtain ⟨v0, vs0, d0, ds0, p0, q0, ha0, rfl, rfl, t0, r0⟩ := trodAll_cons hA
  obtain ⟨v1, vs1, d1, ds1, p1, q1, ha1, rfl, rfl, t1, r1⟩ := trodAll_cons r0
  obtain ⟨v2, vs2, d2, ds2, p2, q2, ha2, rfl, rfl, t2, r2⟩ := trodAll_cons r1
  obtain ⟨rfl, rfl, rfl⟩ := trodAll_nil r2
  subst ha2
  subst ha1
  obtain rfl : args = #[v0, v1, v2] := by cases args; simp_all
  obtain ⟨rfl, rfl⟩ := trodVars_none hV
  obtain ⟨a0, rfl, rfl, rfl, h0⟩ := open_int Try.underlying3 (hval 0 3 v0 rfl rfl) t0
  obtain ⟨a1, rfl, rfl, rfl, h1⟩ := open_int Try.underlying3 (hval 1 3 v1 rfl rfl) t1
  have k2 := t2
  have lt2 : ∀ x ∈ p2, x.block < W.heap.size := by obtain ⟨m, hm⟩ := k2; exact DataW.trod_lt m _ _ _ hm
  obtain ⟨a2, c2, z2, rfl, h2, g2⟩ := Sta.open_acts (hval 2 22 v2 rfl rfl) t2
  clear hA0 hval0
  refine (walk_CellsDo a0 a1 a2 c2 z2 W h0 h1 h2 g2).mono fun e W' ⟨he, hnx⟩ => ?_
  subst he
  exact ⟨_, rfl, ⟨_, _, _, [], _, [], hW', trodAll_cons_mk (shut_bool Try.underlying4 _) trodAll_mk0, (trodAll_cons_mk (shut_int Try.underlying3 h0) (trodAll_cons_mk (shut_int Try.underlying3 h1) (trodAll_cons_mk (Below.trod Sta.laidOut (by kernel_rfl) (of_decide_eq_true (by kernel_rfl)) k2 hnx lt2) trodAll_mk0))), rfl, hnx.frame _, fun h => by cases h⟩⟩

theorem cellsDo_holds : Rows.CellsDoSaid :=
  OpenClaim.holds_of_wide 3 Try.f3 rfl rfl rfl rfl rfl rfl rfl ⟨rfl, rfl, rfl, rfl, rfl⟩ rfl rfl rfl rfl rfl (by kernel_rfl) Try.func3 (by kernel_rfl)
    (of_decide_eq_true (by kernel_rfl)) (by unfold Func.isWrapper; first | (rw [if_pos (by decide +kernel)]; kernel_rfl) | (rw [if_neg (by decide +kernel)]; exact ⟨rfl, rfl⟩))
    (fun os started H enc _ => lifted_CellsDo os started H enc)

#print axioms cellsDo_holds
end Go.Proofs.Ytiokpccdkpgibaa
