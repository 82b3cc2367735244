/-
  Pools: package pool's Without (slices.IndexFunc, slices.DeleteFunc).
-/
import Derived.Test.YtbamodkgagcmnaaGreatBPlmQ
set_option maxRecDepth 100000
namespace Go.Proofs.YtbamodkgagcmnaaGreat.Pol
open Go.RowKit Go.Shelf Rgn

set_option maxRecDepth 100000 in
set_option maxHeartbeats 2000000 in
theorem IndexFunc_any (a : Option Addr) (cap : Nat) (bs : List Bk) (k : Nat) (cb : Array Value) (q : Bk → Bool) (w : World) (h : Lies w a cap bs) (hen : Enters Tryz.prog k) (hc : Asks k cb q w) :
    Calls Tryz.prog 104 #[polV a cap bs, .func (.func k) #[] cb] w fun e W' => e = .returned (.int .i64 (idx q bs 0)) ∧ Below w.heap.size w W' := by
  have H := Lib.hid h
  have C := Lib.hid hc
  have en : ∀ (args : Array Value) (w : World), (callFunc k args).run Tryz.prog w = .ok (.enter k args) w := hen
  clear h hc
  go_enter Tryz.func104, Tryz.ntmps104
  go_wp2
  go_loopw [4, 8] (fun v i W => ∃ m : Nat, m ≤ bs.length ∧ v = .int .i64 0 ∧ i = .int .i64 m ∧ (∀ j x, j < m → bs[j]? = some x → q x = false) ∧ Below w.heap.size w W) (fun _ i _ => bs.length - (intOf i).toNat)
  case atStart => exact ⟨0, Nat.zero_le _, rfl, rfl, fun j x hj => absurd hj (by omega), Below.refl _ _⟩
  case round =>
    obtain ⟨m, hm, rfl, rfl, hno, hB⟩ := hrel
    have HN := Lib.hid hno
    have HB := Lib.hid hB
    clear hno hB
    by_cases hlt : m < bs.length
    · obtain ⟨b, off, rfl, c0, c1⟩ := (H.out.kept HB.out).at hlt
      have hC := H.out.len
      have hM := H.out.max
      unfold maxLen at hM
      have HH := Lib.hid (idx_hit q bs m hlt HN.out)
      have HI := Lib.hid (show bs[m]? = some bs[m] from List.getElem?_eq_getElem hlt)
      generalize bs[m] = x at *
      go_wp2_with fail
      refine (C.out x wr HB.out).mono ?_
      rintro e w2 ⟨rfl, hb2⟩
      have HW := Lib.hid (below2 HB.out hb2)
      clear hb2
      cases hqx : q x with
      | true =>
        have HT := Lib.hid (HH.out hqx)
        go_wp2_with fail
        go_ret
        exact ⟨by rw [HT.out]; rfl, HW.out⟩
      | false =>
        have HF := Lib.hid hqx
        clear hqx
        go_wp2_with fail
        go_roundw
        case rel =>
          refine ⟨m + 1, by omega, rfl, by go_num, fun j' y h' hy => ?_, HW.out⟩
          by_cases e : j' = m
          · rw [e, HI.out] at hy; cases hy; exact HF.out
          · exact HN.out j' y (by omega) hy
        case measure => simp [intOf]; omega
    · go_wp2
      go_ret
      rw [idx_none q bs (fun j x hj => HN.out j x (by omega))]
      exact ⟨rfl, HB.out⟩

/-- A part of a row is cleared. -/
theorem run_clear_row {W : World} {g cap : Nat} {bs : List Bk} (h : Row W g cap bs) (i n : Nat) (h0 : 0 < n) (hn : i + n ≤ bs.length) :
    ∃ vs, ∀ ty c, (Builtin.clear_ #[32] ty #[.slice (some ⟨g, i * 2, none⟩) n c]).run Tryz.prog W = .ok (.tuple #[]) (W.setCells g (i * 2) vs) := by
  have hz : ∀ w, (zeroValue 83).run Tryz.prog w = .ok (.agg #[.int .i64 0, .int .i64 0]) w := fun w => by kernel_rfl
  have hcell : ∀ j, j < n * 2 → (W.cell? ⟨g, i * 2 + j, none⟩).isSome = true ∧ W.frozen? ⟨g, i * 2 + j, none⟩ = false := fun j hj => by
    obtain ⟨c0, c1, f0, f1⟩ := h.cell (i := i + j / 2) (by omega)
    rcases Nat.mod_two_eq_zero_or_one j with e | e
    · rw [show i * 2 + j = (i + j / 2) * 2 by omega, c0]; exact ⟨rfl, f0⟩
    · rw [show i * 2 + j = (i + j / 2) * 2 + 1 by omega, c1]; exact ⟨rfl, f1⟩
  have hlen : (Builtin.zeroCells (Value.agg #[.int .i64 0, .int .i64 0]).cells n).toList.length = n * 2 := by
    simp [Builtin.zeroCells, Value.cells]
  have hone : ∀ v ∈ (Builtin.zeroCells (Value.agg #[.int .i64 0, .int .i64 0]).cells n).toList, v.oneCell' = true := by
    intro v hv
    obtain ⟨k, hk, rfl⟩ := List.getElem_of_mem hv
    simp only [Builtin.zeroCells, Value.cells, Array.getElem_toList]
    rcases Nat.mod_two_eq_zero_or_one k with e | e <;> simp [e] <;> rfl
  have hst := run_storeCells_cells (P := Tryz.prog) g (i * 2) (Builtin.zeroCells (Value.agg #[.int .i64 0, .int .i64 0]).cells n).toList 0 W (by rw [hlen]; exact fun j hj => (hcell j hj).1) (by rw [hlen]; exact fun j hj => (hcell j hj).2) hone
  simp only [Nat.add_zero] at hst
  refine ⟨(Builtin.zeroCells (Value.agg #[.int .i64 0, .int .i64 0]).cells n).toList, fun ty c => ?_⟩
  clear hlen hone hcell
  generalize hZ : (Builtin.zeroCells (Value.agg #[.int .i64 0, .int .i64 0]).cells n).toList = Z at *
  obtain ⟨m, rfl⟩ : ∃ m, n = m + 1 := ⟨n - 1, by omega⟩
  simp [Builtin.clear_, run_underlying Tryz.underlying32, hz, hZ, hst]

theorem box_put {W : World} {g i : Nat} {x : Bk} {a : Addr} (ha : a.block ≠ g) : (put2 W g i x).cell? a = W.cell? a := by
  unfold put2
  rw [World.cell?_setCell_other _ _ _ _ (fun e => ha (by rw [← e])), World.cell?_setCell_other _ _ _ _ (fun e => ha (by rw [← e]))]
theorem below_past {B : Nat} {w W : World} (h : Below B w W) {g : Nat} (hg : B ≤ g) (vs : List Value) : ∀ o, Below B w (W.setCells g o vs) := by
  induction vs generalizing W with
  | nil => intro o; exact h
  | cons v vs ih => intro o; exact ih (h.setCell (p := ⟨g, o, none⟩) hg v) (o + 1)
/-- What DeleteFunc has done: the first i of ds are what is left of the first j of bs; the others stand as they stood. -/
structure Left (id : Int) (bs ds : List Bk) (i j : Nat) : Prop where
  lt : i < j
  le : j ≤ bs.length
  len : ds.length = bs.length
  done : ds.take i = without (bs.take j) id
  rest : ds.drop j = bs.drop j
theorem Left.at {id : Int} {bs ds : List Bk} {i j : Nat} (h : Left id bs ds i j) (hj : j < bs.length) : ∃ x, ds[j]? = some x ∧ bs[j]? = some x := by
  refine ⟨bs[j], ?_, List.getElem?_eq_getElem hj⟩
  have := congrArg (fun l => l[0]?) h.rest
  simp only [List.getElem?_drop, Nat.add_zero] at this
  rw [this]; exact List.getElem?_eq_getElem hj
theorem Left.start (id : Int) (bs : List Bk) (k : Nat) (hk : k < bs.length) (hno : ∀ j x, j < k → bs[j]? = some x → x.1 ≠ id) (h : ∀ x, bs[k]? = some x → x.1 = id) : Left id bs bs k (k + 1) := by
  refine ⟨by omega, by omega, rfl, ?_, rfl⟩
  rw [take_more bs k hk]
  have e := h bs[k] (List.getElem?_eq_getElem hk)
  simp only [without, List.filter_append, List.filter_cons, List.filter_nil]
  rw [if_neg (by simp [e]), List.append_nil]
  refine (List.filter_eq_self.2 fun x hx => ?_).symm
  obtain ⟨j, hj, rfl⟩ := List.getElem_of_mem hx
  have hj' : j < k := by simp at hj; omega
  have := hno j bs[j] hj' (List.getElem?_eq_getElem (by omega))
  simpa using this
theorem Left.skip {id : Int} {bs ds : List Bk} {i j : Nat} (h : Left id bs ds i j) (hj : j < bs.length) (he : ∀ x, bs[j]? = some x → x.1 = id) : Left id bs ds i (j + 1) := by
  have e := he bs[j] (List.getElem?_eq_getElem hj)
  refine ⟨by have := h.lt; omega, by omega, h.len, ?_, ?_⟩
  · rw [take_more bs j hj, h.done]
    simp only [without, List.filter_append, List.filter_cons, List.filter_nil]
    rw [if_neg (by simp [e]), List.append_nil]
  · have := congrArg (List.drop 1) h.rest
    rwa [List.drop_drop, List.drop_drop] at this
theorem Left.keep {id : Int} {bs ds : List Bk} {i j : Nat} (h : Left id bs ds i j) (hj : j < bs.length) (x : Bk) (hx : bs[j]? = some x) (he : x.1 ≠ id) : Left id bs (ds.set i x) (i + 1) (j + 1) := by
  have hlt := h.lt
  have hx' : bs[j] = x := by rw [List.getElem?_eq_getElem hj] at hx; exact Option.some.inj hx
  refine ⟨by omega, by omega, by rw [List.length_set]; exact h.len, ?_, ?_⟩
  · rw [take_more bs j hj, hx']
    have e1 : without (bs.take j ++ [x]) id = without (bs.take j) id ++ [x] := by simp [without, he]
    rw [e1, ← h.done, take_more _ i (by rw [List.length_set, h.len]; omega), List.take_set_of_le (Nat.le_refl _)]
    congr 1; simp
  · have := congrArg (List.drop 1) h.rest
    rw [List.drop_drop, List.drop_drop] at this
    rw [List.drop_set_of_lt (by omega)]; exact this

set_option maxRecDepth 100000 in
set_option maxHeartbeats 4000000 in
theorem DeleteFunc_any (g cap : Nat) (bs : List Bk) (id : Int) (B Bx : Nat) (w : World) (h : Row w g cap bs) (hB : B ≤ g) (hBx : Bx < w.heap.size) (hne : Bx ≠ g) (hc : w.cell? ⟨Bx, 0, none⟩ = some (.int .i64 id)) (hBw : B ≤ w.heap.size) :
    Calls Tryz.prog 70 #[polV (some ⟨g, 0, none⟩) cap bs, .func (.func 105) #[] #[.pointer (some ⟨Bx, 0, none⟩)]] w
      fun e W' => ∃ v, e = .returned v ∧ Gives W' v (without bs id) ∧ Below B w W' := by
  have en : ∀ (args : Array Value) (w : World), (callFunc 105 args).run Tryz.prog w = .ok (.enter 105 args) w := enters_of Tryz.func105 (by kernel_rfl) rfl
  have IF := Lib.hid (IndexFunc_any (some ⟨g, 0, none⟩) cap bs 105 #[.pointer (some ⟨Bx, 0, none⟩)] _ w h.lies (enters_of Tryz.func105 (by kernel_rfl) rfl) (of_asks id Bx w hBx hc))
  have H := Lib.hid h
  have hM := h.len
  unfold maxLen at hM
  clear h
  go_enter Tryz.func70, Tryz.ntmps70
  go_wp2_with fail
  refine IF.out.mono ?_
  rintro e w1 ⟨rfl, hb1⟩
  have H1 := Lib.hid (H.out.kept hb1)
  have hc1 := (hb1.cell (p := ⟨Bx, 0, none⟩) hBx).trans hc
  have hBx1 := Nat.lt_of_lt_of_le hBx hb1.size
  have hBw1 := Nat.le_trans hBw hb1.size
  have HB1 := Lib.hid (hb1.mono hBw)
  clear hb1 hc IF H
  rw [idx_find]
  rcases find_cases id bs 0 with ⟨hf, hno⟩ | ⟨k, x, hf, hk, hx, hno⟩
  · have HT := Lib.hid (show without bs id = bs from List.filter_eq_self.2 fun x hx => by simpa using hno x hx)
    clear hno
    rw [hf]
    go_wp2_with fail
    go_ret
    exact ⟨_, rfl, by rw [HT.out]; exact ⟨_, cap, rfl, H1.out.lies⟩, HB1.out⟩
  · have hkl := (List.getElem?_eq_some_iff.1 hk).1
    have HS := Lib.hid (Left.start id bs k hkl hno (fun y hy => by rw [hk] at hy; cases hy; exact hx))
    have e1 : ((k : Int) == -1) = false := beq_false_of_ne (by omega)
    rw [hf, Nat.zero_add]
    clear hno hf hk hx
    go_wp2_with fail
    go_loopw [5, 6] (fun vi vj W => ∃ (i j : Nat) (ds : List Bk), vi = .int .i64 i ∧ vj = .int .i64 j ∧ Left id bs ds i j ∧ Row W g cap ds ∧ W.cell? ⟨Bx, 0, none⟩ = some (.int .i64 id) ∧ Bx < W.heap.size ∧ B ≤ W.heap.size ∧ Below B w W) (fun _ vj _ => bs.length - (intOf vj).toNat)
    case atStart => exact ⟨k, k + 1, bs, rfl, by go_num, HS.out, H1.out, hc1, hBx1, hBw1, HB1.out⟩
    case round =>
      obtain ⟨i, j, ds, rfl, rfl, hL, hR, hcb, hbl, hbB, hBel⟩ := hrel
      have hlt := hL.lt
      have hle := hL.le
      have hds := hL.len
      have HBel := Lib.hid hBel
      have HL := Lib.hid hL
      have HR := Lib.hid hR
      clear hL hR hBel
      by_cases hj : j < bs.length
      · obtain ⟨x, hx1, hx2⟩ := HL.out.at hj
        have hjd : j < ds.length := by omega
        have hid : i < ds.length := by omega
        obtain ⟨c0, c1, _, _⟩ := HR.out.cell hjd
        have ex : ds[j] = x := by rw [List.getElem?_eq_getElem hjd] at hx1; exact Option.some.inj hx1
        rw [ex] at c0 c1
        clear ex hx1
        have al := below_alloc wr (.cells #[.int .i64 x.1, .int .i64 x.2] 83)
        have HA := Lib.hid (HBel.out.alloc hbB (.cells #[.int .i64 x.1, .int .i64 x.2] 83))
        have HRA := Lib.hid (HR.out.kept al)
        have ca := (al.cell (p := ⟨Bx, 0, none⟩) hbl).trans hcb
        have d0 : (wr.alloc (.cells #[.int .i64 x.1, .int .i64 x.2] 83)).cell? ⟨wr.heap.size, 0, none⟩ = some (.int .i64 x.1) := by simp
        have d1 : (wr.alloc (.cells #[.int .i64 x.1, .int .i64 x.2] 83)).cell? ⟨wr.heap.size, 1, none⟩ = some (.int .i64 x.2) := by simp
        have hs : (wr.alloc (.cells #[.int .i64 x.1, .int .i64 x.2] 83)).heap.size = wr.heap.size + 1 := by simp
        have hgl := HR.out.lt
        have C := Lib.hid (of_asks id Bx _ (by rw [hs]; omega) ca x _ (Below.refl _ _))
        clear al
        go_wp2_with fail
        generalize wr.alloc (.cells #[.int .i64 x.1, .int .i64 x.2] 83) = wa at *
        generalize wr.heap.size = Sz at *
        refine C.out.mono ?_
        rintro e w2 ⟨rfl, hb2⟩
        have e0 := (hb2.cell (p := ⟨Sz, 0, none⟩) (by show Sz < _; omega)).trans d0
        have e1 := (hb2.cell (p := ⟨Sz, 1, none⟩) (by show Sz < _; omega)).trans d1
        have cb2 := (hb2.cell (p := ⟨Bx, 0, none⟩) (by show Bx < _; omega)).trans ca
        have HR2 := Lib.hid (HRA.out.kept hb2)
        have HB2 := Lib.hid (HA.out.trans (hb2.mono (by omega)))
        have hs2 := hb2.size
        clear hb2 d0 d1 ca HRA HA C
        by_cases hq : x.1 = id
        · have eq : (x.1 == id) = true := beq_iff_eq.2 hq
          have HL' := Lib.hid (HL.out.skip hj (fun y hy => by rw [hx2] at hy; cases hy; exact hq))
          rw [eq]
          clear hq eq
          go_wp2_with fail
          go_roundw
          case rel => exact ⟨i, j + 1, ds, rfl, by go_num, HL'.out, HR2.out, cb2, by omega, by omega, HB2.out⟩
          case measure => simp [intOf]; omega
        · have eq : (x.1 == id) = false := beq_false_of_ne hq
          have HL' := Lib.hid (HL.out.keep hj x hx2 hq)
          rw [eq]
          clear hq eq
          obtain ⟨g0, g1, g2, g3⟩ := HR2.out.cell hid
          have HR3 := Lib.hid (HR2.out.put i x)
          have HB3 := Lib.hid (below_put HB2.out hB i x)
          have cb3 := Lib.hid ((box_put (W := w2) (g := g) (i := i) (x := x) (a := ⟨Bx, 0, none⟩) hne).trans cb2)
          have hs3 : (put2 w2 g i x).heap.size = w2.heap.size := by unfold put2; simp
          go_wp2_with fail
          go_roundw
          case rel => exact ⟨i + 1, j + 1, ds.set i x, by go_num, by go_num, HL'.out, HR3.out, cb3.out, by show Bx < (put2 w2 g i x).heap.size; omega, by show B ≤ (put2 w2 g i x).heap.size; omega, HB3.out⟩
          case measure => simp [intOf]; omega
      · obtain rfl : j = bs.length := by omega
        obtain ⟨vs, hcl⟩ := run_clear_row HR.out i (ds.length - i) (by omega) (by omega)
        rw [hds] at hcl
        have HT := Lib.hid (show ds.take i = without bs id by rw [HL.out.done, List.take_length])
        have HR4 := Lib.hid ((HR.out.cut i).past vs (i * 2) (by simp; omega))
        have hlen : (without bs id).length = i := by rw [← HT.out]; simp; omega
        have HLn := Lib.hid hlen
        have HB4 := Lib.hid (below_past HBel.out hB vs (i * 2))
        clear hlen
        go_wp2_with fail
        go_ret
        exact ⟨_, rfl, ⟨some ⟨g, 0, none⟩, cap, by show Value.slice _ i _ = Value.slice _ (without bs id).length _; rw [HLn.out], by rw [← HT.out]; exact HR4.out.lies⟩, HB4.out⟩

set_option maxHeartbeats 1000000 in
theorem DeleteFunc_none (a : Option Addr) (cap : Nat) (id : Int) (Bx : Nat) (w : World) (h : Lies w a cap []) (hBx : Bx < w.heap.size) (hc : w.cell? ⟨Bx, 0, none⟩ = some (.int .i64 id)) :
    Calls Tryz.prog 70 #[polV a cap [], .func (.func 105) #[] #[.pointer (some ⟨Bx, 0, none⟩)]] w
      fun e W' => e = .returned (polV a cap []) ∧ Below w.heap.size w W' := by
  have IF := Lib.hid (IndexFunc_any a cap [] 105 #[.pointer (some ⟨Bx, 0, none⟩)] _ w h (enters_of Tryz.func105 (by kernel_rfl) rfl) (of_asks id Bx w hBx hc))
  go_enter Tryz.func70, Tryz.ntmps70
  go_wp2_with fail
  refine IF.out.mono ?_
  rintro e w1 ⟨rfl, hb1⟩
  have HB1 := Lib.hid hb1
  clear hb1 IF
  rw [show idx (fun x => x.1 == id) [] 0 = -1 from rfl]
  go_wp2_with fail
  go_ret
  exact ⟨rfl, HB1.out⟩

set_option maxHeartbeats 2000000 in
theorem Without_told (a : Option Addr) (cap : Nat) (bs : List Bk) (id : Int) (w : World) (h : Lies w a cap bs) (hl : bs.length ≤ 8796093022207) :
    Calls Tryz.prog 30 #[polV a cap bs, .int .i64 id] w fun e W' => ∃ v, e = .returned v ∧ Gives W' v (without bs id) ∧ Below w.heap.size w W' := by
  have C := Lib.hid (Clone_any a cap bs w h (by omega))
  clear h
  go_enter Tryz.func30, Tryz.ntmps30
  go_wp2_with fail
  refine C.out.mono ?_
  rintro e w1 ⟨v, rfl, ho, hb⟩
  have HO := Lib.hid ho
  have HB := Lib.hid hb
  have hs := hb.size
  clear ho hb C
  go_wp2_with fail
  refine (of_any id w1).mono ?_
  rintro e w2 ⟨rfl, hw2⟩
  have b2 := Lib.hid (show Below w1.heap.size w1 w2 by rw [hw2]; exact below_alloc _ _)
  have c2 : w2.cell? ⟨w1.heap.size, 0, none⟩ = some (.int .i64 id) := by rw [hw2]; simp
  have l2 : w1.heap.size < w2.heap.size := by rw [hw2]; simp
  have HB2 := Lib.hid (below2 HB.out b2.out)
  clear hw2
  by_cases hn : bs = []
  · subst hn
    obtain ⟨a', cap', rfl, hL⟩ := (HO.out.kept b2.out).lies
    have D := Lib.hid (DeleteFunc_none a' cap' id w1.heap.size w2 hL l2 c2)
    have HL := Lib.hid hL
    clear hL
    go_wp2_with fail
    refine D.out.mono ?_
    rintro e w3 ⟨rfl, hb3⟩
    have HL3 := Lib.hid (HL.out.kept hb3)
    have HB3 := Lib.hid (below2 HB2.out hb3)
    clear hb3
    go_wp2_with fail
    go_ret
    exact ⟨_, rfl, ⟨a', cap', rfl, HL3.out⟩, HB3.out⟩
  · obtain ⟨g, cap', rfl, hBg, hR⟩ := HO.out.row hn
    have hgl := hR.lt
    have D := Lib.hid (DeleteFunc_any g cap' bs id w.heap.size w1.heap.size w2 (hR.kept b2.out) hBg l2 (by omega) c2 (by omega))
    clear hR
    go_wp2_with fail
    refine D.out.mono ?_
    rintro e w3 ⟨v, rfl, hg3, hb3⟩
    have HG3 := Lib.hid hg3
    have HB3 := Lib.hid (HB2.out.trans hb3)
    clear hb3 hg3
    go_wp2_with fail
    go_ret
    exact ⟨_, rfl, HG3.out, HB3.out⟩
end Go.Proofs.YtbamodkgagcmnaaGreat.Pol
