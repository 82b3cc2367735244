/-
  Pools in order: one backend goes to its place in a part of a row that is in order (package slices: symMergeCmpFunc, where one part has one backend).
-/
import Derived.Test.YtfjpdoamalbpjaaPolX
import Derived.Test.YtfjpdoamalbpjaaPolW
namespace Go.Proofs.Ytfjpdoamalbpjaa.Pol
open Go.RowKit Go.Shelf Rgn

theorem rises_le {Y : List Bk} (h : Rises Y) {i j : Nat} (hij : i ≤ j) {x y : Bk} (hx : Y[i]? = some x) (hy : Y[j]? = some y) : x.1 ≤ y.1 := by
  obtain ⟨hi, rfl⟩ := List.getElem?_eq_some_iff.1 hx
  obtain ⟨hj, rfl⟩ := List.getElem?_eq_some_iff.1 hy
  rcases Nat.lt_or_eq_of_le hij with hlt | rfl
  · exact List.pairwise_iff_getElem.1 h i j hi hj hlt
  · exact Int.le_refl _
theorem take_at {Y : List Bk} {u : Nat} {y : Bk} (h : y ∈ Y.take u) : ∃ i, i < u ∧ Y[i]? = some y := by
  obtain ⟨i, hi, rfl⟩ := List.getElem_of_mem h
  simp at hi
  exact ⟨i, by omega, by simp [List.getElem?_eq_getElem (show i < Y.length by omega)]⟩
theorem drop_at {Y : List Bk} {u : Nat} {y : Bk} (h : y ∈ Y.drop u) : ∃ i, u ≤ i ∧ Y[i]? = some y := by
  obtain ⟨i, hi, rfl⟩ := List.getElem_of_mem h
  simp at hi
  exact ⟨u + i, by omega, by simp [List.getElem?_eq_getElem (show u + i < Y.length by omega)]⟩
/-- Where x goes to in Y is looked for: ahead of s all are lower, from t on none is. -/
structure Seek (x : Bk) (Y : List Bk) (s t : Nat) : Prop where
  st : s ≤ t
  le : t ≤ Y.length
  low : ∀ y ∈ Y.take s, y.1 < x.1
  high : ∀ y ∈ Y.drop t, x.1 ≤ y.1
theorem Seek.start (x : Bk) (Y : List Bk) : Seek x Y 0 Y.length := ⟨Nat.zero_le _, Nat.le_refl _, fun y hy => by simp at hy, fun y hy => by simp at hy⟩
theorem Seek.up {x : Bk} {Y : List Bk} {s t : Nat} (h : Seek x Y s t) (hY : Rises Y) (u : Nat) (hu : u < t) (y : Bk) (hy : Y[u]? = some y) (hlt : y.1 < x.1) : Seek x Y (u + 1) t :=
  ⟨by omega, h.le, fun z hz => by obtain ⟨i, hi, hz⟩ := take_at hz; have := rises_le hY (show i ≤ u by omega) hz hy; omega, h.high⟩
theorem Seek.down {x : Bk} {Y : List Bk} {s t : Nat} (h : Seek x Y s t) (hY : Rises Y) (u : Nat) (hs : s ≤ u) (hu : u < t) (y : Bk) (hy : Y[u]? = some y) (hlt : ¬ y.1 < x.1) : Seek x Y s u :=
  ⟨hs, by have := h.le; omega, h.low, fun z hz => by obtain ⟨i, hi, hz⟩ := drop_at hz; have := rises_le hY hi hy hz; omega⟩

theorem row_x (A : List Bk) (x : Bk) (R : List Bk) (a : Nat) (ha : a = A.length) : (A ++ x :: R)[a]? = some x := by subst ha; simp
theorem row_y (A Y R : List Bk) (u c : Nat) (hu : u < Y.length) (hc : c = A.length + u) : (A ++ (Y ++ R))[c]? = Y[u]? := by
  subst hc
  rw [List.getElem?_append_right (by omega), List.getElem?_append_left (by omega)]
  congr 1; omega
theorem row_xy (A : List Bk) (x : Bk) (Y R : List Bk) (u c : Nat) (hu : u < Y.length) (hc : c = A.length + 1 + u) : (A ++ (x :: (Y ++ R)))[c]? = Y[u]? := by
  have e : A ++ (x :: (Y ++ R)) = (A ++ [x]) ++ (Y ++ R) := by simp
  rw [e]; exact row_y _ _ _ u c hu (by simp; omega)
theorem at_some {Y : List Bk} {u : Nat} (hu : u < Y.length) : ∃ y, Y[u]? = some y := ⟨Y[u], List.getElem?_eq_getElem hu⟩
/-- The cells of a backend that stands in a row. -/
theorem Row.at? {W : World} {g cap : Nat} {es : List Bk} (h : Row W g cap es) {c : Nat} {y : Bk} (hy : es[c]? = some y) :
    W.cell? ⟨g, c * 2, none⟩ = some (.int .i64 y.1) ∧ W.cell? ⟨g, c * 2 + 1, none⟩ = some (.int .i64 y.2) ∧ W.frozen? ⟨g, c * 2, none⟩ = false ∧ W.frozen? ⟨g, c * 2 + 1, none⟩ = false := by
  obtain ⟨hl, rfl⟩ := List.getElem?_eq_some_iff.1 hy
  exact h.cell hl

/-- A row in which x stands behind the first t of Y. -/
abbrev among (A : List Bk) (x : Bk) (Y C : List Bk) (t : Nat) : List Bk := A ++ (Y.take t ++ x :: (Y.drop t ++ C))
theorem among_next (A : List Bk) (x : Bk) (Y C : List Bk) (t a : Nat) (ht : t < Y.length) (ha : a = A.length) :
    ∃ y, (among A x Y C t)[a + t]? = some x ∧ (among A x Y C t)[a + t + 1]? = some y ∧ (((among A x Y C t).set (a + t) y).set (a + t + 1) x) = among A x Y C (t + 1)
      ∧ (among A x Y C (t + 1))[a + t + 1]? = some x ∧ (among A x Y C (t + 1))[a + t]? = some y ∧ (((among A x Y C (t + 1)).set (a + t + 1) y).set (a + t) x) = among A x Y C t := by
  have e0 : Y.drop t = Y[t] :: Y.drop (t + 1) := List.drop_eq_getElem_cons ht
  have e1 : Y.take (t + 1) = Y.take t ++ [Y[t]] := take_more Y t ht
  have hl : (Y.take t).length = t := by simp; omega
  unfold among
  rw [e0, e1]
  generalize Y.take t = T at *
  generalize Y.drop (t + 1) = D at *
  generalize Y[t] = y at *
  have f1 : A ++ (T ++ x :: (y :: D ++ C)) = (A ++ T) ++ x :: ([] ++ y :: (D ++ C)) := by simp
  have f2 : A ++ (T ++ [y] ++ x :: (D ++ C)) = (A ++ T) ++ y :: ([] ++ x :: (D ++ C)) := by simp
  have l0 : a + t = (A ++ T).length := by simp; omega
  have g1 : ∀ z z' R, ((A ++ T) ++ z :: ([] ++ z' :: R))[a + t]? = some z := fun z z' R => row_x _ _ _ _ l0
  have g2 : ∀ z z' R, ((A ++ T) ++ z :: ([] ++ z' :: R))[a + t + 1]? = some z' := fun z z' R => by
    have e : (A ++ T) ++ z :: ([] ++ z' :: R) = (A ++ T ++ [z]) ++ z' :: R := by simp
    rw [e]; exact row_x _ _ _ _ (by simp at l0 ⊢; omega)
  rw [f1, f2]
  refine ⟨y, g1 _ _ _, g2 _ _ _, ?_, g2 _ _ _, g1 _ _ _, ?_⟩
  · rw [swap_mid _ _ _ x y (a + t) (a + t + 1) l0 (by simp at l0 ⊢; omega)]
  · rw [List.set_comm _ _ (by omega), swap_mid _ _ _ y x (a + t) (a + t + 1) l0 (by simp at l0 ⊢; omega)]

set_option maxRecDepth 100000 in
set_option maxHeartbeats 4000000 in
theorem symMerge_first (g cap N : Nat) (A : List Bk) (x : Bk) (Y C : List Bk) (a m b : Nat) (B : Nat) (w : World) (h : Row w g cap (A ++ (x :: (Y ++ C)))) (hB : B ≤ g)
    (hN : N = A.length + 1 + Y.length + C.length) (ha : a = A.length) (hm : m = A.length + 1) (hb : b = A.length + 1 + Y.length) (hbig : N ≤ 1000000000000) (hY : Rises Y) :
    Calls Try.prog 70 #[.slice (some ⟨g, 0, none⟩) N cap, .int .i64 a, .int .i64 m, .int .i64 b, cmpF] w
      fun e W' => e = .returned (.tuple #[]) ∧ Row W' g cap (A ++ (sorted ([x] ++ Y) ++ C)) ∧ Below B w W' := by
  have en : ∀ (args : Array Value) (w : World), (callFunc 35 args).run Try.prog w = .ok (.enter 35 args) w := enters_of Try.func35 (by kernel_rfl) rfl
  have hM := h.len
  have hlN : (A ++ (x :: (Y ++ C))).length = N := by simp; omega
  rw [hlN] at hM
  unfold maxLen at hM
  have H := Lib.hid h
  have HA := Lib.hid ha
  have HN := Lib.hid hN
  have HL := Lib.hid hlN
  have HY := Lib.hid hY
  have HYl := Lib.hid (show Y.length = b - m by omega)
  have Hma := Lib.hid (show m = a + 1 by omega)
  have ham : a < m := by omega
  have hmb : m ≤ b := by omega
  have hbN : b ≤ N := by omega
  have s0 : IntKind.i64.wrap ((m : Int) - (a : Int)) = 1 := by rw [IntKind.wrap_i64]; omega
  clear h hlN ha hm hb hN hY
  go_enter Try.func70, Try.ntmps70
  go_wp2_with fail
  go_loopw [10, 11] (fun vi vj W => ∃ (s t : Nat), vi = .int .i64 ((m + s : Nat) : Int) ∧ vj = .int .i64 ((m + t : Nat) : Int) ∧ Seek x Y s t ∧ Row W g cap (A ++ (x :: (Y ++ C))) ∧ Below B w W) (fun vi vj _ => (intOf vj).toNat - (intOf vi).toNat)
  case atStart => exact ⟨0, Y.length, by simp, by rw [HYl.out]; congr 2; omega, Seek.start x Y, H.out, Below.refl _ _⟩
  case round =>
    obtain ⟨s, t, rfl, rfl, hS, hR, hBel⟩ := hrel
    have hst := hS.st
    have htl := hS.le
    rw [HYl.out] at htl
    have HS := Lib.hid hS
    have HR := Lib.hid hR
    have HBel := Lib.hid hBel
    clear hS hR hBel
    by_cases hlt : s < t
    · obtain ⟨c, hc, hci, hcj⟩ : ∃ c : Nat, (((m + s : Nat) : Int) + ((m + t : Nat) : Int)) / 2 = (c : Int) ∧ m + s ≤ c ∧ c < m + t := ⟨(m + s + (m + t)) / 2, by omega, by omega, by omega⟩
      have hul : c - m < Y.length := by have := HYl.out; omega
      obtain ⟨y, hy⟩ := at_some hul
      have hyr : (A ++ (x :: (Y ++ C)))[c]? = some y := by rw [row_xy A x Y C (c - m) c hul (by have := HA.out; have := Hma.out; omega)]; exact hy
      obtain ⟨c0, c1, _, _⟩ := HR.out.at? hyr
      obtain ⟨d0, d1, _, _⟩ := HR.out.at? (row_x A x (Y ++ C) a HA.out)
      have HUp := Lib.hid (HS.out.up HY.out (c - m) (by omega) y hy)
      have HDn := Lib.hid (HS.out.down HY.out (c - m) (by omega) (by omega) y hy)
      have hcN : c < N := by omega
      have haN : a < N := by omega
      have e1 : m + (c - m + 1) = c + 1 := by omega
      have e2 : m + (c - m) = c := by omega
      have E1 := Lib.hid e1
      have E2 := Lib.hid e2
      have hD : ((m + s : Nat) : Int) < ((m + t : Nat) : Int) := by omega
      clear hy hyr hul e1 e2
      generalize hi : m + s = i at *
      generalize hj : m + t = j at *
      have HI := Lib.hid hi
      have HJ := Lib.hid hj
      clear hi hj
      go_wp2_with fail
      go_region_held3 (fun W => Below wr.heap.size wr W ∧ W.cell? ⟨g, c * 2, none⟩ = some (.int .i64 y.1) ∧ W.cell? ⟨g, c * 2 + 1, none⟩ = some (.int .i64 y.2) ∧ W.cell? ⟨g, a * 2, none⟩ = some (.int .i64 x.1) ∧ W.cell? ⟨g, a * 2 + 1, none⟩ = some (.int .i64 x.2)) (first | exact ⟨(Below.refl _ wr).drew, c0, c1, d0, d1⟩ | exact two_keep (by assumption) hb)
        (first | (go_at_call 35; (with_reducible refine (cmp_any _ _ _).mono ?_); rintro e w3 ⟨rfl, hb⟩))
      rename_i hHeld
      have HR3 := Lib.hid (HR.out.kept hHeld.1)
      have HB3 := Lib.hid (HBel.out.trans (hHeld.1.mono (Nat.le_trans hB (Nat.le_of_lt HR.out.lt))))
      clear hHeld c0 c1 d0 d1 hb HR HBel
      by_cases hless : y.1 < x.1
      · have dl : cmpI y.1 x.1 < 0 := (cmpI_lt _ _).2 hless
        have HS' := Lib.hid (HUp.out hless)
        clear hless HUp HDn
        go_wp2_with fail
        go_roundw
        case rel => exact ⟨c - m + 1, t, by rw [E1.out]; go_num, by rw [HJ.out], HS'.out, HR3.out, HB3.out⟩
        case measure => simp [intOf]; omega
      · have dl : 0 ≤ cmpI y.1 x.1 := Int.not_lt.1 fun h => hless ((cmpI_lt _ _).1 h)
        have HS' := Lib.hid (HDn.out (by omega))
        clear hless HUp HDn
        go_wp2_with fail
        go_roundw
        case rel => exact ⟨s, c - m, by rw [HI.out], by rw [E2.out], HS'.out, HR3.out, HB3.out⟩
        case measure => simp [intOf]; omega
    · obtain rfl : s = t := by omega
      have hsl : s ≤ Y.length := HS.out.le
      have HF := Lib.hid (show sorted ([x] ++ Y) = Y.take s ++ x :: Y.drop s by
        have := merge_first x (Y.take s) (Y.drop s) (by rw [List.take_append_drop]; exact HY.out) HS.out.low HS.out.high
        rwa [List.take_append_drop] at this)
      have HSl := Lib.hid hsl
      have hsb : m + s ≤ b := by have := HYl.out; omega
      clear hsl HS
      have z1 : IntKind.i64.wrap (((m + s : Nat) : Int) - 1) = ((a + s : Nat) : Int) := by have := Hma.out; rw [IntKind.wrap_i64]; omega
      have hD : ¬ ((m + s : Nat) : Int) < ((m + s : Nat) : Int) := by omega
      generalize hi : m + s = i at *
      have HI := Lib.hid hi
      clear hi
      have E0 := Lib.hid (show among A x Y C 0 = A ++ (x :: (Y ++ C)) by simp [among])
      have HF2 := Lib.hid (show among A x Y C s = A ++ (sorted ([x] ++ Y) ++ C) by rw [HF.out]; simp [among])
      go_wp2_with fail
      go_loopw [13] (fun vk W => ∃ t : Nat, vk = .int .i64 ((a + t : Nat) : Int) ∧ t ≤ s ∧ Row W g cap (among A x Y C t) ∧ Below B w W) (fun vk _ => a + s - (intOf vk).toNat)
      case atStart => exact ⟨0, by simp, Nat.zero_le _, by rw [E0.out]; exact HR.out, HBel.out⟩
      case round =>
        obtain ⟨t, rfl, hts, hR, hB2⟩ := hrel
        have HR2 := Lib.hid hR
        have HB2 := Lib.hid hB2
        clear hR hB2
        by_cases htl : t < s
        · obtain ⟨y, k1, k2, k3, _, _, _⟩ := among_next A x Y C t a (by have := HSl.out; omega) HA.out
          obtain ⟨c0, c1, f0, f1⟩ := HR2.out.at? k1
          obtain ⟨d0, d1, g0, g1⟩ := HR2.out.at? k2
          have hr := HR2.out.swap (a + t) (a + t + 1) x y
          rw [k3] at hr
          have HR4 := Lib.hid hr
          have HB4 := Lib.hid (below_swap HB2.out hB (a + t) (a + t + 1) x y)
          clear k1 k2 k3 hr
          have b1 : a + t < N := by have := HI.out; omega
          have b2 : a + t + 1 < N := by have := HI.out; have := Hma.out; omega
          have hD : ((a + t : Nat) : Int) < ((a + s : Nat) : Int) := by omega
          have s1 : IntKind.i64.wrap (((a + t : Nat) : Int) + 1) = ((a + t + 1 : Nat) : Int) := by rw [IntKind.wrap_i64]; omega
          have hne : a + t ≠ a + t + 1 := by omega
          generalize hp : a + t = p at *
          generalize hq : p + 1 = q at *
          have HP := Lib.hid hp
          have HQ := Lib.hid hq
          clear hp hq
          generalize hz : a + s = z at *
          have HZ := Lib.hid hz
          clear hz
          go_wp2_with fail
          go_region
          go_wp2
          go_roundw
          case rel => exact ⟨t + 1, by have := HP.out; have := HQ.out; first | go_num | (congr 1; omega), by omega, HR4.out, HB4.out⟩
          case measure => have := HZ.out; have := HQ.out; have := HP.out; simp [intOf]; omega
        · obtain rfl : t = s := by omega
          have hD : ¬ ((a + t : Nat) : Int) < ((a + t : Nat) : Int) := by omega
          go_wp2_with fail
          exact bodyPost_ret (v := .tuple #[]) (by simp [results, Try.results70, go_sem]) rfl ⟨rfl, by have := HR2.out; rw [HF2.out] at this; exact this, HB2.out⟩

/-- Where y goes to behind X is looked for: ahead of s none is greater, from t on all are. -/
structure Seek2 (y : Bk) (X : List Bk) (s t : Nat) : Prop where
  st : s ≤ t
  le : t ≤ X.length
  low : ∀ x ∈ X.take s, x.1 ≤ y.1
  high : ∀ x ∈ X.drop t, y.1 < x.1
theorem Seek2.start (y : Bk) (X : List Bk) : Seek2 y X 0 X.length := ⟨Nat.zero_le _, Nat.le_refl _, fun y hy => by simp at hy, fun y hy => by simp at hy⟩
theorem Seek2.up {y : Bk} {X : List Bk} {s t : Nat} (h : Seek2 y X s t) (hX : Rises X) (u : Nat) (hu : u < t) (x : Bk) (hx : X[u]? = some x) (hlt : ¬ y.1 < x.1) : Seek2 y X (u + 1) t :=
  ⟨by omega, h.le, fun z hz => by obtain ⟨i, hi, hz⟩ := take_at hz; have := rises_le hX (show i ≤ u by omega) hz hx; omega, h.high⟩
theorem Seek2.down {y : Bk} {X : List Bk} {s t : Nat} (h : Seek2 y X s t) (hX : Rises X) (u : Nat) (hs : s ≤ u) (hu : u < t) (x : Bk) (hx : X[u]? = some x) (hlt : y.1 < x.1) : Seek2 y X s u :=
  ⟨hs, by have := h.le; omega, h.low, fun z hz => by obtain ⟨i, hi, hz⟩ := drop_at hz; have := rises_le hX hi hx hz; omega⟩

set_option maxRecDepth 100000 in
set_option maxHeartbeats 4000000 in
theorem symMerge_last (g cap N : Nat) (A X : List Bk) (y : Bk) (C : List Bk) (a m b : Nat) (B : Nat) (w : World) (h : Row w g cap (A ++ (X ++ (y :: C)))) (hB : B ≤ g)
    (hN : N = A.length + X.length + 1 + C.length) (ha : a = A.length) (hm : m = A.length + X.length) (hb : b = A.length + X.length + 1) (hbig : N ≤ 1000000000000) (hX : Rises X) (hX2 : 2 ≤ X.length) :
    Calls Try.prog 70 #[.slice (some ⟨g, 0, none⟩) N cap, .int .i64 a, .int .i64 m, .int .i64 b, cmpF] w
      fun e W' => e = .returned (.tuple #[]) ∧ Row W' g cap (A ++ (sorted (X ++ [y]) ++ C)) ∧ Below B w W' := by
  have en : ∀ (args : Array Value) (w : World), (callFunc 35 args).run Try.prog w = .ok (.enter 35 args) w := enters_of Try.func35 (by kernel_rfl) rfl
  have hM := h.len
  have hlN : (A ++ (X ++ (y :: C))).length = N := by simp; omega
  rw [hlN] at hM
  unfold maxLen at hM
  have H := Lib.hid h
  have HA := Lib.hid ha
  have HX := Lib.hid hX
  have HXl := Lib.hid (show X.length = m - a by omega)
  have hma : a + 2 ≤ m := by omega
  have hmN : m < N := by omega
  have s0 : IntKind.i64.wrap ((m : Int) - (a : Int)) = ((m - a : Nat) : Int) := by rw [IntKind.wrap_i64]; omega
  have s1 : (((m - a : Nat) : Int) == 1) = false := beq_false_of_ne (by omega)
  have s2 : IntKind.i64.wrap ((b : Int) - (m : Int)) = 1 := by rw [IntKind.wrap_i64]; omega
  have hym : (A ++ (X ++ (y :: C)))[m]? = some y := by
    have e : A ++ (X ++ (y :: C)) = (A ++ X) ++ y :: C := by simp
    rw [e]; exact row_x _ _ _ _ (by simp; omega)
  have HYM := Lib.hid hym
  clear h hlN ha hm hb hN hX hX2 hym
  generalize m - a = dd at s0 s1
  go_enter Try.func70, Try.ntmps70
  go_wp2_with fail
  go_loopw [14, 15] (fun vi vj W => ∃ (s t : Nat), vi = .int .i64 ((a + s : Nat) : Int) ∧ vj = .int .i64 ((a + t : Nat) : Int) ∧ Seek2 y X s t ∧ Row W g cap (A ++ (X ++ (y :: C))) ∧ Below B w W) (fun vi vj _ => (intOf vj).toNat - (intOf vi).toNat)
  case atStart => exact ⟨0, X.length, by simp, by rw [HXl.out]; congr 2; omega, Seek2.start y X, H.out, Below.refl _ _⟩
  case round =>
    obtain ⟨s, t, rfl, rfl, hS, hR, hBel⟩ := hrel
    have hst := hS.st
    have htl := hS.le
    rw [HXl.out] at htl
    have HS := Lib.hid hS
    have HR := Lib.hid hR
    have HBel := Lib.hid hBel
    clear hS hR hBel
    by_cases hlt : s < t
    · obtain ⟨c, hc, hci, hcj⟩ : ∃ c : Nat, (((a + s : Nat) : Int) + ((a + t : Nat) : Int)) / 2 = (c : Int) ∧ a + s ≤ c ∧ c < a + t := ⟨(a + s + (a + t)) / 2, by omega, by omega, by omega⟩
      have hul : c - a < X.length := by have := HXl.out; omega
      obtain ⟨x, hx⟩ := at_some hul
      have hxr : (A ++ (X ++ (y :: C)))[c]? = some x := by rw [row_y A X (y :: C) (c - a) c hul (by have := HA.out; omega)]; exact hx
      obtain ⟨c0, c1, _, _⟩ := HR.out.at? hxr
      obtain ⟨d0, d1, _, _⟩ := HR.out.at? HYM.out
      have HUp := Lib.hid (HS.out.up HX.out (c - a) (by omega) x hx)
      have HDn := Lib.hid (HS.out.down HX.out (c - a) (by omega) (by omega) x hx)
      have hcN : c < N := by omega
      have E1 := Lib.hid (show a + (c - a + 1) = c + 1 by omega)
      have E2 := Lib.hid (show a + (c - a) = c by omega)
      have hD : ((a + s : Nat) : Int) < ((a + t : Nat) : Int) := by omega
      clear hx hxr hul
      generalize hi : a + s = i at *
      generalize hj : a + t = j at *
      have HI := Lib.hid hi
      have HJ := Lib.hid hj
      clear hi hj
      go_wp2_with fail
      go_region_held3 (fun W => Below wr.heap.size wr W ∧ W.cell? ⟨g, c * 2, none⟩ = some (.int .i64 x.1) ∧ W.cell? ⟨g, c * 2 + 1, none⟩ = some (.int .i64 x.2) ∧ W.cell? ⟨g, m * 2, none⟩ = some (.int .i64 y.1) ∧ W.cell? ⟨g, m * 2 + 1, none⟩ = some (.int .i64 y.2)) (first | exact ⟨(Below.refl _ wr).drew, c0, c1, d0, d1⟩ | exact two_keep (by assumption) hb)
        (first | (go_at_call 35; (with_reducible refine (cmp_any _ _ _).mono ?_); rintro e w3 ⟨rfl, hb⟩))
      rename_i hHeld
      have HR3 := Lib.hid (HR.out.kept hHeld.1)
      have HB3 := Lib.hid (HBel.out.trans (hHeld.1.mono (Nat.le_trans hB (Nat.le_of_lt HR.out.lt))))
      clear hHeld c0 c1 d0 d1 hb HR HBel
      by_cases hless : y.1 < x.1
      · have dl : decide (cmpI y.1 x.1 < 0) = true := decide_eq_true ((cmpI_lt _ _).2 hless)
        have HS' := Lib.hid (HDn.out hless)
        rw [dl]
        clear hless HUp HDn dl
        go_wp2_with fail
        go_roundw
        case rel => exact ⟨s, c - a, by rw [HI.out], by rw [E2.out], HS'.out, HR3.out, HB3.out⟩
        case measure => simp [intOf]; omega
      · have dl : decide (cmpI y.1 x.1 < 0) = false := decide_eq_false fun h => hless ((cmpI_lt _ _).1 h)
        have HS' := Lib.hid (HUp.out (by omega))
        rw [dl]
        clear hless HUp HDn dl
        go_wp2_with fail
        go_roundw
        case rel => exact ⟨c - a + 1, t, by rw [E1.out]; go_num, by rw [HJ.out], HS'.out, HR3.out, HB3.out⟩
        case measure => simp [intOf]; omega
    · obtain rfl : s = t := by omega
      have hsl : s ≤ X.length := HS.out.le
      have HF := Lib.hid (show sorted (X ++ [y]) = X.take s ++ y :: X.drop s by
        have := merge_last y (X.take s) (X.drop s) (by rw [List.take_append_drop]; exact HX.out) HS.out.low HS.out.high
        rwa [List.take_append_drop] at this)
      have HSl := Lib.hid hsl
      have E0 := Lib.hid (show among A y X C X.length = A ++ (X ++ (y :: C)) by simp [among])
      have HF2 := Lib.hid (show among A y X C s = A ++ (sorted (X ++ [y]) ++ C) by rw [HF.out]; simp [among])
      have HML := Lib.hid (show a + X.length = m by have := HXl.out; omega)
      have hsm : a + s ≤ m := by omega
      clear hsl HS HF
      have hD : ¬ ((a + s : Nat) : Int) < ((a + s : Nat) : Int) := by omega
      generalize hi : a + s = i at *
      have HI := Lib.hid hi
      clear hi
      go_wp2_with fail
      go_loopw [17] (fun vk W => ∃ t : Nat, vk = .int .i64 ((a + t : Nat) : Int) ∧ s ≤ t ∧ t ≤ X.length ∧ Row W g cap (among A y X C t) ∧ Below B w W) (fun vk _ => (intOf vk).toNat)
      case atStart => exact ⟨X.length, by rw [HML.out], HSl.out, Nat.le_refl _, by rw [E0.out]; exact HR.out, HBel.out⟩
      case round =>
        obtain ⟨t, rfl, hts, htX, hR, hB2⟩ := hrel
        have HR2 := Lib.hid hR
        have HB2 := Lib.hid hB2
        have HtX := Lib.hid htX
        clear hR hB2 htX
        by_cases htl : s < t
        · obtain ⟨t', rfl⟩ : ∃ t', t = t' + 1 := ⟨t - 1, by omega⟩
          obtain ⟨x, _, _, _, k1, k2, k3⟩ := among_next A y X C t' a (by have := HtX.out; omega) HA.out
          obtain ⟨c0, c1, f0, f1⟩ := HR2.out.at? k1
          obtain ⟨d0, d1, g0, g1⟩ := HR2.out.at? k2
          have hr := HR2.out.swap (a + t' + 1) (a + t') y x
          rw [k3] at hr
          have HR4 := Lib.hid hr
          have HB4 := Lib.hid (below_swap HB2.out hB (a + t' + 1) (a + t') y x)
          clear k1 k2 k3 hr
          have htm : a + t' + 1 ≤ m := by have := HtX.out; have := HXl.out; omega
          have b1 : a + t' < N := by omega
          have b2 : a + t' + 1 < N := by omega
          have hit : i ≤ a + t' := by have := HI.out; omega
          have hne : a + t' + 1 ≠ a + t' := by omega
          have e1 : a + (t' + 1) = a + t' + 1 := by omega
          rw [e1]
          clear e1
          generalize hp : a + t' = p at *
          have s1 : IntKind.i64.wrap (((p + 1 : Nat) : Int) - 1) = (p : Int) := by rw [IntKind.wrap_i64]; omega
          generalize hq : p + 1 = q at *
          have hD : (i : Int) < (q : Int) := by omega
          have HP := Lib.hid hp
          have HQ := Lib.hid hq
          clear hp hq
          go_wp2_with fail
          go_region
          go_wp2
          go_roundw
          case rel => exact ⟨t', by have := HP.out; first | go_num | (congr 1; omega), by omega, by have := HtX.out; omega, HR4.out, HB4.out⟩
          case measure => have := HQ.out; have := HP.out; simp [intOf]; omega
        · obtain rfl : t = s := by omega
          have hE : a + t = i := HI.out
          rw [hE]
          clear hE
          have hD : ¬ (i : Int) < (i : Int) := by omega
          go_wp2_with fail
          exact bodyPost_ret (v := .tuple #[]) (by simp [results, Try.results70, go_sem]) rfl ⟨rfl, by have := HR2.out; rw [HF2.out] at this; exact this, HB2.out⟩
end Go.Proofs.Ytfjpdoamalbpjaa.Pol
