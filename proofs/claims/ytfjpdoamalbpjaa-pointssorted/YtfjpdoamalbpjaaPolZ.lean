/-
  Pools in order: two parts of a row that are in order become one (package slices: symMergeCmpFunc).
-/
import Derived.Test.YtfjpdoamalbpjaaPolY
import Derived.Deep.CutRange
namespace Go.Proofs.Ytfjpdoamalbpjaa.Pol
open Go.RowKit Go.Shelf Rgn

/-- How far X and Y are parted: ahead of s the backends of X are no greater than their fellows in Y, from r on they are greater. -/
structure Sym (X Y : List Bk) (a m n lo hi s r : Nat) : Prop where
  ls : lo ≤ s
  sr : s ≤ r
  rh : r ≤ hi
  low : s = lo ∨ ∃ x y, X[s - 1 - a]? = some x ∧ Y[n - s - m]? = some y ∧ x.1 ≤ y.1
  high : r = hi ∨ ∃ x y, X[r - a]? = some x ∧ Y[n - 1 - r - m]? = some y ∧ y.1 < x.1
theorem Sym.parted {X Y : List Bk} {a m b mid n lo hi s : Nat} (h : Sym X Y a m n lo hi s s) (hX : Rises X) (hY : Rises Y) (hXl : X.length = m - a) (hYl : Y.length = b - m) (hn : n = mid + m) (hmid : mid = (a + b) / 2)
    (hlo : (lo = a ∧ hi = m ∧ m ≤ mid) ∨ (lo + b = n ∧ hi = mid ∧ mid < m)) (ham : a < m) (hmb : m < b) :
    (∀ x ∈ X.take (s - a), ∀ y ∈ Y.drop (n - s - m), x.1 ≤ y.1) ∧ (∀ y ∈ Y.take (n - s - m), ∀ x ∈ X.drop (s - a), y.1 < x.1) := by
  have h1 := h.ls
  have h2 := h.rh
  constructor
  · intro x hx y hy
    obtain ⟨i, hi1, hx⟩ := take_at hx
    obtain ⟨j, hj1, hy⟩ := drop_at hy
    have hil := (List.getElem?_eq_some_iff.1 hx).1
    have hjl := (List.getElem?_eq_some_iff.1 hy).1
    rcases h.low with e | ⟨x', y', hx', hy', hle⟩
    · omega
    · have a1 := rises_le hX (show i ≤ s - 1 - a by omega) hx hx'
      have a2 := rises_le hY hj1 hy' hy
      omega
  · intro y hy x hx
    obtain ⟨i, hi1, hx⟩ := drop_at hx
    obtain ⟨j, hj1, hy⟩ := take_at hy
    have hil := (List.getElem?_eq_some_iff.1 hx).1
    have hjl := (List.getElem?_eq_some_iff.1 hy).1
    rcases h.high with e | ⟨x', y', hx', hy', hlt⟩
    · omega
    · have a1 := rises_le hX hi1 hx' hx
      have a2 := rises_le hY (show j ≤ n - 1 - s - m by omega) hy hy'
      omega

/-- What symMerge does with two parts of at most k backends. -/
def SymOk (k : Nat) : Prop := ∀ (g cap N : Nat) (A X Y C : List Bk) (a m b B : Nat) (w : World), Row w g cap (A ++ (X ++ (Y ++ C))) → B ≤ g →
  N = A.length + X.length + Y.length + C.length → a = A.length → m = A.length + X.length → b = A.length + X.length + Y.length → N ≤ 1000000000000 → Rises X → Rises Y → 0 < X.length → 0 < Y.length → X.length + Y.length ≤ k →
    Calls Try.prog 70 #[.slice (some ⟨g, 0, none⟩) N cap, .int .i64 a, .int .i64 m, .int .i64 b, cmpF] w
      fun e W' => e = .returned (.tuple #[]) ∧ Row W' g cap (A ++ (sorted (X ++ Y) ++ C)) ∧ Below B w W'

set_option maxRecDepth 100000 in
set_option maxHeartbeats 4000000 in
theorem symMerge_more (k : Nat) (ih : SymOk k) (g cap N : Nat) (A X Y C : List Bk) (a m b : Nat) (B : Nat) (w : World) (h : Row w g cap (A ++ (X ++ (Y ++ C)))) (hB : B ≤ g)
    (hN : N = A.length + X.length + Y.length + C.length) (ha : a = A.length) (hm : m = A.length + X.length) (hb : b = A.length + X.length + Y.length) (hbig : N ≤ 1000000000000) (hX : Rises X) (hY : Rises Y) (hX2 : 2 ≤ X.length) (hY2 : 2 ≤ Y.length) (hk : X.length + Y.length = k + 1) :
    Calls Try.prog 70 #[.slice (some ⟨g, 0, none⟩) N cap, .int .i64 a, .int .i64 m, .int .i64 b, cmpF] w
      fun e W' => e = .returned (.tuple #[]) ∧ Row W' g cap (A ++ (sorted (X ++ Y) ++ C)) ∧ Below B w W' := by
  have en : ∀ (args : Array Value) (w : World), (callFunc 35 args).run Try.prog w = .ok (.enter 35 args) w := enters_of Try.func35 (by kernel_rfl) rfl
  have hM := h.len
  have hlN : (A ++ (X ++ (Y ++ C))).length = N := by simp; omega
  rw [hlN] at hM
  unfold maxLen at hM
  have H := Lib.hid h
  have IH := Lib.hid ih
  have HN := Lib.hid hN
  have HA := Lib.hid ha
  have HX := Lib.hid hX
  have HY := Lib.hid hY
  have HXl := Lib.hid (show X.length = m - a by omega)
  have HYl := Lib.hid (show Y.length = b - m by omega)
  have hma : a + 2 ≤ m := by omega
  have hmb : m + 2 ≤ b := by omega
  have hbN : b ≤ N := by omega
  have HK := Lib.hid (show b - a = k + 1 by omega)
  obtain ⟨mid, hmid⟩ : ∃ mid, mid = (a + b) / 2 := ⟨_, rfl⟩
  obtain ⟨n, hn⟩ : ∃ n, n = mid + m := ⟨_, rfl⟩
  have r1 : ((a : Int) + (b : Int)) / 2 = (mid : Int) := by omega
  have r2 : (mid : Int) + (m : Int) = (n : Int) := by omega
  have Hmid := Lib.hid hmid
  have Hn := Lib.hid hn
  have hm1 : a < mid := by omega
  have hm2 : mid < b := by omega
  have hn1 : m ≤ n := by omega
  have hn2 : n ≤ 2000000000000 := by omega
  have s0 : IntKind.i64.wrap ((m : Int) - (a : Int)) = ((m - a : Nat) : Int) := by rw [IntKind.wrap_i64]; omega
  have s1 : (((m - a : Nat) : Int) == 1) = false := beq_false_of_ne (by omega)
  have s2 : IntKind.i64.wrap ((b : Int) - (m : Int)) = ((b - m : Nat) : Int) := by rw [IntKind.wrap_i64]; omega
  have s3 : (((b - m : Nat) : Int) == 1) = false := beq_false_of_ne (by omega)
  clear h hlN ha hm hb hN hX hY hX2 hY2 ih hk
  generalize m - a = dd at s0 s1
  generalize b - m = de at s2 s3
  clear hmid hn
  go_enter Try.func70, Try.ntmps70
  go_upto_if 140 with fail
  go_cut [20, 21] from 138 to 146 (fun s r W => ∃ lo hi : Nat, s = .int .i64 lo ∧ r = .int .i64 hi ∧ ((lo = a ∧ hi = m ∧ m ≤ mid) ∨ (lo + b = n ∧ hi = mid ∧ mid < m)) ∧ w = W)
  case first =>
    by_cases hc : mid < m
    · have hcz : (mid : Int) < (m : Int) := by omega
      have r3 : IntKind.i64.wrap ((n : Int) - (b : Int)) = ((n - b : Nat) : Int) := by have := Hn.out; have := Hmid.out; rw [IntKind.wrap_i64]; omega
      go_wp2_with fail
      go_meet
      exact ⟨n - b, mid, rfl, rfl, Or.inr ⟨by have := Hn.out; have := Hmid.out; omega, rfl, hc⟩, rfl⟩
    · have hcz : ¬ (mid : Int) < (m : Int) := by omega
      go_wp2_with fail
      go_meet
      exact ⟨a, m, rfl, rfl, Or.inl ⟨rfl, rfl, by omega⟩, rfl⟩
  case rest =>
    obtain ⟨lo, hi, rfl, rfl, hlo, rfl⟩ := hcut
    obtain ⟨p, hp⟩ : ∃ p, p + 1 = n := ⟨n - 1, by omega⟩
    have r4 : IntKind.i64.wrap ((n : Int) - 1) = (p : Int) := by rw [IntKind.wrap_i64]; omega
    have HP := Lib.hid hp
    have HLo := Lib.hid hlo
    have hlh : lo ≤ hi ∧ a ≤ lo ∧ hi ≤ m ∧ hi ≤ mid := by have := Hn.out; have := Hmid.out; omega
    have hpc : ∀ c, lo ≤ c → c < hi → m ≤ p - c ∧ p - c < b ∧ c ≤ p := fun c h1 h2 => by have := Hn.out; have := Hmid.out; omega
    have HPC := Lib.hid hpc
    have HS0 := Lib.hid (show Sym X Y a m n lo hi lo hi from ⟨Nat.le_refl _, hlh.1, Nat.le_refl _, Or.inl rfl, Or.inl rfl⟩)
    clear hlo hp hpc
    go_wp2_with fail
    go_loopw [20, 21] (fun vs vr W => ∃ s r : Nat, vs = .int .i64 s ∧ vr = .int .i64 r ∧ Sym X Y a m n lo hi s r ∧ Row W g cap (A ++ (X ++ (Y ++ C))) ∧ Below B w W) (fun vs vr _ => (intOf vr).toNat - (intOf vs).toNat)
    case atStart => exact ⟨lo, hi, rfl, rfl, HS0.out, H.out, Below.refl _ _⟩
    case round =>
      obtain ⟨s, r, rfl, rfl, hS, hR, hBel⟩ := hrel
      have h1 := hS.ls
      have h2 := hS.sr
      have h3 := hS.rh
      have HS := Lib.hid hS
      have HR := Lib.hid hR
      have HBel := Lib.hid hBel
      clear hS hR hBel
      by_cases hlt : s < r
      · obtain ⟨c, hc, hci, hcj⟩ : ∃ c : Nat, ((s : Int) + (r : Int)) / 2 = (c : Int) ∧ s ≤ c ∧ c < r := ⟨(s + r) / 2, by omega, by omega, by omega⟩
        obtain ⟨hq1, hq2, hq3⟩ := HPC.out c (by omega) (by omega)
        have t1 : IntKind.i64.wrap ((p : Int) - (c : Int)) = ((p - c : Nat) : Int) := by rw [IntKind.wrap_i64]; omega
        have hxl : c - a < X.length := by have := HXl.out; omega
        have hyl : p - c - m < Y.length := by have := HYl.out; omega
        obtain ⟨x, hx⟩ := at_some hxl
        obtain ⟨y, hy⟩ := at_some hyl
        have hxr : (A ++ (X ++ (Y ++ C)))[c]? = some x := by rw [row_y A X (Y ++ C) (c - a) c hxl (by have := HA.out; omega)]; exact hx
        have hyr : (A ++ (X ++ (Y ++ C)))[p - c]? = some y := by
          have e : A ++ (X ++ (Y ++ C)) = (A ++ X) ++ (Y ++ C) := by simp
          rw [e, row_y (A ++ X) Y C (p - c - m) (p - c) hyl (by have := HA.out; have := HXl.out; simp; omega)]; exact hy
        obtain ⟨c0, c1, _, _⟩ := HR.out.at? hxr
        obtain ⟨d0, d1, _, _⟩ := HR.out.at? hyr
        have HUp := Lib.hid (show ¬ y.1 < x.1 → Sym X Y a m n lo hi (c + 1) r from fun hn => ⟨by omega, by omega, h3, Or.inr ⟨x, y, by rw [show c + 1 - 1 - a = c - a by omega]; exact hx, by rw [show n - (c + 1) - m = p - c - m by have := HP.out; omega]; exact hy, by omega⟩, HS.out.high⟩)
        have HDn := Lib.hid (show y.1 < x.1 → Sym X Y a m n lo hi s c from fun hn => ⟨h1, by omega, by omega, HS.out.low, Or.inr ⟨x, y, hx, by rw [show n - 1 - c - m = p - c - m by have := HP.out; omega]; exact hy, hn⟩⟩)
        have hcN : c < N := by omega
        have hqN : p - c < N := by omega
        have hD : (s : Int) < (r : Int) := by omega
        clear hx hy hxr hyr hxl hyl
        generalize p - c = q at *
        go_wp2_with fail
        go_region_held3 (fun W => Below wr.heap.size wr W ∧ W.cell? ⟨g, c * 2, none⟩ = some (.int .i64 x.1) ∧ W.cell? ⟨g, c * 2 + 1, none⟩ = some (.int .i64 x.2) ∧ W.cell? ⟨g, q * 2, none⟩ = some (.int .i64 y.1) ∧ W.cell? ⟨g, q * 2 + 1, none⟩ = some (.int .i64 y.2)) (first | exact ⟨(Below.refl _ wr).drew, c0, c1, d0, d1⟩ | exact two_keep (by assumption) hb)
          (first | (go_at_call 35; (with_reducible refine (cmp_any _ _ _).mono ?_); rintro e w3 ⟨rfl, hb⟩))
        rename_i hHeld
        have HR3 := Lib.hid (HR.out.kept hHeld.1)
        have HB3 := Lib.hid (HBel.out.trans (hHeld.1.mono (Nat.le_trans hB (Nat.le_of_lt HR.out.lt))))
        clear hHeld c0 c1 d0 d1 hb HR HBel
        by_cases hless : y.1 < x.1
        · have dl : decide (cmpI y.1 x.1 < 0) = true := decide_eq_true ((cmpI_lt _ _).2 hless)
          have HS' := Lib.hid (HDn.out hless)
          rw [dl]
          clear hless HUp HDn dl
          go_wp2_with fail
          go_roundw
          case rel => exact ⟨s, c, rfl, rfl, HS'.out, HR3.out, HB3.out⟩
          case measure => simp [intOf]; omega
        · have dl : decide (cmpI y.1 x.1 < 0) = false := decide_eq_false fun h => hless ((cmpI_lt _ _).1 h)
          have HS' := Lib.hid (HUp.out (by omega))
          rw [dl]
          clear hless HUp HDn dl
          go_wp2_with fail
          go_roundw
          case rel => exact ⟨c + 1, r, by go_num, rfl, HS'.out, HR3.out, HB3.out⟩
          case measure => simp [intOf]; omega
      · obtain rfl : s = r := by omega
        have hpart := HS.out.parted (b := b) (mid := mid) HX.out HY.out HXl.out HYl.out Hn.out Hmid.out HLo.out (by omega) (by omega)
        obtain ⟨e, he⟩ : ∃ e, e + s = n := ⟨n - s, by have := Hn.out; omega⟩
        have hee : n - s = e := by omega
        rw [hee] at hpart
        have r5 : IntKind.i64.wrap ((n : Int) - (s : Int)) = (e : Int) := by rw [IntKind.wrap_i64]; omega
        have he1 : m ≤ e ∧ e ≤ b ∧ e + s = mid + m := by have := Hn.out; have := Hmid.out; have := HLo.out; omega
        have eX : X = X.take (s - a) ++ X.drop (s - a) := (List.take_append_drop _ _).symm
        have eY : Y = Y.take (e - m) ++ Y.drop (e - m) := (List.take_append_drop _ _).symm
        have l1 : (X.take (s - a)).length = s - a := by have := HXl.out; simp; omega
        have l2 : (X.drop (s - a)).length = m - s := by have := HXl.out; simp; omega
        have l3 : (Y.take (e - m)).length = e - m := by have := HYl.out; simp; omega
        have l4 : (Y.drop (e - m)).length = b - e := by have := HYl.out; simp; omega
        have hRow := HR.out
        have hX := HX.out
        have hY := HY.out
        rw [eX] at hX
        rw [eY] at hY
        rw [eX, eY] at hRow
        have hfin := merge_two _ _ _ _ hX hY hpart.1 hpart.2
        rw [← eX, ← eY] at hfin
        have HNl := Lib.hid (show N = a + (m - a) + (b - m) + C.length by have := HN.out; have := HA.out; have := HXl.out; have := HYl.out; omega)
        clear HR HS HX HY HXl HYl hpart eX eY
        generalize X.take (s - a) = X1 at *
        generalize X.drop (s - a) = X2 at *
        generalize Y.take (e - m) = Y1 at *
        generalize Y.drop (e - m) = Y2 at *
        have hRow2 : Row wr g cap ((A ++ X1) ++ (X2 ++ (Y1 ++ (Y2 ++ C)))) := by
          have : (A ++ X1) ++ (X2 ++ (Y1 ++ (Y2 ++ C))) = A ++ ((X1 ++ X2) ++ ((Y1 ++ Y2) ++ C)) := by simp
          rw [this]; exact hRow
        have HR := Lib.hid hRow2
        have HF := Lib.hid hfin
        have HX1 := Lib.hid (show Rises X1 from (List.pairwise_append.1 hX).1)
        have HX2 := Lib.hid (show Rises X2 from (List.pairwise_append.1 hX).2.1)
        have HY1 := Lib.hid (show Rises Y1 from (List.pairwise_append.1 hY).1)
        have HY2 := Lib.hid (show Rises Y2 from (List.pairwise_append.1 hY).2.1)
        have L := Lib.hid (show X1.length = s - a ∧ X2.length = m - s ∧ Y1.length = e - m ∧ Y2.length = b - e from ⟨l1, l2, l3, l4⟩)
        have HE := Lib.hid he
        clear hRow hRow2 hfin hX hY l1 l2 l3 l4 he hee
        go_upto_region 39 with fail
        go_cut [185] from 178 to 185 (fun v W => v = .bool (decide (s < m ∧ m < e)) ∧ wr = W)
        case first =>
          by_cases hc : s < m
          · by_cases hd : m < e
            · have z1 : (s : Int) < (m : Int) := by omega
              have z2 : (m : Int) < (e : Int) := by omega
              go_wp2_with fail
              go_meet
              exact ⟨by simp [hc, hd], rfl⟩
            · have z1 : (s : Int) < (m : Int) := by omega
              have z2 : ¬ (m : Int) < (e : Int) := by omega
              go_wp2_with fail
              go_meet
              exact ⟨by simp [hd], rfl⟩
          · have z1 : ¬ (s : Int) < (m : Int) := by omega
            go_wp2_with fail
            go_meet
            exact ⟨by simp [hc], rfl⟩
        case rest =>
        obtain ⟨rfl, rfl⟩ := hcut
        go_upto_if 185 with fail
        go_cut [] from 185 to 191 (fun W => Row W g cap (A ++ (X1 ++ (Y1 ++ (X2 ++ (Y2 ++ C))))) ∧ Below B w W)
        case first =>
          by_cases hc : s < m ∧ m < e
          · have hv : decide (s < m ∧ m < e) = true := decide_eq_true hc
            rw [hv]
            clear hv
            have RT := Lib.hid (rotate_any g cap N (A ++ X1) X2 Y1 (Y2 ++ C) s m e cmpF B wr HR.out hB (by have := HNl.out; have := HA.out; have := L.out; simp; omega) (by have := HA.out; have := L.out; simp; omega) (by have := HA.out; have := L.out; simp; omega) (by have := HA.out; have := L.out; simp; omega) (by have := L.out; omega) (by have := L.out; omega))
            clear hc
            go_wp2_with fail
            refine RT.out.mono ?_
            rintro e2 w3 ⟨rfl, hr3, hb3⟩
            have HR3 := Lib.hid hr3
            have HB3 := Lib.hid (HBel.out.trans hb3)
            clear hr3 hb3 RT
            go_wp2_with fail
            go_meet
            exact ⟨by have := HR3.out; rwa [List.append_assoc] at this, HB3.out⟩
          · have hv : decide (s < m ∧ m < e) = false := decide_eq_false hc
            rw [hv]
            clear hv
            have HR3 := Lib.hid (show Row wr g cap (A ++ (X1 ++ (Y1 ++ (X2 ++ (Y2 ++ C))))) by
              have h0 := HR.out
              have hL := L.out
              by_cases hs : s < m
              · have : Y1 = [] := List.eq_nil_of_length_eq_zero (by omega)
                subst this; simpa using h0
              · have : X2 = [] := List.eq_nil_of_length_eq_zero (by omega)
                subst this; simpa using h0)
            clear hc
            go_wp2_with fail
            go_meet
            exact ⟨HR3.out, HBel.out⟩
        case rest =>
        have HR4 := Lib.hid hcut.1
        have HB4 := Lib.hid hcut.2
        clear hcut HR HBel
        go_upto_region 41 with fail
        go_cut [199] from 192 to 199 (fun v W => v = .bool (decide (a < s ∧ s < mid)) ∧ wc = W)
        case first =>
          by_cases hc : a < s
          · by_cases hd : s < mid
            · have z1 : (a : Int) < (s : Int) := by omega
              have z2 : (s : Int) < (mid : Int) := by omega
              go_wp2_with fail
              go_meet
              exact ⟨by simp [hc, hd], rfl⟩
            · have z1 : (a : Int) < (s : Int) := by omega
              have z2 : ¬ (s : Int) < (mid : Int) := by omega
              go_wp2_with fail
              go_meet
              exact ⟨by simp [hd], rfl⟩
          · have z1 : ¬ (a : Int) < (s : Int) := by omega
            go_wp2_with fail
            go_meet
            exact ⟨by simp [hc], rfl⟩
        case rest =>
        obtain ⟨rfl, rfl⟩ := hcut
        go_upto_if 199 with fail
        go_cut [] from 199 to 205 (fun W => Row W g cap (A ++ (sorted (X1 ++ Y1) ++ (X2 ++ (Y2 ++ C)))) ∧ Below B w W)
        case first =>
          by_cases hc : a < s ∧ s < mid
          · have hv : decide (a < s ∧ s < mid) = true := decide_eq_true hc
            rw [hv]
            clear hv
            have RT := Lib.hid (IH.out g cap N A X1 Y1 (X2 ++ (Y2 ++ C)) a s mid B wc HR4.out hB (by have := HNl.out; have := HA.out; have := L.out; simp; omega) HA.out (by have := HA.out; have := L.out; omega) (by have := HA.out; have := L.out; omega) hbig HX1.out HY1.out (by have := L.out; omega) (by have := L.out; omega) (by have := L.out; have := HK.out; omega))
            clear hc
            go_wp2_with fail
            refine RT.out.mono ?_
            rintro e2 w3 ⟨rfl, hr3, hb3⟩
            have HR3 := Lib.hid hr3
            have HB3 := Lib.hid (HB4.out.trans hb3)
            clear hr3 hb3 RT
            go_wp2_with fail
            go_meet
            exact ⟨HR3.out, HB3.out⟩
          · have hv : decide (a < s ∧ s < mid) = false := decide_eq_false hc
            rw [hv]
            clear hv
            have HR3 := Lib.hid (show Row wc g cap (A ++ (sorted (X1 ++ Y1) ++ (X2 ++ (Y2 ++ C)))) by
              have h0 := HR4.out
              have hL := L.out
              by_cases hs : a < s
              · have : Y1 = [] := List.eq_nil_of_length_eq_zero (by omega)
                subst this
                rw [List.append_nil, sorted_self _ HX1.out]; simpa using h0
              · have : X1 = [] := List.eq_nil_of_length_eq_zero (by omega)
                subst this
                rw [List.nil_append, sorted_self _ HY1.out]; simpa using h0)
            clear hc
            go_wp2_with fail
            go_meet
            exact ⟨HR3.out, HB4.out⟩
        case rest =>
        have HR5 := Lib.hid hcut.1
        have HB5 := Lib.hid hcut.2
        clear hcut HR4 HB4
        go_upto_region 43 with fail
        go_cut [213] from 206 to 213 (fun v W => v = .bool (decide (mid < e ∧ e < b)) ∧ wc = W)
        case first =>
          by_cases hc : mid < e
          · by_cases hd : e < b
            · have z1 : (mid : Int) < (e : Int) := by omega
              have z2 : (e : Int) < (b : Int) := by omega
              go_wp2_with fail
              go_meet
              exact ⟨by simp [hc, hd], rfl⟩
            · have z1 : (mid : Int) < (e : Int) := by omega
              have z2 : ¬ (e : Int) < (b : Int) := by omega
              go_wp2_with fail
              go_meet
              exact ⟨by simp [hd], rfl⟩
          · have z1 : ¬ (mid : Int) < (e : Int) := by omega
            go_wp2_with fail
            go_meet
            exact ⟨by simp [hc], rfl⟩
        case rest =>
        obtain ⟨rfl, rfl⟩ := hcut
        have HSl := Lib.hid (show (sorted (X1 ++ Y1)).length = mid - a by have := L.out; rw [sorted_length]; simp; omega)
        by_cases hc : mid < e ∧ e < b
        · have hv : decide (mid < e ∧ e < b) = true := decide_eq_true hc
          rw [hv]
          clear hv
          have h0 : Row wc g cap ((A ++ sorted (X1 ++ Y1)) ++ (X2 ++ (Y2 ++ C))) := by have := HR5.out; rwa [← List.append_assoc] at this
          have RT := Lib.hid (IH.out g cap N (A ++ sorted (X1 ++ Y1)) X2 Y2 C mid e b B wc h0 hB (by have := HNl.out; have := HA.out; have := L.out; have := HSl.out; simp; omega) (by have := HA.out; have := HSl.out; simp; omega) (by have := HA.out; have := L.out; have := HSl.out; simp; omega) (by have := HA.out; have := L.out; have := HSl.out; simp; omega) hbig HX2.out HY2.out (by have := L.out; omega) (by have := L.out; omega) (by have := L.out; have := HK.out; omega))
          clear hc h0
          go_wp2_with fail
          refine RT.out.mono ?_
          rintro e2 w3 ⟨rfl, hr3, hb3⟩
          have HR3 := Lib.hid hr3
          have HB3 := Lib.hid (HB5.out.trans hb3)
          clear hr3 hb3 RT
          go_wp2_with fail
          go_end0
          exact ⟨rfl, by have := HR3.out; rw [HF.out]; simpa using this, HB3.out⟩
        · have hv : decide (mid < e ∧ e < b) = false := decide_eq_false hc
          rw [hv]
          clear hv
          have HR3 := Lib.hid (show Row wc g cap (A ++ (sorted (X1 ++ Y1) ++ (sorted (X2 ++ Y2) ++ C))) by
            have h0 := HR5.out
            have hL := L.out
            by_cases hs : mid < e
            · have : Y2 = [] := List.eq_nil_of_length_eq_zero (by omega)
              subst this
              rw [List.append_nil, sorted_self _ HX2.out]; simpa using h0
            · have : X2 = [] := List.eq_nil_of_length_eq_zero (by omega)
              subst this
              rw [List.nil_append, sorted_self _ HY2.out]; simpa using h0)
          clear hc
          go_wp2_with fail
          go_end0
          exact ⟨rfl, by have := HR3.out; rw [HF.out]; simpa using this, HB5.out⟩

theorem symMerge_all : ∀ k, SymOk k := by
  intro k
  induction k with
  | zero => intro g cap N A X Y C a m b B w _ _ _ _ _ _ _ _ _ h1 _ h3; omega
  | succ k ih =>
    intro g cap N A X Y C a m b B w h hB hN ha hm hb hbig hX hY hX0 hY0 hk
    by_cases hle : X.length + Y.length ≤ k
    · exact ih g cap N A X Y C a m b B w h hB hN ha hm hb hbig hX hY hX0 hY0 hle
    · by_cases h1 : X.length = 1
      · obtain ⟨x, rfl⟩ := List.length_eq_one_iff.1 h1
        exact symMerge_first g cap N A x Y C a m b B w h hB (by simpa using hN) ha (by simpa using hm) (by simpa using hb) hbig hY
      · by_cases h2 : Y.length = 1
        · obtain ⟨y, rfl⟩ := List.length_eq_one_iff.1 h2
          exact symMerge_last g cap N A X y C a m b B w h hB (by simpa using hN) ha hm (by simpa using hb) hbig hX (by omega)
        · exact symMerge_more k ih g cap N A X Y C a m b B w h hB hN ha hm hb hbig hX hY (by omega) (by omega) (by omega)
end Go.Proofs.Ytfjpdoamalbpjaa.Pol
