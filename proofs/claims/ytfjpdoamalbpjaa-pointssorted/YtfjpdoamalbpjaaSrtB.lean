/-
  Pools in order: package slices' SortStableFunc, and package pool's Sorted.
-/
import Derived.Test.YtfjpdoamalbpjaaPolZ
import Derived.Test.YtfjpdoamalbpjaaSrtA
namespace Go.Proofs.Ytfjpdoamalbpjaa.Pol
open Go.RowKit Go.Shelf Rgn

theorem seg_two (es : List Bk) (a m b : Nat) (h1 : a ≤ m) (h2 : m ≤ b) : es.take a ++ (seg es a m ++ (seg es m b ++ es.drop b)) = es := by
  have e := parts es a b (by omega)
  rw [parts2 es a m b h1 h2] at e
  conv => rhs; rw [e]
  simp
/-- A part of a row is sorted. -/
theorem insertion_seg (g cap N : Nat) (es : List Bk) (a b : Nat) (B : Nat) (w : World) (h : Row w g cap es) (hB : B ≤ g) (hN : N = es.length) (hab : a ≤ b) (hb : b ≤ N) (hbig : N ≤ 1000000000000) :
    Calls Try.prog 69 #[.slice (some ⟨g, 0, none⟩) N cap, .int .i64 a, .int .i64 b, cmpF] w
      fun e W' => e = .returned (.tuple #[]) ∧ Row W' g cap (upd es (sorted (seg es a b)) a b) ∧ Below B w W' := by
  have e := parts es a b hab
  rw [e] at h
  have hs := seg_length es a b (by omega)
  exact insertion_any g cap N (es.take a) (seg es a b) (es.drop b) a b B w h hB (by rw [hs]; simp; omega) (by simp; omega) (by rw [hs]; simp; omega) hbig
/-- Two parts of a row that are in order become one. -/
theorem symMerge_seg (g cap N : Nat) (es : List Bk) (a m b : Nat) (B : Nat) (w : World) (h : Row w g cap es) (hB : B ≤ g) (hN : N = es.length) (ham : a < m) (hmb : m < b) (hb : b ≤ N) (hbig : N ≤ 1000000000000) (h1 : Rises (seg es a m)) (h2 : Rises (seg es m b)) :
    Calls Try.prog 70 #[.slice (some ⟨g, 0, none⟩) N cap, .int .i64 a, .int .i64 m, .int .i64 b, cmpF] w
      fun e W' => e = .returned (.tuple #[]) ∧ Row W' g cap (upd es (sorted (seg es a b)) a b) ∧ Below B w W' := by
  have e := seg_two es a m b (by omega) (by omega)
  rw [← e] at h
  have l1 := seg_length es a m (by omega)
  have l2 := seg_length es m b (by omega)
  have l3 : (es.take a).length = a := by simp; omega
  have l4 : (es.drop b).length = N - b := by simp; omega
  have := symMerge_all _ g cap N (es.take a) (seg es a m) (seg es m b) (es.drop b) a m b B w h hB (by omega) (by omega) (by omega) (by omega) hbig h1 h2 (by omega) (by omega) (Nat.le_refl _)
  rw [← parts2 es a m b (by omega) (by omega)] at this
  exact this

set_option maxRecDepth 100000 in
set_option maxHeartbeats 4000000 in
theorem stable_any (g cap N : Nat) (ds : List Bk) (B : Nat) (w : World) (h : Row w g cap ds) (hB : B ≤ g) (hN : N = ds.length) (hbig : N ≤ 1000000000) :
    Calls Try.prog 54 #[.slice (some ⟨g, 0, none⟩) N cap, .int .i64 N, cmpF] w
      fun e W' => e = .returned (.tuple #[]) ∧ Row W' g cap (sorted ds) ∧ Below B w W' := by
  have H := Lib.hid h
  have HN := Lib.hid hN
  clear h hN
  go_enter Try.func54, Try.ntmps54
  go_wp2_with fail
  go_loopw [7, 8] (fun va vb W => ∃ (a : Nat) (es : List Bk), va = .int .i64 a ∧ vb = .int .i64 ((a + 20 : Nat) : Int) ∧ a ≤ N ∧ es.length = N ∧ Ranked ds es 20 a ∧ Row W g cap es ∧ Below B w W) (fun va _ _ => N - (intOf va).toNat)
  case atStart => exact ⟨0, ds, rfl, rfl, Nat.zero_le _, HN.out.symm, Ranked.start ds 20, H.out, Below.refl _ _⟩
  case round =>
    obtain ⟨a, es, rfl, rfl, haN, hes, hK, hR, hBel⟩ := hrel
    have HE := Lib.hid hes
    have HK := Lib.hid hK
    have HR := Lib.hid hR
    have HBel := Lib.hid hBel
    clear hes hK hR hBel
    by_cases hlt : a + 20 ≤ N
    · have IS := Lib.hid (insertion_seg g cap N es a (a + 20) B wr HR.out hB HE.out.symm (by omega) hlt (by omega))
      have HK' := Lib.hid (HK.out.next (by rw [HE.out]; exact hlt))
      have HE' := Lib.hid (show (upd es (sorted (seg es a (a + 20))) a (a + 20)).length = N by rw [upd_length _ _ _ _ (by omega) (by rw [HE.out]; exact hlt) (by rw [sorted_length, seg_length _ _ _ (by rw [HE.out]; exact hlt)])]; exact HE.out)
      have hD : ((a + 20 : Nat) : Int) ≤ (N : Int) := by omega
      generalize upd es (sorted (seg es a (a + 20))) a (a + 20) = es' at *
      generalize hb : a + 20 = b at *
      have HBb := Lib.hid hb
      clear hb
      go_wp2_with fail
      refine IS.out.mono ?_
      rintro e w2 ⟨rfl, hr2, hb2⟩
      have HR2 := Lib.hid hr2
      have HB2 := Lib.hid (HBel.out.trans hb2)
      clear hr2 hb2 IS
      go_wp2_with fail
      go_roundw
      case rel => exact ⟨b, es', rfl, by go_num, hlt, HE'.out, HK'.out, HR2.out, HB2.out⟩
      case measure => have := HBb.out; simp [intOf]; omega
    · have IS := Lib.hid (insertion_seg g cap N es a N B wr HR.out hB HE.out.symm haN (Nat.le_refl _) (by omega))
      have HK' := Lib.hid (show Ranked2 ds (upd es (sorted (seg es a N)) a N) 20 20 0 by have := HK.out.last (by rw [HE.out]; exact haN); rwa [HE.out] at this)
      have hD : ¬ ((a + 20 : Nat) : Int) ≤ (N : Int) := by omega
      generalize upd es (sorted (seg es a N)) a N = es1 at *
      generalize a + 20 = b at *
      go_wp2_with fail
      refine IS.out.mono ?_
      rintro e w2 ⟨rfl, hr2, hb2⟩
      have HR2 := Lib.hid hr2
      have HB2 := Lib.hid (HBel.out.trans hb2)
      clear hr2 hb2 IS HR HBel HE HK
      go_wp2_with fail
      go_loopw [6] (fun vk W => ∃ (k : Nat) (es : List Bk), vk = .int .i64 k ∧ 20 ≤ k ∧ k ≤ 4000000000 ∧ Ranked2 ds es k k 0 ∧ Row W g cap es ∧ Below B w W) (fun vk _ => N - (intOf vk).toNat)
      case atStart => exact ⟨20, es1, rfl, Nat.le_refl _, by omega, HK'.out, HR2.out, HB2.out⟩
      case round =>
        obtain ⟨k, es2, rfl, hk20, hkb, hK, hR, hBel⟩ := hrel
        have HE := Lib.hid (show es2.length = N by rw [hK.len, ← HN.out])
        have HK := Lib.hid hK
        have HR := Lib.hid hR
        have HBel := Lib.hid hBel
        clear hK hR hBel HR2 HB2 HK'
        by_cases hkN : k < N
        · have hD1 : (k : Int) < (N : Int) := by omega
          have HK0 := Lib.hid HK.out.begin
          obtain ⟨d, hd⟩ : ∃ d, d = 2 * k := ⟨_, rfl⟩
          have q1 : IntKind.i64.wrap (2 * (k : Int)) = (d : Int) := by rw [IntKind.wrap_i64]; omega
          have q2 : IntKind.i64.wrap ((k : Int) * 2) = (d : Int) := by rw [IntKind.wrap_i64]; omega
          have HD := Lib.hid hd
          clear hd
          go_wp2_with fail
          go_loopw [7, 8] (fun va vb W => ∃ (a : Nat) (es : List Bk), va = .int .i64 a ∧ vb = .int .i64 ((a + d : Nat) : Int) ∧ a ≤ N ∧ es.length = N ∧ Ranked2 ds es k (2 * k) a ∧ Row W g cap es ∧ Below B w W) (fun va _ _ => N - (intOf va).toNat)
          case atStart => exact ⟨0, es2, rfl, by simp, Nat.zero_le _, HE.out, HK0.out, HR.out, HBel.out⟩
          case round =>
            obtain ⟨a2, es3, rfl, rfl, haN2, hes3, hK3, hR3, hBel3⟩ := hrel
            have HE3 := Lib.hid hes3
            have HK3 := Lib.hid hK3
            have HR3 := Lib.hid hR3
            have HBel3 := Lib.hid hBel3
            clear hes3 hK3 hR3 hBel3
            have HDk := HD.out
            by_cases hlt2 : a2 + d ≤ N
            · have SM0 := symMerge_seg g cap N es3 a2 (a2 + k) (a2 + d) B wr HR3.out hB HE3.out.symm (by omega) (by omega) hlt2 (by omega) (HK3.out.rises (Or.inl rfl) (Nat.le_refl _)) (HK3.out.rises (Or.inr rfl) (by omega))
              have HK' := Lib.hid (show Ranked2 ds (upd es3 (sorted (seg es3 a2 (a2 + d))) a2 (a2 + d)) k (2 * k) (a2 + d) by rw [HDk]; exact HK3.out.next (by rw [HE3.out]; omega))
              have HE' := Lib.hid (show (upd es3 (sorted (seg es3 a2 (a2 + d))) a2 (a2 + d)).length = N by rw [upd_length _ _ _ _ (by omega) (by rw [HE3.out]; exact hlt2) (by rw [sorted_length, seg_length _ _ _ (by rw [HE3.out]; exact hlt2)])]; exact HE3.out)
              rw [show ((a2 + k : Nat) : Int) = (a2 : Int) + (k : Int) by omega] at SM0
              have SM := Lib.hid SM0
              have hDD : ((a2 + d : Nat) : Int) ≤ (N : Int) := by omega
              have hd20 : 40 ≤ d := by omega
              have hdb : d ≤ 4000000000 := by omega
              clear SM0 HDk
              generalize upd es3 (sorted (seg es3 a2 (a2 + d))) a2 (a2 + d) = es' at *
              generalize hb : a2 + d = b2 at *
              have HBb := Lib.hid hb
              clear hb
              go_wp2_with fail
              refine SM.out.mono ?_
              rintro e w2 ⟨rfl, hr2, hb2⟩
              have HR4 := Lib.hid hr2
              have HB4 := Lib.hid (HBel3.out.trans hb2)
              clear hr2 hb2 SM
              go_wp2_with fail
              go_roundw
              case rel => exact ⟨b2, es', rfl, by go_num, hlt2, HE'.out, HK'.out, HR4.out, HB4.out⟩
              case measure => have := HBb.out; simp [intOf]; omega
            · have hDD : ¬ ((a2 + d : Nat) : Int) ≤ (N : Int) := by omega
              have hdb : d ≤ 4000000000 := by omega
              have hd20 : 40 ≤ d := by omega
              have HNk := Lib.hid (show N - d < N - k by omega)
              by_cases hm : a2 + k < N
              · have SM0 := symMerge_seg g cap N es3 a2 (a2 + k) N B wr HR3.out hB HE3.out.symm (by omega) hm (Nat.le_refl _) (by omega) (HK3.out.rises (Or.inl rfl) (Nat.le_refl _)) (HK3.out.rises (Or.inr rfl) (by omega))
                have HK' := Lib.hid (show Ranked2 ds (upd es3 (sorted (seg es3 a2 N)) a2 N) d d 0 by rw [HDk]; have := HK3.out.done (by rw [HE3.out]; exact haN2); rwa [HE3.out] at this)
                rw [show ((a2 + k : Nat) : Int) = (a2 : Int) + (k : Int) by omega] at SM0
                have SM := Lib.hid SM0
                have hmz : (a2 : Int) + (k : Int) < (N : Int) := by omega
                clear SM0 HDk
                generalize upd es3 (sorted (seg es3 a2 N)) a2 N = es' at *
                generalize a2 + d = b2 at *
                go_wp2_with fail
                refine SM.out.mono ?_
                rintro e w2 ⟨rfl, hr2, hb2⟩
                have HR4 := Lib.hid hr2
                have HB4 := Lib.hid (HBel3.out.trans hb2)
                clear hr2 hb2 SM
                go_wp2_with fail
                go_roundw
                case rel => exact ⟨d, es', rfl, by omega, hdb, HK'.out, HR4.out, HB4.out⟩
                case measure => have := HNk.out; simp [intOf]; omega
              · have HK' := Lib.hid (show Ranked2 ds es3 d d 0 by rw [HDk]; exact HK3.out.short (by rw [HE3.out]; omega))
                have hmz : ¬ (a2 : Int) + (k : Int) < (N : Int) := by omega
                clear HDk
                generalize a2 + d = b2 at *
                go_wp2_with fail
                go_roundw
                case rel => exact ⟨d, es3, rfl, by omega, hdb, HK'.out, HR3.out, HBel3.out⟩
                case measure => have := HNk.out; simp [intOf]; omega
        · have hD1 : ¬ (k : Int) < (N : Int) := by omega
          have HF := Lib.hid (HK.out.sorted (by rw [HE.out]; omega))
          go_wp2_with fail
          go_end0
          exact ⟨rfl, by rw [← HF.out]; exact HR.out, HBel.out⟩

set_option maxHeartbeats 2000000 in
theorem insertion_none (a : Option Addr) (cap : Nat) (w : World) :
    Calls Try.prog 69 #[.slice a 0 cap, .int .i64 0, .int .i64 0, cmpF] w fun e W' => e = .returned (.tuple #[]) ∧ w = W' := by
  go_enter Try.func69, Try.ntmps69
  go_wp2_with fail
  refine wp_loop_rounds 1 ?_
  rw [rounds_succ]
  go_wp2_with fail
  go_end0
  exact ⟨rfl, rfl⟩
set_option maxHeartbeats 2000000 in
theorem stable_none (a : Option Addr) (cap : Nat) (w : World) :
    Calls Try.prog 54 #[.slice a 0 cap, .int .i64 0, cmpF] w fun e W' => e = .returned (.tuple #[]) ∧ w = W' := by
  have I := Lib.hid (insertion_none a cap w)
  go_enter Try.func54, Try.ntmps54
  go_wp2_with fail
  refine wp_loop_rounds 1 ?_
  rw [rounds_succ]
  go_wp2_with fail
  refine I.out.mono ?_
  rintro e w1 ⟨rfl, rfl⟩
  go_wp2_with fail
  refine wp_loop_rounds 1 ?_
  rw [rounds_succ]
  go_wp2_with fail
  go_end0
  exact ⟨rfl, rfl⟩

set_option maxHeartbeats 2000000 in
theorem SortStable_any (a : Option Addr) (cap : Nat) (ds : List Bk) (B : Nat) (w : World) (h : Own B w (polV a cap ds) ds) (hbig : ds.length ≤ 1000000000) :
    Calls Try.prog 34 #[polV a cap ds, cmpF] w fun e W' => e = .returned (.tuple #[]) ∧ Gives W' (polV a cap ds) (sorted ds) ∧ Below B w W' := by
  by_cases hn : ds = []
  · subst hn
    obtain ⟨a', cap', e, hL⟩ := h.lies
    have e' : a = a' ∧ cap = cap' := by cases e; exact ⟨rfl, rfl⟩
    obtain ⟨rfl, rfl⟩ := e'
    have I := Lib.hid (stable_none a cap w)
    have HL := Lib.hid hL
    clear h e hL
    go_enter Try.func34, Try.ntmps34
    go_wp2_with fail
    refine I.out.mono ?_
    rintro e w1 ⟨rfl, rfl⟩
    go_wp2_with fail
    go_end0
    exact ⟨rfl, ⟨a, cap, rfl, HL.out⟩, Below.refl _ _⟩
  · obtain ⟨g, cap', e, hB, hR⟩ := h.row hn
    have e' : a = some ⟨g, 0, none⟩ ∧ cap = cap' := by cases e; exact ⟨rfl, rfl⟩
    obtain ⟨rfl, rfl⟩ := e'
    have I := Lib.hid (stable_any g cap ds.length ds B w hR hB rfl hbig)
    have HL := Lib.hid (sorted_length ds)
    clear h e hR
    go_enter Try.func34, Try.ntmps34
    go_wp2_with fail
    refine I.out.mono ?_
    rintro e w1 ⟨rfl, hr, hb⟩
    have HR := Lib.hid hr
    have HB := Lib.hid hb
    clear hr hb I
    go_wp2_with fail
    go_end0
    exact ⟨rfl, ⟨_, cap, by show Value.slice _ ds.length _ = Value.slice _ (sorted ds).length _; rw [HL.out], HR.out.lies⟩, HB.out⟩

set_option maxHeartbeats 2000000 in
theorem Sorted_told (a : Option Addr) (cap : Nat) (bs : List Bk) (w : World) (h : Lies w a cap bs) (hl : bs.length ≤ 1000000000) :
    Calls Try.prog 19 #[polV a cap bs] w fun e W' => ∃ v, e = .returned v ∧ Gives W' v (sorted bs) ∧ Below w.heap.size w W' := by
  have C := Lib.hid (Clone_any a cap bs w h (by omega))
  clear h
  go_enter Try.func19, Try.ntmps19
  go_wp2_with fail
  refine C.out.mono ?_
  rintro e w1 ⟨v, rfl, ho, hb⟩
  obtain ⟨a', cap', rfl, hL⟩ := ho.lies
  have S := Lib.hid (SortStable_any a' cap' bs w.heap.size w1 ho hl)
  have HB := Lib.hid hb
  clear ho hb hL C
  go_wp2_with fail
  refine S.out.mono ?_
  rintro e w2 ⟨rfl, hg, hb2⟩
  have HG := Lib.hid hg
  have HB2 := Lib.hid (HB.out.trans hb2)
  clear hg hb2 S
  go_wp2_with fail
  go_ret
  exact ⟨_, rfl, HG.out, HB2.out⟩
end Go.Proofs.Ytfjpdoamalbpjaa.Pol
