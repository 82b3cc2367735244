/-
  FlowsMany: for every n, keys and more the law FlowsMany answers true: as many flows are put in as there are places, each is found, and no more. No condition.
-/
import Derived.Test.YtbflnhoifkdooaaRows
import Derived.Test.YtbflnhoifkdooaaBTab
import Derived.Test.YtbflnhoifkdooaaFloW
import Derived.Test.YtbflnhoifkdooaaBFlp
import Derived.ProofKit
import Derived.OpenShut
import Derived.ChangeMaps5
import Derived.BigQuiet
import Derived.WalkSmall
namespace Go.Proofs.Ytbflnhoifkdooaa
open Go.ChangeShapes Go.WideShapes Go.ChangeAt Go.RowKit Go.Shelf
open Go.ChangeMaps (open_string shut_string)
open Prb RowG Tab Flo

set_option maxRecDepth 100000 in
set_option maxHeartbeats 2000000 in
theorem walk_FlowsMany (a0 : Int) (a1 : Option Addr) (c1 : Nat) (z1 : List ByteArray) (a2 : ByteArray) (w : World) (_h0 : (Lit.int .i64 a0).wf = true) (h1 : Lies txtK w a1 c1 z1) (g1 : ∀ x ∈ z1, x.size ≤ maxLen) (h2 : a2.size ≤ maxLen) :
    Calls Try.prog 9 #[.int .i64 a0, rowV a1 c1 z1, .string a2] w fun e W' => e = .returned (.bool true) ∧ Below w.heap.size w W' := by
  have H1 := Lib.hid h1
  have hC1 := h1.len
  have hM1 := h1.max
  have G1 := Lib.hid g1
  unfold maxLen at hM1 h2
  clear h1 g1
  go_enter Try.func9, Try.ntmps9
  go_wp2_with fail
  refine (works_any _).mono ?_
  rintro e w1 ⟨rfl, hb⟩
  have B1 := Lib.hid hb
  have K1 := Lib.hid (H1.out.kept hb)
  clear hb H1
  by_cases g0 : a0 < 0
  · have d0 : decide (a0 < 0) = true := decide_eq_true g0
    go_wp2_with fail
    go_ret
    exact ⟨rfl, B1.out⟩
  have d0 : decide (a0 < 0) = false := decide_eq_false g0
  by_cases g3 : 64 < a0
  · have d3 : decide (64 < a0) = true := decide_eq_true g3
    go_wp2_with fail
    go_ret
    exact ⟨rfl, B1.out⟩
  have d3 : decide (64 < a0) = false := decide_eq_false g3
  by_cases g4 : 80 < z1.length
  · have d4 : decide ((80 : Int) < (z1.length : Int)) = true := decide_eq_true (by omega)
    have d4n : decide (80 < z1.length) = true := decide_eq_true g4
    go_wp2_with fail
    go_ret
    exact ⟨rfl, B1.out⟩
  have d4 : decide ((80 : Int) < (z1.length : Int)) = false := decide_eq_false (by omega)
  have d4n : decide (80 < z1.length) = false := decide_eq_false g4
  by_cases g5 : 60 < a2.size
  · have d5 : decide ((60 : Int) < (a2.size : Int)) = true := decide_eq_true (by omega)
    have d5n : decide (60 < a2.size) = true := decide_eq_true g5
    go_wp2_with fail
    go_ret
    exact ⟨rfl, B1.out⟩
  have d5 : decide ((60 : Int) < (a2.size : Int)) = false := decide_eq_false (by omega)
  have d5n : decide (60 < a2.size) = false := decide_eq_false g5
  obtain ⟨n, rfl⟩ := Int.eq_ofNat_of_zero_le (show 0 ≤ a0 by omega)
  have hn64 : n ≤ 64 := by omega
  have d3n : decide (64 < n) = false := decide_eq_false (by omega)
  clear g0 g3
  have N := New_told (n : Int) w1 (by simp [Lit.wf, IntKind.min, IntKind.max, IntKind.signed, IntKind.bits]; omega)
  rw [show size (n : Int) = n by rw [size_in]; omega] at N
  have HN := Lib.hid N
  clear N
  go_wp2_with fail
  refine HN.out.mono ?_
  rintro e w2 ⟨rfl, R, -, hb⟩
  have T0 := Lib.hid (R.own (B := w1.heap.size) (Nat.le_refl _))
  have M0 := Lib.hid (many_new n)
  have B0 := Lib.hid hb
  clear R hb HN
  generalize rowV (some ⟨w1.heap.size, 0, none⟩) n (new n) = v0 at *
  generalize new n = Tn at *
  go_wp2_with fail
  go_loopw [8, 9, 10] (fun t o i W => ∃ (j : Nat) (own : List ByteArray) (T : List Ent), j ≤ z1.length ∧ i = .int .i64 j ∧ RowG.Own entK 40 w1.heap.size W t T ∧ Many n own T ∧ RowG.Own txtK 9 w1.heap.size W o own ∧ own.length ≤ j ∧ (∀ k ∈ own, k.size ≤ 60) ∧ Below w1.heap.size w1 W) (fun _ _ i _ => z1.length - (intOf i).toNat)
  case atStart => exact ⟨0, [], Tn, Nat.zero_le _, rfl, T0.out, M0.out, own_nil _ _, Nat.zero_le _, (fun k hk => by cases hk), B0.out⟩
  case round =>
    clear T0 M0 B0
    obtain ⟨j, own, T, hj, rfl, hT, hM, hO, hol, hos, hB⟩ := hrel
    have HT := Lib.hid hT
    have HM := Lib.hid hM
    have HO := Lib.hid hO
    have HS := Lib.hid hos
    have HB := Lib.hid hB
    have hTl : T.length = n := hM.len
    have HTl := Lib.hid hTl
    obtain ⟨aT, cT, rfl, -⟩ := hT.lies
    obtain ⟨aO, cO, rfl, hlO⟩ := hO.lies
    have LO := Lib.hid hlO
    have hOl := hlO.len
    have hOm := hlO.max
    unfold maxLen at hOm
    clear hT hM hO hos hB hlO hTl
    by_cases hlt : j < z1.length
    · obtain ⟨bz, oz, hab, y0⟩ := (K1.out.kept HB.out).txt hlt
      cases hab
      have hyz := G1.out _ (List.getElem_mem hlt)
      unfold maxLen at hyz
      generalize z1[j] = y at *
      generalize wr = wo at *
      by_cases hy : 60 < y.size
      · have dy : decide ((60 : Int) < (y.size : Int)) = true := decide_eq_true (by omega)
        have dyn : decide (60 < y.size) = true := decide_eq_true hy
        go_wp2_with fail
        go_ret
        exact ⟨rfl, below2 B1.out HB.out⟩
      have dy : decide ((60 : Int) < (y.size : Int)) = false := decide_eq_false (by omega)
      have dyn : decide (60 < y.size) = false := decide_eq_false hy
      go_wp2_with fail
      go_loopw [11, 12] (fun b k W => ∃ (q : Nat) (c : Bool), q ≤ own.length ∧ k = .int .i64 q ∧ b = .bool c ∧ (c = true ↔ y ∈ own.take q) ∧ Below wo.heap.size wo W) (fun _ k _ => own.length - (intOf k).toNat)
      case atStart => exact ⟨0, false, Nat.zero_le _, rfl, rfl, by simp, Below.refl _ _⟩
      case round =>
        obtain ⟨q, c, hq, rfl, rfl, hc, hW⟩ := hrel
        have HC := Lib.hid hc
        have HW := Lib.hid hW
        have y1 := (hW.cell (World.block_lt_of_cell? wo _ y0)).trans y0
        clear hc hW y0
        by_cases hql : q < own.length
        · obtain ⟨bo, oo, hab2, x0⟩ := (LO.out.kept HW.out).txt hql
          cases hab2
          have HE := Lib.hid (show ∀ k, k ∈ own.take (q + 1) ↔ k ∈ own.take q ∨ k = own[q] from fun k => by rw [List.take_succ_eq_append_getElem hql, List.mem_append, List.mem_singleton])
          generalize own[q] = x at *
          cases c with
          | true =>
            have HF := Lib.hid (show y ∈ own.take (q + 1) from (HE.out y).2 (.inl (HC.out.1 rfl)))
            clear HC HE
            go_wp2_with fail
            go_quiet (fail)
            have HW2 := Lib.hid (below_drewN HW.out nq)
            go_wp2
            exact ⟨⟨q + 1, true, by omega, by go_num, rfl, ⟨fun _ => HF.out, fun _ => rfl⟩, HW2.out⟩, by simp [intOf]; omega⟩
          | false =>
            by_cases hx : x = y
            · have dx : (x.toList == y.toList) = true := by rw [text_cmp]; exact decide_eq_true hx
              have HF := Lib.hid (show y ∈ own.take (q + 1) from (HE.out y).2 (.inr hx.symm))
              clear hx HC HE
              go_wp2_with fail
              go_quiet (fail)
              have HW2 := Lib.hid (below_drewN HW.out nq)
              go_wp2
              exact ⟨⟨q + 1, true, by omega, by go_num, rfl, ⟨fun _ => HF.out, fun _ => rfl⟩, HW2.out⟩, by simp [intOf]; omega⟩
            · have dx : (x.toList == y.toList) = false := by rw [text_cmp]; exact decide_eq_false hx
              have HF := Lib.hid (show ¬ y ∈ own.take (q + 1) from fun h => ((HE.out y).1 h).elim (fun h => by cases HC.out.2 h) (fun e => hx e.symm))
              clear hx HC HE
              go_wp2_with fail
              go_quiet (fail)
              have HW2 := Lib.hid (below_drewN HW.out nq)
              go_wp2
              exact ⟨⟨q + 1, false, by omega, by go_num, rfl, ⟨(fun h => by cases h), fun h => absurd h HF.out⟩, HW2.out⟩, by simp [intOf]; omega⟩
        · have hqe : own.take q = own := List.take_of_length_le (by omega)
          rw [hqe] at HC
          have HB2 := Lib.hid (HB.out.trans (HW.out.mono HB.out.size))
          have HT2 := Lib.hid (HT.out.kept HW.out)
          have HO2 := Lib.hid (HO.out.kept HW.out)
          obtain ⟨aT2, cT2, hvT, hlT⟩ := HT2.out.lies
          cases hvT
          have P := Lib.hid (Put_own _ _ T y (j : Int) (j : Int) wr hlT (by omega) (by have := HTl.out; omega))
          have TO := Lib.hid (many_told HM.out y)
          clear hqe hlT HB HT HO HW
          generalize wr = wi at *
          go_wp2_with fail
          refine P.out.mono ?_
          rintro e w3 ⟨v3, rfl, hO3, hb3⟩
          have T3 := Lib.hid (own_less HB2.out.size hO3)
          have O3 := Lib.hid (HO2.out.kept hb3)
          have B3 := Lib.hid (HB2.out.trans (hb3.mono HB2.out.size))
          have y3 := (hb3.cell (World.block_lt_of_cell? wi _ y1)).trans y1
          obtain ⟨a3, c3, rfl, -⟩ := hO3.lies
          clear hO3 hb3 HB2 HT2 HO2 y1 P
          cases c with
          | true =>
            have hm := HC.out.1 rfl
            obtain ⟨q2, hq2⟩ := Option.isSome_iff_exists.1 (TO.out.2 (.inl hm))
            obtain ⟨p1, p2⟩ := put_yes hq2 (j : Int) (j : Int)
            have HN := Lib.hid (many_old HM.out (by omega) p1 hm)
            rw [p2]
            clear hm hq2 p1 p2 HC TO HM
            generalize putT T y (j : Int) (j : Int) = U at *
            go_wp2_with fail
            exact ⟨⟨j + 1, own, U, by omega, by go_num, T3.out, HN.out, O3.out, by omega, HS.out, B3.out⟩, by simp [intOf]; omega⟩
          | false =>
            have hm : ¬ y ∈ own := fun h => by cases HC.out.2 h
            by_cases hf : own.length < n
            · obtain ⟨q2, hq2⟩ := Option.isSome_iff_exists.1 (TO.out.2 (.inr hf))
              obtain ⟨p1, p2⟩ := put_yes hq2 (j : Int) (j : Int)
              have HN := Lib.hid (many_more HM.out (by omega) p1 hm)
              have HS2 := Lib.hid (show ∀ k ∈ own ++ [y], k.size ≤ 60 from fun k hk => by
                rcases List.mem_append.1 hk with hk | hk
                · exact HS.out k hk
                · rw [List.mem_singleton.1 hk]; omega)
              have df : decide ((own.length : Int) < (n : Int)) = true := decide_eq_true (by omega)
              have dfn : decide (own.length < n) = true := decide_eq_true (by omega)
              rw [p2]
              clear hm hq2 p1 p2 HC TO HM HS
              generalize putT T y (j : Int) (j : Int) = U at *
              have al := below_txt w3 y
              have O4 := Lib.hid (O3.out.kept al)
              have T4 := Lib.hid (T3.out.kept al)
              have B4 := Lib.hid (B3.out.alloc B3.out.size (.cells #[.string y] 9))
              have S4 := Lib.hid (Nat.le_trans B3.out.size al.size)
              have AP := Lib.hid (own_apart T4.out O4.out (by decide))
              clear al
              go_wp2_with (at_builtin; refine wpList_text rfl _ _ rfl w1.heap.size w3.heap.size own y _ rfl rfl O4.out ?c0 (by omega) S4.out ?_)
              case c0 => simp
              intro g5 c5 w5 O5 G5
              have T5 := Lib.hid (World.ownsRow.kept T4.out G5.out AP.out)
              have B5 := Lib.hid (B4.out.grown G5.out S4.out (fun k e => (World.ownsRow.lt O4.out k e).1))
              have O5 := Lib.hid O5.out
              clear G5 O4 T4 B4 S4 AP T3 O3 B3
              go_wp2
              exact ⟨⟨j + 1, own ++ [y], U, by omega, by go_num, T5.out, HN.out, O5.out, by rw [List.length_append]; simp; omega, HS2.out, B5.out⟩, by simp [intOf]; omega⟩
            · have hp : place T y = none := by
                cases hp : place T y with
                | none => rfl
                | some q2 => exact False.elim ((TO.out.1 (by rw [hp]; rfl)).elim hm hf)
              obtain ⟨p1, p2, -, -⟩ := put_no hp (j : Int) (j : Int)
              have df : decide ((own.length : Int) < (n : Int)) = false := decide_eq_false (by omega)
              have dfn : decide (own.length < n) = false := decide_eq_false (by omega)
              rw [p2]
              rw [p1] at T3 ⊢
              clear hm hp p1 p2 HC TO
              go_wp2_with fail
              exact ⟨⟨j + 1, own, T, by omega, by go_num, T3.out, HM.out, O3.out, by omega, HS.out, B3.out⟩, by simp [intOf]; omega⟩
    · generalize wr = wo at *
      have HTc := Lib.hid HT.out.lies
      clear HT HO
      go_wp2_with fail
      go_loopw [15] (fun k W => ∃ q : Nat, q ≤ own.length ∧ k = .int .i64 q ∧ Below wo.heap.size wo W) (fun k _ => own.length - (intOf k).toNat)
      case atStart => exact ⟨0, Nat.zero_le _, rfl, Below.refl _ _⟩
      case round =>
        obtain ⟨q, hq, rfl, hW⟩ := hrel
        have HW := Lib.hid hW
        clear hW
        obtain ⟨aT2, cT2, hvT, hlT⟩ := HTc.out
        cases hvT
        have LT := Lib.hid (hlT.kept HW.out)
        clear hlT
        by_cases hql : q < own.length
        · obtain ⟨bo, oo, hab2, x0⟩ := (LO.out.kept HW.out).txt hql
          cases hab2
          have hxs := HS.out _ (List.getElem_mem hql)
          have hxm := (HM.out.mem _).1 (List.getElem_mem hql)
          generalize own[q] = x at *
          cases hf : find home T x with
          | none => exact absurd hf hxm
          | some r =>
            go_wp2_with fail
            refine (Find_told _ _ T x _ LT.out (by omega)).mono ?_
            rintro e w3 ⟨rfl, hb⟩
            rw [hf, show zOf (some r) = (r : Int) from rfl]
            have dr : decide ((r : Int) < 0) = false := decide_eq_false (by omega)
            have HW2 := Lib.hid (HW.out.trans (hb.mono HW.out.size))
            clear hb hf hxm
            go_wp2_with fail
            exact ⟨⟨q + 1, by omega, by go_num, HW2.out⟩, by simp [intOf]; omega⟩
        · have HB2 := Lib.hid (below2 B1.out (HB.out.trans (HW.out.mono HB.out.size)))
          have KL := Lib.hid (show (keys T).length = own.length by rw [keys_length, HM.out.cnt])
          have TO := Lib.hid (many_told HM.out a2)
          have HMm := Lib.hid (HM.out.mem a2)
          have hTl2 : T.length ≤ 64 := by have := HTl.out; omega
          clear HB HW HM LO HS HTc HTl
          generalize wr = wi at *
          go_wp2_with fail
          refine (Put_told _ _ T a2 1 1 _ LT.out (by omega) (by omega)).mono ?_
          rintro e w3 ⟨v, rfl, ⟨a3, c3, rfl, -⟩, hb⟩
          have LT := Lib.hid (LT.out.kept hb)
          have HB2 := Lib.hid (below2 HB2.out hb)
          clear hb
          generalize rowV a3 c3 (putT T a2 1 1) = vU at *
          have PE := Lib.hid (show putE T a2 = if (place T a2).isSome then 0 else 12 from rfl)
          generalize putE T a2 = pe at *
          go_wp2_with fail
          refine (Keys_told _ _ T _ LT.out (by omega)).mono ?_
          rintro e w4 ⟨v, rfl, ⟨a4, c4, rfl, -⟩, hb⟩
          have LT := Lib.hid (LT.out.kept hb)
          have HB2 := Lib.hid (below2 HB2.out hb)
          clear hb
          rw [show rowV a4 c4 (keys T) = .slice a4 own.length c4 by rw [rowV, KL.out]]
          by_cases hf : own.length < n
          · have hpe : pe = 0 := PE.out.trans (if_pos (TO.out.2 (.inr hf)))
            have df : decide ((own.length : Int) < (n : Int)) = true := decide_eq_true (by omega)
            have dfn : decide (own.length < n) = true := decide_eq_true (by omega)
            subst hpe
            clear PE TO
            go_wp2_with fail
            go_ret
            exact ⟨rfl, HB2.out⟩
          · have df : decide ((own.length : Int) < (n : Int)) = false := decide_eq_false (by omega)
            have dfn : decide (own.length < n) = false := decide_eq_false (by omega)
            go_wp2_with fail
            refine (Find_told _ _ T a2 _ LT.out (by omega)).mono ?_
            rintro e w5 ⟨rfl, hb⟩
            have HB2 := Lib.hid (below2 HB2.out hb)
            clear hb
            cases hfi : find home T a2 with
            | some r =>
              have hpe : pe = 0 := PE.out.trans (if_pos (TO.out.2 (.inl (HMm.out.2 (by rw [hfi]; simp)))))
              rw [show zOf (some r) = (r : Int) from rfl]
              have dr : decide (0 ≤ (r : Int)) = true := decide_eq_true (by omega)
              subst hpe
              clear PE TO hfi
              go_wp2_with fail
              go_ret
              exact ⟨rfl, HB2.out⟩
            | none =>
              have hpe : pe = 12 := PE.out.trans (if_neg (fun h => (TO.out.1 h).elim (fun hm => HMm.out.1 hm hfi) hf))
              rw [show zOf none = -1 from rfl]
              subst hpe
              clear PE TO hfi
              go_wp2_with fail
              go_ret
              exact ⟨rfl, HB2.out⟩

theorem own_FlowsMany : ownKnob Try.prog.godebug = none := by kernel_rfl
set_option maxRecDepth 100000 in
set_option maxHeartbeats 800000 in
theorem lifted_FlowsMany (os : Os) (started : os.Started) (H : Type) (enc : TypeId × Value → H) :
    ReturnsInHanded {} Try.checked os 9 .any (Rows.flowsManySpec.pre6 enc Try.prog Try.f9 Rows.flowsManyRow.domain false) (Rows.flowsManySpec.post enc Try.prog Try.f9 false true false false) := by
  refine returnsInHanded_of_change (C := Try.checked) own_FlowsMany started (by kernel_rfl) Try.func9
    (ChangeSpec.witness6 (enc := enc) (C := Try.checked) false ⟨#[], #[.int .i64 0, .slice none 0 0, .string ⟨#[]⟩], []⟩ 8 (by kernel_rfl) (by kernel_rfl) (by kernel_rfl) (by kernel_rfl)) ?_
  intro W base args ds gs before hval0 hW _ _
  have hval : ∀ (j : Nat) t v, Try.f9.params[j]? = some t → args[j]? = some v → Value.okWide Try.prog W .any base t v := hval0
  have hW' := hW
  obtain ⟨p, q, hA0, hV, rfl, _, _⟩ := hW
  have hA : DataW.TrodAll enc Try.prog W 0 (fun _ => true) true Try.f9.params.toList args.toList ds p := hA0
  rw [Try.params9] at hA hval
  obtain ⟨v0, vs0, d0, ds0, p0, q0, ha0, rfl, rfl, t0, r0⟩ := trodAll_cons hA
  obtain ⟨v1, vs1, d1, ds1, p1, q1, ha1, rfl, rfl, t1, r1⟩ := trodAll_cons r0
  obtain ⟨v2, vs2, d2, ds2, p2, q2, ha2, rfl, rfl, t2, r2⟩ := trodAll_cons r1
  obtain ⟨rfl, rfl, rfl⟩ := trodAll_nil r2
  subst ha2
  subst ha1
  obtain rfl : args = #[v0, v1, v2] := by cases args; simp_all
  obtain ⟨rfl, rfl⟩ := trodVars_none hV
  obtain ⟨a0, rfl, rfl, rfl, h0⟩ := open_int Try.underlying3 (hval 0 3 v0 rfl rfl) t0
  have k1 := t1
  have lt1 : ∀ x ∈ p1, x.block < W.heap.size := by obtain ⟨m, hm⟩ := k1; exact DataW.trod_lt m _ _ _ hm
  obtain ⟨a1, c1, z1, rfl, h1, g1⟩ := Stx.open_texts (hval 1 34 v1 rfl rfl) t1
  obtain ⟨a2, rfl, rfl, rfl, h2⟩ := open_string Try.underlying9 (hval 2 9 v2 rfl rfl) t2
  clear hA0 hval0
  refine (walk_FlowsMany a0 a1 c1 z1 a2 W h0 h1 g1 h2).mono fun e W' ⟨he, hnx⟩ => ?_
  subst he
  exact ⟨_, rfl, ⟨_, _, _, [], _, [], hW', trodAll_cons_mk (shut_bool Try.underlying4 _) trodAll_mk0, (trodAll_cons_mk (shut_int Try.underlying3 h0) (trodAll_cons_mk (Below.trod Ste.laidOut (by kernel_rfl) (of_decide_eq_true (by kernel_rfl)) k1 hnx lt1) (trodAll_cons_mk (shut_string Try.underlying9 h2) trodAll_mk0))), rfl, hnx.frame _, fun h => by cases h⟩⟩

theorem flowsMany_holds : Rows.FlowsManySaid :=
  OpenClaim.holds_of_wide 9 Try.f9 rfl rfl rfl rfl rfl rfl rfl ⟨rfl, rfl, rfl, rfl, rfl⟩ rfl rfl rfl rfl rfl (by kernel_rfl) Try.func9 (by kernel_rfl)
    (of_decide_eq_true (by kernel_rfl)) (by unfold Func.isWrapper; first | (rw [if_pos (by decide +kernel)]; kernel_rfl) | (rw [if_neg (by decide +kernel)]; exact ⟨rfl, rfl⟩))
    (fun os started H enc _ => lifted_FlowsMany os started H enc)

#print axioms flowsMany_holds
end Go.Proofs.Ytbflnhoifkdooaa
