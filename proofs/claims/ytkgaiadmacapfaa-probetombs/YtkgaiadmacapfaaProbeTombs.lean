/-
  ProbeTombs: for every t, key and other the law ProbeTombs answers true: with a tomb instead of one all others are found where they were. No condition.
-/
import Derived.Test.YtkgaiadmacapfaaRows
import Derived.Test.YtkgaiadmacapfaaSte
import Derived.Test.YtkgaiadmacapfaaPrbW
import Derived.Test.YtkgaiadmacapfaaPrbF
import Derived.ProofKit
import Derived.OpenShut
import Derived.ChangeMaps5
namespace Go.Proofs.Ytkgaiadmacapfaa
open Go.ChangeShapes Go.WideShapes Go.ChangeAt Go.RowKit Go.Shelf
open Go.ChangeMaps (open_string shut_string)
open Prb RowG Tab

set_option maxRecDepth 100000 in
set_option maxHeartbeats 1000000 in
theorem walk_ProbeTombs (a0 : Option Addr) (c0 : Nat) (z0 : List Ent) (a1 : ByteArray) (a2 : ByteArray) (w : World) (h0 : Lies entK w a0 c0 z0) (g0 : ∀ x ∈ z0, EntOk x) (h1 : a1.size ≤ maxLen) (h2 : a2.size ≤ maxLen) :
    Calls Try.prog 6 #[rowV a0 c0 z0, .string a1, .string a2] w fun e W' => e = .returned (.bool true) ∧ Below w.heap.size w W' := by
  have H0 := Lib.hid h0
  have hC0 := h0.len
  have hM0 := h0.max
  unfold maxLen at hM0 h1 h2
  clear h0
  go_enter Try.func6, Try.ntmps6
  go_wp2_with fail
  refine (works_any _).mono ?_
  rintro e w1 ⟨rfl, hb⟩
  have B1 := Lib.hid hb
  have L0 := Lib.hid (H0.out.kept hb)
  clear hb H0
  go_wp2_with fail
  refine (refFew_any a0 c0 z0 _ L0.out g0).mono ?_
  rintro e w2 ⟨rfl, rfl⟩
  by_cases f0 : ¬ few z0
  · rw [decide_eq_false f0]
    go_wp2_with fail
    go_ret
    exact ⟨rfl, B1.out⟩
  replace f0 := Decidable.not_not.1 f0
  rw [decide_eq_true f0]
  have hl0 := f0.1
  clear f0 g0
  by_cases g1 : 60 < a1.size
  · have d0 : decide ((60 : Int) < (a1.size : Int)) = true := decide_eq_true (by omega)
    have d0n : decide (60 < a1.size) = true := decide_eq_true g1
    go_wp2_with fail
    go_ret
    exact ⟨rfl, B1.out⟩
  have d0 : decide ((60 : Int) < (a1.size : Int)) = false := decide_eq_false (by omega)
  have d0n : decide (60 < a1.size) = false := decide_eq_false g1
  by_cases g2 : 60 < a2.size
  · have e0 : decide ((60 : Int) < (a2.size : Int)) = true := decide_eq_true (by omega)
    have e0n : decide (60 < a2.size) = true := decide_eq_true g2
    go_wp2_with fail
    go_ret
    exact ⟨rfl, B1.out⟩
  have e0 : decide ((60 : Int) < (a2.size : Int)) = false := decide_eq_false (by omega)
  have e0n : decide (60 < a2.size) = false := decide_eq_false g2
  go_wp2_with fail
  refine (Find_told a0 c0 z0 a1 _ L0.out (by omega)).mono ?_
  rintro e w2 ⟨rfl, hb⟩
  have L0 := Lib.hid (L0.out.kept hb)
  have B1 := Lib.hid (below2 B1.out hb)
  clear hb
  cases hr : Tab.find home z0 a1 with
  | none =>
    rw [show zOf none = -1 from rfl]
    go_wp2_with fail
    go_ret
    exact ⟨rfl, B1.out⟩
  | some q =>
    obtain ⟨t1, t2⟩ := told_tombs hr
    have hq := (find_some hr).1
    obtain ⟨b, off, hab, -⟩ := L0.out.ent hq
    subst hab
    rw [show zOf (some q) = (q : Int) from rfl]
    have x1 : decide ((z0.length : Int) ≤ (q : Int)) = false := decide_eq_false (by omega)
    have x2 : decide (z0.length ≤ q) = false := decide_eq_false (by omega)
    have T1 := Lib.hid t1
    have T2 := Lib.hid t2
    have hcn : count 1 (z0.set q tomb) ≤ 80 := Nat.le_trans (count_le _ _) (by rw [List.length_set]; exact hl0)
    clear t1 t2 hr

    have O0 : RowG.Own entK 31 w2.heap.size (w2.alloc (.cells #[] 31)) (rowV (some ⟨w2.heap.size, 0, none⟩) 0 ([] : List Ent)) [] := RowG.Row.own ⟨#[], World.alloc_heap_new w2 _, Nat.le_refl _, Nat.zero_le _, rfl, rfl⟩ (Nat.le_refl _)
    have b3 : Below w2.heap.size w2 (w2.alloc (.cells #[] 31)) := (Below.refl _ _).alloc (Nat.le_refl _) _
    have L3 := Lib.hid (L0.out.kept b3)
    have OO := Lib.hid O0
    have B3 := Lib.hid b3
    clear O0 b3
    go_wp2_with (at_builtin; refine wpList_join Try.underlying22 Ste.info_ent rfl rfl _ _ rfl w2.heap.size [] z0 _ b off c0 rfl rfl OO.out L3.out ?j0 ?j1 ?j2 ?_)
    case j0 => unfold maxLen; simp; omega
    case j1 => simp; omega
    case j2 => simp
    intro v3 w3 O3 B3'
    obtain ⟨g, cap, rfl, hg, R⟩ := O3.out.row (fun e => by rw [e] at hq; exact absurd hq (by simp))
    have B4 := Lib.hid (B3.out.trans B3'.out)
    have hk4 := R.len
    unfold maxLen at hk4
    obtain ⟨y0, y1, y2, y3⟩ := R.ent hq
    have f0 := R.free (q * 4)
    have f1 := R.free (q * 4 + 1)
    have f2 := R.free (q * 4 + 2)
    have f3 := R.free (q * 4 + 3)
    have RR := Lib.hid (R.put4 hq tomb)
    have B5 := Lib.hid (below_put4 B4.out hg q tomb)
    have hlen : rowV (some ⟨g, 0, none⟩) cap (z0.set q tomb) = rowV (some ⟨g, 0, none⟩) cap z0 := by simp [rowV]
    have HL := Lib.hid hlen
    have BB := Lib.hid (below2 B1.out B5.out)
    have LL := Lib.hid (L0.out.kept B5.out)
    clear hlen L3 OO B3 B3' O3 B4 R B5 L0 B1
    by_cases hk : a1 = a2
    · have dk : (a1.toList == a2.toList) = true := by rw [text_cmp]; exact decide_eq_true hk
      clear hk
      go_wp2_with fail
      change Calls _ _ _ (put4 w3 g q tomb) _
      clear y0 y1 y2 y3 f0 f1 f2 f3
      generalize put4 w3 g q tomb = w4 at *
      rw [← HL.out]
      refine (Count_told _ _ _ 1 _ RR.out.lies).mono ?_
      rintro e w5 ⟨rfl, hb⟩
      have LL := Lib.hid (LL.out.kept hb)
      have RR := Lib.hid (RR.out.kept hb)
      have BB := Lib.hid (below2 BB.out hb)
      clear hb
      go_wp2_with fail
      refine (Count_told _ _ _ 1 _ LL.out).mono ?_
      rintro e w5 ⟨rfl, hb⟩
      have LL := Lib.hid (LL.out.kept hb)
      have RR := Lib.hid (RR.out.kept hb)
      have BB := Lib.hid (below2 BB.out hb)
      clear hb
      rw [← T2.out]
      clear LL RR T1 T2
      generalize count 1 (z0.set q tomb) = n at *
      have en : IntKind.i64.wrap (((n + 1 : Nat) : Int) - 1) = (n : Int) := by rw [show ((n + 1 : Nat) : Int) - 1 = (n : Int) by omega]; exact IntWalk.i64_in _ (by omega)
      go_wp2_with fail
      go_ret
      exact ⟨rfl, BB.out⟩
    · have dk : (a1.toList == a2.toList) = false := by rw [text_cmp]; exact decide_eq_false hk
      have T5 := Lib.hid (T1.out a2 hk)
      clear hk
      go_wp2_with fail
      change Calls _ _ _ (put4 w3 g q tomb) _
      clear y0 y1 y2 y3 f0 f1 f2 f3
      generalize put4 w3 g q tomb = w4 at *
      rw [← HL.out]
      refine (Find_told _ _ _ a2 _ RR.out.lies (by omega)).mono ?_
      rintro e w5 ⟨rfl, hb⟩
      have LL := Lib.hid (LL.out.kept hb)
      have RR := Lib.hid (RR.out.kept hb)
      have BB := Lib.hid (below2 BB.out hb)
      clear hb
      rw [T5.out]
      go_wp2_with fail
      refine (Find_told _ c0 z0 a2 _ LL.out (by omega)).mono ?_
      rintro e w5 ⟨rfl, hb⟩
      have LL := Lib.hid (LL.out.kept hb)
      have RR := Lib.hid (RR.out.kept hb)
      have BB := Lib.hid (below2 BB.out hb)
      clear hb
      clear T5
      generalize zOf (find home z0 a2) = f at *
      go_wp2_with fail
      refine (Count_told _ _ _ 1 _ RR.out.lies).mono ?_
      rintro e w5 ⟨rfl, hb⟩
      have LL := Lib.hid (LL.out.kept hb)
      have RR := Lib.hid (RR.out.kept hb)
      have BB := Lib.hid (below2 BB.out hb)
      clear hb
      go_wp2_with fail
      refine (Count_told _ _ _ 1 _ LL.out).mono ?_
      rintro e w5 ⟨rfl, hb⟩
      have LL := Lib.hid (LL.out.kept hb)
      have RR := Lib.hid (RR.out.kept hb)
      have BB := Lib.hid (below2 BB.out hb)
      clear hb
      rw [← T2.out]
      clear LL RR T1 T2
      generalize count 1 (z0.set q tomb) = n at *
      have en : IntKind.i64.wrap (((n + 1 : Nat) : Int) - 1) = (n : Int) := by rw [show ((n + 1 : Nat) : Int) - 1 = (n : Int) by omega]; exact IntWalk.i64_in _ (by omega)
      go_wp2_with fail
      go_ret
      exact ⟨rfl, BB.out⟩

theorem own_ProbeTombs : ownKnob Try.prog.godebug = none := by kernel_rfl
set_option maxRecDepth 100000 in
set_option maxHeartbeats 800000 in
theorem lifted_ProbeTombs (os : Os) (started : os.Started) (H : Type) (enc : TypeId × Value → H) :
    ReturnsInHanded {} Try.checked os 6 .any (Rows.probeTombsSpec.pre6 enc Try.prog Try.f6 Rows.probeTombsRow.domain false) (Rows.probeTombsSpec.post enc Try.prog Try.f6 false true false false) := by
  refine returnsInHanded_of_change (C := Try.checked) own_ProbeTombs started (by kernel_rfl) Try.func6
    (ChangeSpec.witness6 (enc := enc) (C := Try.checked) false ⟨#[], #[.slice none 0 0, .string ⟨#[]⟩, .string ⟨#[]⟩], []⟩ 8 (by kernel_rfl) (by kernel_rfl) (by kernel_rfl) (by kernel_rfl)) ?_
  intro W base args ds gs before hval0 hW _ _
  have hval : ∀ (j : Nat) t v, Try.f6.params[j]? = some t → args[j]? = some v → Value.okWide Try.prog W .any base t v := hval0
  have hW' := hW
  obtain ⟨p, q, hA0, hV, rfl, _, _⟩ := hW
  have hA : DataW.TrodAll enc Try.prog W 0 (fun _ => true) true Try.f6.params.toList args.toList ds p := hA0
  rw [Try.params6] at hA hval
  obtain ⟨v0, vs0, d0, ds0, p0, q0, ha0, rfl, rfl, t0, r0⟩ := trodAll_cons hA
  obtain ⟨v1, vs1, d1, ds1, p1, q1, ha1, rfl, rfl, t1, r1⟩ := trodAll_cons r0
  obtain ⟨v2, vs2, d2, ds2, p2, q2, ha2, rfl, rfl, t2, r2⟩ := trodAll_cons r1
  obtain ⟨rfl, rfl, rfl⟩ := trodAll_nil r2
  subst ha2
  subst ha1
  obtain rfl : args = #[v0, v1, v2] := by cases args; simp_all
  obtain ⟨rfl, rfl⟩ := trodVars_none hV
  have k0 := t0
  have lt0 : ∀ x ∈ p0, x.block < W.heap.size := by obtain ⟨m, hm⟩ := k0; exact DataW.trod_lt m _ _ _ hm
  obtain ⟨a0, c0, z0, rfl, h0, g0⟩ := Ste.open_table (hval 0 22 v0 rfl rfl) t0
  obtain ⟨a1, rfl, rfl, rfl, h1⟩ := open_string Try.underlying9 (hval 1 9 v1 rfl rfl) t1
  obtain ⟨a2, rfl, rfl, rfl, h2⟩ := open_string Try.underlying9 (hval 2 9 v2 rfl rfl) t2
  clear hA0 hval0
  refine (walk_ProbeTombs a0 c0 z0 a1 a2 W h0 g0 h1 h2).mono fun e W' ⟨he, hnx⟩ => ?_
  subst he
  exact ⟨_, rfl, ⟨_, _, _, [], _, [], hW', trodAll_cons_mk (shut_bool Try.underlying4 _) trodAll_mk0, (trodAll_cons_mk (Below.trod Ste.laidOut (by kernel_rfl) (of_decide_eq_true (by kernel_rfl)) k0 hnx lt0) (trodAll_cons_mk (shut_string Try.underlying9 h1) (trodAll_cons_mk (shut_string Try.underlying9 h2) trodAll_mk0))), rfl, hnx.frame _, fun h => by cases h⟩⟩

theorem probeTombs_holds : Rows.ProbeTombsSaid :=
  OpenClaim.holds_of_wide 6 Try.f6 rfl rfl rfl rfl rfl rfl rfl ⟨rfl, rfl, rfl, rfl, rfl⟩ rfl rfl rfl rfl rfl (by kernel_rfl) Try.func6 (by kernel_rfl)
    (of_decide_eq_true (by kernel_rfl)) (by unfold Func.isWrapper; first | (rw [if_pos (by decide +kernel)]; kernel_rfl) | (rw [if_neg (by decide +kernel)]; exact ⟨rfl, rfl⟩))
    (fun os started H enc _ => lifted_ProbeTombs os started H enc)

#print axioms probeTombs_holds
end Go.Proofs.Ytkgaiadmacapfaa
