/-
  Rings: where a hash goes to, as the document tells it (package gangplankref10: Succ).
-/
import Derived.Test.YtbamodkgagcmnaaGreatBRinD
import Derived.Test.YtbamodkgagcmnaaGreatPtsCD
import Derived.BigQuiet
import Derived.WalkSmall
import Derived.Deep.RegionHeld3
import Derived.Test.YtbamodkgagcmnaaGreatBPtqD
import Derived.Test.YtbamodkgagcmnaaGreatBOctGD
import Derived.Test.YtbamodkgagcmnaaGreatBFnvD
import Derived.Test.YtbamodkgagcmnaaGreatBRgnD
set_option maxRecDepth 100000
namespace Go.Proofs.YtbamodkgagcmnaaGreat.Rin
open Go.RowKit Go.Shelf
open Pts (Pt ptV ptsV Lies Rise less)
open Pol (below2 below_alloc)

/-- The first of those that are left. -/
theorem find_skip {L : List Pt} {h : Int} {k : Nat} (hno : ∀ j (hj : j < L.length), j < k → ¬ h ≤ L[j].1) (hk : k < L.length) (hx : h ≤ L[k].1) : succL L h = L[k].2 :=
  succL_some (List.find?_eq_some_iff_getElem.2 ⟨by simpa using hx, k, hk, rfl, fun j hj => by simpa using hno j (by omega) hj⟩)
theorem find_end {L : List Pt} {h : Int} (hno : ∀ j (hj : j < L.length), j < L.length → ¬ h ≤ L[j].1) (hk : 0 < L.length) : succL L h = L[0].2 := by
  cases L with
  | nil => simp at hk
  | cons p L => exact succL_none (List.find?_eq_none.2 fun x hx => by
      obtain ⟨j, hj, rfl⟩ := List.getElem_of_mem hx
      simpa using hno j hj hj)
set_option maxRecDepth 100000 in
set_option maxHeartbeats 1000000 in
theorem refSucc_any (a : Option Addr) (cap : Nat) (L : List Pt) (h : Int) (w : World) (hL : Lies w a cap L) :
    Calls Tryz.prog 99 #[ptsV a cap L, .int .u64 h] w fun e W' => e = .returned (.int .i64 (succL L h)) ∧ W' = w := by
  have H := Lib.hid hL
  have hlen := hL.len
  have hmax := hL.max
  unfold maxLen at hmax
  clear hL
  go_enter Tryz.func99, Tryz.ntmps99
  go_wp2
  go_loop [5] (fun i => ∃ k : Nat, k ≤ L.length ∧ i = .int .i64 k ∧ ∀ j (hj : j < L.length), j < k → ¬ h ≤ L[j].1) (fun i => L.length - (intOf i).toNat)
  case atStart => exact ⟨0, Nat.zero_le _, rfl, fun j _ h => absurd h (by omega)⟩
  case round =>
    obtain ⟨k, hk, rfl, hno⟩ := hrel
    have HN := Lib.hid hno
    clear hno
    by_cases hlt : k < L.length
    · obtain ⟨b, off, rfl, c0, c1⟩ := H.out.at hlt
      by_cases hx : h ≤ L[k].1
      · have dx : decide (h ≤ L[k].1) = true := decide_eq_true hx
        have HV := Lib.hid (find_skip HN.out hlt hx)
        clear hx
        generalize L[k] = x at *
        go_wp2
        go_ret
        exact ⟨by rw [HV.out]; rfl, rfl⟩
      · have dx : decide (h ≤ L[k].1) = false := decide_eq_false hx
        have HV := Lib.hid (show ∀ j (hj : j < L.length), j < k + 1 → ¬ h ≤ L[j].1 from fun j hj hjk => by
          rcases Nat.lt_or_ge j k with h' | h'
          · exact HN.out j hj h'
          · have : j = k := by omega
            subst this; exact hx)
        clear hx
        generalize L[k] = x at *
        go_wp2
        refine ⟨⟨k + 1, by omega, by go_num, HV.out⟩, by simp [intOf]; omega⟩
    · obtain rfl : k = L.length := by omega
      by_cases h0 : L.length = 0
      · obtain rfl : L = [] := List.eq_nil_of_length_eq_zero h0
        go_wp2
        go_ret
        exact ⟨rfl, rfl⟩
      · have d0 : ((L.length : Int) == 0) = false := beq_false_of_ne (by omega)
        have hp : 0 < L.length := by omega
        obtain ⟨b, off, rfl, c0, c1⟩ := H.out.at hp
        have HV := Lib.hid (find_end HN.out hp)
        generalize L[0] = x at *
        go_wp2
        go_ret
        exact ⟨by rw [HV.out]; rfl, rfl⟩
end Go.Proofs.YtbamodkgagcmnaaGreat.Rin

set_option maxRecDepth 100000
namespace Go.Proofs.YtbamodkgagcmnaaGreat.Pts
open Go.RowKit Go.Shelf
open Pol (below2 below_alloc)

/-- What is read of the document's Put: a text under a name of its own. -/
theorem refPut_some (v : Int) (k : Nat) (w : World) (hv : 0 ≤ v ∧ v ≤ 18446744073709551615) (h : 1 ≤ k ∧ k ≤ 8) :
    Calls Tryz.prog 139 #[.int .u64 v, .int .i64 (k : Int)] w fun e W' => ∃ S : ByteArray, e = .returned (.string S) ∧ S.size ≤ 8 ∧ Hid (S = Oct.str (Oct.bytes v.toNat k)) ∧ Below w.heap.size w W' := by
  refine (Oct.refPut_yes v k w hv.1 hv.2 (by omega)).mono ?_
  rintro e W' ⟨rfl, hb⟩
  refine ⟨_, rfl, ?_, Lib.hid rfl, hb⟩
  have : (Oct.str (Oct.bytes v.toNat ((k : Int)).toNat)).size = k := by simp [ByteArray.size, Oct.bytes_length]
  omega

set_option maxRecDepth 100000 in
set_option maxHeartbeats 2000000 in
theorem refHash_any (id n : Int) (w : World) :
    Calls Tryz.prog 148 #[.int .i64 id, .int .i64 n] w fun e W' => e = .returned (.int .u64 (hashV id n)) ∧ Below w.heap.size w W' := by
  have u1 := uw_in id
  have u2 := uw_in n
  have hp1 := refPut_some (uw id) 4
  have hp2 := refPut_some (uw n) 2
  unfold uw at hp1 hp2 u1 u2
  go_enter Tryz.func148, Tryz.ntmps148
  go_wp2_with fail
  refine (hp1 _ u1 (by omega)).mono ?_
  rintro e w1 ⟨S, rfl, hS, HS, hb1⟩
  go_wp2_with fail
  refine (hp2 _ u2 (by omega)).mono ?_
  rintro e w2 ⟨R, rfl, hR, HR, hb2⟩
  have a1 : ∀ u : World, (Op.stringOp .add S R).run Tryz.prog u = .ok (.string (S ++ R)) u := fun u => run_string_add_sum u S R (by omega)
  have a2 : ∀ u : World, (Op.stringOp .add (S ++ R) ⟨#[0, 0, 0, 0]⟩).run Tryz.prog u = .ok (.string (S ++ R ++ ⟨#[0, 0, 0, 0]⟩)) u := fun u => run_string_add_sum u _ _ (by
    have h4 : (⟨#[0, 0, 0, 0]⟩ : ByteArray).size = 4 := rfl
    rw [ByteArray.size_append, h4]; omega)
  have hz : (S ++ R ++ ⟨#[0, 0, 0, 0]⟩ : ByteArray).size ≤ 4611686018427387904 := by
    have h4 : (⟨#[0, 0, 0, 0]⟩ : ByteArray).size = 4 := rfl
    rw [ByteArray.size_append, ByteArray.size_append, h4]; omega
  have HZ := Lib.hid (show S ++ R ++ ⟨#[0, 0, 0, 0]⟩ = hashS id n by rw [HS.out, HR.out]; rfl)
  go_wp2_with fail
  refine (Fnv.refSum_any _ _ hz).mono ?_
  rintro e w3 ⟨he, rfl⟩
  have he : e = .returned (.int .u64 (hashV id n)) := by rw [he, HZ.out]; rfl
  subst he
  go_wp2_with fail
  go_ret
  exact ⟨rfl, below2 hb1 hb2⟩
end Go.Proofs.YtbamodkgagcmnaaGreat.Pts

set_option maxRecDepth 100000
namespace Go.Proofs.YtbamodkgagcmnaaGreat.Pts
open Go.RowKit Go.Shelf Rgn
open Pol (below2 below_alloc)

/-- What a slot holds. -/
inductive Sp where
  | is (v : Value)
  | pts (bs : List Pt)
  | any
def Sp.holds : Sp → World → Value → Prop
  | .is v, _, u => u = v
  | .pts bs, w, u => ∃ p c, u = ptsV p c bs ∧ Lies w p c bs
  | .any, _, _ => True
theorem Sp.kept (s : Sp) (w w' : World) (v : Value) (h : s.holds w v) (hb : Below w.heap.size w w') : s.holds w' v := by
  cases s with
  | is _ => exact h
  | pts _ => obtain ⟨p, c, e, hl⟩ := h; exact ⟨p, c, e, hl.kept hb⟩
  | any => trivial
def spV (l : List Sp) (i : Nat) (w : World) (v : Value) : Prop := (l.getD i .any).holds w v
theorem spV_kept (l : List Sp) : ∀ j w w' v, spV l j w v → Below w.heap.size w w' → spV l j w' v := fun _ w w' v h hb => Sp.kept _ w w' v h hb

set_option maxRecDepth 100000 in
set_option maxHeartbeats 1500000 in
theorem refSort_any : ∀ (N : Nat) (a : Option Addr) (cap : Nat) (bs : List Pt) (w : World), bs.length ≤ N → Lies w a cap bs → bs.length ≤ 10000000000 →
    Calls Tryz.prog 149 #[ptsV a cap bs] w fun e W' => ∃ v, e = .returned v ∧ Gives W' v (psort bs) ∧ Below w.heap.size w W' := by
  intro N
  induction N using Nat.strongRecOn with
  | _ N ih =>
    intro a cap bs w hN h hbig
    have H := Lib.hid h
    have hl := h.len
    have hm := h.max
    unfold maxLen at hm
    have IH := Lib.hid ih
    clear h ih
    by_cases h2 : bs.length < 2
    · have d1 : decide ((bs.length : Int) < 2) = true := decide_eq_true (by omega)
      have d1' : decide (bs.length < 2) = true := decide_eq_true h2
      have HV := Lib.hid (psort_short bs h2)
      go_enter Tryz.func149, Tryz.ntmps149
      go_wp2_with fail
      go_ret
      exact ⟨_, rfl, by rw [HV.out]; exact ⟨a, cap, rfl, H.out⟩, Below.refl _ _⟩
    · have d1 : decide ((bs.length : Int) < 2) = false := decide_eq_false (by omega)
      have d1' : decide (bs.length < 2) = false := decide_eq_false h2
      obtain ⟨b, off, rfl, _⟩ := H.out.cell (fun e => by rw [e] at h2; exact h2 (by simp))
      obtain ⟨n, hn, hn1, hn2⟩ : ∃ n : Nat, n = bs.length / 2 ∧ 0 < n ∧ n < bs.length := ⟨_, rfl, by omega, by omega⟩
      have q1 : (bs.length : Int).tdiv 2 = (n : Int) := by rw [hn]; rfl
      have q2 : (bs.length : Int) / 2 = (n : Int) := by omega
      have l1 : (bs.take n).length = n := by simp; omega
      have l2 : (bs.drop n).length = bs.length - n := by simp
      have HS := Lib.hid (show mrg (psort (bs.take n)) (psort (bs.drop n)) = psort bs by rw [← psort_app, List.take_append_drop])
      have T1 := Lib.hid (show ∀ W, Below w.heap.size w W → Lies W (some ⟨b, off, none⟩) cap (bs.take n) from fun W hb => (H.out.take n).kept hb)
      have T2 := Lib.hid (show ∀ W, Below w.heap.size w W → Lies W (some ⟨b, off + n * 2, none⟩) (cap - n) (bs.drop n) from fun W hb => (H.out.drop n).kept hb)
      clear hn
      go_enter Tryz.func149, Tryz.ntmps149
      go_wp2_with fail
      refine wp_region_val (spV [.is (ptsV (some ⟨b, off, none⟩) cap bs), .is (.int .i64 n), .is (.slice (some ⟨b, off, none⟩) n cap), .pts (psort (bs.take n)), .is (ptsV (some ⟨b, off, none⟩) cap bs), .is (.int .i64 n), .is (.slice (some ⟨b, off + n * 2, none⟩) (bs.length - n) (cap - n)), .pts (psort (bs.drop n)), .pts (mrg (psort (bs.take n)) (psort (bs.drop n))), .pts (mrg (psort (bs.take n)) (psort (bs.drop n)))]) (spV_kept _) (by kernel_rfl) (by kernel_rfl) (by kernel_rfl) ?step ?done
      case step =>
        intro d a W i hi hall hI
        replace hi : i < 10 := hi
        have b0 := hI.below
        obtain rfl | rfl | rfl | rfl | rfl | rfl | rfl | rfl | rfl | rfl : i = 0 ∨ i = 1 ∨ i = 2 ∨ i = 3 ∨ i = 4 ∨ i = 5 ∨ i = 6 ∨ i = 7 ∨ i = 8 ∨ i = 9 := by omega
        · have e0 : a.tmps[0]?.getD undef = ptsV (some ⟨b, off, none⟩) cap bs := hI.old 0 (unwritten_of (by kernel_rfl) d)
          refine StepV.done rfl (wanted_free rfl) fun K hK => ?_
          exact op_move rfl (hK _ _ (Below.refl _ _) e0)
        · have e3 : a.tmps[3]?.getD undef = .int .i64 n := hI.old 3 (unwritten_of (by kernel_rfl) d)
          refine StepV.done rfl (wanted_free rfl) fun K hK => ?_
          exact op_move rfl (hK _ _ (Below.refl _ _) e3)
        · have e11 : a.tmps[11]?.getD undef = ptsV (some ⟨b, off, none⟩) cap bs := hI.val 0 11 rfl (hall 0 (by kernel_rfl))
          have e12 : a.tmps[12]?.getD undef = .int .i64 n := hI.val 1 12 rfl (hall 1 (by kernel_rfl))
          refine StepV.done rfl (wanted_free rfl) fun K hK => ?_
          clear hall hI
          refine op_run (.slice (some ⟨b, off, none⟩) n cap) W ?_ (hK _ _ (Below.refl _ _) rfl)
          clear hK
          simp only [List.getElem_toArray, List.getElem_cons_zero, List.getElem_cons_succ, execOp, Act.eval]
          go_simp
          intro hcon; omega
        · have e13 : a.tmps[13]?.getD undef = .slice (some ⟨b, off, none⟩) n cap := hI.val 2 13 rfl (hall 2 (by kernel_rfl))
          have C := IH.out n (by omega) (some ⟨b, off, none⟩) cap (bs.take n) W (by omega) (T1.out W b0) (by omega)
          rw [show ptsV (some ⟨b, off, none⟩) cap (bs.take n) = .slice (some ⟨b, off, none⟩) n cap by show Value.slice _ _ _ = _; rw [l1]] at C
          refine StepV.done rfl (wanted_free rfl) fun K hK => ?_
          refine op_call 149 #[.slice (some ⟨b, off, none⟩) n cap] (fun v W2 => Gives W2 v (psort (bs.take n)) ∧ Below W.heap.size W W2) ?_ C (fun v W2 ⟨h1, h2⟩ => hK v W2 h2 h1)
          clear hall hI hK C
          simp only [List.getElem_toArray, List.getElem_cons_zero, List.getElem_cons_succ, execOp]
          go_simp
        · have e0 : a.tmps[0]?.getD undef = ptsV (some ⟨b, off, none⟩) cap bs := hI.old 0 (unwritten_of (by kernel_rfl) d)
          refine StepV.done rfl (wanted_free rfl) fun K hK => ?_
          exact op_move rfl (hK _ _ (Below.refl _ _) e0)
        · have e3 : a.tmps[3]?.getD undef = .int .i64 n := hI.old 3 (unwritten_of (by kernel_rfl) d)
          refine StepV.done rfl (wanted_free rfl) fun K hK => ?_
          exact op_move rfl (hK _ _ (Below.refl _ _) e3)
        · have e15 : a.tmps[15]?.getD undef = ptsV (some ⟨b, off, none⟩) cap bs := hI.val 4 15 rfl (hall 4 (by kernel_rfl))
          have e16 : a.tmps[16]?.getD undef = .int .i64 n := hI.val 5 16 rfl (hall 5 (by kernel_rfl))
          refine StepV.done rfl (wanted_free rfl) fun K hK => ?_
          clear hall hI
          refine op_run (.slice (some ⟨b, off + n * 2, none⟩) (bs.length - n) (cap - n)) W ?_ (hK _ _ (Below.refl _ _) rfl)
          clear hK
          simp only [List.getElem_toArray, List.getElem_cons_zero, List.getElem_cons_succ, execOp, Act.eval]
          go_simp
          rw [if_pos (by omega), if_neg (by omega)]
        · have e17 : a.tmps[17]?.getD undef = .slice (some ⟨b, off + n * 2, none⟩) (bs.length - n) (cap - n) := hI.val 6 17 rfl (hall 6 (by kernel_rfl))
          have C := IH.out (bs.length - n) (by omega) (some ⟨b, off + n * 2, none⟩) (cap - n) (bs.drop n) W (by omega) (T2.out W b0) (by omega)
          rw [show ptsV (some ⟨b, off + n * 2, none⟩) (cap - n) (bs.drop n) = .slice (some ⟨b, off + n * 2, none⟩) (bs.length - n) (cap - n) by show Value.slice _ _ _ = _; rw [l2]] at C
          refine StepV.done rfl (wanted_free rfl) fun K hK => ?_
          refine op_call 149 #[.slice (some ⟨b, off + n * 2, none⟩) (bs.length - n) (cap - n)] (fun v W2 => Gives W2 v (psort (bs.drop n)) ∧ Below W.heap.size W W2) ?_ C (fun v W2 ⟨h1, h2⟩ => hK v W2 h2 h1)
          clear hall hI hK C
          simp only [List.getElem_toArray, List.getElem_cons_zero, List.getElem_cons_succ, execOp]
          go_simp
        · obtain ⟨p14, q14, e14, k14⟩ : ∃ p c, a.tmps[14]?.getD undef = ptsV p c (psort (bs.take n)) ∧ Lies W p c (psort (bs.take n)) := hI.val 3 14 rfl (hall 3 (by kernel_rfl))
          obtain ⟨p18, q18, e18, k18⟩ : ∃ p c, a.tmps[18]?.getD undef = ptsV p c (psort (bs.drop n)) ∧ Lies W p c (psort (bs.drop n)) := hI.val 7 18 rfl (hall 7 (by kernel_rfl))
          have C := (refMerge_any p14 q14 (psort (bs.take n)) p18 q18 (psort (bs.drop n)) W k14 k18 (by rw [psort_length]; omega) (by rw [psort_length]; omega)).mono (R' := fun e W2 => ∃ v, e = .returned v ∧ Gives W2 v (mrg (psort (bs.take n)) (psort (bs.drop n))) ∧ Below W.heap.size W W2) (fun e W2 ⟨v, he, ho, hb⟩ => ⟨v, he, ho.lies, hb⟩)
          refine StepV.done rfl (wanted_free rfl) fun K hK => ?_
          refine op_call 173 #[ptsV p14 q14 (psort (bs.take n)), ptsV p18 q18 (psort (bs.drop n))] (fun v W2 => Gives W2 v (mrg (psort (bs.take n)) (psort (bs.drop n))) ∧ Below W.heap.size W W2) ?_ C (fun v W2 ⟨h1, h2⟩ => hK v W2 h2 h1)
          clear hall hI hK C
          simp only [List.getElem_toArray, List.getElem_cons_zero, List.getElem_cons_succ, execOp]
          go_simp
        · have f := hI.val 8 19 rfl (hall 8 (by kernel_rfl))
          refine StepV.done rfl (wanted_free rfl) fun K hK => ?_
          exact op_assign rfl (hK _ _ (Below.refl _ _) f)
      case done =>
        intro a W hv hI
        obtain ⟨t, df⟩ := a
        obtain rfl : df = [] := hI.defs
        have hz : t.size = 20 := hI.size
        have b0 := hI.below
        obtain ⟨p2, q2', e2, k2⟩ : ∃ p c, t[2]?.getD undef = ptsV p c (mrg (psort (bs.take n)) (psort (bs.drop n))) ∧ Lies W p c (mrg (psort (bs.take n)) (psort (bs.drop n))) := hv 9 2 rfl
        clear hv hI
        obtain ⟨ys, hy, ht⟩ := arr_slots t 20 hz
        have hls : (slotsFrom ys 0 20).toArray = #[ys 0, ys 1, ys 2, ys 3, ys 4, ys 5, ys 6, ys 7, ys 8, ys 9, ys 10, ys 11, ys 12, ys 13, ys 14, ys 15, ys 16, ys 17, ys 18, ys 19] := rfl
        rw [hy] at e2
        rw [ht, hls, e2]
        rw [HS.out] at k2 ⊢
        have K2 := Lib.hid k2
        have B0 := Lib.hid b0
        clear ht hls hz hy e2 k2 b0
        go_wp2_with fail
        go_ret
        exact ⟨_, rfl, ⟨p2, q2', rfl, K2.out⟩, B0.out⟩
end Go.Proofs.YtbamodkgagcmnaaGreat.Pts
