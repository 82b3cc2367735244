/-
  Package slots: New (slices.Repeat of one slot that is spoilt).
-/
import Derived.Test.YtefdnnmgmdaapaaGreatSlsA
import Derived.Laws.MakeOwn
import Derived.Laws.CopyOwn
import Derived.Laws.Bits64b
import Derived.Lib.SliceRun
import Derived.Deep.RegionLaw
namespace Go.Proofs.YtefdnnmgmdaapaaGreat.Sls
open Go.RowKit Go.Shelf Go.WideShapes RowG Trn Slo
open Pol (Bk)

attribute [local go_sem] Oper.semAt_some

theorem info_slot : (Tryz.prog.info? 52).map (fun i => (i.zero, i.size, i.bytes)) = some (some .nilIface, slK.c, 16) := by kernel_rfl
abbrev zeroN : Array Value := #[.nilIface]
/-- A new row of slots. -/
theorem run_slots (n : Nat) (hn : n ≤ 1000000000) (W : World) : (Instr.makeSlice 49 (.int .i64 (n : Int)) (.int .i64 (n : Int))).run Tryz.prog W = .ok (.slice (some ⟨W.heap.size, 0, none⟩) n n) (W.alloc (.cells (madeCells zeroN n) 52)) := by
  obtain ⟨i0, hi, hz0, hz1, hz2⟩ := info_parts info_slot
  have := run_make (P := Tryz.prog) W 49 52 i0 .nilIface Tryz.underlying49 hi hz0 .i64 .i64 n n (by omega) (Int.le_refl _) (by rw [hz2]; omega) (by omega)
  rw [hz1, Int.toNat_natCast, show n * slK.c = n from Nat.mul_one n, show (Value.nilIface).cells = zeroN from rfl] at this
  simpa using this

set_option maxHeartbeats 1000000 in
theorem Mul64_told (m : Nat) (hm : m ≤ 1024) (w : World) : Calls Tryz.prog 46 #[.int .u64 1, .int .u64 (m : Nat)] w fun e W' => e = .returned (.tuple #[.int .u64 0, .int .u64 (m : Nat)]) ∧ W' = w := by
  have a1 : bits .and .u64 (m : Int) 4294967295 = (m : Int) := by
    have h := bits_and_u64_nat m 4294967295 (by omega) (by omega)
    rw [show m &&& 4294967295 = m % 4294967296 from Nat.and_two_pow_sub_one_eq_mod m 32, Nat.mod_eq_of_lt (by omega)] at h
    exact h
  have a2 : bits .and .u64 1 4294967295 = 1 := by
    have h := bits_and_u64_nat 1 4294967295 (by omega) (by omega)
    exact h
  have a3 : bits .and .u64 0 4294967295 = 0 := by
    have h := bits_and_u64_nat 0 4294967295 (by omega) (by omega)
    exact h
  have d1 : (m : Int) / 4294967296 = 0 := by omega
  have w1 : IntKind.u64.wrap (m : Int) = (m : Int) := by rw [IntKind.wrap_u64]; omega
  go_enter Tryz.func46, Tryz.ntmps46
  go_wp2
  go_ret2
  exact ⟨rfl, rfl⟩
set_option maxHeartbeats 400000 in
theorem Mul_told (m : Nat) (hm : m ≤ 1024) (w : World) : Calls Tryz.prog 36 #[.int .u64 1, .int .u64 (m : Nat)] w fun e W' => e = .returned (.tuple #[.int .u64 0, .int .u64 (m : Nat)]) ∧ W' = w := by
  have C := Lib.hid (Mul64_told m hm w)
  go_enter Tryz.func36, Tryz.ntmps36
  go_wp2_with fail
  refine C.out.mono ?_
  rintro e w1 ⟨rfl, rfl⟩
  go_wp2_with fail
  go_ret2
  exact ⟨rfl, rfl⟩

/-- The first j are this, the others nothing. -/
def partL (v : Value) (m j : Nat) : List Value := List.replicate j v ++ List.replicate (m - j) .nilIface
theorem partL_length (v : Value) {m j : Nat} (h : j ≤ m) : (partL v m j).length = m := by unfold partL; simp; omega
theorem partL_splice (v : Value) {m j c : Nat} : splice (partL v m j) j (List.replicate c v) = partL v m (j + c) := by
  unfold splice
  unfold partL
  rw [List.take_left' (by simp), List.length_replicate, List.drop_append]
  simp [show m - j - c = m - (j + c) by omega]
  rw [← List.append_assoc, List.replicate_append_replicate]
theorem partL_get (v : Value) {m j i : Nat} (h : i < j) : (partL v m j)[i]? = some v := by
  unfold partL
  rw [List.getElem?_append_left (by simpa using h)]
  simp [h]
theorem made_part (v : Value) (m : Nat) : madeCells zeroN m = (partL v m 0).toArray := by
  apply Array.toList_inj.1
  unfold partL
  apply List.ext_getElem?
  intro i
  by_cases hi : i < m
  · simp [madeCells, hi, Nat.mod_one]
  · rw [List.getElem?_eq_none (by simp [madeCells]; omega), List.getElem?_eq_none (by simp; omega)]

set_option maxHeartbeats 1000000 in
theorem Repeat_told (b : Nat) (T : TypeId) (u : Value) (m : Nat) (hm : m ≤ 1024) (w : World) (hc : w.cell? ⟨b, 0, none⟩ = some (.iface T u)) :
    Calls Tryz.prog 19 #[.slice (some ⟨b, 0, none⟩) 1 1, .int .i64 (m : Nat)] w fun e W' => e = .returned (.slice (some ⟨w.heap.size, 0, none⟩) m m) ∧ W'.heap[w.heap.size]? = some (.cells (List.replicate m (.iface T u)).toArray 52 (0, 0)) ∧ Below w.heap.size w W' := by
  have C := Lib.hid (Mul_told m hm)
  have hmk := run_slots m (by omega)
  obtain ⟨g, hg⟩ : ∃ g, w.heap.size = g := ⟨_, rfl⟩
  have w1 : IntKind.u64.wrap (m : Int) = (m : Int) := by rw [IntKind.wrap_u64]; omega
  have w2 : IntKind.i64.wrap (m : Int) = (m : Int) := by rw [IntKind.wrap_i64]; omega
  have hb0 := World.block_lt_of_cell? w _ hc
  have hone1 : (Value.iface T u).oneCell' = true := rfl
  generalize Value.iface T u = v at *
  have HC := Lib.hid hc
  clear hc
  go_enter Tryz.func19, Tryz.ntmps19
  go_wp2_with fail
  refine (C.out _).mono ?_
  rintro e w1 ⟨rfl, rfl⟩
  obtain ⟨n0, hn0⟩ : ∃ n0, min 1 m = n0 := ⟨_, rfl⟩
  have hn1 : n0 ≤ m := by omega
  have hn2 : 0 < m → 0 < n0 := by omega
  have hn3 : n0 ≤ 1 := by omega
  have L0 := Lib.hid (partL_length v (m := m) (j := 0) (Nat.zero_le _))
  have hcs : Hid ((List.replicate n0 v).length = Nat.min 1 m) := Lib.hid (by rw [List.length_replicate]; exact hn0.symm)
  have S0 := Lib.hid (partL_splice v (m := m) (j := 0) (c := n0))
  generalize hcsv : List.replicate n0 v = cs at *
  have hone : ∀ u ∈ cs, u.oneCell' = true := by intro u hu; rw [← hcsv] at hu; rw [List.eq_of_mem_replicate hu]; exact hone1
  have hlen : cs.length = n0 := by rw [← hcsv]; simp
  have hget : ∀ j u, cs[j]? = some u → j = 0 ∧ u = v := by
    intro j u hj
    rw [← hcsv] at hj
    have := List.getElem?_eq_some_iff.1 hj
    obtain ⟨h1, h2⟩ := this
    simp at h1 h2
    exact ⟨by omega, h2.symm⟩
  have HO := Lib.hid hone
  have HG := Lib.hid hget
  have HL := Lib.hid hlen
  have H1 := Lib.hid hone1
  clear hone hget hlen hcsv hn0 hone1
  go_wp2_with (refine wpList_copy_splice rfl (.tmp 31) (.tmp 32) 49 49 rfl 52 Tryz.underlying49 (by kernel_rfl) _ _ _ _ _ _ rfl rfl g 0 (partL v m 0) 52 ?qg cs hcs.out ?qp ?qf HO.out g w1 ?qb (Nat.le_refl _) ?_)
  case qg => rw [← made_part, ← hg]; exact World.alloc_heap_new w1 _
  case qp =>
    intro _ j u hj
    obtain ⟨rfl, rfl⟩ := HG.out j u hj
    exact Lib.cell?_alloc_some _ HC.out
  case qf => rw [L0.out, HL.out]; omega
  case qb => rw [← hg]; exact (Below.refl _ w1).alloc (Nat.le_refl _) _
  intro w2 hg2 hb2
  have e2 : w2.heap[g]? = some (.cells (partL v m n0).toArray 52 (0, 0)) := by
    have := hg2.out
    rw [S0.out, Nat.zero_add] at this
    exact this
  rw [HL.out]
  have E2 := Lib.hid e2
  have B2 := Lib.hid hb2
  clear e2 hb2 hg2 S0 HG HO hcs HL HC L0
  clear cs
  go_wp2_with fail
  go_loopw [8] (fun i wr => ∃ j : Nat, j ≤ m ∧ (0 < m → 0 < j) ∧ i = .int .i64 j ∧ wr.heap[g]? = some (.cells (partL v m j).toArray 52 (0, 0)) ∧ Below g w1 wr) (fun i _ => m - (intOf i).toNat)
  case atStart => exact ⟨n0, hn1, hn2, rfl, E2.out, B2.out⟩
  case round =>
    obtain ⟨j, hj, hp, rfl, hh, hB⟩ := hrel
    have HH := Lib.hid hh
    have HB := Lib.hid hB
    clear hh hB E2 B2
    by_cases hlt : j < m
    · have hj0 : 0 < j := hp (by omega)
      obtain ⟨c, hc⟩ : ∃ c, min j (m - j) = c := ⟨_, rfl⟩
      have hc0 : 0 < c := by omega
      have hc1 : j + c ≤ m := by omega
      have hc2 : c ≤ j := by omega
      have e1 : (m : Int) - j = ((m - j : Nat) : Int) := by omega
      have L0 := Lib.hid (partL_length v hj)
      have S0 := Lib.hid (partL_splice v (m := m) (j := j) (c := c))
      have hg1 : ∀ i u, (List.replicate c v)[i]? = some u → wr.drew.cell? ((⟨g, 0, none⟩ : Addr).add i) = some u := by
        intro i u hi
        rw [add_at, Nat.zero_add]
        show wr.cell? ⟨g, i, none⟩ = some u
        obtain ⟨h1, h2⟩ := List.getElem?_eq_some_iff.1 hi
        simp at h1 h2
        subst h2
        have := partL_get v (m := m) (j := j) (i := i) (by omega)
        simp [World.cell?, HH.out, this]
      have G1 := Lib.hid hg1
      have hcs : (List.replicate c v).length = Nat.min j (m - j) := by rw [List.length_replicate]; exact hc.symm
      have C1 := Lib.hid hcs
      have hlen : (List.replicate c v).length = c := by simp
      have hone : ∀ u ∈ List.replicate c v, u.oneCell' = true := by intro u hu; rw [List.eq_of_mem_replicate hu]; exact H1.out
      have O1 := Lib.hid hone
      have N1 := Lib.hid hlen
      generalize List.replicate c v = cs at *
      clear hg1 hcs hlen hone hc
      have hne : ¬ m = j := by omega
      have w3 : IntKind.i64.wrap ((j : Int) + (cs.length : Nat)) = (j : Int) + (cs.length : Nat) := by rw [IntKind.wrap_i64, N1.out]; omega
      have HF := Lib.hid (show j + cs.length ≤ (partL v m j).length by rw [L0.out, N1.out]; exact hc1)
      have HH1 := Lib.hid (show wr.drew.heap[g]? = some (.cells (partL v m j).toArray 52 (0, 0)) from HH.out)
      go_wp2_with fail
      go_region_law (refine step_copy_splice rfl (.tmp 41) (.tmp 44) 49 49 rfl 52 Tryz.underlying49 (by kernel_rfl) (some ⟨g, j, none⟩) (some ⟨g, 0, none⟩) (m - j) (m - j) j m (by simp [Act.eval, Act.put]) (by simp [Act.eval, Act.put]) g j (partL v m j) 52 HH1.out cs C1.out (fun _ => ⟨rfl, _, rfl, G1.out⟩) HF.out O1.out g w1 HB.out.drew (Nat.le_refl _) ?_; intro w4 hg4 hb4)
      have e4 : w4.heap[g]? = some (.cells (partL v m (j + c)).toArray 52 (0, 0)) := by
        have := hg4.out
        rw [S0.out] at this
        exact this
      have E4 := Lib.hid e4
      have B4 := Lib.hid hb4
      clear e4 hb4 hg4
      go_wp2_with fail
      go_roundw
      case rel =>
        (repeat apply Exists.intro)
        exact ⟨⟨j + c, hc1, fun _ => by omega, by rw [N1.out]; go_num, E4.out, B4.out⟩, rfl⟩
      case measure =>
        show m - (j + (cs.length : Int)).toNat < m - (j : Int).toNat
        rw [N1.out]; omega
    · obtain rfl : j = m := by omega
      have R := Lib.hid (show wr.heap[g]? = some (.cells (List.replicate j v).toArray 52 (0, 0)) by
        have := HH.out
        unfold partL at this
        rwa [Nat.sub_self, List.replicate_zero, List.append_nil] at this)
      go_wp2_with fail
      go_ret
      exact ⟨by rw [hg]; rfl, by rw [hg]; exact R.out, by rw [hg]; exact HB.out⟩

/-- How many slots there are. -/
def numOf (n : Int) : Nat := (max 0 (min n 8)).toNat
theorem new_is (n : Int) : (new n : List (Slot (List Bk))) = (List.replicate (numOf n) SlM.spoilt).map SlM.abs := by
  rw [List.map_replicate]; rfl
theorem lay_new {W : World} {f : Foot} {k : Nat} (hk : k ≤ 8) (h1 : W.cell? ⟨f.p, 0, none⟩ = some (.slice (some ⟨f.g, 0, none⟩) k k)) (h2 : W.heap[f.g]? = some (.cells (List.replicate k spoiltV).toArray 52 (0, 0))) (hne : f.p ≠ f.g) :
    Lay W f (List.replicate k .spoilt) := by
  refine ⟨by rw [List.length_replicate]; exact h1, ⟨_, h2, Nat.le_refl _, ?_, ?_, ?_⟩, fun x hx => ?_, hne⟩
  · rw [List.length_replicate]; unfold maxLen; omega
  · rw [List.length_replicate]; simp; exact (Nat.mul_one k).symm
  · rw [List.length_replicate, show k * slK.c = k from Nat.mul_one k, List.take_of_length_le (by simp)]
    have : ∀ j, List.replicate j spoiltV = flat slK (List.replicate j SlM.spoilt) := by
      intro j
      induction j with
      | zero => rfl
      | succ j ih => rw [List.replicate_succ, List.replicate_succ, flat_cons, ← ih]; rfl
    simpa using this k
  · rw [List.eq_of_mem_replicate hx]; trivial

set_option maxHeartbeats 1000000 in
theorem New_told (n : Int) (w : World) : Calls Tryz.prog 6 #[.int .i64 n] w fun e W' => ∃ f : Foot, e = .returned f.v ∧ Held W' f (new n) ∧ f.from' w.heap.size ∧ Below w.heap.size w W' := by
  have al := Lib.hid ((Below.refl w.heap.size w).alloc (Nat.le_refl _) (.cells #[spoiltV] 52))
  obtain ⟨k, hk⟩ : ∃ k, numOf n = k := ⟨_, rfl⟩
  have hk8 : k ≤ 8 := by rw [← hk]; unfold numOf; omega
  have C := Lib.hid (Repeat_told w.heap.size 54 (.agg #[]) k (by omega) (w.alloc (.cells #[spoiltV] 52)) (by simp))
  rw [new_is, hk]
  have fin : ∀ w1 : World, w1.heap[w.heap.size + 1]? = some (.cells (List.replicate k (.iface 54 (.agg #[]))).toArray 52 (0, 0)) → Below (w.heap.size + 1) (w.alloc (.cells #[spoiltV] 52)) w1 →
      ∃ f : Foot, Ending.returned (.pointer (some ⟨w1.heap.size, 0, none⟩)) = .returned f.v ∧ Held (w1.alloc (.cells #[.slice (some ⟨w.heap.size + 1, 0, none⟩) k k] 56)) f ((List.replicate k SlM.spoilt).map SlM.abs) ∧ f.from' w.heap.size ∧ Below w.heap.size w (w1.alloc (.cells #[.slice (some ⟨w.heap.size + 1, 0, none⟩) k k] 56)) := by
    intro w1 h1 h2
    have hlt := heap_lt h1
    have b1 := al.out.trans (h2.mono (Nat.le_succ _))
    have b2 := Below.alloc (Below.refl w1.heap.size w1) (Nat.le_refl _) (.cells #[.slice (some ⟨w.heap.size + 1, 0, none⟩) k k] 56)
    refine ⟨⟨w1.heap.size, w.heap.size + 1⟩, rfl, ⟨_, rfl, lay_new hk8 (by simp) ((b2.block _ hlt).trans h1) (by simp only; omega)⟩, ⟨by show w.heap.size ≤ w1.heap.size; omega, by show w.heap.size ≤ w.heap.size + 1; omega⟩, below2 b1 b2⟩
  simp only [World.size_alloc] at C
  have F := Lib.hid fin
  clear fin
  go_enter Tryz.func6, Tryz.ntmps6
  by_cases h1 : n < 0
  · have hk0 : k = 0 := by rw [← hk]; unfold numOf; omega
    subst hk0
    rw [show ((0 : Nat) : Int) = 0 from rfl] at C
    go_wp2_with fail
    all_goals first
      | omega
      | (refine C.out.mono ?_
         rintro e w1 ⟨rfl, h2, h3⟩
         have R := Lib.hid (F.out w1 h2 h3)
         clear h2 h3 C F
         go_wp2_with fail
         go_ret
         exact R.out)
  by_cases h2 : 8 < n
  · have hk0 : k = 8 := by rw [← hk]; unfold numOf; omega
    subst hk0
    rw [show ((8 : Nat) : Int) = 8 from rfl] at C
    go_wp2_with fail
    all_goals first
      | omega
      | (refine C.out.mono ?_
         rintro e w1 ⟨rfl, h2, h3⟩
         have R := Lib.hid (F.out w1 h2 h3)
         clear h2 h3 C F
         go_wp2_with fail
         go_ret
         exact R.out)
  · obtain ⟨j, rfl⟩ := Int.eq_ofNat_of_zero_le (show 0 ≤ n by omega)
    have hk0 : k = j := by rw [← hk]; unfold numOf; omega
    subst hk0
    go_wp2_with fail
    all_goals first
      | omega
      | (refine C.out.mono ?_
         rintro e w1 ⟨rfl, h2, h3⟩
         have R := Lib.hid (F.out w1 h2 h3)
         clear h2 h3 C F
         go_wp2_with fail
         go_ret
         exact R.out)
end Go.Proofs.YtefdnnmgmdaapaaGreat.Sls
