/-
  Package cells: slices.Repeat of one number.
-/
import Derived.Test.YtiokpccdkpgibaaCelD
import Derived.Deep.RegionLaw
namespace Go.Proofs.Ytiokpccdkpgibaa.Cel
open Go.RowKit Go.Shelf Go.WideShapes RowG

attribute [local go_sem] Oper.semAt_some

/-- The first j are this, the others 0. -/
def partL (v : Int) (m j : Nat) : List Value := flat numK (List.replicate j v ++ List.replicate (m - j) 0)
theorem flat_num (l : List Int) : flat numK l = l.map fun x => .int .i64 x := by
  induction l with
  | nil => rfl
  | cons x l ih => rw [flat_cons, ih]; rfl
theorem partL_eq (v : Int) (m j : Nat) : partL v m j = List.replicate j (.int .i64 v) ++ List.replicate (m - j) (.int .i64 0) := by
  unfold partL; rw [flat_num]; simp
theorem partL_length (v : Int) {m j : Nat} (h : j ≤ m) : (partL v m j).length = m := by rw [partL_eq]; simp; omega
theorem partL_splice (v : Int) {m j c : Nat} : splice (partL v m j) j (List.replicate c (.int .i64 v)) = partL v m (j + c) := by
  unfold splice
  rw [partL_eq, partL_eq, List.take_left' (by simp), List.length_replicate, List.drop_append]
  simp [show m - j - c = m - (j + c) by omega]
  rw [← List.append_assoc, List.replicate_append_replicate]
theorem partL_get (v : Int) {m j i : Nat} (h : i < j) : (partL v m j)[i]? = some (.int .i64 v) := by
  rw [partL_eq, List.getElem?_append_left (by simpa using h)]
  simp [h]
theorem made_part (v : Int) (m : Nat) : madeCells zeroI m = (partL v m 0).toArray := by
  have := made_flat (K := numK) zeroI (0 : Int) rfl m
  rw [show m * numK.c = m from Nat.mul_one m] at this
  apply Array.toList_inj.1
  rw [this]
  simp [partL]

set_option maxHeartbeats 1000000 in
theorem Repeat_told (b : Nat) (v : Int) (m : Nat) (hm : m ≤ 1024) (w : World) (hc : w.cell? ⟨b, 0, none⟩ = some (.int .i64 v)) :
    Calls Try.prog 22 #[.slice (some ⟨b, 0, none⟩) 1 1, .int .i64 (m : Nat)] w fun e W' => e = .returned (rowV (some ⟨w.heap.size, 0, none⟩) m (List.replicate m v)) ∧ Row numK 3 W' w.heap.size m (List.replicate m v) ∧ Below w.heap.size w W' := by
  have C := Lib.hid (Mul_told m hm)
  have hmk := run_nums m (by omega)
  obtain ⟨g, hg⟩ : ∃ g, w.heap.size = g := ⟨_, rfl⟩
  have w1 : IntKind.u64.wrap (m : Int) = (m : Int) := by rw [IntKind.wrap_u64]; omega
  have w2 : IntKind.i64.wrap (m : Int) = (m : Int) := by rw [IntKind.wrap_i64]; omega
  have hb0 := World.block_lt_of_cell? w _ hc
  have HC := Lib.hid hc
  clear hc
  go_enter Try.func22, Try.ntmps22
  go_wp2_with fail
  refine (C.out _).mono ?_
  rintro e w1 ⟨rfl, rfl⟩
  obtain ⟨n0, hn0⟩ : ∃ n0, min 1 m = n0 := ⟨_, rfl⟩
  have hn1 : n0 ≤ m := by omega
  have hn2 : 0 < m → 0 < n0 := by omega
  have hn3 : n0 ≤ 1 := by omega
  have HR := Lib.hid (row_nums w1 m (by unfold maxLen; omega))
  have L0 := Lib.hid (partL_length v (m := m) (j := 0) (Nat.zero_le _))
  have hcs : Hid ((List.replicate n0 (Value.int .i64 v)).length = Nat.min 1 m) := Lib.hid (by rw [List.length_replicate]; exact hn0.symm)
  have S0 := Lib.hid (partL_splice v (m := m) (j := 0) (c := n0))
  generalize hcsv : List.replicate n0 (Value.int .i64 v) = cs at *
  have hone : ∀ u ∈ cs, u.oneCell' = true := by intro u hu; rw [← hcsv] at hu; rw [List.eq_of_mem_replicate hu]; rfl
  have hlen : cs.length = n0 := by rw [← hcsv]; simp
  have hget : ∀ j u, cs[j]? = some u → j = 0 ∧ u = .int .i64 v := by
    intro j u hj
    rw [← hcsv] at hj
    have := List.getElem?_eq_some_iff.1 hj
    obtain ⟨h1, h2⟩ := this
    simp at h1 h2
    exact ⟨by omega, h2.symm⟩
  have HO := Lib.hid hone
  have HG := Lib.hid hget
  have HL := Lib.hid hlen
  clear hone hget hlen hcsv hn0
  go_wp2_with (refine wpList_copy_splice rfl (.tmp 31) (.tmp 32) 26 26 rfl 3 Try.underlying26 (by kernel_rfl) _ _ _ _ _ _ rfl rfl g 0 (partL v m 0) 3 ?qg cs hcs.out ?qp ?qf HO.out g w1 ?qb (Nat.le_refl _) ?_)
  case qg => rw [← made_part, ← hg]; exact World.alloc_heap_new w1 _
  case qp =>
    intro _ j u hj
    obtain ⟨rfl, rfl⟩ := HG.out j u hj
    exact Lib.cell?_alloc_some _ HC.out
  case qf => rw [L0.out, HL.out]; omega
  case qb => rw [← hg]; exact (Below.refl _ w1).alloc (Nat.le_refl _) _
  intro w2 hg2 hb2
  have e2 : w2.heap[g]? = some (.cells (partL v m n0).toArray 3 (0, 0)) := by
    have := hg2.out
    rw [S0.out, Nat.zero_add] at this
    exact this
  rw [HL.out]
  have E2 := Lib.hid e2
  have B2 := Lib.hid hb2
  clear e2 hb2 hg2 S0 HG HO hcs HL HR HC L0
  clear cs
  go_wp2_with fail
  go_loopw [8] (fun i wr => ∃ j : Nat, j ≤ m ∧ (0 < m → 0 < j) ∧ i = .int .i64 j ∧ wr.heap[g]? = some (.cells (partL v m j).toArray 3 (0, 0)) ∧ Below g w1 wr) (fun i _ => m - (intOf i).toNat)
  case atStart => exact ⟨n0, hn1, hn2, rfl, E2.out, B2.out⟩
  case round =>
    obtain ⟨j, hj, hp, rfl, hh, hB⟩ := hrel
    have HH := Lib.hid hh
    have HB := Lib.hid hB
    clear hh hB E2 B2
    by_cases hlt : j < m
    · have hj0 : 0 < j := hp (by omega)
      obtain ⟨c, hc⟩ : ∃ c, min j (m - j) = c := ⟨_, rfl⟩
      have hc0 : 0 < c := by omega
      have hc1 : j + c ≤ m := by omega
      have hc2 : c ≤ j := by omega
      have e1 : (m : Int) - j = ((m - j : Nat) : Int) := by omega
      have L0 := Lib.hid (partL_length v hj)
      have S0 := Lib.hid (partL_splice v (m := m) (j := j) (c := c))
      have hg1 : ∀ i u, (List.replicate c (Value.int .i64 v))[i]? = some u → wr.drew.cell? ((⟨g, 0, none⟩ : Addr).add i) = some u := by
        intro i u hi
        rw [add_at, Nat.zero_add]
        show wr.cell? ⟨g, i, none⟩ = some u
        obtain ⟨h1, h2⟩ := List.getElem?_eq_some_iff.1 hi
        simp at h1 h2
        have := partL_get v (m := m) (j := j) (i := i) (by omega)
        simp [World.cell?, HH.out, this, h2]
      have G1 := Lib.hid hg1
      have hcs : (List.replicate c (Value.int .i64 v)).length = Nat.min j (m - j) := by rw [List.length_replicate]; exact hc.symm
      have C1 := Lib.hid hcs
      have hlen : (List.replicate c (Value.int .i64 v)).length = c := by simp
      have hone : ∀ u ∈ List.replicate c (Value.int .i64 v), u.oneCell' = true := by intro u hu; rw [List.eq_of_mem_replicate hu]; rfl
      have O1 := Lib.hid hone
      have N1 := Lib.hid hlen
      generalize List.replicate c (Value.int .i64 v) = cs at *
      clear hg1 hcs hlen hone hc
      have hne : ¬ m = j := by omega
      have w3 : IntKind.i64.wrap ((j : Int) + (cs.length : Nat)) = (j : Int) + (cs.length : Nat) := by rw [IntKind.wrap_i64, N1.out]; omega
      have HF := Lib.hid (show j + cs.length ≤ (partL v m j).length by rw [L0.out, N1.out]; exact hc1)
      have HH1 := Lib.hid (show wr.drew.heap[g]? = some (.cells (partL v m j).toArray 3 (0, 0)) from HH.out)
      go_wp2_with fail
      go_region_law (refine step_copy_splice rfl (.tmp 41) (.tmp 44) 26 26 rfl 3 Try.underlying26 (by kernel_rfl) (some ⟨g, j, none⟩) (some ⟨g, 0, none⟩) (m - j) (m - j) j m (by simp [Act.eval, Act.put]) (by simp [Act.eval, Act.put]) g j (partL v m j) 3 HH1.out cs C1.out (fun _ => ⟨rfl, _, rfl, G1.out⟩) HF.out O1.out g w1 HB.out.drew (Nat.le_refl _) ?_; intro w4 hg4 hb4)
      have e4 : w4.heap[g]? = some (.cells (partL v m (j + c)).toArray 3 (0, 0)) := by
        have := hg4.out
        rw [S0.out] at this
        exact this
      have E4 := Lib.hid e4
      have B4 := Lib.hid hb4
      clear e4 hb4 hg4
      go_wp2_with fail
      go_roundw
      case rel =>
        (repeat apply Exists.intro)
        exact ⟨⟨j + c, hc1, fun _ => by omega, by rw [N1.out]; go_num, E4.out, B4.out⟩, rfl⟩
      case measure =>
        show m - (j + (cs.length : Int)).toNat < m - (j : Int).toNat
        rw [N1.out]; omega
    · obtain rfl : j = m := by omega
      have R : Row numK 3 wr g j (List.replicate j v) := by
        refine ⟨_, HH.out, by simp, by unfold maxLen; omega, ?_, ?_⟩
        · rw [List.size_toArray, partL_length v (Nat.le_refl _)]; exact (Nat.mul_one j).symm
        · rw [List.length_replicate, show j * numK.c = j from Nat.mul_one j]
          show (partL v j j).take j = _
          rw [List.take_of_length_le (by rw [partL_length v (Nat.le_refl _)]; exact Nat.le_refl _)]
          unfold partL
          rw [Nat.sub_self, List.replicate_zero, List.append_nil]
      have RR := Lib.hid R
      clear R
      go_wp2_with fail
      go_ret
      exact ⟨by simp [rowV], by rw [hg]; exact RR.out, by rw [hg]; exact HB.out⟩
end Go.Proofs.Ytiokpccdkpgibaa.Cel
