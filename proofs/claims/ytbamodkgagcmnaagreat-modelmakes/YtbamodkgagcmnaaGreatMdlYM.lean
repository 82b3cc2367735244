/-
  Law 17's few (package gangplanklaw17), and the document's Few (package gangplankref17).
-/
import Derived.Test.YtbamodkgagcmnaaGreatMdlWM
import Derived.Test.YtbamodkgagcmnaaGreatModIM
import Derived.WalkMore
import Derived.OwnWalk
import Derived.Lib.SliceRun
set_option maxRecDepth 100000
namespace Go.Proofs.YtbamodkgagcmnaaGreat.Mdl
open Go.RowKit Go.Shelf Go.WideShapes RowG
open Mdo
open Go.Proofs.YtbamodkgagcmnaaGreat.Mod (Cfg cfgV smallB)

attribute [local go_sem] Oper.semAt_some

/-- So few operations, and so small ones, that a law looks at them. -/
def fewL (L : List StM) : Prop := L.length ≤ 12 ∧ ∀ x ∈ L, x.pkt.size ≤ 100 ∧ x.pool.length ≤ 8
instance (L : List StM) : Decidable (fewL L) := inferInstanceAs (Decidable (_ ∧ _))
theorem lies_op {W : World} {a : Option Addr} {cap : Nat} {T : List StM} (h : Lies opK W a cap T) {k : Nat} (hk : k < T.length) :
    ∃ b off, a = some ⟨b, off, none⟩ ∧ W.cell? ⟨b, off + k * 4, none⟩ = some (.int .i64 T[k].kd) ∧ W.cell? ⟨b, off + k * 4 + 1, none⟩ = some (.string T[k].pkt) ∧ W.cell? ⟨b, off + k * 4 + 2, none⟩ = some (.slice T[k].p T[k].pool.length T[k].c) ∧ W.cell? ⟨b, off + k * 4 + 3, none⟩ = some (.int .i64 T[k].sh) := by
  obtain ⟨b, off, e, hc⟩ := h.at hk
  exact ⟨b, off, e, hc 0 _ rfl, hc 1 _ rfl, hc 2 _ rfl, hc 3 _ rfl⟩
set_option maxHeartbeats 800000 in
theorem refFew_any (a : Option Addr) (cap : Nat) (T : List StM) (w : World) (h : Lies opK w a cap T) (hp : ∀ x ∈ T, x.pkt.size ≤ maxLen) :
    Calls Tryz.prog 42 #[rowV a cap T, .int .i64 12] w fun e W' => e = .returned (.bool (decide (fewL T))) ∧ W' = w := by
  have H := Lib.hid h
  have HP := Lib.hid hp
  have hcap := h.max
  have hlc := h.len
  unfold maxLen at hcap
  clear h hp
  by_cases h0 : 12 < T.length
  · have d0 : decide ((12 : Int) < (T.length : Int)) = true := decide_eq_true (by omega)
    have d1 : decide (12 < T.length) = true := decide_eq_true h0
    have HF := Lib.hid (show decide (fewL T) = false from decide_eq_false fun h => by have := h.1; omega)
    go_enter Tryz.func42, Tryz.ntmps42
    go_wp2_with fail
    go_ret
    exact ⟨by rw [HF.out]; rfl, rfl⟩
  have d0 : decide ((12 : Int) < (T.length : Int)) = false := decide_eq_false (by omega)
  have d1 : decide (12 < T.length) = false := decide_eq_false h0
  go_enter Tryz.func42, Tryz.ntmps42
  go_wp2_with fail
  go_loopw [5] (fun i W => W = w ∧ ∃ k : Nat, k ≤ T.length ∧ i = .int .i64 k ∧ ∀ j (hj : j < T.length), j < k → T[j].pkt.size ≤ 100 ∧ T[j].pool.length ≤ 8) (fun i _ => T.length - (intOf i).toNat)
  case atStart => exact ⟨rfl, 0, Nat.zero_le _, rfl, fun j _ hj => by omega⟩
  case round =>
    obtain ⟨rfl, k, hk, rfl, hall⟩ := hrel
    have HA := Lib.hid hall
    clear hall
    by_cases hlt : k < T.length
    · obtain ⟨b, off, rfl, q0, q1, q2, q3⟩ := lies_op H.out hlt
      have hpl := HP.out _ (List.getElem_mem hlt)
      unfold maxLen at hpl
      by_cases g0 : 100 < T[k].pkt.size
      · have e0 : decide ((100 : Int) < (T[k].pkt.size : Int)) = true := decide_eq_true (by omega)
        have e1 : decide (100 < T[k].pkt.size) = true := decide_eq_true g0
        have HF := Lib.hid (show decide (fewL T) = false from decide_eq_false fun h => by have := (h.2 _ (List.getElem_mem hlt)).1; omega)
        generalize T[k] = x at *
        go_wp2_with fail
        go_ret
        exact ⟨by rw [HF.out]; rfl, rfl⟩
      · have e0 : decide ((100 : Int) < (T[k].pkt.size : Int)) = false := decide_eq_false (by omega)
        have e1 : decide (100 < T[k].pkt.size) = false := decide_eq_false g0
        by_cases g1 : 8 < T[k].pool.length
        · have e2 : decide ((8 : Int) < (T[k].pool.length : Int)) = true := decide_eq_true (by omega)
          have e3 : decide (8 < T[k].pool.length) = true := decide_eq_true g1
          have HF := Lib.hid (show decide (fewL T) = false from decide_eq_false fun h => by have := (h.2 _ (List.getElem_mem hlt)).2; omega)
          generalize T[k] = x at *
          go_wp2_with fail
          go_ret
          exact ⟨by rw [HF.out]; rfl, rfl⟩
        · have e2 : decide ((8 : Int) < (T[k].pool.length : Int)) = false := decide_eq_false (by omega)
          have e3 : decide (8 < T[k].pool.length) = false := decide_eq_false g1
          have HN := Lib.hid (show ∀ j (hj : j < T.length), j < k + 1 → T[j].pkt.size ≤ 100 ∧ T[j].pool.length ≤ 8 from fun j hj hjk => by
            rcases Nat.lt_or_ge j k with h | h
            · exact HA.out j hj h
            · obtain rfl : j = k := by omega
              exact ⟨by omega, by omega⟩)
          clear HA
          generalize T[k] = x at *
          go_wp2_with fail
          exact ⟨⟨trivial, k + 1, hlt, by go_num, HN.out⟩, by simp [intOf]; omega⟩
    · obtain rfl : k = T.length := by omega
      have HF := Lib.hid (show decide (fewL T) = true from decide_eq_true ⟨by omega, fun x hx => by
        obtain ⟨j, hj, rfl⟩ := List.getElem_of_mem hx
        exact HA.out j hj hj⟩)
      go_wp2_with fail
      go_ret
      exact ⟨by rw [HF.out]; rfl, rfl⟩
end Go.Proofs.YtbamodkgagcmnaaGreat.Mdl
