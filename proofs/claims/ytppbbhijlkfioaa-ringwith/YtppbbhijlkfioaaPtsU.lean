/-
  Points, plain facts: each backend's own points among those of a pool that may be.
-/
import Derived.Test.YtppbbhijlkfioaaBPts
import Derived.Test.YtppbbhijlkfioaaPolQ
namespace Go.Proofs.Ytppbbhijlkfioaa.Pts
open Go.RowKit
open Pol (Bk chk polV)

theorem filter_none (z : List Bk) (id : Int) (h : ∀ x ∈ z, x.1 ≠ id) : z.filter (fun y => y.1 == id) = [] := by
  rw [List.filter_eq_nil_iff]
  intro x hx
  simpa using h x hx
theorem filter_one (x : Bk) : ∀ z : List Bk, (z.map (·.1)).Nodup → x ∈ z → z.filter (fun y => y.1 == x.1) = [x] := by
  intro z
  induction z with
  | nil => intro _ h; cases h
  | cons y z ih =>
    intro hn hx
    rw [List.map_cons, List.nodup_cons] at hn
    have hno : ∀ q ∈ z, q.1 ≠ y.1 := fun q hq e => hn.1 (e ▸ List.mem_map.2 ⟨q, hq, rfl⟩)
    rcases List.mem_cons.1 hx with rfl | hx
    · rw [List.filter_cons, if_pos (by simp), filter_none z x.1 hno]
    · have : y.1 ≠ x.1 := fun e => hno x hx e.symm
      rw [List.filter_cons, if_neg (by simpa using this), ih hn.2 hx]
/-- How many points of an Id there are, where a backend has it. -/
theorem count_one (z : List Bk) (h : chk z) (x : Bk) (hx : x ∈ z) : (((ofL hsh z).filter (fun p => p.2 == x.1)).length : Int) = 8 * x.2 ∧ 1 ≤ x.2 ∧ x.2 ≤ 16 := by
  obtain ⟨_, hr, hn⟩ := (Pol.chk_iff z).1 h
  obtain ⟨_, _, h3, h4⟩ := hr x hx
  rw [count_id, filter_one x z hn hx]
  refine ⟨?_, by omega, by omega⟩
  simp only [List.map_cons, List.map_nil, List.sum_cons, List.sum_nil, Nat.add_zero]
  unfold cnt; omega
theorem count_none (z : List Bk) (id : Int) (h : ∀ x ∈ z, x.1 ≠ id) : ((ofL hsh z).filter (fun p => p.2 == id)).length = 0 := by
  rw [count_id, filter_none z id h]; rfl
theorem there_one (z : List Bk) (x : Bk) (hx : x ∈ z) (m : Nat) (h : (m : Int) < 8 * x.2) (h1 : 1 ≤ x.2 ∧ x.2 ≤ 16) : (hsh x.1 m, x.1) ∈ ofL hsh z := in_ofL hsh z x hx m (by unfold cnt; omega)
theorem Check_yes (a : Option Addr) (cap : Nat) (bs : List Bk) (hc : chk bs) (w : World) (h : Pol.Lies w a cap bs) :
    Calls Try.prog 19 #[polV a cap bs] w fun e W' => e = .returned (.int .i64 0) ∧ Below w.heap.size w W' := Pol.Check_told a cap bs true (by simp [hc]) w h
theorem Check_no (a : Option Addr) (cap : Nat) (bs : List Bk) (hc : ¬ chk bs) (w : World) (h : Pol.Lies w a cap bs) :
    Calls Try.prog 19 #[polV a cap bs] w fun e W' => e = .returned (.int .i64 10) ∧ Below w.heap.size w W' := Pol.Check_told a cap bs false (by simp [hc]) w h
end Go.Proofs.Ytppbbhijlkfioaa.Pts
