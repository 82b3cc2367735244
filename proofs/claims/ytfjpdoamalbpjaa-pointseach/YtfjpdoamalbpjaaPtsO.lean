/-
  Points: a row of places is sorted (package slices: SortFunc, SortedFunc).
-/
import Derived.Test.YtfjpdoamalbpjaaPtsN
import Derived.Test.YtfjpdoamalbpjaaPtsJ
import Derived.Test.YtfjpdoamalbpjaaPtsT
import Derived.Shelf.SlSortCmp.NoneTotal
namespace Go.Proofs.Ytfjpdoamalbpjaa.Pts
open Go.RowKit Go.Shelf Rgn
open Pol (below2 below_alloc Bk polV)

/-- A place's two cells. -/
def encP (x : Pt) : List Value := [.int .u64 x.1, .int .i64 x.2]
theorem lt_cmpP (x y : Pt) : ltOf cmpP x y = less x y := by
  unfold ltOf
  cases h : less x y with
  | true => exact decide_eq_true ((cmpP_lt x y).2 h)
  | false => exact decide_eq_false (fun h' => by rw [(cmpP_lt x y).1 h'] at h; cases h)
theorem swo_cmpP : Sort.SWO (ltOf cmpP) where
  irrefl x := by rw [lt_cmpP, less_not]; omega
  trans x y z h1 h2 := by rw [lt_cmpP, less_iff] at *; omega
  ntrans x y z h1 h2 := by rw [lt_cmpP, less_not] at *; omega
theorem flatP_get (d : Array Pt) (j : Nat) (x : Pt) (h : d.toList[j]? = some x) : (Sort.flatK encP 2 d)[j * 2]! = .int .u64 x.1 ∧ (Sort.flatK encP 2 d)[j * 2 + 1]! = .int .i64 x.2 := by
  have hj : j < d.size := by
    have := (List.getElem?_eq_some_iff.1 h).1; simpa using this
  have e : d[j]! = x := by
    rw [getElem!_pos d j hj]
    have := (List.getElem?_eq_some_iff.1 h).2; simpa using this
  rw [Sort.get_flatK encP 2 d (j * 2) (by omega), Sort.get_flatK encP 2 d (j * 2 + 1) (by omega)]
  rw [show j * 2 / 2 = j by omega, show (j * 2 + 1) / 2 = j by omega, show j * 2 % 2 = 0 by omega, show (j * 2 + 1) % 2 = 1 by omega, e]
  exact ⟨rfl, rfl⟩
theorem holds_of_own {B : Nat} {W : World} {g cap : Nat} {bs : List Pt} (h : OwnP B W (.slice (some ⟨g, 0, none⟩) bs.length cap) bs) : Sort.HoldsK encP 2 W g 0 bs.toArray := by
  intro j hj
  rw [Sort.size_flatK] at hj
  have hk : j / 2 < bs.length := by simp at hj; omega
  obtain ⟨f0, f1⟩ := flatP_get bs.toArray (j / 2) bs[j / 2] (by simp [hk])
  obtain ⟨e0, e1⟩ := flat_get bs (j / 2) bs[j / 2] (List.getElem?_eq_getElem hk)
  have hc := World.ownsRow.cells h (g := g) rfl
  have hfr : ∀ o, W.frozen? ⟨g, o, none⟩ = false := fun o => by
    rcases h.2 with ⟨e, _⟩ | ⟨g', cap', cur, e, _, hg, _⟩
    · cases e
    · cases e; simp [World.frozen?, hg]
  refine ⟨?_, hfr _⟩
  rcases Nat.mod_two_eq_zero_or_one j with h0 | h0
  · have e : j / 2 * 2 = j := by omega
    rw [e] at f0 e0
    rw [f0]
    have := hc _ _ e0
    rw [Pol.add_at] at this; exact this
  · have e : j / 2 * 2 + 1 = j := by omega
    rw [e] at f1 e1
    rw [f1]
    have := hc _ _ e1
    rw [Pol.add_at] at this; exact this
theorem lies_of_holds {W : World} {g cap : Nat} {bs : List Pt} (h : Sort.HoldsK encP 2 W g 0 bs.toArray) (h1 : bs.length ≤ cap) (h2 : cap ≤ maxLen) : Lies W (some ⟨g, 0, none⟩) cap bs :=
  ⟨h2, h1, fun _ => ⟨g, 0, rfl, fun i x hi => by
    have hl := (List.getElem?_eq_some_iff.1 hi).1
    obtain ⟨f0, f1⟩ := flatP_get bs.toArray i x (by simpa using hi)
    have c0 := (h (i * 2) (by rw [Sort.size_flatK]; simp; omega)).1
    have c1 := (h (i * 2 + 1) (by rw [Sort.size_flatK]; simp; omega)).1
    rw [f0] at c0
    rw [f1] at c1
    exact ⟨c0, c1⟩⟩⟩
theorem below_sort {B : Nat} {w : World} {g n : Nat} {d : Array Pt} {os : Array Obj} (hB : B ≤ g) (hs : B ≤ w.heap.size) : Below B w (sortWorldK encP 2 w g 0 n d os) := by
  unfold sortWorldK
  refine ⟨rfl, rfl, rfl, ?_, fun k hk => ?_⟩
  · rw [Sort.size_grow, Sort.size_putRowK]; exact Nat.le_add_right _ _
  · show ((Sort.putRowK encP 2 (Sort.ahead w n) g 0 d).heap ++ os)[k]? = _
    have hz : (Sort.putRowK encP 2 (Sort.ahead w n) g 0 d).heap.size = w.heap.size := by rw [Sort.size_putRowK]; rfl
    rw [Array.getElem?_append_left (by rw [hz]; omega)]
    show (w.heap.modify g _)[k]? = _
    rw [Array.getElem?_modify, if_neg (by omega)]

set_option maxHeartbeats 1000000 in
theorem SortFunc_told (B g cap : Nat) (bs : List Pt) (w : World) (hb : bs.length ≤ 1099511627776) (hB : B ≤ w.heap.size) (h : OwnP B w (.slice (some ⟨g, 0, none⟩) bs.length cap) bs) :
    Calls Try.prog 44 #[.slice (some ⟨g, 0, none⟩) bs.length cap, .func (.func 26) #[] #[]] w fun e W' => e = .returned (.tuple #[]) ∧ Lies W' (some ⟨g, 0, none⟩) cap (psort bs) ∧ Below B w W' := by
  obtain ⟨hgB, hlt⟩ := World.ownsRow.lt h g rfl
  have hcap : bs.length ≤ cap ∧ cap ≤ maxLen := by
    rcases h.2 with ⟨e, _⟩ | ⟨g', cap', cur, e, _, _, h1, h2, _⟩
    · cases e
    · cases e; exact ⟨h1, h2⟩
  have eg : ∀ args w, (callFunc 26 args).run Try.prog w = .ok (.enter 26 args) w := enters_of Try.func26 (by kernel_rfl) rfl
  have hH := holds_of_own h
  have hcon := AnyQ.slices_SortFunc_total Try.sortPl 2 Try.isAgg48 Try.sizeOf48 encP (fun _ => rfl) (fun x v hv => by simp [encP] at hv; rcases hv with rfl | rfl <;> rfl) cmpP swo_cmpP 26 #[] g 0 cap bs.toArray w eg (fun _ _ _ _ x y => compare_any x y _) hH hlt (by simp; omega) (fun x y h1 h2 => by
    rw [lt_cmpP] at h1 h2
    rw [less_not] at h1 h2
    exact Prod.ext (by omega) (by omega))
  refine hcon.mono ?_
  rintro e W' ⟨rfl, n, os, rfl⟩
  have ef : (fun x y => !(ltOf cmpP) y x) = le := by funext x y; rw [lt_cmpP]; rfl
  rw [ef]
  refine ⟨rfl, ?_, below_sort hgB hB⟩
  have hl : (psort bs).length = bs.length := psort_length bs
  exact lies_of_holds (holdsK_sortWorldK_c encP 2 w g 0 bs.toArray (psort bs).toArray n os hH hlt (by simp [hl])) (by rw [hl]; exact hcap.1) hcap.2
end Go.Proofs.Ytfjpdoamalbpjaa.Pts
