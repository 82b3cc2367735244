/-
  The fixed facts that every law of probe asks for first (works of gangplanklaw11).
-/
import Derived.Test.YtkgaiadmacapfaaPrbD
import Derived.Test.YtkgaiadmacapfaaPrbG
namespace Go.Proofs.Ytkgaiadmacapfaa.Prb
open Go.RowKit Go.Shelf RowG Tab

abbrev tA : ByteArray := ⟨#[97]⟩
/-- The table of the fixed facts. -/
abbrev tabA : List Ent := [ent0, ⟨1, tA, 0, 0⟩, ent0]
theorem home_a : homeZ tA 3 = 1 := by decide +kernel

set_option maxRecDepth 100000 in
set_option maxHeartbeats 2000000 in
theorem works_any (w : World) : Calls Try.prog 9 #[] w fun e W' => e = .returned (.bool true) ∧ Below w.heap.size w W' := by
  have hmk : ∀ W, (Instr.makeSlice 22 (.int .i64 3) (.int .i64 3)).run Try.prog W = .ok (.slice (some ⟨W.heap.size, 0, none⟩) 3 3) (W.alloc (.cells (madeCells Ste.zeroC (3 * 4)) 31)) := fun W => Ste.run_new 3 (by omega) W
  go_enter Try.func9, Try.ntmps9
  go_wp2_with fail
  have hR := Ste.row_new w 3 (by unfold maxLen; omega)
  have hb := (Below.refl _ w).alloc (Nat.le_refl _) (.cells (madeCells Ste.zeroC (3 * 4)) 31)
  generalize w.alloc (.cells (madeCells Ste.zeroC (3 * 4)) 31) = W1 at *
  refine (Home_told tA 3 W1 (by decide) (by decide)).mono ?_
  rintro e W2 ⟨rfl, hb2⟩
  rw [home_a]
  have hR2 := hR.kept hb2
  have hB2 := below2 hb hb2
  obtain ⟨c0, c1, c2, c3⟩ := hR2.ent (k := 1) (by simp)
  have f0 := hR2.free 4
  have f1 := hR2.free 5
  have f2 := hR2.free 6
  have f3 := hR2.free 7
  simp only [Nat.one_mul] at c0 c1 c2 c3
  have HR := Lib.hid (hR2.put4 (i := 1) (by simp) ⟨1, tA, 0, 0⟩)
  have HB := Lib.hid (below_put4 hB2 (Nat.le_refl w.heap.size) 1 ⟨1, tA, 0, 0⟩)
  clear hR hb hb2 hmk
  go_wp2_with fail
  change Calls _ _ _ (put4 W2 w.heap.size 1 ⟨1, tA, 0, 0⟩) _
  clear c0 c1 c2 c3 f0 f1 f2 f3 hR2 hB2
  have HR : Hid (Row entK 31 (put4 W2 w.heap.size 1 ⟨1, tA, 0, 0⟩) w.heap.size 3 tabA) := HR
  generalize put4 W2 w.heap.size 1 ⟨1, tA, 0, 0⟩ = V at *
  refine (Find_told none 0 [] tA _ (lies_nil _) (by decide)).mono ?_
  rintro e V ⟨rfl, hb⟩
  rw [show zOf (find home [] tA) = -1 from by decide +kernel]
  have HR := Lib.hid (HR.out.kept hb)
  have HB := Lib.hid (below2 HB.out hb)
  clear hb
  go_wp2_with fail
  refine (Room_told none 0 [] tA _ (lies_nil _) (by decide)).mono ?_
  rintro e V ⟨rfl, hb⟩
  rw [show zOf (room home [] tA) = -1 from by decide +kernel]
  have HR := Lib.hid (HR.out.kept hb)
  have HB := Lib.hid (below2 HB.out hb)
  clear hb
  go_wp2_with fail
  refine (Home_told tA 0 _ (by decide) (by decide)).mono ?_
  rintro e V ⟨rfl, hb⟩
  rw [show homeZ tA 0 = 0 from by decide +kernel]
  have HR := Lib.hid (HR.out.kept hb)
  have HB := Lib.hid (below2 HB.out hb)
  clear hb
  go_wp2_with fail
  refine (Fnv.Sum_any tA _ (by decide)).mono ?_
  rintro e V ⟨rfl, hb⟩
  rw [show Fnv.jn 14695981039346656037 tA.data.toList = 12638187200555641996 from by decide +kernel]
  have HR := Lib.hid (HR.out.kept hb)
  have HB := Lib.hid (below2 HB.out hb)
  clear hb
  go_wp2_with fail
  refine (Find_told _ _ tabA tA _ HR.out.lies (by decide)).mono ?_
  rintro e V ⟨rfl, hb⟩
  rw [show zOf (find home tabA tA) = 1 from by decide +kernel]
  have HR := Lib.hid (HR.out.kept hb)
  have HB := Lib.hid (below2 HB.out hb)
  clear hb
  go_wp2_with fail
  refine (Room_told _ _ tabA tA _ HR.out.lies (by decide)).mono ?_
  rintro e V ⟨rfl, hb⟩
  rw [show zOf (room home tabA tA) = -1 from by decide +kernel]
  have HR := Lib.hid (HR.out.kept hb)
  have HB := Lib.hid (below2 HB.out hb)
  clear hb
  go_wp2_with fail
  refine (Count_told _ _ tabA 1 _ HR.out.lies).mono ?_
  rintro e V ⟨rfl, hb⟩
  rw [show count 1 tabA = 1 from by decide +kernel]
  have HR := Lib.hid (HR.out.kept hb)
  have HB := Lib.hid (below2 HB.out hb)
  clear hb
  go_wp2_with fail
  refine (Count_told _ _ tabA 0 _ HR.out.lies).mono ?_
  rintro e V ⟨rfl, hb⟩
  rw [show count 0 tabA = 2 from by decide +kernel]
  have HR := Lib.hid (HR.out.kept hb)
  have HB := Lib.hid (below2 HB.out hb)
  clear hb
  go_wp2_with fail
  refine (Same_told _ _ tabA _ _ tabA true (by decide +kernel) _ HR.out.lies HR.out.lies).mono ?_
  rintro e V ⟨rfl, hb⟩
  have HR := Lib.hid (HR.out.kept hb)
  have HB := Lib.hid (below2 HB.out hb)
  clear hb
  go_wp2_with fail
  refine (Same_told _ _ tabA _ _ [] false (by decide +kernel) _ HR.out.lies (lies_nil _)).mono ?_
  rintro e V ⟨rfl, hb⟩
  have HB := Lib.hid (below2 HB.out hb)
  clear hb
  go_wp2_with fail
  go_ret
  exact ⟨rfl, HB.out⟩
end Go.Proofs.Ytkgaiadmacapfaa.Prb
