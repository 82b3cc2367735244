/-
  A strings.Builder that a type embeds ('type text struct{ strings.Builder }'), in a variable of that type: copyCheck, WriteString, String. (The library has these of a variable of the Builder's own type; what is known of a Builder is said in its words, at the embedding type.)
-/
import Derived.Test.YtcdgcjpdlhknoaaOctC
import Derived.Lib.Strings
import Derived.Lib.Slices
import Derived.Lib.Walk
import Derived.Lib.Builder
import Derived.Lib.AppendStr
import Derived.Lib.UnsafeStr
import Derived.Laws.Externs
namespace Go.Proofs.Ytcdgcjpdlhknoaa.Sb
open Go.RowKit Go.Shelf

/-- A variable of the embedding type that holds a Builder of these bytes; used, or not yet. -/
abbrev Holds (B b : Nat) (p : Value) (bs : List Value) (w : World) : Prop := Lib.BuilderAt 105 5 B b p bs w
abbrev Any (B b : Nat) (bs : List Value) (w : World) : Prop := Lib.IsBuilder 105 5 B b bs w
/-- Its own address. -/
abbrev me (b : Nat) : Value := .pointer (some ⟨b, 0, none⟩)

theorem any_holds {B b : Nat} {bs : List Value} {w : World} (h : Any B b bs w) : ∃ p, Holds B b p bs w := h.elim (fun h => ⟨_, h⟩) (fun h => ⟨_, h⟩)
/-- What a row of cells says of one of them. -/
theorem two_cells {w : World} {b T : Nat} {p v : Value} (h : w.heap[b]? = some (.cells #[p, v] T (0, 0))) : w.cell? ⟨b, 0, none⟩ = some p ∧ w.cell? ⟨b, 1, none⟩ = some v ∧ w.frozen? ⟨b, 1, none⟩ = false ∧ b < w.heap.size :=
  ⟨by simp [World.cell?, h], by simp [World.cell?, h], by simp [World.frozen?, h], (Array.getElem?_eq_some_iff.1 h).1⟩
/-- A value that owns a row is a slice. -/
theorem own_slice {w : World} {B e n : Nat} {v : Value} {xs : List Value} (h : w.ownsRow B e 1 v n xs) : ∃ a c, v = .slice a n c :=
  h.2.elim (fun ⟨hv, h0⟩ => ⟨none, 0, h0 ▸ hv⟩) (fun ⟨_, c, _, hv, _⟩ => ⟨_, c, hv⟩)

/-- How a pointer to the Builder goes through unsafe.Pointer and back. -/
theorem there_and_back (b : Nat) (w : World) (h : w.shape? b = some (105, 2)) :
    (convert 101 133 (me b)).run Try.prog w = .ok (me b) w ∧ (convert 133 101 (me b)).run Try.prog w = .ok (me b) w ∧
    (binOp .neq 101 (me b) (me b)).run Try.prog w = .ok (.bool false) w := by
  obtain ⟨j, hj, hz⟩ := Option.map_eq_some_iff.1 (show (Try.prog.info? 103).map (·.size) = some 2 by kernel_rfl)
  exact ⟨Lib.run_to_unsafe w _ Try.underlying101 Try.underlying133 hj (by omega) h Nat.zero_lt_two, Lib.run_from_unsafe w _ Try.underlying133 Try.underlying101 hj h (by kernel_rfl), Lib.run_neq_ptr_same w _ Try.underlying101 hj⟩

set_option maxHeartbeats 1000000 in
set_option maxRecDepth 100000 in
/-- Behind it the Builder knows its own address. -/
theorem copyCheck_any (B b : Nat) (bs : List Value) (w : World) (h : Any B b bs w) :
    Calls Try.prog 79 #[me b] w fun e W => e = .returned (.tuple #[]) ∧ Holds B b (me b) bs W ∧ Below B w W := by
  rcases h with h | h
  · obtain ⟨t1, t2, _⟩ := there_and_back b w h.shape
    have c0 := h.cell0
    have f0 := h.frozen0
    have H := Lib.hid h
    clear h
    go_enter Try.func79, Try.ntmps79
    go_wp2
    rw [run_callFunc_extern Try.func83 (by kernel_rfl) (by kernel_rfl) (by kernel_rfl) (e := Extern.AbiNoEscape.same) (by kernel_rfl), Lib.run_noEscape]
    simp only [Result.andThen]
    rw [Oper.upon_value]
    go_wp2
    go_end0
    exact ⟨rfl, H.out.used _, (Below.refl B w).setCell (p := ⟨b, 0, none⟩) H.out.1 _⟩
  · have t3 := (there_and_back b w h.shape).2.2
    have c0 := h.cell0
    have H := Lib.hid h
    clear h
    go_enter Try.func79, Try.ntmps79
    go_wp2
    go_end0
    exact ⟨rfl, H.out, Below.refl B w⟩

set_option maxHeartbeats 2000000 in
set_option maxRecDepth 100000 in
/-- The bytes of s go behind what is there. -/
theorem WriteString_any (B b : Nat) (bs : List Value) (s : ByteArray) (w : World) (h : Any B b bs w) (hlen : bs.length + s.size ≤ 140737488355328) (hBw : B ≤ w.heap.size) :
    Calls Try.prog 65 #[me b, .string s] w fun e W => e = .returned (.tuple #[.int .i64 s.size, .nilIface]) ∧ Holds B b (me b) (bs ++ Lib.strCells s) W ∧ Below B w W := by
  obtain ⟨i0, hi, hz0, hz1, hz2⟩ := info_parts Oct.info_u8
  go_enter Try.func65, Try.ntmps65
  go_wp2_with fail
  refine (copyCheck_any B b bs _ h).mono ?_
  rintro e w1 ⟨rfl, ⟨hB, v, hk, ho, hv⟩, b1⟩
  obtain ⟨c0, c1, _, hlt⟩ := two_cells hk
  have hs1 := b1.size
  go_wp2_with (at_builtin; refine Lib.wpList_append_own_string _ rfl _ _ 74 9 rfl B 5 i0 Try.underlying74 Try.underlying9 hi hz0 hz1 hz2 _ _ _ rfl ho s rfl (by unfold maxLen; omega) (by omega) (by omega) ?_)
  intro v2 w2 ho2 hg _
  have hk2 := (hg.block b hlt (fun e => hv e.symm)).trans hk
  have b2 := b1.grown hg (by omega) (fun k hk => (ho.lt k hk).1)
  obtain ⟨d0, d1, f1, _⟩ := two_cells hk2
  obtain ⟨a, c, rfl⟩ := own_slice ho2
  have R := Lib.hid (And.intro (Lib.BuilderAt.put (T := 105) (p := me b) (bs' := bs ++ Lib.strCells s) hB hk2 (by rw [List.length_append, Lib.strCells_length]; exact ho2) (by decide)) (b2.setCell (p := ⟨b, 1, none⟩) hB (.slice a (bs.length + s.size) c)))
  clear hg ho ho2 b1 b2 hk hk2
  go_wp2
  go_ret2
  exact ⟨rfl, R.out⟩

set_option maxHeartbeats 1000000 in
set_option maxRecDepth 100000 in
/-- All bytes of a Builder that holds one or more. -/
theorem String_some (B b : Nat) (l : List UInt8) (w : World) (h : Any B b (Lib.byteCells l) w) (h0 : l ≠ []) :
    Calls Try.prog 66 #[me b] w fun e W => e = .returned (.string ⟨l.toArray⟩) ∧ Below B w W := by
  obtain ⟨p, _, v, hk, ho, _⟩ := any_holds h
  rw [Lib.byteCells_length] at ho
  have hl := List.length_pos_iff.2 h0
  obtain ⟨g, cap, cur, rfl, hBg, hg, hlc, hcm, hsz⟩ : ∃ g cap cur, v = .slice (some ⟨g, 0, none⟩) l.length cap ∧ B ≤ g ∧ w.heap[g]? = some (.cells cur 5 (0, 0)) ∧ l.length ≤ cap ∧ cap ≤ maxLen ∧ cur.size = cap * 1 := by
    rcases ho.2 with ⟨_, e⟩ | ⟨g, cap, cur, r0, r1, r2, r3, r4, r5, _⟩
    · omega
    · exact ⟨g, cap, cur, r0, r1, r2, r3, r4, r5⟩
  have c1 : w.drew.cell? ⟨b, 1, none⟩ = _ := (two_cells hk).2.1
  have u1 : (Builtin.unsafeSliceData_ #[74] 128 #[.slice (some ⟨g, 0, none⟩) l.length cap]).run Try.prog w.drew = .ok (.pointer (some ⟨g, 0, none⟩)) w.drew := Lib.run_unsafeSliceData_row _ _ _ _ _ _ (by omega)
  have sh : w.drew.shape? g = some (5, cur.size) := by
    have e : w.drew.heap[g]? = _ := hg
    simp [World.shape?, e]
  have u2 := Lib.run_unsafeString_row (P := Try.prog) w.drew 128 3 9 5 Try.underlying128 (by kernel_rfl) g cur.size sh l h0 (by omega) (by unfold maxLen at hcm; omega) (fun j x hx => ho.cells rfl j (.int .u8 x.toNat) (by simp [Lib.byteCells, hx]))
  have R := Lib.hid (Lib.below_freeze (Below.refl B w).drew (p := ⟨g, 0, none⟩) hBg l.length)
  clear ho hk hg sh
  go_enter Try.func66, Try.ntmps66
  go_wp2
  go_region
  all_goals (go_wp2; go_ret; exact ⟨rfl, R.out⟩)
end Go.Proofs.Ytcdgcjpdlhknoaa.Sb
