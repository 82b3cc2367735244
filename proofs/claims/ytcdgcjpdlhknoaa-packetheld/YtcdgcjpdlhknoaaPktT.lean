/-
  The document's answer for packet (package gangplankref07): head, Parse.
-/
import Derived.Test.YtcdgcjpdlhknoaaPktQ
import Derived.Test.YtcdgcjpdlhknoaaRgnB
import Derived.Test.YtcdgcjpdlhknoaaPrtF
namespace Go.Proofs.Ytcdgcjpdlhknoaa.Pkt
open Go.RowKit Go.Shelf Txt Rgn

/-- What head tells. -/
abbrev gotC (x y r : ByteArray) (p e : Int) : Array Value := #[.string x, .string y, .string r, .int .i64 p, .int .i64 e]
abbrev gotV (x y r : ByteArray) (p e : Int) : Value := .agg (gotC x y r p e)
/-- A variable that holds it. -/
def Gotten (W : World) (b : Nat) (x y r : ByteArray) (p e : Int) : Prop := W.heap[b]? = some (.cells (gotC x y r p e) 55 (0, 0))
section
variable {W W' : World} {b : Nat} {x y r : ByteArray} {p e : Int}
theorem gotten_new (W : World) (x y r : ByteArray) (p e : Int) : Gotten (W.alloc (.cells (gotC x y r p e) 55)) W.heap.size x y r p e := World.alloc_heap_new W _
theorem Gotten.kept (h : Gotten W b x y r p e) (hb : Below W.heap.size W W') : Gotten W' b x y r p e := (hb.block b (Array.getElem?_eq_some_iff.1 h).1).trans h
theorem Gotten.alloc (h : Gotten W b x y r p e) (o : Obj) : Gotten (W.alloc o) b x y r p e := h.kept (below_alloc W o)
theorem Gotten.cells (h : Gotten W b x y r p e) : W.cell? ⟨b, 0, none⟩ = some (.string x) ∧ W.cell? ⟨b, 1, none⟩ = some (.string y) ∧ W.cell? ⟨b, 2, none⟩ = some (.string r) ∧ W.cell? ⟨b, 3, none⟩ = some (.int .i64 p) ∧ W.cell? ⟨b, 4, none⟩ = some (.int .i64 e) :=
  ⟨cell_of h 0, cell_of h 1, cell_of h 2, cell_of h 3, cell_of h 4⟩
theorem Gotten.free (h : Gotten W b x y r p e) (i : Nat) : W.frozen? ⟨b, i, none⟩ = false := free_of h i
theorem five_cells (h : Gotten W b x y r p e) {x' y' r' : ByteArray} {p' e' : Int} {C : World → Prop} (hC : ∀ W', Gotten W' b x' y' r' p' e' → Below b W W' → C W') :
    C (((((W.setCell ⟨b, 0, none⟩ (.string x')).setCell ⟨b, 1, none⟩ (.string y')).setCell ⟨b, 2, none⟩ (.string r')).setCell ⟨b, 3, none⟩ (.int .i64 p')).setCell ⟨b, 4, none⟩ (.int .i64 e')) :=
  hC _ (set_of (set_of (set_of (set_of (set_of h 0 _) 1 _) 2 _) 3 _) 4 _)
    ((((((Below.refl b W).setCell (Nat.le_refl b) _).setCell (Nat.le_refl b) _).setCell (Nat.le_refl b) _).setCell (Nat.le_refl b) _).setCell (Nat.le_refl b) _)
end
theorem head3_cells {W : World} {b t : Nat} {x y : ByteArray} {p : Int} (h : W.heap[b]? = some (.cells #[.string x, .string y, .int .i64 p] t (0, 0))) : W.cell? ⟨b, 0, none⟩ = some (.string x) ∧ W.cell? ⟨b, 1, none⟩ = some (.string y) ∧ W.cell? ⟨b, 2, none⟩ = some (.int .i64 p) := ⟨cell_of h 0, cell_of h 1, cell_of h 2⟩
theorem top_byte (s : ByteArray) (h : 0 < s.size) : gv s 0 1 = (s[0]).toNat := Prt.gv_byte s 0 h

set_option maxRecDepth 100000 in
set_option maxHeartbeats 2000000 in
theorem refHead_other (s : ByteArray) (h0 : 0 < s.size) (ht : top s ≠ 4 ∧ top s ≠ 6) : Tells 27 #[.string s] (gotV ⟨#[]⟩ ⟨#[]⟩ ⟨#[]⟩ 0 3) := by
  intro w
  have hb := top_byte s h0
  unfold top at ht
  rw [hb] at ht
  have l8 : (s[0]).toNat < 256 := (s[0]).toNat_lt
  have t4 : (((s[0]).toNat : Int) / 16 == 4) = false := beq_false_of_ne (by omega)
  have t6 : (((s[0]).toNat : Int) / 16 == 6) = false := beq_false_of_ne (by omega)
  clear hb ht
  have P0 := Lib.hid (gotten_new w ⟨#[]⟩ ⟨#[]⟩ ⟨#[]⟩ 0 0)
  clear P0
  go_enter Try.func27, Try.ntmps27
  go_wp2_with fail
  exact bodyPost_ret (v := gotV ⟨#[]⟩ ⟨#[]⟩ ⟨#[]⟩ 0 3) (by simp [results, Try.results27, go_sem]) rfl ⟨rfl, below_alloc w _⟩

set_option maxRecDepth 100000 in
set_option maxHeartbeats 2000000 in
theorem refHead_four (s : ByteArray) (h0 : 0 < s.size) (ht : top s = 4) (x y : ByteArray) (p : Int) (r : ByteArray) (e : Int) (h : Tells 56 #[.string s] (hdV x y p r e)) : Tells 27 #[.string s] (gotV x y r p e) := by
  intro w
  have hb := top_byte s h0
  unfold top at ht
  rw [hb] at ht
  have l8 : (s[0]).toNat < 256 := (s[0]).toNat_lt
  have t4 : (((s[0]).toNat : Int) / 16 == 4) = true := beq_iff_eq.2 (by omega)
  have H := Lib.hid h
  clear h
  clear hb ht
  have P0 := Lib.hid (gotten_new w ⟨#[]⟩ ⟨#[]⟩ ⟨#[]⟩ 0 0)
  go_enter Try.func27, Try.ntmps27
  go_wp2_with fail
  refine (H.out _).mono ?_
  rintro e' w1 ⟨rfl, hb1⟩
  have P1 := Lib.hid ((P0.out.kept hb1).alloc (.cells #[.string x, .string y, .int .i64 p] 67))
  have B1 := Lib.hid (below2 (below2 (below_alloc w _) hb1) (below_alloc w1 (.cells #[.string x, .string y, .int .i64 p] 67)))
  clear hb1 P0 H
  obtain ⟨k0, k1, k2, k3, k4⟩ := P1.out.cells
  have fr := P1.out.free
  go_wp2_with fail
  refine five_cells (C := fun W' => bodyPost _ _ _ _ _ W') P1.out ?_
  intro W6 hK6 hb6
  have B6 := Lib.hid (B1.out.trans hb6)
  clear hb6 k0 k1 k2 k3 k4 fr P1 B1
  obtain ⟨k0, k1, k2, k3, k4⟩ := hK6.cells
  exact bodyPost_ret (v := gotV x y r p e) (by simp [results, Try.results27, go_sem, k0, k1, k2, k3, k4]) rfl ⟨rfl, B6.out⟩

set_option maxRecDepth 100000 in
set_option maxHeartbeats 2000000 in
theorem refHead_six (s : ByteArray) (h0 : 0 < s.size) (ht : top s = 6) (x y : ByteArray) (p : Int) (r : ByteArray) (e : Int) (h : Tells 57 #[.string s] (hdV x y p r e)) : Tells 27 #[.string s] (gotV x y r p e) := by
  intro w
  have hb := top_byte s h0
  unfold top at ht
  rw [hb] at ht
  have l8 : (s[0]).toNat < 256 := (s[0]).toNat_lt
  have t4 : (((s[0]).toNat : Int) / 16 == 4) = false := beq_false_of_ne (by omega)
  have t6 : (((s[0]).toNat : Int) / 16 == 6) = true := beq_iff_eq.2 (by omega)
  have H := Lib.hid h
  clear h
  clear hb ht
  have P0 := Lib.hid (gotten_new w ⟨#[]⟩ ⟨#[]⟩ ⟨#[]⟩ 0 0)
  go_enter Try.func27, Try.ntmps27
  go_wp2_with fail
  refine (H.out _).mono ?_
  rintro e' w1 ⟨rfl, hb1⟩
  have P1 := Lib.hid ((P0.out.kept hb1).alloc (.cells #[.string x, .string y, .int .i64 p] 69))
  have B1 := Lib.hid (below2 (below2 (below_alloc w _) hb1) (below_alloc w1 (.cells #[.string x, .string y, .int .i64 p] 69)))
  clear hb1 P0 H
  obtain ⟨k0, k1, k2, k3, k4⟩ := P1.out.cells
  have fr := P1.out.free
  go_wp2_with fail
  refine five_cells (C := fun W' => bodyPost _ _ _ _ _ W') P1.out ?_
  intro W6 hK6 hb6
  have B6 := Lib.hid (B1.out.trans hb6)
  clear hb6 k0 k1 k2 k3 k4 fr P1 B1
  obtain ⟨k0, k1, k2, k3, k4⟩ := hK6.cells
  exact bodyPost_ret (v := gotV x y r p e) (by simp [results, Try.results27, go_sem, k0, k1, k2, k3, k4]) rfl ⟨rfl, B6.out⟩

end Go.Proofs.Ytcdgcjpdlhknoaa.Pkt
