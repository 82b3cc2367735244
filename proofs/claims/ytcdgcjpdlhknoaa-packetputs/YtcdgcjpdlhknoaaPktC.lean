/-
  Package packet: (*record).key.
-/
import Derived.Test.YtcdgcjpdlhknoaaPktB
namespace Go.Proofs.Ytcdgcjpdlhknoaa.Pkt
open Go.RowKit Go.Shelf Txt Rgn
open Lib (byteCells)

/-- A record's bytes, as a text. -/
theorem run_text (W : World) (b : Nat) (L : List UInt8) (h : Rec W b L) (hL : L.length = 38) : (convert 74 9 (.slice (some ⟨b, 0, none⟩) 38 38)).run Try.prog W = .ok (.string (Oct.str L)) W := by
  have := run_convert_bytes_arg (P := Try.prog) W 74 5 Try.underlying74 Try.underlying5 b 0 38 38 (L.map fun b => (b.toNat : Int)) (by simp [hL])
    (fun i hi => by
      rw [Nat.zero_add, cell_of h i]
      simp [byteCells, List.getD, hL, hi]) 9 Try.underlying9
  rw [this, Oct.strOfNums_bytes]

/-- What stands in a record's text. -/
abbrev rV (s : ByteArray) : Nat := gv s 0 1
abbrev rP (s : ByteArray) : Nat := gv s 1 1
abbrev rF (s : ByteArray) : Nat := gv s 2 2
abbrev rT (s : ByteArray) : Nat := gv s 4 2
/-- May it be a key's? -/
def okR (s : ByteArray) : Prop := (rV s = 4 ∨ rV s = 6) ∧ (rP s = 6 ∨ rP s = 17)
/-- No key. -/
abbrev zeroK : Value := keyV 0 ⟨#[]⟩ ⟨#[]⟩ 0 0 0

/-- A variable that holds a key gets another, cell by cell. -/
theorem set_of {W : World} {b : Nat} {C : Array Value} {t : TypeId} (h : W.heap[b]? = some (.cells C t (0, 0))) (i : Nat) (v : Value) : (W.setCell ⟨b, i, none⟩ v).heap[b]? = some (.cells (C.setIfInBounds i v) t (0, 0)) :=
  heap_setCell_same W b i C t v h
theorem six_cells {W : World} {b : Nat} {V : Int} {x y : ByteArray} {F T p : Int} (h : Keyed W b V x y F T p) {V' : Int} {x' y' : ByteArray} {F' T' p' : Int} {C : World → Prop} (hC : ∀ W', Keyed W' b V' x' y' F' T' p' → Below b W W' → C W') :
    C ((((((W.setCell ⟨b, 0, none⟩ (.int .i64 V')).setCell ⟨b, 1, none⟩ (.string x')).setCell ⟨b, 2, none⟩ (.string y')).setCell ⟨b, 3, none⟩ (.int .i64 F')).setCell ⟨b, 4, none⟩ (.int .i64 T')).setCell ⟨b, 5, none⟩ (.int .i64 p')) :=
  hC _ (set_of (set_of (set_of (set_of (set_of (set_of h 0 _) 1 _) 2 _) 3 _) 4 _) 5 _)
    ((((((Below.refl b W).setCell (Nat.le_refl b) _).setCell (Nat.le_refl b) _).setCell (Nat.le_refl b) _).setCell (Nat.le_refl b) _).setCell (Nat.le_refl b) _ |>.setCell (Nat.le_refl b) _)

theorem address_is (v n : Int) (h : (addr v : Int) = n) (w : World) : Calls Try.prog 71 #[.int .i64 v] w fun e W' => e = .returned (.int .i64 n) ∧ w = W' := h ▸ address_any v w

set_option maxRecDepth 100000 in
set_option maxHeartbeats 2000000 in
theorem key_bad (b : Nat) (L : List UInt8) (hL : L.length = 38) (h : ¬ okR (Oct.str L)) (w : World) (hR : Rec w b L) :
    Calls Try.prog 37 #[.pointer (some ⟨b, 0, none⟩)] w fun e W' => e = .returned (.tuple #[zeroK, .bool false]) ∧ Below w.heap.size w W' := by
  have zS : (Oct.str L).size = 38 := by rw [str_size, hL]
  have e1 := run_text (w.alloc (.cells (keyC 0 ⟨#[]⟩ ⟨#[]⟩ 0 0 0) 24)) b L (hR.kept (below_alloc w _)) hL
  generalize Oct.str L = s at *
  have C0 := fun W => Lib.hid (number_any s 0 1 (by omega) (by omega) (by omega) W)
  have C1 := fun W => Lib.hid (number_any s 1 1 (by omega) (by omega) (by omega) W)
  have C2 := fun W => Lib.hid (number_any s 2 2 (by omega) (by omega) (by omega) W)
  have C3 := fun W => Lib.hid (number_any s 4 2 (by omega) (by omega) (by omega) W)
  unfold okR at h
  by_cases hv : gv s 0 1 = 4 ∨ gv s 0 1 = 6
  · have hp : ¬ (gv s 1 1 = 6 ∨ gv s 1 1 = 17) := fun h' => h ⟨hv, h'⟩
    obtain ⟨n, hn, hn0⟩ : ∃ n : Int, ((addr (gv s 0 1 : Nat) : Nat) : Int) = n ∧ (n == 0) = false := by
      refine ⟨_, rfl, beq_false_of_ne ?_⟩
      unfold addr
      rcases hv with e | e <;> rw [e] <;> simp
    have AD := fun W => Lib.hid (address_is _ n hn W)
    have m6 : (((gv s 1 1 : Nat) : Int) != 6) = true := bne_iff_ne.2 (by omega)
    have m17 : (((gv s 1 1 : Nat) : Int) != 17) = true := bne_iff_ne.2 (by omega)
    clear h hR hv hp hn
    generalize gv s 0 1 = v at *
    generalize gv s 1 1 = p at *
    generalize gv s 2 2 = f at *
    generalize gv s 4 2 = t at *
    go_enter Try.func37, Try.ntmps37
    go_wp2_with fail
    refine (C0 _).out.mono ?_
    rintro e w1 ⟨rfl, hb1⟩
    have K1 := Lib.hid ((keyed_new w 0 ⟨#[]⟩ ⟨#[]⟩ 0 0 0).kept hb1)
    have B1 := Lib.hid (below2 (below_alloc w _) hb1)
    clear hb1
    go_wp2_with fail
    refine (C1 _).out.mono ?_
    rintro e w2 ⟨rfl, hb2⟩
    have K2 := Lib.hid (K1.out.kept hb2)
    have B2 := Lib.hid (below2 B1.out hb2)
    clear hb2 K1 B1
    go_wp2_with fail
    refine (C2 _).out.mono ?_
    rintro e w3 ⟨rfl, hb3⟩
    have K3 := Lib.hid (K2.out.kept hb3)
    have B3 := Lib.hid (below2 B2.out hb3)
    clear hb3 K2 B2
    go_wp2_with fail
    refine (C3 _).out.mono ?_
    rintro e w4 ⟨rfl, hb4⟩
    have K4 := Lib.hid ((K3.out.kept hb4).alloc (.cells (keyC v ⟨#[]⟩ ⟨#[]⟩ f t p) 24))
    have M4 := Lib.hid (keyed_new w4 v ⟨#[]⟩ ⟨#[]⟩ f t p)
    have B4 := Lib.hid (below2 (below2 B3.out hb4) (below_alloc w4 (.cells (keyC v ⟨#[]⟩ ⟨#[]⟩ f t p) 24)))
    clear hb4 K3 B3 C0 C1 C2 C3
    obtain ⟨c0, c1, c2, c3, c4, c5⟩ := M4.out.cells
    have fr := K4.out.free
    obtain ⟨k0, k1, k2, k3, k4, k5⟩ := K4.out.cells
    go_wp2_with fail
    refine (AD _).out.mono ?_
    rintro e w5 ⟨rfl, rfl⟩
    go_wp2_with fail
    refine six_cells (C := fun W' => bodyPost _ _ _ _ _ W') K4.out ?_
    intro W6 hK6 hb6
    have B6 := Lib.hid (B4.out.trans hb6)
    clear hb6 k0 k1 k2 k3 k4 k5 c0 c1 c2 c3 c4 c5 fr e1 K4 M4 B4 AD
    obtain ⟨k0, k1, k2, k3, k4, k5⟩ := hK6.cells
    exact bodyPost_ret (v := .tuple #[zeroK, .bool false]) (by simp [results, Try.results37, go_sem, k0, k1, k2, k3, k4, k5]) rfl ⟨rfl, B6.out⟩
  · have AD := fun W => Lib.hid (address_is (gv s 0 1 : Nat) 0 (by unfold addr; rw [if_neg (by omega), if_neg (by omega)]; rfl) W)
    clear h hR hv
    generalize gv s 0 1 = v at *
    generalize gv s 1 1 = p at *
    generalize gv s 2 2 = f at *
    generalize gv s 4 2 = t at *
    go_enter Try.func37, Try.ntmps37
    go_wp2_with fail
    refine (C0 _).out.mono ?_
    rintro e w1 ⟨rfl, hb1⟩
    have K1 := Lib.hid ((keyed_new w 0 ⟨#[]⟩ ⟨#[]⟩ 0 0 0).kept hb1)
    have B1 := Lib.hid (below2 (below_alloc w _) hb1)
    clear hb1
    go_wp2_with fail
    refine (C1 _).out.mono ?_
    rintro e w2 ⟨rfl, hb2⟩
    have K2 := Lib.hid (K1.out.kept hb2)
    have B2 := Lib.hid (below2 B1.out hb2)
    clear hb2 K1 B1
    go_wp2_with fail
    refine (C2 _).out.mono ?_
    rintro e w3 ⟨rfl, hb3⟩
    have K3 := Lib.hid (K2.out.kept hb3)
    have B3 := Lib.hid (below2 B2.out hb3)
    clear hb3 K2 B2
    go_wp2_with fail
    refine (C3 _).out.mono ?_
    rintro e w4 ⟨rfl, hb4⟩
    have K4 := Lib.hid ((K3.out.kept hb4).alloc (.cells (keyC v ⟨#[]⟩ ⟨#[]⟩ f t p) 24))
    have M4 := Lib.hid (keyed_new w4 v ⟨#[]⟩ ⟨#[]⟩ f t p)
    have B4 := Lib.hid (below2 (below2 B3.out hb4) (below_alloc w4 (.cells (keyC v ⟨#[]⟩ ⟨#[]⟩ f t p) 24)))
    clear hb4 K3 B3 C0 C1 C2 C3
    obtain ⟨c0, c1, c2, c3, c4, c5⟩ := M4.out.cells
    have fr := K4.out.free
    obtain ⟨k0, k1, k2, k3, k4, k5⟩ := K4.out.cells
    go_wp2_with fail
    refine (AD _).out.mono ?_
    rintro e w5 ⟨rfl, rfl⟩
    go_wp2_with fail
    refine six_cells (C := fun W' => bodyPost _ _ _ _ _ W') K4.out ?_
    intro W6 hK6 hb6
    have B6 := Lib.hid (B4.out.trans hb6)
    clear hb6 k0 k1 k2 k3 k4 k5 c0 c1 c2 c3 c4 c5 fr e1 K4 M4 B4 AD
    obtain ⟨k0, k1, k2, k3, k4, k5⟩ := hK6.cells
    exact bodyPost_ret (v := .tuple #[zeroK, .bool false]) (by simp [results, Try.results37, go_sem, k0, k1, k2, k3, k4, k5]) rfl ⟨rfl, B6.out⟩
end Go.Proofs.Ytcdgcjpdlhknoaa.Pkt
