/-
  Package packet: parse, of heads of either version.
-/
import Derived.Test.YtcdgcjpdlhknoaaPktE
import Derived.Test.YtcdgcjpdlhknoaaIp4E
import Derived.Test.YtcdgcjpdlhknoaaIp6E
import Derived.Test.YtcdgcjpdlhknoaaPrtE
namespace Go.Proofs.Ytcdgcjpdlhknoaa.Pkt
open Go.RowKit Go.Shelf Txt Rgn

/-- A call answers this value, whatever the world, and no block that lay there turns. -/
def Tells (k : Nat) (args : Array Value) (v : Value) : Prop := ∀ w : World, Calls Try.prog k args w fun e W' => e = .returned v ∧ Below w.heap.size w W'

/-- A variable that holds a packet. -/
def Packed (W : World) (b : Nat) (V : Int) (x y : ByteArray) (F T p f : Int) : Prop := W.heap[b]? = some (.cells (pktC V x y F T p f) 26 (0, 0))
section
variable {W W' : World} {b : Nat} {V : Int} {x y : ByteArray} {F T p f : Int}
theorem packed_new (W : World) (V : Int) (x y : ByteArray) (F T p f : Int) : Packed (W.alloc (.cells (pktC V x y F T p f) 26)) W.heap.size V x y F T p f := World.alloc_heap_new W _
theorem Packed.kept (h : Packed W b V x y F T p f) (hb : Below W.heap.size W W') : Packed W' b V x y F T p f := (hb.block b (Array.getElem?_eq_some_iff.1 h).1).trans h
theorem Packed.alloc (h : Packed W b V x y F T p f) (o : Obj) : Packed (W.alloc o) b V x y F T p f := h.kept (below_alloc W o)
theorem Packed.cells (h : Packed W b V x y F T p f) : W.cell? ⟨b, 0, none⟩ = some (.int .i64 V) ∧ W.cell? ⟨b, 1, none⟩ = some (.string x) ∧ W.cell? ⟨b, 2, none⟩ = some (.string y) ∧ W.cell? ⟨b, 3, none⟩ = some (.int .i64 F) ∧ W.cell? ⟨b, 4, none⟩ = some (.int .i64 T) ∧ W.cell? ⟨b, 5, none⟩ = some (.int .i64 p) ∧ W.cell? ⟨b, 6, none⟩ = some (.int .i64 f) :=
  ⟨cell_of h 0, cell_of h 1, cell_of h 2, cell_of h 3, cell_of h 4, cell_of h 5, cell_of h 6⟩
theorem Packed.free (h : Packed W b V x y F T p f) (i : Nat) : W.frozen? ⟨b, i, none⟩ = false := free_of h i
/-- It gets another packet, cell by cell. -/
theorem seven_cells (h : Packed W b V x y F T p f) {V' : Int} {x' y' : ByteArray} {F' T' p' f' : Int} {C : World → Prop} (hC : ∀ W', Packed W' b V' x' y' F' T' p' f' → Below b W W' → C W') :
    C (((((((W.setCell ⟨b, 0, none⟩ (.int .i64 V')).setCell ⟨b, 1, none⟩ (.string x')).setCell ⟨b, 2, none⟩ (.string y')).setCell ⟨b, 3, none⟩ (.int .i64 F')).setCell ⟨b, 4, none⟩ (.int .i64 T')).setCell ⟨b, 5, none⟩ (.int .i64 p')).setCell ⟨b, 6, none⟩ (.int .i64 f')) := by
  have h1 : ((W.setCell ⟨b, 0, none⟩ (.int .i64 V'))).heap[b]? = some (.cells #[.int .i64 V', .string x, .string y, .int .i64 F, .int .i64 T, .int .i64 p, .int .i64 f] 26 (0, 0)) := set_of h 0 _
  have h2 : (((W.setCell ⟨b, 0, none⟩ (.int .i64 V')).setCell ⟨b, 1, none⟩ (.string x'))).heap[b]? = some (.cells #[.int .i64 V', .string x', .string y, .int .i64 F, .int .i64 T, .int .i64 p, .int .i64 f] 26 (0, 0)) := set_of h1 1 _
  have h3 : ((((W.setCell ⟨b, 0, none⟩ (.int .i64 V')).setCell ⟨b, 1, none⟩ (.string x')).setCell ⟨b, 2, none⟩ (.string y'))).heap[b]? = some (.cells #[.int .i64 V', .string x', .string y', .int .i64 F, .int .i64 T, .int .i64 p, .int .i64 f] 26 (0, 0)) := set_of h2 2 _
  have h4 : (((((W.setCell ⟨b, 0, none⟩ (.int .i64 V')).setCell ⟨b, 1, none⟩ (.string x')).setCell ⟨b, 2, none⟩ (.string y')).setCell ⟨b, 3, none⟩ (.int .i64 F'))).heap[b]? = some (.cells #[.int .i64 V', .string x', .string y', .int .i64 F', .int .i64 T, .int .i64 p, .int .i64 f] 26 (0, 0)) := set_of h3 3 _
  have h5 : ((((((W.setCell ⟨b, 0, none⟩ (.int .i64 V')).setCell ⟨b, 1, none⟩ (.string x')).setCell ⟨b, 2, none⟩ (.string y')).setCell ⟨b, 3, none⟩ (.int .i64 F')).setCell ⟨b, 4, none⟩ (.int .i64 T'))).heap[b]? = some (.cells #[.int .i64 V', .string x', .string y', .int .i64 F', .int .i64 T', .int .i64 p, .int .i64 f] 26 (0, 0)) := set_of h4 4 _
  have h6 : (((((((W.setCell ⟨b, 0, none⟩ (.int .i64 V')).setCell ⟨b, 1, none⟩ (.string x')).setCell ⟨b, 2, none⟩ (.string y')).setCell ⟨b, 3, none⟩ (.int .i64 F')).setCell ⟨b, 4, none⟩ (.int .i64 T')).setCell ⟨b, 5, none⟩ (.int .i64 p'))).heap[b]? = some (.cells #[.int .i64 V', .string x', .string y', .int .i64 F', .int .i64 T', .int .i64 p', .int .i64 f] 26 (0, 0)) := set_of h5 5 _
  have h7 : ((((((((W.setCell ⟨b, 0, none⟩ (.int .i64 V')).setCell ⟨b, 1, none⟩ (.string x')).setCell ⟨b, 2, none⟩ (.string y')).setCell ⟨b, 3, none⟩ (.int .i64 F')).setCell ⟨b, 4, none⟩ (.int .i64 T')).setCell ⟨b, 5, none⟩ (.int .i64 p')).setCell ⟨b, 6, none⟩ (.int .i64 f'))).heap[b]? = some (.cells #[.int .i64 V', .string x', .string y', .int .i64 F', .int .i64 T', .int .i64 p', .int .i64 f'] 26 (0, 0)) := set_of h6 6 _
  exact hC _ h7 ((((((((Below.refl b W).setCell (Nat.le_refl b) _).setCell (Nat.le_refl b) _).setCell (Nat.le_refl b) _).setCell (Nat.le_refl b) _).setCell (Nat.le_refl b) _).setCell (Nat.le_refl b) _).setCell (Nat.le_refl b) _)
end

/-- What a head tells; what ports tell; what is told of a packet. -/
abbrev hdV (x y : ByteArray) (p : Int) (r : ByteArray) (e : Int) : Value := .tuple #[.agg #[.string x, .string y, .int .i64 p], .string r, .int .i64 e]
abbrev ptV (F T f e : Int) : Value := .tuple #[.agg #[.int .i64 F, .int .i64 T, .int .i64 f], .int .i64 e]
abbrev outV (V : Int) (x y : ByteArray) (F T p f e : Int) : Value := .tuple #[pktV V x y F T p f, .int .i64 e]
abbrev noP (e : Int) : Value := outV 0 ⟨#[]⟩ ⟨#[]⟩ 0 0 0 0 e
/-- A function, handed on. -/
abbrev fnV (k : Nat) : Value := .func (.func k) #[] #[]

set_option maxRecDepth 100000 in
set_option maxHeartbeats 2000000 in
theorem parse4_bad (V : Int) (s x y : ByteArray) (p : Int) (r : ByteArray) (e : Int) (h : Tells 24 #[.string s] (hdV x y p r e)) (he : e ≠ 0) :
    Tells 23 #[.int .i64 V, .string s, fnV 24] (noP e) := by
  intro w
  have he2 : (e != 0) = true := bne_iff_ne.2 he
  clear he
  have P0 := Lib.hid (packed_new w 0 ⟨#[]⟩ ⟨#[]⟩ 0 0 0 0)
  have H := Lib.hid h
  clear h
  go_enter Try.func23, Try.ntmps23
  go_wp2_with fail
  refine (H.out _).mono ?_
  rintro e' w1 ⟨rfl, hb1⟩
  have P1 := Lib.hid ((P0.out.kept hb1).alloc (.cells #[.string x, .string y, .int .i64 p] 49))
  have B1 := Lib.hid (below2 (below2 (below_alloc w _) hb1) (below_alloc w1 (.cells #[.string x, .string y, .int .i64 p] 49)))
  clear hb1 P0 H
  obtain ⟨k0, k1, k2, k3, k4, k5, k6⟩ := P1.out.cells
  have fr := P1.out.free
  go_wp2_with fail
  refine seven_cells (C := fun W' => bodyPost _ _ _ _ _ W') P1.out ?_
  intro W6 hK6 hb6
  have B6 := Lib.hid (B1.out.trans hb6)
  clear hb6 k0 k1 k2 k3 k4 k5 k6 fr P1 B1
  obtain ⟨k0, k1, k2, k3, k4, k5, k6⟩ := hK6.cells
  exact bodyPost_ret (v := noP e) (by simp [results, Try.results23, go_sem, k0, k1, k2, k3, k4, k5, k6]) rfl ⟨rfl, B6.out⟩

set_option maxRecDepth 100000 in
set_option maxHeartbeats 2000000 in
theorem parse4_port (V : Int) (s x y : ByteArray) (p : Int) (r : ByteArray) (F T f e : Int) (h : Tells 24 #[.string s] (hdV x y p r 0)) (q : Tells 44 #[.int .i64 p, .string r] (ptV F T f e)) (he : e ≠ 0) :
    Tells 23 #[.int .i64 V, .string s, fnV 24] (noP e) := by
  intro w
  have he2 : (e != 0) = true := bne_iff_ne.2 he
  clear he
  have Q := Lib.hid q
  clear q
  have P0 := Lib.hid (packed_new w 0 ⟨#[]⟩ ⟨#[]⟩ 0 0 0 0)
  have H := Lib.hid h
  clear h
  go_enter Try.func23, Try.ntmps23
  go_wp2_with fail
  refine (H.out _).mono ?_
  rintro e' w1 ⟨rfl, hb1⟩
  have P1 := Lib.hid ((P0.out.kept hb1).alloc (.cells #[.string x, .string y, .int .i64 p] 49))
  have B1 := Lib.hid (below2 (below2 (below_alloc w _) hb1) (below_alloc w1 (.cells #[.string x, .string y, .int .i64 p] 49)))
  clear hb1 P0 H
  have G1 := Lib.hid (below_alloc (w1.alloc (.cells #[.string x, .string y, .int .i64 p] 49)) (.cells #[.string x, .string y, .int .i64 p] 49))
  have P2 := Lib.hid (P1.out.kept G1.out)
  have B2 := Lib.hid (below2 B1.out G1.out)
  have I2 := Lib.hid (Ip4.headed_new (w1.alloc (.cells #[.string x, .string y, .int .i64 p] 49)) x y p)
  rw [World.size_alloc] at I2
  clear P1 B1 G1
  go_wp2_with fail
  refine (Q.out _).mono ?_
  rintro e' w2 ⟨rfl, hb2⟩
  have P3 := Lib.hid (P2.out.kept hb2)
  have B3 := Lib.hid (below2 B2.out hb2)
  have I3 := Lib.hid (I2.out.kept hb2)
  clear hb2 P2 B2 I2 Q
  have P4 := Lib.hid (P3.out.alloc (.cells #[.int .i64 F, .int .i64 T, .int .i64 f] 83))
  have B4 := Lib.hid (below2 B3.out (below_alloc w2 (.cells #[.int .i64 F, .int .i64 T, .int .i64 f] 83)))
  clear P3 B3 I3
  obtain ⟨k0, k1, k2, k3, k4, k5, k6⟩ := P4.out.cells
  have fr := P4.out.free
  go_wp2_with fail
  refine seven_cells (C := fun W' => bodyPost _ _ _ _ _ W') P4.out ?_
  intro W6 hK6 hb6
  have B6 := Lib.hid (B4.out.trans hb6)
  clear hb6 k0 k1 k2 k3 k4 k5 k6 fr P4 B4
  obtain ⟨k0, k1, k2, k3, k4, k5, k6⟩ := hK6.cells
  exact bodyPost_ret (v := noP e) (by simp [results, Try.results23, go_sem, k0, k1, k2, k3, k4, k5, k6]) rfl ⟨rfl, B6.out⟩

set_option maxRecDepth 100000 in
set_option maxHeartbeats 2000000 in
theorem parse4_good (V : Int) (s x y : ByteArray) (p : Int) (r : ByteArray) (F T f : Int) (h : Tells 24 #[.string s] (hdV x y p r 0)) (q : Tells 44 #[.int .i64 p, .string r] (ptV F T f 0)) :
    Tells 23 #[.int .i64 V, .string s, fnV 24] (outV V x y F T p f 0) := by
  intro w
  have Q := Lib.hid q
  clear q
  have P0 := Lib.hid (packed_new w 0 ⟨#[]⟩ ⟨#[]⟩ 0 0 0 0)
  have H := Lib.hid h
  clear h
  go_enter Try.func23, Try.ntmps23
  go_wp2_with fail
  refine (H.out _).mono ?_
  rintro e' w1 ⟨rfl, hb1⟩
  have P1 := Lib.hid ((P0.out.kept hb1).alloc (.cells #[.string x, .string y, .int .i64 p] 49))
  have B1 := Lib.hid (below2 (below2 (below_alloc w _) hb1) (below_alloc w1 (.cells #[.string x, .string y, .int .i64 p] 49)))
  clear hb1 P0 H
  have G1 := Lib.hid (below_alloc (w1.alloc (.cells #[.string x, .string y, .int .i64 p] 49)) (.cells #[.string x, .string y, .int .i64 p] 49))
  have P2 := Lib.hid (P1.out.kept G1.out)
  have B2 := Lib.hid (below2 B1.out G1.out)
  have I2 := Lib.hid (Ip4.headed_new (w1.alloc (.cells #[.string x, .string y, .int .i64 p] 49)) x y p)
  rw [World.size_alloc] at I2
  clear P1 B1 G1
  go_wp2_with fail
  refine (Q.out _).mono ?_
  rintro e' w2 ⟨rfl, hb2⟩
  have P3 := Lib.hid (P2.out.kept hb2)
  have B3 := Lib.hid (below2 B2.out hb2)
  have I3 := Lib.hid (I2.out.kept hb2)
  clear hb2 P2 B2 I2 Q
  have P4 := Lib.hid ((P3.out.alloc (.cells #[.int .i64 F, .int .i64 T, .int .i64 f] 83)).alloc (.cells (keyC V x y F T p) 24))
  have B4 := Lib.hid (below2 (below2 B3.out (below_alloc w2 (.cells #[.int .i64 F, .int .i64 T, .int .i64 f] 83))) (below_alloc _ (.cells (keyC V x y F T p) 24)))
  have I4 := I3.out.alloc (.cells #[.int .i64 F, .int .i64 T, .int .i64 f] 83)
  obtain ⟨i0, i1, i2⟩ := I4.cells
  clear P3 B3 I3 I4
  obtain ⟨k0, k1, k2, k3, k4, k5, k6⟩ := P4.out.cells
  have fr := P4.out.free
  go_wp2_with fail
  refine seven_cells (C := fun W' => bodyPost _ _ _ _ _ W') P4.out ?_
  intro W6 hK6 hb6
  have B6 := Lib.hid (B4.out.trans hb6)
  clear hb6 k0 k1 k2 k3 k4 k5 k6 fr P4 B4
  obtain ⟨k0, k1, k2, k3, k4, k5, k6⟩ := hK6.cells
  exact bodyPost_ret (v := outV V x y F T p f 0) (by simp [results, Try.results23, go_sem, k0, k1, k2, k3, k4, k5, k6]) rfl ⟨rfl, B6.out⟩

set_option maxRecDepth 100000 in
set_option maxHeartbeats 2000000 in
theorem parse6_bad (V : Int) (s x y : ByteArray) (p : Int) (r : ByteArray) (e : Int) (h : Tells 26 #[.string s] (hdV x y p r e)) (he : e ≠ 0) :
    Tells 25 #[.int .i64 V, .string s, fnV 26] (noP e) := by
  intro w
  have he2 : (e != 0) = true := bne_iff_ne.2 he
  clear he
  have P0 := Lib.hid (packed_new w 0 ⟨#[]⟩ ⟨#[]⟩ 0 0 0 0)
  have H := Lib.hid h
  clear h
  go_enter Try.func25, Try.ntmps25
  go_wp2_with fail
  refine (H.out _).mono ?_
  rintro e' w1 ⟨rfl, hb1⟩
  have P1 := Lib.hid ((P0.out.kept hb1).alloc (.cells #[.string x, .string y, .int .i64 p] 52))
  have B1 := Lib.hid (below2 (below2 (below_alloc w _) hb1) (below_alloc w1 (.cells #[.string x, .string y, .int .i64 p] 52)))
  clear hb1 P0 H
  obtain ⟨k0, k1, k2, k3, k4, k5, k6⟩ := P1.out.cells
  have fr := P1.out.free
  go_wp2_with fail
  refine seven_cells (C := fun W' => bodyPost _ _ _ _ _ W') P1.out ?_
  intro W6 hK6 hb6
  have B6 := Lib.hid (B1.out.trans hb6)
  clear hb6 k0 k1 k2 k3 k4 k5 k6 fr P1 B1
  obtain ⟨k0, k1, k2, k3, k4, k5, k6⟩ := hK6.cells
  exact bodyPost_ret (v := noP e) (by simp [results, Try.results25, go_sem, k0, k1, k2, k3, k4, k5, k6]) rfl ⟨rfl, B6.out⟩

set_option maxRecDepth 100000 in
set_option maxHeartbeats 2000000 in
theorem parse6_port (V : Int) (s x y : ByteArray) (p : Int) (r : ByteArray) (F T f e : Int) (h : Tells 26 #[.string s] (hdV x y p r 0)) (q : Tells 44 #[.int .i64 p, .string r] (ptV F T f e)) (he : e ≠ 0) :
    Tells 25 #[.int .i64 V, .string s, fnV 26] (noP e) := by
  intro w
  have he2 : (e != 0) = true := bne_iff_ne.2 he
  clear he
  have Q := Lib.hid q
  clear q
  have P0 := Lib.hid (packed_new w 0 ⟨#[]⟩ ⟨#[]⟩ 0 0 0 0)
  have H := Lib.hid h
  clear h
  go_enter Try.func25, Try.ntmps25
  go_wp2_with fail
  refine (H.out _).mono ?_
  rintro e' w1 ⟨rfl, hb1⟩
  have P1 := Lib.hid ((P0.out.kept hb1).alloc (.cells #[.string x, .string y, .int .i64 p] 52))
  have B1 := Lib.hid (below2 (below2 (below_alloc w _) hb1) (below_alloc w1 (.cells #[.string x, .string y, .int .i64 p] 52)))
  clear hb1 P0 H
  have G1 := Lib.hid (below_alloc (w1.alloc (.cells #[.string x, .string y, .int .i64 p] 52)) (.cells #[.string x, .string y, .int .i64 p] 49))
  have P2 := Lib.hid (P1.out.kept G1.out)
  have B2 := Lib.hid (below2 B1.out G1.out)
  have I2 := Lib.hid (Ip4.headed_new (w1.alloc (.cells #[.string x, .string y, .int .i64 p] 52)) x y p)
  rw [World.size_alloc] at I2
  clear P1 B1 G1
  go_wp2_with fail
  refine (Q.out _).mono ?_
  rintro e' w2 ⟨rfl, hb2⟩
  have P3 := Lib.hid (P2.out.kept hb2)
  have B3 := Lib.hid (below2 B2.out hb2)
  have I3 := Lib.hid (I2.out.kept hb2)
  clear hb2 P2 B2 I2 Q
  have P4 := Lib.hid (P3.out.alloc (.cells #[.int .i64 F, .int .i64 T, .int .i64 f] 83))
  have B4 := Lib.hid (below2 B3.out (below_alloc w2 (.cells #[.int .i64 F, .int .i64 T, .int .i64 f] 83)))
  clear P3 B3 I3
  obtain ⟨k0, k1, k2, k3, k4, k5, k6⟩ := P4.out.cells
  have fr := P4.out.free
  go_wp2_with fail
  refine seven_cells (C := fun W' => bodyPost _ _ _ _ _ W') P4.out ?_
  intro W6 hK6 hb6
  have B6 := Lib.hid (B4.out.trans hb6)
  clear hb6 k0 k1 k2 k3 k4 k5 k6 fr P4 B4
  obtain ⟨k0, k1, k2, k3, k4, k5, k6⟩ := hK6.cells
  exact bodyPost_ret (v := noP e) (by simp [results, Try.results25, go_sem, k0, k1, k2, k3, k4, k5, k6]) rfl ⟨rfl, B6.out⟩

set_option maxRecDepth 100000 in
set_option maxHeartbeats 2000000 in
theorem parse6_good (V : Int) (s x y : ByteArray) (p : Int) (r : ByteArray) (F T f : Int) (h : Tells 26 #[.string s] (hdV x y p r 0)) (q : Tells 44 #[.int .i64 p, .string r] (ptV F T f 0)) :
    Tells 25 #[.int .i64 V, .string s, fnV 26] (outV V x y F T p f 0) := by
  intro w
  have Q := Lib.hid q
  clear q
  have P0 := Lib.hid (packed_new w 0 ⟨#[]⟩ ⟨#[]⟩ 0 0 0 0)
  have H := Lib.hid h
  clear h
  go_enter Try.func25, Try.ntmps25
  go_wp2_with fail
  refine (H.out _).mono ?_
  rintro e' w1 ⟨rfl, hb1⟩
  have P1 := Lib.hid ((P0.out.kept hb1).alloc (.cells #[.string x, .string y, .int .i64 p] 52))
  have B1 := Lib.hid (below2 (below2 (below_alloc w _) hb1) (below_alloc w1 (.cells #[.string x, .string y, .int .i64 p] 52)))
  clear hb1 P0 H
  have G1 := Lib.hid (below_alloc (w1.alloc (.cells #[.string x, .string y, .int .i64 p] 52)) (.cells #[.string x, .string y, .int .i64 p] 49))
  have P2 := Lib.hid (P1.out.kept G1.out)
  have B2 := Lib.hid (below2 B1.out G1.out)
  have I2 := Lib.hid (Ip4.headed_new (w1.alloc (.cells #[.string x, .string y, .int .i64 p] 52)) x y p)
  rw [World.size_alloc] at I2
  clear P1 B1 G1
  go_wp2_with fail
  refine (Q.out _).mono ?_
  rintro e' w2 ⟨rfl, hb2⟩
  have P3 := Lib.hid (P2.out.kept hb2)
  have B3 := Lib.hid (below2 B2.out hb2)
  have I3 := Lib.hid (I2.out.kept hb2)
  clear hb2 P2 B2 I2 Q
  have P4 := Lib.hid ((P3.out.alloc (.cells #[.int .i64 F, .int .i64 T, .int .i64 f] 83)).alloc (.cells (keyC V x y F T p) 24))
  have B4 := Lib.hid (below2 (below2 B3.out (below_alloc w2 (.cells #[.int .i64 F, .int .i64 T, .int .i64 f] 83))) (below_alloc _ (.cells (keyC V x y F T p) 24)))
  have I4 := I3.out.alloc (.cells #[.int .i64 F, .int .i64 T, .int .i64 f] 83)
  obtain ⟨i0, i1, i2⟩ := I4.cells
  clear P3 B3 I3 I4
  obtain ⟨k0, k1, k2, k3, k4, k5, k6⟩ := P4.out.cells
  have fr := P4.out.free
  go_wp2_with fail
  refine seven_cells (C := fun W' => bodyPost _ _ _ _ _ W') P4.out ?_
  intro W6 hK6 hb6
  have B6 := Lib.hid (B4.out.trans hb6)
  clear hb6 k0 k1 k2 k3 k4 k5 k6 fr P4 B4
  obtain ⟨k0, k1, k2, k3, k4, k5, k6⟩ := hK6.cells
  exact bodyPost_ret (v := outV V x y F T p f 0) (by simp [results, Try.results25, go_sem, k0, k1, k2, k3, k4, k5, k6]) rfl ⟨rfl, B6.out⟩

end Go.Proofs.Ytcdgcjpdlhknoaa.Pkt
