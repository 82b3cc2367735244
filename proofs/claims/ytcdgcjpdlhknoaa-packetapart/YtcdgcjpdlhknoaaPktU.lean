/-
  The document's answer for packet (package gangplankref07): Parse.
-/
import Derived.Test.YtcdgcjpdlhknoaaPktT
namespace Go.Proofs.Ytcdgcjpdlhknoaa.Pkt
open Go.RowKit Go.Shelf Txt Rgn

/-- .. and another block stays. -/
theorem seven_cells2 {W : World} {b : Nat} {V : Int} {x y : ByteArray} {F T p f : Int} (h : Packed W b V x y F T p f) {g : Nat} (hg : g ≠ b) {V' : Int} {x' y' : ByteArray} {F' T' p' f' : Int} {C : World → Prop} (hC : ∀ W', Packed W' b V' x' y' F' T' p' f' → Below b W W' → W'.heap[g]? = W.heap[g]? → C W') :
    C (((((((W.setCell ⟨b, 0, none⟩ (.int .i64 V')).setCell ⟨b, 1, none⟩ (.string x')).setCell ⟨b, 2, none⟩ (.string y')).setCell ⟨b, 3, none⟩ (.int .i64 F')).setCell ⟨b, 4, none⟩ (.int .i64 T')).setCell ⟨b, 5, none⟩ (.int .i64 p')).setCell ⟨b, 6, none⟩ (.int .i64 f')) := by
  have st : ∀ (U : World) (i : Nat) (v : Value), (U.setCell ⟨b, i, none⟩ v).heap[g]? = U.heap[g]? := fun U i v => Below.heap_setCell U ⟨b, i, none⟩ v g hg
  refine seven_cells (C := fun W' => W'.heap[g]? = W.heap[g]? → C W') h (fun W' h1 h2 h3 => hC W' h1 h2 h3) ?_
  rw [st, st, st, st, st, st, st]

def lit2 (l : List Value) : Nat → Value := fun j => l.getD j undef
/-- Parse's frame where a head is wrong. -/
abbrev frB (h g : Nat) (y x : Nat → Value) : Act := { tmps := #[y 0, y 1, .pointer (some ⟨h, 0, none⟩), x 4, .pointer (some ⟨g, 0, none⟩), y 5, y 6, y 7, y 8, y 9, y 10, y 11, y 12, y 13, y 14, y 15, y 16, x 0, x 1, x 2, y 20, y 21, y 22, y 23, y 24, y 25, y 26, y 27, y 28, y 29, y 30, y 31, y 32, y 33, y 34, y 35, y 36, y 37, y 38, y 39, y 40, y 41, y 42, y 43, y 44, y 45, y 46, y 47, y 48, y 49, y 50], defers := [] }
def valB (g : Nat) (e : Int) : Nat → Value
  | 0 => pktV 0 ⟨#[]⟩ ⟨#[]⟩ 0 0 0 0
  | 1 => .pointer (some ⟨g, 4, none⟩)
  | 2 | 4 => .int .i64 e
  | _ => undef
/-- What is known there. -/
structure StB (h g : Nat) (x y r : ByteArray) (p e : Int) (w : World) (d : Nat → Bool) (W : World) : Prop where
  res : Packed W h 0 ⟨#[]⟩ ⟨#[]⟩ 0 0 0 0
  got : Gotten W g x y r p e
  below : Below w.heap.size w W
  _any : d 0 = d 0 := rfl
/-- Parse's frame while the key is made. -/
abbrev frG (s : ByteArray) (h g q : Nat) (y x : Nat → Value) : Act := { tmps := #[.string s, y 1, .pointer (some ⟨h, 0, none⟩), .int .i64 0, .pointer (some ⟨g, 0, none⟩), .pointer (some ⟨q, 0, none⟩), y 6, x 15, y 8, y 9, y 10, y 11, y 12, y 13, y 14, y 15, y 16, y 17, y 18, y 19, y 20, y 21, y 22, y 23, y 24, y 25, y 26, y 27, y 28, y 29, y 30, y 31, x 0, x 1, x 2, x 3, x 4, x 5, x 6, x 7, x 8, x 9, x 10, x 11, x 12, x 13, x 14, undef, undef, undef, undef], defers := [] }
def valG (s : ByteArray) (b : Int) (g q : Nat) (x y : ByteArray) (F T p : Int) : Nat → Value
  | 0 => .string s
  | 1 => .int .u8 b
  | 2 => .int .u8 (b / 16)
  | 3 => .int .i64 (b / 16)
  | 4 => .pointer (some ⟨g, 0, none⟩)
  | 5 => .string x
  | 6 => .pointer (some ⟨g, 1, none⟩)
  | 7 => .string y
  | 8 => .pointer (some ⟨q, 0, none⟩)
  | 9 => .int .i64 F
  | 10 => .pointer (some ⟨q, 1, none⟩)
  | 11 => .int .i64 T
  | 12 => .pointer (some ⟨g, 3, none⟩)
  | 13 => .int .i64 p
  | 14 => keyV (b / 16) x y F T p
  | _ => undef

set_option maxRecDepth 100000 in
set_option maxHeartbeats 2000000 in
theorem refParse_empty (s : ByteArray) (hs : s.size = 0) : Tells 12 #[.string s] (noP 2) := by
  intro w
  have n0 : ((s.size : Int) == 0) = true := beq_iff_eq.2 (by omega)
  clear hs
  go_enter Try.func12, Try.ntmps12
  go_wp2_with fail
  exact bodyPost_ret (v := noP 2) (by simp [results, Try.results12, go_sem]) rfl ⟨rfl, below_alloc w _⟩

set_option maxRecDepth 100000 in
set_option maxHeartbeats 2000000 in
theorem refParse_bad (s : ByteArray) (h0 : 0 < s.size) (x y r : ByteArray) (p e : Int) (h : Tells 27 #[.string s] (gotV x y r p e)) (he : e ≠ 0) : Tells 12 #[.string s] (noP e) := by
  have he2 : (e != 0) = true := bne_iff_ne.2 he
  clear he
  intro w
  have P0 := Lib.hid (packed_new w 0 ⟨#[]⟩ ⟨#[]⟩ 0 0 0 0)
  have n0 : ((s.size : Int) == 0) = false := beq_false_of_ne (by omega)
  have H := Lib.hid h
  clear h
  go_enter Try.func12, Try.ntmps12
  go_wp2_with fail
  refine (H.out _).mono ?_
  rintro e' w1 ⟨rfl, hb1⟩
  have KL := Lib.hid (show w.heap.size < w1.heap.size from Nat.lt_of_lt_of_le (Array.getElem?_eq_some_iff.1 P0.out).1 hb1.size)
  have P1 := Lib.hid ((P0.out.kept hb1).alloc (.cells (gotC x y r p e) 55))
  have G1 := Lib.hid (gotten_new w1 x y r p e)
  have B1 := Lib.hid (below2 (below2 (below_alloc w _) hb1) (below_alloc w1 (.cells (gotC x y r p e) 55)))
  clear hb1 P0 H
  obtain ⟨k0, k1, k2, k3, k4, k5, k6⟩ := P1.out.cells
  have fr := P1.out.free
  go_wp2_with fail
  have hne : w.heap.size < w1.heap.size := KL.out
  change Code.wp _ _ _ (frB w.heap.size w1.heap.size (lit2 [.string s, undef, undef, undef, undef, undef, undef, undef, .string s, .int .i64 (s.size : Nat), .bool false, undef, .string s, gotV x y r p e, .pointer (some ⟨w1.heap.size, 4, none⟩), .int .i64 e, .bool true, undef, undef, undef, undef, undef, undef, undef, undef, undef, undef, undef, undef, undef, undef, undef, undef, undef, undef, undef, undef, undef, undef, undef, undef, undef, undef, undef, undef, undef, undef, undef, undef, undef, undef]) (fun i => if i = 4 then .int .i64 0 else undef)) _
  generalize lit2 [.string s, undef, undef, undef, undef, undef, undef, undef, .string s, .int .i64 (s.size : Nat), .bool false, undef, .string s, gotV x y r p e, .pointer (some ⟨w1.heap.size, 4, none⟩), .int .i64 e, .bool true, undef, undef, undef, undef, undef, undef, undef, undef, undef, undef, undef, undef, undef, undef, undef, undef, undef, undef, undef, undef, undef, undef, undef, undef, undef, undef, undef, undef, undef, undef, undef, undef, undef, undef] = y0
  clear k0 k1 k2 k3 k4 k5 k6 fr
  have T0 := Lib.hid (show StB w.heap.size w1.heap.size x y r p e w (fun _ => false) (w1.alloc (.cells (gotC x y r p e) 55)).drew from ⟨P1.out, G1.out, B1.out.drew, rfl⟩)
  clear P1 G1 B1
  refine wp_region_inv (fun d a W => ∃ x' : Nat → Value, a = frB w.heap.size w1.heap.size y0 x' ∧ InvJ 5 (valB w1.heap.size e) (StB w.heap.size w1.heap.size x y r p e w) d x' W) (by kernel_rfl) (by kernel_rfl) ?step ?done ?start
  case start => exact ⟨_, rfl, InvJ.start _ T0.out⟩
  case step =>
    rintro d a W i hi hd hall ⟨x', rfl, hI⟩
    replace hi : i < 5 := hi
    have hst := Lib.hid hI.st
    obtain rfl | rfl | rfl | rfl | rfl : i = 0 ∨ i = 1 ∨ i = 2 ∨ i = 3 ∨ i = 4 := by omega
    · clear hall
      refine wpOp_step rfl (fun K hK => ?_)
      simp only [List.getElem_toArray, List.getElem_cons_zero]
      go_simp
      exact hK _ _ ⟨_, by simp [upv, valB], hI.yields 0 ⟨hst.out.res, hst.out.got, hst.out.below, rfl⟩⟩
    · clear hall
      refine wpOp_step rfl (fun K hK => ?_)
      simp only [List.getElem_toArray, List.getElem_cons_zero, List.getElem_cons_succ]
      go_simp
      exact hK _ _ ⟨_, by simp [upv, valB], hI.yields 1 ⟨hst.out.res, hst.out.got, hst.out.below, rfl⟩⟩
    · have h1 : x' 1 = .pointer (some ⟨w1.heap.size, 4, none⟩) := hI.pure 1 (by omega) (hall 1 (by kernel_rfl))
      obtain ⟨_, _, _, _, g4⟩ := hst.out.got.cells
      clear hall
      refine wpOp_step rfl (fun K hK => ?_)
      simp only [List.getElem_toArray, List.getElem_cons_zero, List.getElem_cons_succ]
      go_simp
      exact hK _ _ ⟨_, by simp [upv, valB, h1], hI.yields 2 ⟨hst.out.res, hst.out.got, hst.out.below, rfl⟩⟩
    · have h0 : x' 0 = pktV 0 ⟨#[]⟩ ⟨#[]⟩ 0 0 0 0 := hI.pure 0 (by omega) (hall 0 (by kernel_rfl))
      obtain ⟨k0, k1, k2, k3, k4, k5, k6⟩ := hst.out.res.cells
      have fr := hst.out.res.free
      clear hall
      refine wpOp_step rfl (fun K hK => ?_)
      simp only [List.getElem_toArray, List.getElem_cons_zero, List.getElem_cons_succ]
      go_simp
      refine seven_cells2 (C := fun W' => K _ W') hst.out.res (g := w1.heap.size) (by omega) ?_
      intro W6 hK6 hb6 hG6
      exact hK _ _ ⟨_, by simp [upv, h0], hI.yields 3 ⟨hK6, hG6.trans hst.out.got, hst.out.below.trans hb6, rfl⟩⟩
    · have h2 : x' 2 = .int .i64 e := hI.pure 2 (by omega) (hall 2 (by kernel_rfl))
      clear hall
      refine wpOp_step rfl (fun K hK => ?_)
      simp only [List.getElem_toArray, List.getElem_cons_zero, List.getElem_cons_succ]
      go_simp
      exact hK _ _ ⟨_, by simp [upv, valB, h2], hI.yields 4 ⟨hst.out.res, hst.out.got, hst.out.below, rfl⟩⟩
  case done =>
    rintro d a W hall ⟨x', rfl, hI⟩
    replace hall : ∀ i, i < 5 → d i = true := hall
    have h4 : x' 4 = .int .i64 e := hI.pure 4 (by omega) (hall 4 (by omega))
    have hR := Lib.hid hI.st.res
    have hB := Lib.hid hI.st.below
    clear hI hall T0
    obtain ⟨k0, k1, k2, k3, k4, k5, k6⟩ := hR.out.cells
    go_wp2_with fail
    exact bodyPost_ret (v := noP e) (by simp [results, Try.results12, go_sem, h4, k0, k1, k2, k3, k4, k5, k6]) rfl ⟨rfl, hB.out⟩

set_option maxRecDepth 100000 in
set_option maxHeartbeats 2000000 in
theorem refParse_port (s : ByteArray) (h0 : 0 < s.size) (x y r : ByteArray) (p F T f e : Int) (h : Tells 27 #[.string s] (gotV x y r p 0)) (q : Tells 28 #[.int .i64 p, .string r] (ptV F T f e)) (he : e ≠ 0) : Tells 12 #[.string s] (noP e) := by
  have he2 : (e != 0) = true := bne_iff_ne.2 he
  clear he
  have Q := Lib.hid q
  clear q
  intro w
  have P0 := Lib.hid (packed_new w 0 ⟨#[]⟩ ⟨#[]⟩ 0 0 0 0)
  have n0 : ((s.size : Int) == 0) = false := beq_false_of_ne (by omega)
  have H := Lib.hid h
  clear h
  go_enter Try.func12, Try.ntmps12
  go_wp2_with fail
  refine (H.out _).mono ?_
  rintro e' w1 ⟨rfl, hb1⟩
  have P1 := Lib.hid ((P0.out.kept hb1).alloc (.cells (gotC x y r p 0) 55))
  have G1 := Lib.hid (gotten_new w1 x y r p 0)
  have B1 := Lib.hid (below2 (below2 (below_alloc w _) hb1) (below_alloc w1 (.cells (gotC x y r p 0) 55)))
  clear hb1 P0 H
  go_wp2_with fail
  refine (Q.out _).mono ?_
  rintro e' w2 ⟨rfl, hb2⟩
  have P3 := Lib.hid ((P1.out.kept hb2).alloc (.cells #[.int .i64 F, .int .i64 T, .int .i64 f] 58))
  have B3 := Lib.hid (below2 (below2 B1.out hb2) (below_alloc w2 (.cells #[.int .i64 F, .int .i64 T, .int .i64 f] 58)))
  have G3 := Lib.hid ((G1.out.kept hb2).alloc (.cells #[.int .i64 F, .int .i64 T, .int .i64 f] 58))
  clear hb2 P1 B1 G1 Q
  clear G3
  obtain ⟨k0, k1, k2, k3, k4, k5, k6⟩ := P3.out.cells
  have fr := P3.out.free
  go_wp2_with fail
  refine seven_cells (C := fun W' => bodyPost _ _ _ _ _ W') P3.out ?_
  intro W6 hK6 hb6
  have B6 := Lib.hid (B3.out.trans hb6)
  clear hb6 k0 k1 k2 k3 k4 k5 k6 fr P3 B3
  obtain ⟨k0, k1, k2, k3, k4, k5, k6⟩ := hK6.cells
  exact bodyPost_ret (v := noP e) (by simp [results, Try.results12, go_sem, k0, k1, k2, k3, k4, k5, k6]) rfl ⟨rfl, B6.out⟩

set_option maxRecDepth 100000 in
set_option maxHeartbeats 2000000 in
theorem refParse_good (s : ByteArray) (h0 : 0 < s.size) (x y r : ByteArray) (p F T f : Int) (h : Tells 27 #[.string s] (gotV x y r p 0)) (q : Tells 28 #[.int .i64 p, .string r] (ptV F T f 0)) : Tells 12 #[.string s] (outV (top s : Nat) x y F T p f 0) := by
  have Q := Lib.hid q
  clear q
  intro w
  have P0 := Lib.hid (packed_new w 0 ⟨#[]⟩ ⟨#[]⟩ 0 0 0 0)
  have n0 : ((s.size : Int) == 0) = false := beq_false_of_ne (by omega)
  have H := Lib.hid h
  clear h
  go_enter Try.func12, Try.ntmps12
  go_wp2_with fail
  refine (H.out _).mono ?_
  rintro e' w1 ⟨rfl, hb1⟩
  have P1 := Lib.hid ((P0.out.kept hb1).alloc (.cells (gotC x y r p 0) 55))
  have G1 := Lib.hid (gotten_new w1 x y r p 0)
  have B1 := Lib.hid (below2 (below2 (below_alloc w _) hb1) (below_alloc w1 (.cells (gotC x y r p 0) 55)))
  clear hb1 P0 H
  go_wp2_with fail
  refine (Q.out _).mono ?_
  rintro e' w2 ⟨rfl, hb2⟩
  have P3 := Lib.hid ((P1.out.kept hb2).alloc (.cells #[.int .i64 F, .int .i64 T, .int .i64 f] 58))
  have B3 := Lib.hid (below2 (below2 B1.out hb2) (below_alloc w2 (.cells #[.int .i64 F, .int .i64 T, .int .i64 f] 58)))
  have G3 := Lib.hid ((G1.out.kept hb2).alloc (.cells #[.int .i64 F, .int .i64 T, .int .i64 f] 58))
  clear hb2 P1 B1 G1 Q
  go_wp2_with fail
  have Q3 := Lib.hid (World.alloc_heap_new w2 (.cells #[.int .i64 F, .int .i64 T, .int .i64 f] 58))
  have l8 : (s[0]).toNat < 256 := (s[0]).toNat_lt
  have qq := IntWalk.i64_in (((s[0]).toNat : Int) / 16) (by omega)
  have q8 : IntKind.u8.wrap (((s[0]).toNat : Int) / 16) = ((s[0]).toNat : Int) / 16 := by
    simp only [IntKind.wrap, IntKind.signed, IntKind.bits]; simp; omega
  have ET := Lib.hid (show ((top s : Nat) : Int) = ((s[0]).toNat : Int) / 16 by unfold top; rw [top_byte s h0]; omega)
  change Code.wp _ _ _ (frG s w.heap.size w1.heap.size w2.heap.size (lit2 [undef, undef, undef, undef, undef, undef, .int .i64 0, undef, .string s, .int .i64 (s.size : Nat), .bool false, undef, .string s, gotV x y r p 0, .pointer (some ⟨w1.heap.size, 4, none⟩), .int .i64 0, .bool false, undef, undef, undef, ptV F T f 0, .pointer (some ⟨w1.heap.size, 3, none⟩), .int .i64 p, .pointer (some ⟨w1.heap.size, 2, none⟩), .string r, ptV F T f 0, .agg #[.int .i64 F, .int .i64 T, .int .i64 f], .int .i64 0, .int .i64 0, .bool false, undef, undef]) (fun _ => undef)) _
  generalize lit2 [undef, undef, undef, undef, undef, undef, .int .i64 0, undef, .string s, .int .i64 (s.size : Nat), .bool false, undef, .string s, gotV x y r p 0, .pointer (some ⟨w1.heap.size, 4, none⟩), .int .i64 0, .bool false, undef, undef, undef, ptV F T f 0, .pointer (some ⟨w1.heap.size, 3, none⟩), .int .i64 p, .pointer (some ⟨w1.heap.size, 2, none⟩), .string r, ptV F T f 0, .agg #[.int .i64 F, .int .i64 T, .int .i64 f], .int .i64 0, .int .i64 0, .bool false, undef, undef] = y0
  refine wp_region_inv (fun d a W => ∃ (x' : Nat → Value) (b : Nat), a = frG s w.heap.size w1.heap.size w2.heap.size y0 x' ∧ InvB 15 16 (w2.alloc (.cells #[.int .i64 F, .int .i64 T, .int .i64 f] 58)) 24 (keyC 0 ⟨#[]⟩ ⟨#[]⟩ 0 0 0) (keyC ((s[0].toNat : Nat) / 16) x y F T p) (valG s (s[0].toNat : Nat) w1.heap.size w2.heap.size x y F T p) d x' b W) (by kernel_rfl) (by kernel_rfl) ?step ?done ?start
  case start => exact ⟨fun _ => undef, 0, rfl, InvB.start _ _ _ (Below.refl _ _).drew⟩
  case step =>
    rintro d a W i hi hd hall ⟨x', b, rfl, hI⟩
    replace hi : i < 17 := hi
    have hbW := Lib.hid hI.below
    obtain rfl | rfl | rfl | rfl | rfl | rfl | rfl | rfl | rfl | rfl | rfl | rfl | rfl | rfl | rfl | rfl | rfl : i = 0 ∨ i = 1 ∨ i = 2 ∨ i = 3 ∨ i = 4 ∨ i = 5 ∨ i = 6 ∨ i = 7 ∨ i = 8 ∨ i = 9 ∨ i = 10 ∨ i = 11 ∨ i = 12 ∨ i = 13 ∨ i = 14 ∨ i = 15 ∨ i = 16 := by omega
    · clear hall
      refine wpOp_step rfl (fun K hK1 => ?_)
      simp only [List.getElem_toArray, List.getElem_cons_zero]
      go_simp
      exact hK1 _ _ ⟨_, _, by simp [upv, valG], hI.yields (i := 0) (by omega) (by omega) (Below.refl _ _)⟩
    · have h0 : x' 0 = .string s := hI.pure 0 (by omega) (by omega) (hall 0 (by kernel_rfl))
      clear hall
      refine wpOp_step rfl (fun K hK1 => ?_)
      simp only [List.getElem_toArray, List.getElem_cons_zero, List.getElem_cons_succ]
      go_simp
      exact hK1 _ _ ⟨_, _, by simp [upv, valG, h0], hI.yields (i := 1) (by omega) (by omega) (Below.refl _ _)⟩
    · have h1 : x' 1 = .int .u8 (s[0].toNat : Nat) := hI.pure 1 (by omega) (by omega) (hall 1 (by kernel_rfl))
      clear hall
      refine wpOp_step rfl (fun K hK1 => ?_)
      simp only [List.getElem_toArray, List.getElem_cons_zero, List.getElem_cons_succ]
      go_simp
      exact hK1 _ _ ⟨_, _, by simp [upv, valG, h1], hI.yields (i := 2) (by omega) (by omega) (Below.refl _ _)⟩
    · have h2 : x' 2 = .int .u8 ((s[0].toNat : Nat) / 16) := hI.pure 2 (by omega) (by omega) (hall 2 (by kernel_rfl))
      clear hall
      refine wpOp_step rfl (fun K hK1 => ?_)
      simp only [List.getElem_toArray, List.getElem_cons_zero, List.getElem_cons_succ]
      go_simp
      exact hK1 _ _ ⟨_, _, by simp [upv, valG, h2], hI.yields (i := 3) (by omega) (by omega) (Below.refl _ _)⟩
    · clear hall
      refine wpOp_step rfl (fun K hK1 => ?_)
      simp only [List.getElem_toArray, List.getElem_cons_zero, List.getElem_cons_succ]
      go_simp
      exact hK1 _ _ ⟨_, _, by simp [upv, valG], hI.yields (i := 4) (by omega) (by omega) (Below.refl _ _)⟩
    · have h4 : x' 4 = .pointer (some ⟨w1.heap.size, 0, none⟩) := hI.pure 4 (by omega) (by omega) (hall 4 (by kernel_rfl))
      obtain ⟨g0, g1, _, g3, _⟩ := (G3.out.kept hbW.out).cells
      clear hall
      refine wpOp_step rfl (fun K hK1 => ?_)
      simp only [List.getElem_toArray, List.getElem_cons_zero, List.getElem_cons_succ]
      go_simp
      exact hK1 _ _ ⟨_, _, by simp [upv, valG, h4], hI.yields (i := 5) (by omega) (by omega) (Below.refl _ _)⟩
    · clear hall
      refine wpOp_step rfl (fun K hK1 => ?_)
      simp only [List.getElem_toArray, List.getElem_cons_zero, List.getElem_cons_succ]
      go_simp
      exact hK1 _ _ ⟨_, _, by simp [upv, valG], hI.yields (i := 6) (by omega) (by omega) (Below.refl _ _)⟩
    · have h6 : x' 6 = .pointer (some ⟨w1.heap.size, 1, none⟩) := hI.pure 6 (by omega) (by omega) (hall 6 (by kernel_rfl))
      obtain ⟨g0, g1, _, g3, _⟩ := (G3.out.kept hbW.out).cells
      clear hall
      refine wpOp_step rfl (fun K hK1 => ?_)
      simp only [List.getElem_toArray, List.getElem_cons_zero, List.getElem_cons_succ]
      go_simp
      exact hK1 _ _ ⟨_, _, by simp [upv, valG, h6], hI.yields (i := 7) (by omega) (by omega) (Below.refl _ _)⟩
    · clear hall
      refine wpOp_step rfl (fun K hK1 => ?_)
      simp only [List.getElem_toArray, List.getElem_cons_zero, List.getElem_cons_succ]
      go_simp
      exact hK1 _ _ ⟨_, _, by simp [upv, valG], hI.yields (i := 8) (by omega) (by omega) (Below.refl _ _)⟩
    · have h8 : x' 8 = .pointer (some ⟨w2.heap.size, 0, none⟩) := hI.pure 8 (by omega) (by omega) (hall 8 (by kernel_rfl))
      have q0 := block_kept Q3.out hbW.out
      have q1 := cell_of q0 0
      have q2 := cell_of q0 1
      simp at q1 q2
      clear hall
      refine wpOp_step rfl (fun K hK1 => ?_)
      simp only [List.getElem_toArray, List.getElem_cons_zero, List.getElem_cons_succ]
      go_simp
      exact hK1 _ _ ⟨_, _, by simp [upv, valG, h8], hI.yields (i := 9) (by omega) (by omega) (Below.refl _ _)⟩
    · clear hall
      refine wpOp_step rfl (fun K hK1 => ?_)
      simp only [List.getElem_toArray, List.getElem_cons_zero, List.getElem_cons_succ]
      go_simp
      exact hK1 _ _ ⟨_, _, by simp [upv, valG], hI.yields (i := 10) (by omega) (by omega) (Below.refl _ _)⟩
    · have h10 : x' 10 = .pointer (some ⟨w2.heap.size, 1, none⟩) := hI.pure 10 (by omega) (by omega) (hall 10 (by kernel_rfl))
      have q0 := block_kept Q3.out hbW.out
      have q1 := cell_of q0 0
      have q2 := cell_of q0 1
      simp at q1 q2
      clear hall
      refine wpOp_step rfl (fun K hK1 => ?_)
      simp only [List.getElem_toArray, List.getElem_cons_zero, List.getElem_cons_succ]
      go_simp
      exact hK1 _ _ ⟨_, _, by simp [upv, valG, h10], hI.yields (i := 11) (by omega) (by omega) (Below.refl _ _)⟩
    · clear hall
      refine wpOp_step rfl (fun K hK1 => ?_)
      simp only [List.getElem_toArray, List.getElem_cons_zero, List.getElem_cons_succ]
      go_simp
      exact hK1 _ _ ⟨_, _, by simp [upv, valG], hI.yields (i := 12) (by omega) (by omega) (Below.refl _ _)⟩
    · have h12 : x' 12 = .pointer (some ⟨w1.heap.size, 3, none⟩) := hI.pure 12 (by omega) (by omega) (hall 12 (by kernel_rfl))
      obtain ⟨g0, g1, _, g3, _⟩ := (G3.out.kept hbW.out).cells
      clear hall
      refine wpOp_step rfl (fun K hK1 => ?_)
      simp only [List.getElem_toArray, List.getElem_cons_zero, List.getElem_cons_succ]
      go_simp
      exact hK1 _ _ ⟨_, _, by simp [upv, valG, h12], hI.yields (i := 13) (by omega) (by omega) (Below.refl _ _)⟩
    · have h3 : x' 3 = .int .i64 ((s[0].toNat : Nat) / 16) := hI.pure 3 (by omega) (by omega) (hall 3 (by kernel_rfl))
      have h5 : x' 5 = .string x := hI.pure 5 (by omega) (by omega) (hall 5 (by kernel_rfl))
      have h7 : x' 7 = .string y := hI.pure 7 (by omega) (by omega) (hall 7 (by kernel_rfl))
      have h9 : x' 9 = .int .i64 F := hI.pure 9 (by omega) (by omega) (hall 9 (by kernel_rfl))
      have h11 : x' 11 = .int .i64 T := hI.pure 11 (by omega) (by omega) (hall 11 (by kernel_rfl))
      have h13 : x' 13 = .int .i64 p := hI.pure 13 (by omega) (by omega) (hall 13 (by kernel_rfl))
      clear hall
      refine wpOp_step rfl (fun K hK1 => ?_)
      simp only [List.getElem_toArray, List.getElem_cons_zero, List.getElem_cons_succ]
      go_simp
      exact hK1 _ _ ⟨_, _, by simp [upv, valG, h3, h5, h7, h9, h11, h13], hI.yields (i := 14) (by omega) (by omega) (Below.refl _ _)⟩
    · clear hall
      refine wpOp_step rfl (fun K hK1 => ?_)
      simp only [List.getElem_toArray, List.getElem_cons_zero, List.getElem_cons_succ]
      go_simp
      exact hK1 _ _ ⟨_, _, by simp [upv], hI.makes (by omega) hd⟩
    · have h14 : x' 14 = keyV ((s[0].toNat : Nat) / 16) x y F T p := hI.pure 14 (by omega) (by omega) (hall 14 (by kernel_rfl))
      obtain ⟨h15, hle, hz, _⟩ := hI.cell (hall 15 (by kernel_rfl))
      have hK := hz hd
      obtain ⟨k0, k1, k2, k3, k4, k5⟩ := Keyed.cells hK
      have fr := Keyed.free hK
      have h15d := hall 15 (by kernel_rfl)
      clear hall
      refine wpOp_step rfl (fun K hK1 => ?_)
      simp only [List.getElem_toArray, List.getElem_cons_zero, List.getElem_cons_succ]
      go_simp
      refine six_cells (C := fun W' => K _ W') hK ?_
      intro W6 hK6 hb6
      exact hK1 _ _ ⟨_, _, rfl, hI.lays (by omega) h15d hK6 hb6⟩
  case done =>
    rintro d a W hall ⟨x', b, rfl, hI⟩
    replace hall : ∀ i, i < 17 → d i = true := hall
    obtain ⟨h15, hle, _, hv⟩ := hI.cell (hall 15 (by omega))
    have hK := Lib.hid (hv (hall 16 (by omega)))
    have hR := Lib.hid (P3.out.kept hI.below)
    have hB := Lib.hid (below2 B3.out hI.below)
    have q0 := block_kept Q3.out hI.below
    have q1 := cell_of q0 2
    simp at q1
    clear hI hall hv P3 B3 G3 Q3 q0 hle
    obtain ⟨c0, c1, c2, c3, c4, c5⟩ := Keyed.cells hK.out
    obtain ⟨k0, k1, k2, k3, k4, k5, k6⟩ := hR.out.cells
    have fr := hR.out.free
    go_wp2_with fail
    refine seven_cells (C := fun W' => bodyPost _ _ _ _ _ W') hR.out ?_
    intro W6 hK6 hb6
    have B6 := Lib.hid (hB.out.trans hb6)
    clear hb6 k0 k1 k2 k3 k4 k5 k6 fr hR hB hK
    obtain ⟨k0, k1, k2, k3, k4, k5, k6⟩ := hK6.cells
    exact bodyPost_ret (v := outV (((s[0]).toNat : Int) / 16) x y F T p f 0) (by simp [results, Try.results12, go_sem, k0, k1, k2, k3, k4, k5, k6]) rfl ⟨by rw [ET.out], B6.out⟩
end Go.Proofs.Ytcdgcjpdlhknoaa.Pkt
