/-
  The document's answer for packet (package gangplankref07): Closing, wide, Put.
-/
import Derived.Test.YtcdgcjpdlhknoaaPktV
namespace Go.Proofs.Ytcdgcjpdlhknoaa.Pkt
open Go.RowKit Go.Shelf Txt Rgn

/-- The three lowest bits. -/
theorem and_low (n : Int) (c : Nat) (hc : c < 8) : bits .and .i64 n c = (((n % 8).toNat &&& c : Nat) : Int) := by
  have hC : (BitVec.ofInt 64 (c : Int)).toNat = c := by rw [BitVec.toNat_ofInt]; omega
  have key : (BitVec.ofInt 64 n &&& BitVec.ofInt 64 (c : Int)).toNat = (n % 8).toNat &&& c := by
    rw [BitVec.toNat_and, BitVec.toNat_ofInt, hC]
    have hle : (n % ((2 ^ 64 : Nat) : Int)).toNat &&& c ≤ c := Nat.and_le_right
    have hm := Nat.and_mod_two_pow (a := (n % ((2 ^ 64 : Nat) : Int)).toNat) (b := c) (n := 3)
    rw [Nat.mod_eq_of_lt (by omega), Nat.mod_eq_of_lt (a := c) (by omega)] at hm
    rw [hm]
    congr 1
    omega
  have hle : (n % 8).toNat &&& c ≤ c := Nat.and_le_right
  show IntKind.i64.wrap ((BitVec.ofInt 64 n &&& BitVec.ofInt 64 (c : Int)).toNat : Nat) = _
  rw [key]
  exact IntWalk.i64_in _ (by omega)
theorem flags_any (n : Int) : (bits .and .i64 n 5 != 0) = ((bits .and .i64 n 1 == 1) || (bits .and .i64 n 4 == 4)) := by
  have h5 := and_low n 5 (by omega)
  have h1 := and_low n 1 (by omega)
  have h4 := and_low n 4 (by omega)
  change bits .and .i64 n 5 = _ at h5
  change bits .and .i64 n 1 = _ at h1
  change bits .and .i64 n 4 = _ at h4
  rw [h5, h1, h4]
  have hr : (n % 8).toNat < 8 := by omega
  generalize (n % 8).toNat = r at *
  have : r = 0 ∨ r = 1 ∨ r = 2 ∨ r = 3 ∨ r = 4 ∨ r = 5 ∨ r = 6 ∨ r = 7 := by omega
  rcases this with rfl | rfl | rfl | rfl | rfl | rfl | rfl | rfl <;> decide

/-- Whether a packet closes its flow. -/
def closes (p f : Int) : Bool := p == 6 && bits .and .i64 f 5 != 0
set_option maxRecDepth 100000 in
set_option maxHeartbeats 2000000 in
theorem refClosing_any (V : Int) (x y : ByteArray) (F T p f : Int) : Tells 17 #[pktV V x y F T p f] (.bool (closes p f)) := by
  intro w
  have P0 := Lib.hid (packed_new w V x y F T p f)
  have B0 := Lib.hid (below_alloc w (.cells (pktC V x y F T p f) 26))
  obtain ⟨k0, k1, k2, k3, k4, k5, k6⟩ := P0.out.cells
  have E := Lib.hid (flags_any f)
  by_cases h6 : p = 6
  · subst h6
    have EC := Lib.hid (show closes 6 f = ((bits .and .i64 f 1 == 1) || (bits .and .i64 f 4 == 4)) from E.out)
    cases h1 : (bits .and .i64 f 1 == 1) with
    | true =>
      rw [h1] at EC
      go_enter Try.func17, Try.ntmps17
      go_wp2_with fail
      go_ret
      exact ⟨by rw [EC.out]; rfl, B0.out⟩
    | false =>
      rw [h1] at EC
      go_enter Try.func17, Try.ntmps17
      go_wp2_with fail
      go_ret
      exact ⟨by rw [EC.out]; rfl, B0.out⟩
  · have n6 : (p == 6) = false := beq_false_of_ne h6
    have EC := Lib.hid (show closes p f = false by unfold closes; rw [n6]; rfl)
    clear h6
    go_enter Try.func17, Try.ntmps17
    go_wp2_with fail
    go_ret
    exact ⟨by rw [EC.out]; rfl, B0.out⟩
theorem Closing_is (V : Int) (x y : ByteArray) (F T p f : Int) : Tells 16 #[pktV V x y F T p f] (.bool (closes p f)) := Closing_any V x y F T p f

/-- x with k zeros behind. -/
def wid (x : ByteArray) (k : Nat) : ByteArray := Oct.str (x.data.toList ++ List.replicate k 0)
theorem wid_size (x : ByteArray) (k : Nat) : (wid x k).size = x.size + k := by unfold wid; rw [str_size, List.length_append, List.length_replicate, len_list]
theorem wid_zero (x : ByteArray) : wid x 0 = x := ba_ext (by simp [wid])
theorem wid_more (x : ByteArray) (k : Nat) : wid x k ++ ⟨#[0]⟩ = wid x (k + 1) := ba_ext (by rw [app_list]; simp [wid, List.replicate_succ'])
/-- How long a text is. -/
def lenV : Value → Nat
  | .string s => s.size
  | _ => 0
set_option maxRecDepth 100000 in
set_option maxHeartbeats 2000000 in
theorem wide_any (x : ByteArray) (h : x.size ≤ 16) (w : World) : Calls Try.prog 40 #[.string x] w fun e W' => e = .returned (.string (wid x (16 - x.size))) ∧ w = W' := by
  go_enter Try.func40, Try.ntmps40
  go_wp2
  go_loop [0] (fun s => ∃ k : Nat, x.size + k ≤ 16 ∧ s = .string (wid x k)) (fun s => 16 - lenV s)
  case atStart => exact ⟨0, by omega, by rw [wid_zero]⟩
  case round =>
    obtain ⟨k, hk, rfl⟩ := hrel
    have hz := wid_size x k
    have HM := Lib.hid (wid_more x k)
    have H16 := fun (e : x.size + k = 16) => Lib.hid (show wid x k = wid x (16 - x.size) by rw [show 16 - x.size = k by omega])
    have HZ := Lib.hid (wid_size x (k + 1))
    generalize wid x k = S at *
    by_cases hlt : x.size + k < 16
    · go_wp2
      refine ⟨⟨k + 1, by omega, by rw [HM.out]⟩, ?_⟩
      show 16 - (S ++ ⟨#[0]⟩).size < 16 - S.size
      rw [HM.out, HZ.out]
      omega
    · go_wp2
      go_ret
      exact ⟨by rw [← (H16 (by omega)).out]; rfl, rfl⟩

set_option maxRecDepth 100000 in
set_option maxHeartbeats 2000000 in
theorem refPut_other (V : Int) (x y : ByteArray) (F T p f : Int) (h4 : V ≠ 4) (h6 : V ≠ 6) : Tells 15 #[pktV V x y F T p f] (txV ⟨#[]⟩ 3) := by
  have n4 : (V != 4) = true := bne_iff_ne.2 h4
  have n6 : (V != 6) = true := bne_iff_ne.2 h6
  clear h4 h6
  intro w
  have P0 := Lib.hid ((packed_new w V x y F T p f).alloc (.cells (keyC V x y F T p) 24))
  have K0 := Lib.hid (keyed_new (w.alloc (.cells (pktC V x y F T p f) 26)) V x y F T p)
  rw [World.size_alloc] at K0
  have B0 := Lib.hid (below2 (below_alloc w (.cells (pktC V x y F T p f) 26)) (below_alloc _ (.cells (keyC V x y F T p) 24)))
  obtain ⟨k0, k1, k2, k3, k4, k5, k6⟩ := P0.out.cells
  go_enter Try.func15, Try.ntmps15
  go_wp2_with fail
  exact bodyPost_ret (v := txV ⟨#[]⟩ 3) (by simp [results, Try.results15, go_sem]) rfl ⟨rfl, B0.out⟩

set_option maxRecDepth 100000 in
set_option maxHeartbeats 2000000 in
theorem refPut_four_port (x y : ByteArray) (F T p f e : Int) (q : Tells 33 #[.int .i64 p, .agg #[.int .i64 F, .int .i64 T, .int .i64 f]] (txV ⟨#[]⟩ e)) (he : e ≠ 0) : Tells 15 #[pktV 4 x y F T p f] (txV ⟨#[]⟩ e) := by
  have he2 : (e != 0) = true := bne_iff_ne.2 he
  have Q := Lib.hid q
  clear he q
  intro w
  have P0 := Lib.hid ((packed_new w 4 x y F T p f).alloc (.cells (keyC 4 x y F T p) 24))
  have K0 := Lib.hid (keyed_new (w.alloc (.cells (pktC 4 x y F T p f) 26)) 4 x y F T p)
  rw [World.size_alloc] at K0
  have B0 := Lib.hid (below2 (below_alloc w (.cells (pktC 4 x y F T p f) 26)) (below_alloc _ (.cells (keyC 4 x y F T p) 24)))
  obtain ⟨k0, k1, k2, k3, k4, k5, k6⟩ := P0.out.cells
  go_enter Try.func15, Try.ntmps15
  go_wp2_with fail
  refine (Q.out _).mono ?_
  rintro e' w1 ⟨rfl, hb1⟩
  have B1 := Lib.hid (below2 B0.out hb1)
  have K1 := Lib.hid (K0.out.kept hb1)
  clear hb1 P0 K0 B0 k0 k1 k2 k3 k4 k5 k6 Q
  go_wp2_with fail
  exact bodyPost_ret (v := txV ⟨#[]⟩ e) (by simp [results, Try.results15, go_sem]) rfl ⟨rfl, B1.out⟩

set_option maxRecDepth 100000 in
set_option maxHeartbeats 2000000 in
theorem refPut_four (x y : ByteArray) (F T p f : Int) (S R : ByteArray) (e : Int) (q : Tells 33 #[.int .i64 p, .agg #[.int .i64 F, .int .i64 T, .int .i64 f]] (txV S 0)) (h : Tells 34 #[.agg #[.string x, .string y, .int .i64 p], .string S] (txV R e)) : Tells 15 #[pktV 4 x y F T p f] (txV R e) := by
  have Q := Lib.hid q
  have H := Lib.hid h
  clear h q
  intro w
  have P0 := Lib.hid ((packed_new w 4 x y F T p f).alloc (.cells (keyC 4 x y F T p) 24))
  have K0 := Lib.hid (keyed_new (w.alloc (.cells (pktC 4 x y F T p f) 26)) 4 x y F T p)
  rw [World.size_alloc] at K0
  have B0 := Lib.hid (below2 (below_alloc w (.cells (pktC 4 x y F T p f) 26)) (below_alloc _ (.cells (keyC 4 x y F T p) 24)))
  obtain ⟨k0, k1, k2, k3, k4, k5, k6⟩ := P0.out.cells
  go_enter Try.func15, Try.ntmps15
  go_wp2_with fail
  refine (Q.out _).mono ?_
  rintro e' w1 ⟨rfl, hb1⟩
  have B1 := Lib.hid (below2 B0.out hb1)
  have K1 := Lib.hid (K0.out.kept hb1)
  clear hb1 P0 K0 B0 k0 k1 k2 k3 k4 k5 k6 Q
  obtain ⟨c0, c1, c2, c3, c4, c5⟩ := K1.out.cells
  go_wp2_with fail
  refine (H.out _).mono ?_
  rintro e' w2 ⟨rfl, hb2⟩
  have B2 := Lib.hid (below2 B1.out hb2)
  clear hb2 K1 B1 c0 c1 c2 c3 c4 c5 H
  go_wp2_with fail
  exact bodyPost_ret (v := txV R e) (by simp [results, Try.results15, go_sem]) rfl ⟨rfl, B2.out⟩

set_option maxRecDepth 100000 in
set_option maxHeartbeats 2000000 in
theorem refPut_six_port (x y : ByteArray) (F T p f e : Int) (q : Tells 33 #[.int .i64 p, .agg #[.int .i64 F, .int .i64 T, .int .i64 f]] (txV ⟨#[]⟩ e)) (he : e ≠ 0) : Tells 15 #[pktV 6 x y F T p f] (txV ⟨#[]⟩ e) := by
  have he2 : (e != 0) = true := bne_iff_ne.2 he
  have Q := Lib.hid q
  clear he q
  intro w
  have P0 := Lib.hid ((packed_new w 6 x y F T p f).alloc (.cells (keyC 6 x y F T p) 24))
  have K0 := Lib.hid (keyed_new (w.alloc (.cells (pktC 6 x y F T p f) 26)) 6 x y F T p)
  rw [World.size_alloc] at K0
  have B0 := Lib.hid (below2 (below_alloc w (.cells (pktC 6 x y F T p f) 26)) (below_alloc _ (.cells (keyC 6 x y F T p) 24)))
  obtain ⟨k0, k1, k2, k3, k4, k5, k6⟩ := P0.out.cells
  go_enter Try.func15, Try.ntmps15
  go_wp2_with fail
  refine (Q.out _).mono ?_
  rintro e' w1 ⟨rfl, hb1⟩
  have B1 := Lib.hid (below2 B0.out hb1)
  have K1 := Lib.hid (K0.out.kept hb1)
  clear hb1 P0 K0 B0 k0 k1 k2 k3 k4 k5 k6 Q
  go_wp2_with fail
  exact bodyPost_ret (v := txV ⟨#[]⟩ e) (by simp [results, Try.results15, go_sem]) rfl ⟨rfl, B1.out⟩

set_option maxRecDepth 100000 in
set_option maxHeartbeats 2000000 in
theorem refPut_six (x y : ByteArray) (F T p f : Int) (S R : ByteArray) (e : Int) (q : Tells 33 #[.int .i64 p, .agg #[.int .i64 F, .int .i64 T, .int .i64 f]] (txV S 0)) (h : Tells 35 #[.agg #[.string x, .string y, .int .i64 p], .string S] (txV R e)) : Tells 15 #[pktV 6 x y F T p f] (txV R e) := by
  have Q := Lib.hid q
  have H := Lib.hid h
  clear h q
  intro w
  have P0 := Lib.hid ((packed_new w 6 x y F T p f).alloc (.cells (keyC 6 x y F T p) 24))
  have K0 := Lib.hid (keyed_new (w.alloc (.cells (pktC 6 x y F T p f) 26)) 6 x y F T p)
  rw [World.size_alloc] at K0
  have B0 := Lib.hid (below2 (below_alloc w (.cells (pktC 6 x y F T p f) 26)) (below_alloc _ (.cells (keyC 6 x y F T p) 24)))
  obtain ⟨k0, k1, k2, k3, k4, k5, k6⟩ := P0.out.cells
  go_enter Try.func15, Try.ntmps15
  go_wp2_with fail
  refine (Q.out _).mono ?_
  rintro e' w1 ⟨rfl, hb1⟩
  have B1 := Lib.hid (below2 B0.out hb1)
  have K1 := Lib.hid (K0.out.kept hb1)
  clear hb1 P0 K0 B0 k0 k1 k2 k3 k4 k5 k6 Q
  obtain ⟨c0, c1, c2, c3, c4, c5⟩ := K1.out.cells
  go_wp2_with fail
  refine (H.out _).mono ?_
  rintro e' w2 ⟨rfl, hb2⟩
  have B2 := Lib.hid (below2 B1.out hb2)
  clear hb2 K1 B1 c0 c1 c2 c3 c4 c5 H
  go_wp2_with fail
  exact bodyPost_ret (v := txV R e) (by simp [results, Try.results15, go_sem]) rfl ⟨rfl, B2.out⟩

end Go.Proofs.Ytcdgcjpdlhknoaa.Pkt
