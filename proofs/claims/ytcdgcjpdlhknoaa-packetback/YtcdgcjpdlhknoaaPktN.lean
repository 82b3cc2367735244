/-
  Package packet: the document's examples (the laws' 'works' answers true); Few.
-/
import Derived.Test.YtcdgcjpdlhknoaaPktM
import Derived.Test.YtcdgcjpdlhknoaaPktG
namespace Go.Proofs.Ytcdgcjpdlhknoaa.Pkt
open Go.RowKit Go.Shelf Txt Rgn

theorem Parse_put0 (V : Int) (x y : ByteArray) (F T p f : Int) (h : okP V x y F T p f) : Tells 11 #[.string (putW V x y F T p f)] (outV V x y F T p f 0) := by
  have := Parse_put V x y F T p f h ⟨#[]⟩ (by decide)
  rwa [app_nil] at this
theorem bytes_told (V : Int) (x y : ByteArray) (F T p : Int) (h : right V x y F T p) : Tells 18 #[keyV V x y F T p] (.tuple #[.string (recS V x y F T p), .bool true]) := fun w => Bytes_yes V x y F T p h w
theorem bytes_none (V : Int) (x y : ByteArray) (F T p : Int) (h : ¬ right V x y F T p) : Tells 18 #[keyV V x y F T p] (.tuple #[.string ⟨#[]⟩, .bool false]) := fun w => Bytes_no V x y F T p h w
theorem of_told (V : Int) (x y : ByteArray) (F T p : Int) (h : right V x y F T p) : Tells 20 #[.string (recS V x y F T p)] (.tuple #[keyV V x y F T p, .bool true]) := fun w => Of_yes V x y F T p h w
theorem of_none (B : ByteArray) (h : ∀ V x y F T p, right V x y F T p → recS V x y F T p ≠ B) : Tells 20 #[.string B] (.tuple #[zeroK, .bool false]) := fun w => Of_no B h w

set_option maxRecDepth 100000 in
set_option maxHeartbeats 4000000 in
theorem works_any : Tells 10 #[] (.bool true) := by
  intro w
  have ok : okP 4 ⟨#[1, 2, 3, 4]⟩ ⟨#[5, 6, 7, 8]⟩ 1 2 17 0 := ⟨.inl ⟨rfl, rfl, rfl⟩, .inr rfl, by omega, by omega, by omega, by omega, by omega⟩
  have H1 := Lib.hid (Put_ok _ _ _ _ _ _ _ ok).1
  have H2 := Lib.hid (Parse_put0 _ _ _ _ _ _ _ ok)
  have H3 := Lib.hid (bytes_told _ _ _ _ _ _ (okP_right ok))
  have H4 := Lib.hid (of_told _ _ _ _ _ _ (okP_right ok))
  have H5 := Lib.hid (Parse_empty ⟨#[]⟩ rfl)
  have H6 := Lib.hid (Closing_is 0 ⟨#[]⟩ ⟨#[]⟩ 0 0 6 5)
  have H7 := Lib.hid (Closing_is 0 ⟨#[]⟩ ⟨#[]⟩ 0 0 17 5)
  rw [show closes 6 5 = true by decide] at H6
  rw [show closes 17 5 = false by decide] at H7
  have zS : (putW 4 ⟨#[1, 2, 3, 4]⟩ ⟨#[5, 6, 7, 8]⟩ 1 2 17 0).size = 28 := putW_size _ _ _ _ _ _ _ ok
  have zB := recS_size 4 ⟨#[1, 2, 3, 4]⟩ ⟨#[5, 6, 7, 8]⟩ 1 2 17
  generalize putW 4 ⟨#[1, 2, 3, 4]⟩ ⟨#[5, 6, 7, 8]⟩ 1 2 17 0 = S at *
  generalize recS 4 ⟨#[1, 2, 3, 4]⟩ ⟨#[5, 6, 7, 8]⟩ 1 2 17 = B at *
  clear ok
  have K0 := Lib.hid ((keyed_new w 4 ⟨#[1, 2, 3, 4]⟩ ⟨#[5, 6, 7, 8]⟩ 1 2 17).alloc (.cells (pktC 4 ⟨#[1, 2, 3, 4]⟩ ⟨#[5, 6, 7, 8]⟩ 1 2 17 0) 26))
  have P0 := Lib.hid (packed_new (w.alloc (.cells (keyC 4 ⟨#[1, 2, 3, 4]⟩ ⟨#[5, 6, 7, 8]⟩ 1 2 17) 24)) 4 ⟨#[1, 2, 3, 4]⟩ ⟨#[5, 6, 7, 8]⟩ 1 2 17 0)
  rw [World.size_alloc] at P0
  have B0 := Lib.hid (below2 (below_alloc w (.cells (keyC 4 ⟨#[1, 2, 3, 4]⟩ ⟨#[5, 6, 7, 8]⟩ 1 2 17) 24)) (below_alloc _ (.cells (pktC 4 ⟨#[1, 2, 3, 4]⟩ ⟨#[5, 6, 7, 8]⟩ 1 2 17 0) 26)))
  go_enter Try.func10, Try.ntmps10
  go_wp2_with fail
  refine (H1.out _).mono ?_
  rintro e w1 ⟨rfl, hb⟩
  have K1 := Lib.hid (K0.out.kept hb)
  have P1 := Lib.hid (P0.out.kept hb)
  have B1 := Lib.hid (below2 B0.out hb)
  clear hb K0 P0 B0 H1
  go_wp2_with fail
  refine (H2.out _).mono ?_
  rintro e w2 ⟨rfl, hb⟩
  have al := Lib.hid (below_alloc w2 (.cells (pktC 4 ⟨#[1, 2, 3, 4]⟩ ⟨#[5, 6, 7, 8]⟩ 1 2 17 0) 26))
  have K2 := Lib.hid ((K1.out.kept hb).kept al.out)
  have P2 := Lib.hid ((P1.out.kept hb).kept al.out)
  have Q2 := Lib.hid (packed_new w2 4 ⟨#[1, 2, 3, 4]⟩ ⟨#[5, 6, 7, 8]⟩ 1 2 17 0)
  have B2 := Lib.hid (below2 (below2 B1.out hb) al.out)
  clear hb K1 P1 B1 H2 al
  obtain ⟨c0, c1, c2, c3, c4, c5⟩ := K2.out.cells
  go_wp2_with fail
  refine (H3.out _).mono ?_
  rintro e w3 ⟨rfl, hb⟩
  have K3 := Lib.hid (K2.out.kept hb)
  have P3 := Lib.hid (P2.out.kept hb)
  have Q3 := Lib.hid (Q2.out.kept hb)
  have B3 := Lib.hid (below2 B2.out hb)
  clear hb K2 P2 B2 H3 Q2 c0 c1 c2 c3 c4 c5
  go_wp2_with fail
  refine (H4.out _).mono ?_
  rintro e w4 ⟨rfl, hb⟩
  have al := Lib.hid (below_alloc w4 (.cells (keyC 4 ⟨#[1, 2, 3, 4]⟩ ⟨#[5, 6, 7, 8]⟩ 1 2 17) 24))
  have K4 := Lib.hid ((K3.out.kept hb).kept al.out)
  have P4 := Lib.hid ((P3.out.kept hb).kept al.out)
  have Q4 := Lib.hid ((Q3.out.kept hb).kept al.out)
  have L4 := Lib.hid (keyed_new w4 4 ⟨#[1, 2, 3, 4]⟩ ⟨#[5, 6, 7, 8]⟩ 1 2 17)
  have B4 := Lib.hid (below2 (below2 B3.out hb) al.out)
  clear hb K3 P3 B3 H4 Q3 al
  go_wp2_with fail
  refine (H5.out _).mono ?_
  rintro e w5 ⟨rfl, hb⟩
  have al := Lib.hid (below_alloc w5 (.cells (pktC 0 ⟨#[]⟩ ⟨#[]⟩ 0 0 0 0) 26))
  have K5 := Lib.hid ((K4.out.kept hb).kept al.out)
  have P5 := Lib.hid ((P4.out.kept hb).kept al.out)
  have Q5 := Lib.hid ((Q4.out.kept hb).kept al.out)
  have L5 := Lib.hid ((L4.out.kept hb).kept al.out)
  have B5 := Lib.hid (below2 (below2 B4.out hb) al.out)
  clear hb K4 P4 B4 H5 Q4 al L4
  obtain ⟨c0, c1, c2, c3, c4, c5⟩ := K5.out.cells
  obtain ⟨d0, d1, d2, d3, d4, d5⟩ := L5.out.cells
  obtain ⟨k0, k1, k2, k3, k4, k5, k6⟩ := P5.out.cells
  obtain ⟨q0, q1, q2, q3, q4, q5, q6⟩ := Q5.out.cells
  go_wp2_with fail
  refine (H6.out _).mono ?_
  rintro e w6 ⟨rfl, hb⟩
  have B6 := Lib.hid (below2 B5.out hb)
  clear hb B5 H6
  go_wp2_with fail
  refine (H7.out _).mono ?_
  rintro e w7 ⟨rfl, hb⟩
  have B7 := Lib.hid (below2 B6.out hb)
  clear hb B6 H7
  go_wp2_with fail
  go_ret
  exact ⟨rfl, B7.out⟩

/-- Whether a key is looked at. -/
def few (x y : ByteArray) : Bool := decide ((x.size : Int) ≤ 300) && decide ((y.size : Int) ≤ 300)
theorem few_yes {x y : ByteArray} (h : few x y = true) : x.size ≤ 300 ∧ y.size ≤ 300 := by
  unfold few at h
  rw [Bool.and_eq_true, decide_eq_true_eq, decide_eq_true_eq] at h
  omega
set_option maxRecDepth 100000 in
set_option maxHeartbeats 2000000 in
theorem Few_any (V : Int) (x y : ByteArray) (F T p : Int) (b : Bool) (hb : few x y = b) : Tells 13 #[keyV V x y F T p] (.bool b) := by
  intro w
  subst hb
  by_cases hx : (x.size : Int) ≤ 300
  · have d0 : decide ((x.size : Int) ≤ 300) = true := decide_eq_true hx
    have E := Lib.hid (show few x y = decide ((y.size : Int) ≤ 300) by unfold few; rw [d0]; rfl)
    clear hx
    go_enter Try.func13, Try.ntmps13
    go_wp2_with fail
    go_ret
    exact ⟨by rw [E.out]; rfl, below_alloc w _⟩
  · have d0 : decide ((x.size : Int) ≤ 300) = false := decide_eq_false hx
    have E := Lib.hid (show few x y = false by unfold few; rw [d0]; rfl)
    clear hx
    go_enter Try.func13, Try.ntmps13
    go_wp2_with fail
    go_ret
    exact ⟨by rw [E.out]; rfl, below_alloc w _⟩
end Go.Proofs.Ytcdgcjpdlhknoaa.Pkt
