/-
  Package port: the document's examples: the laws' 'works' answers true.
-/
import Derived.Test.YthfhaoiengbhgaaPrtE
namespace Go.Proofs.Ythfhaoiengbhgaa.Prt
open Go.RowKit Go.Shelf Txt

set_option maxRecDepth 100000 in
set_option maxHeartbeats 1600000 in
theorem works_any (w : World) : Calls Try.prog 8 #[] w fun e W' => e = .returned (.bool true) ∧ Below w.heap.size w W' := by
  go_enter Try.func8, Try.ntmps8
  go_wp2_with fail
  refine (Put_udp_good 1 2 (by omega) (by omega) (by omega) (by omega) _).mono ?_
  rintro e w1 ⟨rfl, hb1⟩
  have B1 := Lib.hid hb1
  have e1 : putU 1 2 = ⟨#[0, 1, 0, 2, 0, 8, 0, 0]⟩ := rfl
  rw [e1]
  clear hb1 e1
  go_wp2_with fail
  refine (Parse_put0 ⟨#[0, 1, 0, 2, 0, 8, 0, 0]⟩ 17 1 2 0 ⟨.inr rfl, by omega, by omega, by omega, by omega, by omega⟩ (Lib.hid rfl) _).mono ?_
  rintro e w2 ⟨rfl, hb2⟩
  have B2 := Lib.hid (below2 B1.out hb2)
  clear hb2 B1
  go_wp2_with fail
  refine (Parse_none 1 (by decide) (by omega) (by omega) _ _).mono ?_
  rintro e w3 ⟨rfl, hb3⟩
  have H3 := Lib.hid ((headed_new w2 _ _ _).kept hb3)
  have B3 := Lib.hid (below2 (below2 B2.out (below_alloc w2 _)) hb3)
  clear hb3 B2
  go_wp2_with fail
  refine (Put_named 6 1 2 18 ⟨.inl rfl, by omega, by omega, by omega, by omega, by omega⟩ _).mono ?_
  rintro e w4 ⟨S, rfl, hz, HS, hb4⟩
  replace hz : S.size = 20 := hz
  have H4 := Lib.hid ((H3.out.alloc _).kept hb4)
  have B4 := Lib.hid (below2 (below2 B3.out (below_alloc w3 _)) hb4)
  clear hb4 H3 B3
  go_wp2_with fail
  refine (Parse_put0 S 6 1 2 18 ⟨.inl rfl, by omega, by omega, by omega, by omega, by omega⟩ HS _).mono ?_
  rintro e w5 ⟨rfl, hb5⟩
  have H5 := Lib.hid (H4.out.kept hb5)
  have B5 := Lib.hid (below2 B4.out hb5)
  clear hb5 H4 B4
  go_wp2_with fail
  refine (Put_bad 17 (by decide) 0 0 1 (fun h => absurd (h.2.2.2.2.2 rfl) (by omega)) _).mono ?_
  rintro e w6 ⟨rfl, hb6⟩
  have G6 := Lib.hid ((headed_new w5 _ _ _).kept hb6)
  obtain ⟨c0, c1, c2⟩ := ((H5.out.alloc _).kept hb6).cells
  obtain ⟨f0, f1, f2⟩ := G6.out.cells
  have B6 := Lib.hid (below2 (below2 B5.out (below_alloc w5 _)) hb6)
  have e6 : errP 17 = 1 := if_pos (.inr rfl)
  rw [e6]
  clear hb6 H5 G6 B5 e6
  go_wp2_with fail
  go_ret
  exact ⟨rfl, B6.out⟩
end Go.Proofs.Ythfhaoiengbhgaa.Prt
