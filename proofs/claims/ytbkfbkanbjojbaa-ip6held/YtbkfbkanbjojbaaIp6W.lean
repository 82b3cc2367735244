/-
  Package ip6: the document's examples: the laws' 'works' answers true.
-/
import Derived.Test.YtbkfbkanbjojbaaIp6E
namespace Go.Proofs.Ytbkfbkanbjojbaa.Ip6
open Go.RowKit Go.Shelf Txt

set_option maxRecDepth 100000 in
set_option maxHeartbeats 1600000 in
theorem works_any (w : World) : Calls Try.prog 8 #[] w fun e W' => e = .returned (.bool true) ∧ Below w.heap.size w W' := by
  go_enter Try.func8, Try.ntmps8
  go_wp2_with fail
  refine (Put_named ⟨#[1, 1, 1, 1, 1, 1, 1, 1, 1, 1, 1, 1, 1, 1, 1, 1]⟩ ⟨#[2, 2, 2, 2, 2, 2, 2, 2, 2, 2, 2, 2, 2, 2, 2, 2]⟩ 6 ⟨#[120]⟩ rfl rfl (by omega) (by decide) _).mono ?_
  rintro e w1 ⟨S, rfl, hz, HS, hb1⟩
  replace hz : S.size = 41 := hz
  have H1 := Lib.hid ((headed_new w _ _ _).kept hb1)
  have B1 := Lib.hid (below2 (below_alloc w _) hb1)
  clear hb1
  go_wp2_with fail
  refine (Parse_put0 S _ _ _ _ rfl rfl (by omega) (by decide) HS _).mono ?_
  rintro e w2 ⟨rfl, hb2⟩
  have H2 := Lib.hid (H1.out.kept hb2)
  have B2 := Lib.hid (below2 B1.out hb2)
  clear hb2 H1 B1
  go_wp2_with fail
  refine (Parse_short ⟨#[]⟩ (by decide) _).mono ?_
  rintro e w3 ⟨rfl, hb3⟩
  have H3 := Lib.hid ((H2.out.alloc _).kept hb3)
  have G3 := Lib.hid ((headed_new w2 _ _ _).kept hb3)
  have B3 := Lib.hid (below2 (below2 B2.out (below_alloc w2 _)) hb3)
  clear hb3 H2 B2
  go_wp2_with fail
  refine (Put_arg ⟨#[]⟩ ⟨#[]⟩ 0 ⟨#[]⟩ (.inl (by decide)) _).mono ?_
  rintro e w4 ⟨rfl, hb4⟩
  obtain ⟨c0, c1, c2⟩ := ((H3.out.alloc _).kept hb4).cells
  obtain ⟨f0, f1, f2⟩ := ((G3.out.alloc _).kept hb4).cells
  have B4 := Lib.hid (below2 (below2 B3.out (below_alloc w3 _)) hb4)
  clear hb4 H3 G3 B3
  go_wp2_with fail
  go_ret
  exact ⟨rfl, B4.out⟩
end Go.Proofs.Ytbkfbkanbjojbaa.Ip6
