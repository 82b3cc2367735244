/-
  The document's example: 'works' answers true (package gangplanklaw15).
-/
import Derived.Test.YthokjkllmflgkaaKepG
namespace Go.Proofs.Ythokjkllmflgkaa.Kep
open Go.RowKit Go.Shelf Go.WideShapes RowG Trn Epo

attribute [local go_sem] Oper.semAt_some

theorem lies_two (W : World) (x y : Int) : Lies numK (W.alloc (.cells #[.int .i64 x, .int .i64 y] 3)) (some ⟨W.heap.size, 0, none⟩) 2 [x, y] :=
  (row_new (K := numK) (T := 3) W #[.int .i64 x, .int .i64 y] 2 [x, y] rfl (by unfold maxLen; omega) rfl).lies
theorem lies_one (W : World) (x : Int) : Lies numK (W.alloc (.cells #[.int .i64 x] 3)) (some ⟨W.heap.size, 0, none⟩) 1 [x] :=
  (row_new (K := numK) (T := 3) W #[.int .i64 x] 1 [x] rfl (by unfold maxLen; omega) rfl).lies
theorem nums_below (W : World) (cs : Array Value) : Below W.heap.size W (W.alloc (.cells cs 3)) := (Below.refl _ W).alloc (Nat.le_refl _) _

set_option maxRecDepth 100000 in
set_option maxHeartbeats 800000 in
theorem works_any (w : World) : Calls Try.prog 8 #[] w fun e W' => e = .returned (.bool true) ∧ Below w.heap.size w W' := by
  have C := Lib.hid (New_told 2 w)
  go_enter Try.func8, Try.ntmps8
  go_wp2_with fail
  refine C.out.mono ?_
  rintro e v0 ⟨rfl, h0, hb⟩
  have B0 := Lib.hid hb
  have hp := h0.1.lt
  rw [show new 2 = [⟨0, 0⟩, ⟨0, 0⟩] from rfl] at h0
  have H0 := Lib.hid h0
  have T0 := Lib.hid (Turned.refl (fun j => j = w.heap.size) v0)
  clear h0 hb C hp
  have C : Calls Try.prog _ _ v0 (Acts w.heap.size [⟨1, 0⟩, ⟨0, 0⟩] (.int .i64 0) v0) := Take_told H0.out 
  go_wp2_with fail
  refine C.mono ?_
  rintro e v1 ⟨rfl, h1, ht⟩
  have H1 := Lib.hid h1
  have T1 := Lib.hid (T0.out.trans ht)
  clear h1 ht H0 T0 C
  have C : Calls Try.prog _ _ v1 (Acts w.heap.size [⟨2, 5⟩, ⟨0, 0⟩] (.bool true) v1) := Retire_told H1.out 0 5
  go_wp2_with fail
  refine C.mono ?_
  rintro e v2 ⟨rfl, h1, ht⟩
  have H2 := Lib.hid h1
  have T2 := Lib.hid (T1.out.trans ht)
  clear h1 ht H1 T1 C
  have al := nums_below v2 #[.int .i64 0, .int .i64 5]
  have C : Calls Try.prog _ _ _ (fun e W' => e = .returned (.int .i64 (-1)) ∧ Below _ _ W') := Ripe_told (⟨H2.out.1.kept al, H2.out.2⟩ : Keeps _ _ _) (lies_two v2 0 5)
  have AL := Lib.hid al
  clear al
  go_wp2_with fail
  refine C.mono ?_
  rintro e v3 ⟨rfl, hb⟩
  have hb2 := below2 AL.out hb
  have H3 := Lib.hid (show Keeps v3 _ _ from ⟨H2.out.1.kept hb2, H2.out.2⟩)
  have T3 := Lib.hid (T2.out.trans (Turned.of_below hb2))
  clear hb hb2 AL H2 T2 C
  have al := nums_below v3 #[.int .i64 0, .int .i64 6]
  have C : Calls Try.prog _ _ _ (fun e W' => e = .returned (.int .i64 0) ∧ Below _ _ W') := Ripe_told (⟨H3.out.1.kept al, H3.out.2⟩ : Keeps _ _ _) (lies_two v3 0 6)
  have AL := Lib.hid al
  clear al
  go_wp2_with fail
  refine C.mono ?_
  rintro e v4 ⟨rfl, hb⟩
  have hb2 := below2 AL.out hb
  have H4 := Lib.hid (show Keeps v4 _ _ from ⟨H3.out.1.kept hb2, H3.out.2⟩)
  have T4 := Lib.hid (T3.out.trans (Turned.of_below hb2))
  clear hb hb2 AL H3 T3 C
  have C : Calls Try.prog _ _ v4 (fun e W' => e = .returned (.int .i64 2) ∧ Below v4.heap.size v4 W') := State_told H4.out.1 0
  go_wp2_with fail
  refine C.mono ?_
  rintro e v5 ⟨rfl, hb⟩
  have H5 := Lib.hid (show Keeps v5 _ _ from ⟨H4.out.1.kept hb, H4.out.2⟩)
  have T5 := Lib.hid (T4.out.trans (Turned.of_below hb))
  clear hb H4 T4 C
  have C : Calls Try.prog _ _ v5 (Acts w.heap.size [⟨0, 0⟩, ⟨0, 0⟩] (.bool true) v5) := Free_told H5.out 0
  go_wp2_with fail
  refine C.mono ?_
  rintro e v6 ⟨rfl, h1, ht⟩
  have H6 := Lib.hid h1
  have T6 := Lib.hid (T5.out.trans ht)
  clear h1 ht H5 T5 C
  have C : Calls Try.prog _ _ v6 (Acts w.heap.size [⟨0, 0⟩, ⟨0, 0⟩] (.bool false) v6) := Free_told H6.out 0
  go_wp2_with fail
  refine C.mono ?_
  rintro e v7 ⟨rfl, h1, ht⟩
  have H7 := Lib.hid h1
  have T7 := Lib.hid (T6.out.trans ht)
  clear h1 ht H6 T6 C
  have C : Calls Try.prog _ _ v7 (fun e W' => e = .returned (.int .i64 0) ∧ Below v7.heap.size v7 W') := State_told H7.out.1 0
  go_wp2_with fail
  refine C.mono ?_
  rintro e v8 ⟨rfl, hb⟩
  have H8 := Lib.hid (show Keeps v8 _ _ from ⟨H7.out.1.kept hb, H7.out.2⟩)
  have T8 := Lib.hid (T7.out.trans (Turned.of_below hb))
  clear hb H7 T7 C
  have C : Calls Try.prog _ _ v8 (fun e W' => e = .returned (.int .i64 (-1)) ∧ Below v8.heap.size v8 W') := State_told H8.out.1 2
  go_wp2_with fail
  refine C.mono ?_
  rintro e v9 ⟨rfl, hb⟩
  have H9 := Lib.hid (show Keeps v9 _ _ from ⟨H8.out.1.kept hb, H8.out.2⟩)
  have T9 := Lib.hid (T8.out.trans (Turned.of_below hb))
  clear hb H8 T8 C
  have C : Calls Try.prog _ _ v9 (Acts w.heap.size [⟨1, 0⟩, ⟨0, 0⟩] (.int .i64 0) v9) := Take_told H9.out 
  go_wp2_with fail
  refine C.mono ?_
  rintro e v10 ⟨rfl, h1, ht⟩
  have H10 := Lib.hid h1
  have T10 := Lib.hid (T9.out.trans ht)
  clear h1 ht H9 T9 C
  have C : Calls Try.prog _ _ v10 (Acts w.heap.size [⟨1, 0⟩, ⟨1, 0⟩] (.int .i64 1) v10) := Take_told H10.out 
  go_wp2_with fail
  refine C.mono ?_
  rintro e v11 ⟨rfl, h1, ht⟩
  have H11 := Lib.hid h1
  have T11 := Lib.hid (T10.out.trans ht)
  clear h1 ht H10 T10 C
  have C : Calls Try.prog _ _ v11 (Acts w.heap.size [⟨1, 0⟩, ⟨1, 0⟩] (.int .i64 (-1)) v11) := Take_told H11.out 
  go_wp2_with fail
  refine C.mono ?_
  rintro e v12 ⟨rfl, h1, ht⟩
  have H12 := Lib.hid h1
  have T12 := Lib.hid (T11.out.trans ht)
  clear h1 ht H11 T11 C
  go_wp2_with fail
  go_ret
  exact ⟨rfl, Turned.below B0.out T12.out B0.out.size (fun k hk => by omega)⟩
end Go.Proofs.Ythokjkllmflgkaa.Kep
