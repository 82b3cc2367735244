/-
  Any act; the document's example: 'works' answers true.
-/
import Derived.Test.YtiokpccdkpgibaaCelG
namespace Go.Proofs.Ytiokpccdkpgibaa.Cel
open Go.RowKit Go.Shelf Go.WideShapes RowG

attribute [local go_sem] Oper.semAt_some
section
variable {w : World} {f : Foot} {s : St}
theorem do_any (h : Held w f s) (hs : s.shared < 4611686018427387904) (hown : ∀ x ∈ s.locks, -1 ≤ x) (x : Act) : Calls Try.prog 11 #[.pointer (some ⟨f.p, 0, none⟩), actV x] w (Acts f s x w) := by
  obtain ⟨k, i, a, b⟩ := x
  by_cases h0 : k = 0
  · subst h0; exact do_0 h hs i a b
  by_cases h1 : k = 1
  · subst h1; exact do_1 h hs i a b
  by_cases h2 : k = 2
  · subst h2; exact do_2 h hs i a b
  by_cases h3 : k = 3
  · subst h3; exact do_3 h hs i a b
  by_cases h4 : k = 4
  · subst h4; exact do_4 h hs hown i a b
  by_cases h5 : k = 5
  · subst h5; exact do_5 h hs i a b
  exact do_other h h0 h1 h2 h3 h4 h5 i a b
theorem Turned.cell {S : Nat → Prop} {W W' : World} {a : Addr} {v : Value} (h : Turned S W W') (hc : W.cell? a = some v) (ha : ¬ S a.block) : W'.cell? a = some v :=
  (World.cell?_of_block (w := W) (h.rest a.block (World.block_lt_of_cell? W _ hc) ha)).trans hc
/-- How two answers are compared. -/
theorem told_cmp (t u : Told) (b : Bool) (h : t = u ↔ b = true) (W : World) : (Op.equalIn 10000 31 (toldV t) (toldV u)).run Try.prog W = .ok b W := by
  obtain ⟨n, c⟩ := t
  obtain ⟨m, d⟩ := u
  have h' : (n = m ∧ c = d) ↔ b = true := by
    rw [← h]
    exact ⟨fun ⟨h1, h2⟩ => by rw [h1, h2], fun e => by injection e with h1 h2; exact ⟨h1, h2⟩⟩
  clear h
  show (Op.equalIn 10000 31 (.agg #[.int .i64 n, .bool c]) (.agg #[.int .i64 m, .bool d])).run Try.prog W = .ok b W
  go_simp
  cases b <;> cases c <;> cases d <;> (repeat' split) <;> simp_all
end
set_option maxRecDepth 100000 in
set_option maxHeartbeats 800000 in
theorem works_any (w : World) : Calls Try.prog 8 #[] w fun e W' => e = .returned (.bool true) ∧ Below w.heap.size w W' := by
  have C := Lib.hid (New_told 1 1 w)
  go_enter Try.func8, Try.ntmps8
  go_wp2_with fail
  refine C.out.mono ?_
  rintro e v0 ⟨f, rfl, h0, hf, hb⟩
  have B0 := Lib.hid hb
  have F := Lib.hid hf
  rw [show new 1 1 = ⟨[0], [-1], 0⟩ from rfl] at h0
  have H0 := Lib.hid h0
  have T0 := Lib.hid (Turned.refl f.has v0)
  clear h0 hb hf C
  have C : Calls Try.prog _ _ v0 (Does f ⟨[5], [-1], 1⟩ (.int .i64 5) v0) := Add1_told H0.out (by decide) 0 5
  go_wp2_with fail
  refine C.mono ?_
  rintro e v1 ⟨rfl, h1, ht⟩
  have H1 := Lib.hid h1
  have T1 := Lib.hid (T0.out.trans ht)
  clear h1 ht H0 T0 C
  have C : Calls Try.prog _ _ v1 (Does f ⟨[5], [3], 2⟩ (.bool true) v1) := Lock_told H1.out (by decide) (by decide) 0 3
  go_wp2_with fail
  refine C.mono ?_
  rintro e v2 ⟨rfl, h1, ht⟩
  have H2 := Lib.hid h1
  have T2 := Lib.hid (T1.out.trans ht)
  clear h1 ht H1 T1 C
  have C : Calls Try.prog _ _ v2 (Does f ⟨[5], [3], 3⟩ (.bool false) v2) := Lock_told H2.out (by decide) (by decide) 0 4
  go_wp2_with fail
  refine C.mono ?_
  rintro e v3 ⟨rfl, h1, ht⟩
  have H3 := Lib.hid h1
  have T3 := Lib.hid (T2.out.trans ht)
  clear h1 ht H2 T2 C
  have C : Calls Try.prog _ _ v3 (Does f ⟨[5], [3], 3⟩ (.int .i64 3) v3) := Owner_told H3.out 0
  go_wp2_with fail
  refine C.mono ?_
  rintro e v4 ⟨rfl, h1, ht⟩
  have H4 := Lib.hid h1
  have T4 := Lib.hid (T3.out.trans ht)
  clear h1 ht H3 T3 C
  have C : Calls Try.prog _ _ v4 (Does f ⟨[5], [3], 4⟩ (.bool false) v4) := Unlock_told H4.out (by decide) 0 4
  go_wp2_with fail
  refine C.mono ?_
  rintro e v5 ⟨rfl, h1, ht⟩
  have H5 := Lib.hid h1
  have T5 := Lib.hid (T4.out.trans ht)
  clear h1 ht H4 T4 C
  have C : Calls Try.prog _ _ v5 (Does f ⟨[5], [-1], 5⟩ (.bool true) v5) := Unlock_told H5.out (by decide) 0 3
  go_wp2_with fail
  refine C.mono ?_
  rintro e v6 ⟨rfl, h1, ht⟩
  have H6 := Lib.hid h1
  have T6 := Lib.hid (T5.out.trans ht)
  clear h1 ht H5 T5 C
  have C : Calls Try.prog _ _ v6 (Does f ⟨[7], [-1], 6⟩ (.bool true) v6) := Swap_told H6.out (by decide) 0 5 7
  go_wp2_with fail
  refine C.mono ?_
  rintro e v7 ⟨rfl, h1, ht⟩
  have H7 := Lib.hid h1
  have T7 := Lib.hid (T6.out.trans ht)
  clear h1 ht H6 T6 C
  have C : Calls Try.prog _ _ v7 (Does f ⟨[7], [-1], 7⟩ (.bool false) v7) := Swap_told H7.out (by decide) 0 5 8
  go_wp2_with fail
  refine C.mono ?_
  rintro e v8 ⟨rfl, h1, ht⟩
  have H8 := Lib.hid h1
  have T8 := Lib.hid (T7.out.trans ht)
  clear h1 ht H7 T7 C
  have C : Calls Try.prog _ _ v8 (Does f ⟨[7], [-1], 7⟩ (.int .i64 (-1)) v8) := Owner_told H8.out 0
  go_wp2_with fail
  refine C.mono ?_
  rintro e v9 ⟨rfl, h1, ht⟩
  have H9 := Lib.hid h1
  have T9 := Lib.hid (T8.out.trans ht)
  clear h1 ht H8 T8 C
  have C : Calls Try.prog _ _ v9 (Does f ⟨[7], [-1], 8⟩ (.int .i64 7) v9) := Load1_told H9.out (by decide) 0
  go_wp2_with fail
  refine C.mono ?_
  rintro e v10 ⟨rfl, h1, ht⟩
  have H10 := Lib.hid h1
  have T10 := Lib.hid (T9.out.trans ht)
  clear h1 ht H9 T9 C
  have C : Calls Try.prog _ _ v10 (Does f ⟨[7], [-1], 8⟩ (.int .i64 0) v10) := Load1_told H10.out (by decide) 1
  go_wp2_with fail
  refine C.mono ?_
  rintro e v11 ⟨rfl, h1, ht⟩
  have H11 := Lib.hid h1
  have T11 := Lib.hid (T10.out.trans ht)
  clear h1 ht H10 T10 C
  have C : Calls Try.prog _ _ v11 (Does f ⟨[7], [-1], 8⟩ (.int .i64 (-1)) v11) := Owner_told H11.out 9
  go_wp2_with fail
  refine C.mono ?_
  rintro e v12 ⟨rfl, h1, ht⟩
  have H12 := Lib.hid h1
  have T12 := Lib.hid (T11.out.trans ht)
  clear h1 ht H11 T11 C
  have C : Calls Try.prog _ _ v12 (Does f ⟨[7], [-1], 8⟩ (.int .i64 8) v12) := Shared_told H12.out
  go_wp2_with fail
  refine C.mono ?_
  rintro e v13 ⟨rfl, h1, ht⟩
  have H13 := Lib.hid h1
  have T13 := Lib.hid (T12.out.trans ht)
  clear h1 ht H12 T12 C
  go_wp2_with fail
  go_ret
  exact ⟨rfl, Turned.below B0.out T13.out B0.out.size (Foot.ge F.out)⟩
end Go.Proofs.Ytiokpccdkpgibaa.Cel
