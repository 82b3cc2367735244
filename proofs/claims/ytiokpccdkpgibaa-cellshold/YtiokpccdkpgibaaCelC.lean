/-
  Package cells: Swap, Lock, Unlock as contracts; every act.
-/
import Derived.Test.YtiokpccdkpgibaaCelB
namespace Go.Proofs.Ytiokpccdkpgibaa.Cel
open Go.RowKit Go.Shelf RowG

attribute [local go_sem] Oper.semAt_some
section
variable {w : World} {f : Foot} {s : St}
theorem swap_cells (h : Held w f s) {k : Nat} (hk : k < s.cells.length) (o v : Int) (b : Bool) (hb : decide (at' s.cells (k : Nat) = o) = b) :
    Calls Try.prog 28 #[rowV (some ⟨f.c, 0, none⟩) s.cells.length s.cells, .int .i64 (k : Nat), .int .i64 o, .int .i64 v] w (Does f (if b then ⟨s.cells.set k v, s.locks, s.shared⟩ else s) (.bool b) w) := by
  have hi : Has s.cells (k : Nat) := ⟨by omega, by omega⟩
  have ha : at' s.cells (k : Nat) = s.cells[k] := at_get hi
  refine (swap_told f.c _ s.cells k hk o v w h.cells).mono ?_
  rintro e W' ⟨rfl, rfl⟩
  rw [ha] at hb
  subst hb
  by_cases he : s.cells[k] = o
  · rw [if_pos he, decide_eq_true he, if_pos rfl]
    exact ⟨rfl, h.cell hi, (Turned.refl _ _).setCell (.inr (.inl rfl)) _⟩
  · rw [if_neg he, decide_eq_false he]
    exact ⟨rfl, h, Turned.refl _ _⟩
theorem swap_locks (h : Held w f s) {k : Nat} (hk : k < s.locks.length) (o v : Int) (b : Bool) (hb : decide (at' s.locks (k : Nat) = o) = b) :
    Calls Try.prog 28 #[rowV (some ⟨f.o, 0, none⟩) s.locks.length s.locks, .int .i64 (k : Nat), .int .i64 o, .int .i64 v] w (Does f (if b then ⟨s.cells, s.locks.set k v, s.shared⟩ else s) (.bool b) w) := by
  have hi : Has s.locks (k : Nat) := ⟨by omega, by omega⟩
  have ha : at' s.locks (k : Nat) = s.locks[k] := at_get hi
  refine (swap_told f.o _ s.locks k hk o v w h.locks).mono ?_
  rintro e W' ⟨rfl, rfl⟩
  rw [ha] at hb
  subst hb
  by_cases he : s.locks[k] = o
  · rw [if_pos he, decide_eq_true he, if_pos rfl]
    exact ⟨rfl, h.lock hi, (Turned.refl _ _).setCell (.inr (.inr rfl)) _⟩
  · rw [if_neg he, decide_eq_false he]
    exact ⟨rfl, h, Turned.refl _ _⟩
theorem Does.more {s' s'' : St} {v v' : Value} {e e' : Ending} {w1 w2 : World} (h1 : Does f s' v w e w1) (h2 : Does f s'' v' w1 e' w2) : Does f s'' v' w e' w2 := ⟨h2.1, h2.2.1, h1.2.2.trans h2.2.2⟩
set_option maxHeartbeats 400000 in
theorem Swap_told (h : Held w f s) (hs : s.shared < 4611686018427387904) (i o v : Int) : Calls Try.prog 17 #[.pointer (some ⟨f.p, 0, none⟩), .int .i64 i, .int .i64 o, .int .i64 v] w (Does f (swap s i o v).1 (.bool (swap s i o v).2) w) := by
  have c1 := h.c1
  by_cases hi : Has s.cells i
  · have C := Lib.hid (shares_yes h hs (some ⟨f.c, 0, none⟩) s.cells.length s.cells i hi)
    obtain ⟨b, hb⟩ : ∃ b, decide (at' s.cells i = o) = b := ⟨_, rfl⟩
    have HE := Lib.hid (show swap s i o v = (if b then ⟨s.cells.set i.toNat v, s.locks, s.shared + 1⟩ else ⟨s.cells, s.locks, s.shared + 1⟩, b) by
      unfold swap; rw [if_pos hi, ← hb]
      by_cases he : at' s.cells i = o
      · rw [if_pos he, decide_eq_true he]; rfl
      · rw [if_neg he, decide_eq_false he]; rfl)
    obtain ⟨k, rfl, hk, ha⟩ := has_nat hi
    have HB := Lib.hid hb
    clear h hs hi ha hb
    go_enter Try.func17, Try.ntmps17
    go_wp2_with fail
    refine C.out.mono ?_
    rintro e w1 D1
    obtain ⟨rfl, h1, ht⟩ := id D1
    have T := Lib.hid ht
    have C2 := Lib.hid (swap_cells h1 hk o v b HB.out)
    have d1 := h1.c1
    clear h1 ht D1
    go_wp2_with fail
    refine C2.out.mono ?_
    rintro e w2 ⟨rfl, h2, ht2⟩
    have T2 := Lib.hid ht2
    have H2 := Lib.hid h2
    clear h2 ht2
    go_wp2_with fail
    go_ret
    refine ⟨by rw [HE.out]; rfl, ?_, T.out.trans T2.out⟩
    rw [HE.out]
    exact H2.out
  · have C := Lib.hid (shares_no h (some ⟨f.c, 0, none⟩) s.cells.length s.cells i hi)
    have HE := Lib.hid (show swap s i o v = (s, false) from if_neg hi)
    clear h hs hi
    go_enter Try.func17, Try.ntmps17
    go_wp2_with fail
    refine C.out.mono ?_
    rintro e w1 ⟨rfl, h1, ht⟩
    have T := Lib.hid ht
    have H1 := Lib.hid h1
    clear h1 ht
    go_wp2_with fail
    go_ret
    exact ⟨by rw [HE.out]; rfl, by rw [HE.out]; exact H1.out, T.out⟩
set_option maxHeartbeats 400000 in
theorem Lock_told (h : Held w f s) (hs : s.shared < 4611686018427387904) (hown : ∀ x ∈ s.locks, -1 ≤ x) (i who : Int) : Calls Try.prog 19 #[.pointer (some ⟨f.p, 0, none⟩), .int .i64 i, .int .i64 who] w (Does f (lock s i who).1 (.bool (lock s i who).2) w) := by
  have c2 := h.c2
  by_cases hi : Has s.locks i
  · have C := Lib.hid (shares_yes h hs (some ⟨f.o, 0, none⟩) s.locks.length s.locks i hi)
    obtain ⟨b, hb⟩ : ∃ b, decide (at' s.locks i = -1) = b := ⟨_, rfl⟩
    have hlow : (at' s.locks i < 0 ↔ at' s.locks i = -1) := by
      have := hown (at' s.locks i) (by rw [at_get hi]; exact List.getElem_mem _)
      omega
    by_cases hw : 0 ≤ who
    · have HE := Lib.hid (show lock s i who = (if b then ⟨s.cells, s.locks.set i.toNat who, s.shared + 1⟩ else ⟨s.cells, s.locks, s.shared + 1⟩, b) by
        unfold lock; rw [if_pos hi, ← hb]
        by_cases he : at' s.locks i = -1
        · rw [if_pos ⟨hlow.2 he, hw⟩, decide_eq_true he]; rfl
        · rw [if_neg (fun h => he (hlow.1 h.1)), decide_eq_false he]; rfl)
      have dw : decide (0 ≤ who) = true := decide_eq_true hw
      obtain ⟨k, rfl, hk, ha⟩ := has_nat hi
      have HB := Lib.hid hb
      clear h hs hi ha hb hown hlow hw
      go_enter Try.func19, Try.ntmps19
      go_wp2_with fail
      refine C.out.mono ?_
      rintro e w1 D1
      obtain ⟨rfl, h1, ht⟩ := id D1
      have T := Lib.hid ht
      have C2 := Lib.hid (swap_locks h1 hk (-1) who b HB.out)
      have d1 := h1.c2
      clear h1 ht D1
      go_wp2_with fail
      refine C2.out.mono ?_
      rintro e w2 ⟨rfl, h2, ht2⟩
      have T2 := Lib.hid ht2
      have H2 := Lib.hid h2
      clear h2 ht2
      go_wp2_with fail
      go_ret
      refine ⟨by rw [HE.out]; rfl, ?_, T.out.trans T2.out⟩
      rw [HE.out]
      exact H2.out
    · have HE := Lib.hid (show lock s i who = (⟨s.cells, s.locks, s.shared + 1⟩, false) by
        unfold lock; rw [if_pos hi, if_neg (fun h => hw h.2)])
      have dw : decide (0 ≤ who) = false := decide_eq_false hw
      clear h hs hi hb hown hlow hw
      go_enter Try.func19, Try.ntmps19
      go_wp2_with fail
      refine C.out.mono ?_
      rintro e w1 ⟨rfl, h1, ht⟩
      have T := Lib.hid ht
      have H1 := Lib.hid h1
      clear h1 ht
      go_wp2_with fail
      go_ret
      exact ⟨by rw [HE.out]; rfl, by rw [HE.out]; exact H1.out, T.out⟩
  · have C := Lib.hid (shares_no h (some ⟨f.o, 0, none⟩) s.locks.length s.locks i hi)
    have HE := Lib.hid (show lock s i who = (s, false) from if_neg hi)
    clear h hs hi hown
    go_enter Try.func19, Try.ntmps19
    go_wp2_with fail
    refine C.out.mono ?_
    rintro e w1 ⟨rfl, h1, ht⟩
    have T := Lib.hid ht
    have H1 := Lib.hid h1
    clear h1 ht
    go_wp2_with fail
    go_ret
    exact ⟨by rw [HE.out]; rfl, by rw [HE.out]; exact H1.out, T.out⟩
set_option maxHeartbeats 400000 in
theorem Unlock_told (h : Held w f s) (hs : s.shared < 4611686018427387904) (i who : Int) : Calls Try.prog 20 #[.pointer (some ⟨f.p, 0, none⟩), .int .i64 i, .int .i64 who] w (Does f (unlock s i who).1 (.bool (unlock s i who).2) w) := by
  have c2 := h.c2
  by_cases hi : Has s.locks i
  · have C := Lib.hid (shares_yes h hs (some ⟨f.o, 0, none⟩) s.locks.length s.locks i hi)
    obtain ⟨b, hb⟩ : ∃ b, decide (at' s.locks i = who) = b := ⟨_, rfl⟩
    by_cases hw : 0 ≤ who
    · have HE := Lib.hid (show unlock s i who = (if b then ⟨s.cells, s.locks.set i.toNat (-1), s.shared + 1⟩ else ⟨s.cells, s.locks, s.shared + 1⟩, b) by
        unfold unlock; rw [if_pos hi, ← hb]
        by_cases he : at' s.locks i = who
        · rw [if_pos ⟨by omega, he⟩, decide_eq_true he]; rfl
        · rw [if_neg (fun h => he h.2), decide_eq_false he]; rfl)
      have dw : decide (0 ≤ who) = true := decide_eq_true hw
      obtain ⟨k, rfl, hk, ha⟩ := has_nat hi
      have HB := Lib.hid hb
      clear h hs hi ha hb hw
      go_enter Try.func20, Try.ntmps20
      go_wp2_with fail
      refine C.out.mono ?_
      rintro e w1 D1
      obtain ⟨rfl, h1, ht⟩ := id D1
      have T := Lib.hid ht
      have C2 := Lib.hid (swap_locks h1 hk who (-1) b HB.out)
      have d1 := h1.c2
      clear h1 ht D1
      go_wp2_with fail
      refine C2.out.mono ?_
      rintro e w2 ⟨rfl, h2, ht2⟩
      have T2 := Lib.hid ht2
      have H2 := Lib.hid h2
      clear h2 ht2
      go_wp2_with fail
      go_ret
      refine ⟨by rw [HE.out]; rfl, ?_, T.out.trans T2.out⟩
      rw [HE.out]
      exact H2.out
    · have HE := Lib.hid (show unlock s i who = (⟨s.cells, s.locks, s.shared + 1⟩, false) by
        unfold unlock; rw [if_pos hi, if_neg (fun h => by omega)])
      have dw : decide (0 ≤ who) = false := decide_eq_false hw
      clear h hs hi hb hw
      go_enter Try.func20, Try.ntmps20
      go_wp2_with fail
      refine C.out.mono ?_
      rintro e w1 ⟨rfl, h1, ht⟩
      have T := Lib.hid ht
      have H1 := Lib.hid h1
      clear h1 ht
      go_wp2_with fail
      go_ret
      exact ⟨by rw [HE.out]; rfl, by rw [HE.out]; exact H1.out, T.out⟩
  · have C := Lib.hid (shares_no h (some ⟨f.o, 0, none⟩) s.locks.length s.locks i hi)
    have HE := Lib.hid (show unlock s i who = (s, false) from if_neg hi)
    clear h hs hi
    go_enter Try.func20, Try.ntmps20
    go_wp2_with fail
    refine C.out.mono ?_
    rintro e w1 ⟨rfl, h1, ht⟩
    have T := Lib.hid ht
    have H1 := Lib.hid h1
    clear h1 ht
    go_wp2_with fail
    go_ret
    exact ⟨by rw [HE.out]; rfl, by rw [HE.out]; exact H1.out, T.out⟩
end
end Go.Proofs.Ytiokpccdkpgibaa.Cel
