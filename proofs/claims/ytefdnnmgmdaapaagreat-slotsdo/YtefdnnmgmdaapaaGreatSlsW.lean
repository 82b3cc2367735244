/-
  Package slots beside what a law was handed; law 16's works (package gangplanklaw16).
-/
import Derived.Test.YtefdnnmgmdaapaaGreatSlsB
import Derived.Test.YtefdnnmgmdaapaaGreatSlsC
import Derived.Test.YtefdnnmgmdaapaaGreatSlsD
namespace Go.Proofs.YtefdnnmgmdaapaaGreat.Sls
open Go.RowKit Go.Shelf RowG Trn Slo
open Pol (Bk polV chk)
open Pts (ofL hsh)
open Rin (succL)

attribute [local go_sem] Oper.semAt_some

/-- Slots that were made since: what lay there lies as it lay. -/
structure Stand (w0 w : World) (f : Foot) (l : List (Slot (List Bk))) : Prop where
  held : Held w f l
  below : Below w0.heap.size w0 w
  from' : f.from' w0.heap.size
theorem Does.stand {w0 w w' : World} {f : Foot} {l : List (Slot (List Bk))} {r : List (Slot (List Bk)) × Bool} {e : Ending} (h : Stand w0 w f l) (hd : Does f r w e w') : e = .returned (.bool r.2) ∧ Stand w0 w' f r.1 :=
  ⟨hd.1, hd.2.1, hd.2.2.below h.below h.below.size fun k hk => by rw [show k = f.g from hk]; exact h.from'.2, h.from'⟩
theorem Stand.more {w0 w w' : World} {f : Foot} {l : List (Slot (List Bk))} (h : Stand w0 w f l) (hb : Below w.heap.size w w') : Stand w0 w' f l := ⟨h.held.kept hb, below2 h.below hb, h.from'⟩
theorem new_stand (n : Int) (w0 w : World) (hb : Below w0.heap.size w0 w) : Calls Tryz.prog 6 #[.int .i64 n] w fun e W' => ∃ f : Foot, e = .returned f.v ∧ Stand w0 W' f (new n) :=
  (New_told n w).mono fun _ _ ⟨f, he, hh, hf, hb'⟩ => ⟨f, he, hh, below2 hb hb', Nat.le_trans hb.size hf.1, Nat.le_trans hb.size hf.2⟩
section
variable {w0 w : World} {f : Foot} {l : List (Slot (List Bk))} (h : Stand w0 w f l)
include h
theorem begin_stand (i : Int) : Calls Tryz.prog 17 #[f.v, .int .i64 i] w fun e W' => e = .returned (.bool (Slo.begin l i).2) ∧ Stand w0 W' f (Slo.begin l i).1 := (Begin_told f l i w h.held).mono fun _ _ => Does.stand h
theorem spoil_stand (i : Int) : Calls Tryz.prog 18 #[f.v, .int .i64 i] w fun e W' => e = .returned (.bool (Slo.spoil l i).2) ∧ Stand w0 W' f (Slo.spoil l i).1 := (Spoil_told f l i w h.held).mono fun _ _ => Does.stand h
theorem fill_stand (i : Int) (a : Option Addr) (c : Nat) (z : List Bk) (hz : Pol.Lies w0 a c z) : Calls Tryz.prog 16 #[f.v, .int .i64 i, polV a c z] w fun e W' => e = .returned (.bool (Slo.fill rightB l i z).2) ∧ Stand w0 W' f (Slo.fill rightB l i z).1 := (Fill_told f l i a c z w h.held (hz.kept h.below)).mono fun _ _ => Does.stand h
theorem pick_stand (i x : Int) : Calls Tryz.prog 10 #[f.v, .int .i64 i, .int .u64 x] w fun e W' => e = .returned (.tuple #[.int .i64 (pickOf l i x).1, .bool (pickOf l i x).2]) ∧ Stand w0 W' f l := (Pick_told f l i x w h.held).mono fun _ _ ⟨he, hb⟩ => ⟨he, h.more hb⟩
theorem has_stand (i x : Int) : Calls Tryz.prog 12 #[f.v, .int .i64 i, .int .i64 x] w fun e W' => e = .returned (.tuple #[.bool (hasOf l i x).1, .bool (hasOf l i x).2]) ∧ Stand w0 W' f l := (Has_told f l i x w h.held).mono fun _ _ ⟨he, hb⟩ => ⟨he, h.more hb⟩
theorem size_stand (i : Int) : Calls Tryz.prog 14 #[f.v, .int .i64 i] w fun e W' => e = .returned (.tuple #[.int .i64 (sizeOf l i).1, .bool (sizeOf l i).2]) ∧ Stand w0 W' f l := (Size_told f l i w h.held).mono fun _ _ ⟨he, hb⟩ => ⟨he, h.more hb⟩
end

/-! ### works -/
theorem lies_one (W : World) (x : Bk) : Pol.Lies (W.alloc (.cells #[.int .i64 x.1, .int .i64 x.2] 46)) (some ⟨W.heap.size, 0, none⟩) 1 [x] :=
  ⟨by unfold maxLen; omega, Nat.le_refl _, fun _ => ⟨W.heap.size, 0, rfl, fun i y hi => by
    match i, hi with
    | 0, hi => simp at hi; subst hi; simp
    | (i + 1), hi => simp at hi⟩⟩
def seven : List Bk := [(7, 1)]
theorem chk_seven : chk seven := by
  refine ⟨by decide, fun i x hi => ?_⟩
  match i, hi with
  | 0, hi =>
    simp [seven] at hi; subst hi
    exact ⟨by decide, by decide, by decide, by decide, rfl⟩
  | (i + 1), hi => simp [seven] at hi
theorem right_seven : rightB seven = true := (right_iff _).1 chk_seven
theorem pick_seven (h : Int) : succL (ofL hsh seven) h = 7 := by
  obtain ⟨p, hp, e⟩ := Rin.succL_mem (Rin.ofL_none hsh chk_seven (by simp [seven])) h
  rw [e]
  obtain ⟨x, hx, e⟩ := Rin.ofL_mem hsh hp
  simp [seven] at hx
  rw [e, hx]
theorem has_seven : hasB seven 7 = true := by decide
theorem held_lt {W : World} {f : Foot} {l : List (Slot (List Bk))} (h : Held W f l) : f.g < W.heap.size := by
  obtain ⟨m, _, hm⟩ := h
  exact hm.row.lt
theorem fill1 : Slo.fill rightB [.spoilt] 0 seven = ([.spoilt], false) := rfl
theorem begin1 : Slo.begin (π := List Bk) [.spoilt] 0 = ([.built], true) := rfl
theorem fill2 : Slo.fill rightB [.built] 0 seven = ([.ready seven], true) := by
  show (if rightB seven = true then _ else _) = _
  rw [if_pos right_seven]; rfl
theorem spoil1 : Slo.spoil [.ready seven] 0 = ([.spoilt], true) := rfl
theorem begin2 : Slo.begin (π := List Bk) [.spoilt] 1 = ([.spoilt], false) := rfl
theorem spoil2 : Slo.spoil (π := List Bk) [.spoilt] (-1) = ([.spoilt], false) := rfl
theorem new1 : (new 1 : List (Slot (List Bk))) = [.spoilt] := rfl
theorem pick1 : pickOf [.ready seven] 0 3 = (7, true) := by
  show (succL (ofL hsh seven) 3, true) = _
  rw [pick_seven]
theorem has1 : hasOf [.ready seven] 0 7 = (true, true) := by
  show (hasB seven 7, true) = _
  rw [has_seven]
theorem size1 : sizeOf [.ready seven] 0 = (1, true) := rfl
theorem pick2 : pickOf [.spoilt] 0 3 = (0, false) := rfl

set_option maxHeartbeats 2000000 in
theorem works_any (w : World) : Calls Tryz.prog 4 #[] w fun e W' => e = .returned (.bool true) ∧ Below w.heap.size w W' := by
  have C0 := Lib.hid (new_stand 1 w w (Below.refl _ _))
  rw [new1] at C0
  have fB := fun W f (h : Stand w W f [.spoilt]) => begin_stand h 0
  have fP := fun W f (h : Stand w W f [.ready seven]) => pick_stand h 0 3
  have fH := fun W f (h : Stand w W f [.ready seven]) => has_stand h 0 7
  have fS := fun W f (h : Stand w W f [.ready seven]) => size_stand h 0
  have fX := fun W f (h : Stand w W f [.ready seven]) => spoil_stand h 0
  have fQ := fun W f (h : Stand w W f [.spoilt]) => pick_stand h 0 3
  have fY := fun W f (h : Stand w W f [.spoilt]) => begin_stand h 1
  have fZ := fun W f (h : Stand w W f [.spoilt]) => spoil_stand h (-1)
  have f1 := fun W f a c (h : Stand w W f [.spoilt]) (hz : Pol.Lies W a c seven) => Fill_told f [.spoilt] 0 a c seven W h.held hz
  have f2 := fun W f a c (h : Stand w W f [.built]) (hz : Pol.Lies W a c seven) => Fill_told f [.built] 0 a c seven W h.held hz
  rw [begin1] at fB
  rw [pick1] at fP
  rw [has1] at fH
  rw [size1] at fS
  rw [spoil1] at fX
  rw [pick2] at fQ
  rw [begin2] at fY
  rw [spoil2] at fZ
  rw [fill1] at f1
  rw [fill2] at f2
  go_enter Tryz.func4, Tryz.ntmps4
  go_wp2_with fail
  refine C0.out.mono ?_
  rintro e w1 ⟨f, rfl, S0⟩
  have hlt := held_lt S0.held
  have b1 := (Below.refl w1.heap.size w1).alloc (Nat.le_refl _) (.cells #[.int .i64 7, .int .i64 1] 46)
  have P1 := Lib.hid (lies_one w1 (7, 1))
  have S1 := Lib.hid (S0.more b1)
  have D1 := Lib.hid (f1 _ _ _ _ S1.out P1.out)
  have NE := Lib.hid (show seven ≠ [] → ∀ b off, (some ⟨w1.heap.size, 0, none⟩ : Option Addr) = some ⟨b, off, none⟩ → ¬ f.has b from fun _ b off e => by cases e; show ¬ _ = f.g; omega)
  clear C0 S0 hlt b1 f1
  go_wp2_with fail
  refine D1.out.mono ?_
  rintro e w2 hd
  have S2 := Lib.hid (Does.stand S1.out hd).2
  have P2 := Lib.hid (pol_turned hd.2.2 P1.out NE.out)
  obtain ⟨rfl, -⟩ := Does.stand S1.out hd
  have D2 := Lib.hid (Begin_told f [.spoilt] 0 _ S2.out.held)
  rw [begin1] at D2
  clear hd D1 P1 S1
  go_wp2_with fail
  refine D2.out.mono ?_
  rintro e w3 hd
  have S3 := Lib.hid (Does.stand S2.out hd).2
  have P3 := Lib.hid (pol_turned hd.2.2 P2.out NE.out)
  obtain ⟨rfl, -⟩ := Does.stand S2.out hd
  have D3 := Lib.hid (f2 _ _ _ _ S3.out P3.out)
  clear hd D2 P2 S2 f2
  go_wp2_with fail
  refine D3.out.mono ?_
  rintro e w4 hd
  obtain ⟨rfl, S4⟩ := Does.stand S3.out hd
  have D4 := Lib.hid (fP _ _ S4)
  clear hd D3 P3 S3
  go_wp2_with fail
  refine D4.out.mono ?_
  rintro e w5 ⟨rfl, S5⟩
  have D5 := Lib.hid (fH _ _ S5)
  clear D4 S4
  go_wp2_with fail
  refine D5.out.mono ?_
  rintro e w6 ⟨rfl, S6⟩
  have D6 := Lib.hid (fS _ _ S6)
  clear D5 S5
  go_wp2_with fail
  refine D6.out.mono ?_
  rintro e w7 ⟨rfl, S7⟩
  have D7 := Lib.hid (fX _ _ S7)
  clear D6 S6
  go_wp2_with fail
  refine D7.out.mono ?_
  rintro e w8 ⟨rfl, S8⟩
  have D8 := Lib.hid (fQ _ _ S8)
  clear D7 S7
  go_wp2_with fail
  refine D8.out.mono ?_
  rintro e w9 ⟨rfl, S9⟩
  have D9 := Lib.hid (fY _ _ S9)
  clear D8 S8
  go_wp2_with fail
  refine D9.out.mono ?_
  rintro e w10 ⟨rfl, S10⟩
  have D10 := Lib.hid (fZ _ _ S10)
  clear D9 S9
  go_wp2_with fail
  refine D10.out.mono ?_
  rintro e w11 ⟨rfl, S11⟩
  have B := Lib.hid S11.below
  clear D10 S10 S11
  go_wp2_with fail
  go_ret
  exact ⟨rfl, B.out⟩
end Go.Proofs.YtefdnnmgmdaapaaGreat.Sls
