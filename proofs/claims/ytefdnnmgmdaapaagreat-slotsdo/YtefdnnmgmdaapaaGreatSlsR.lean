/-
  The document's slots (package gangplankref16) beside the program's, over the plain ones: New, told, Pick, Has, Size.
-/
import Derived.Test.YtefdnnmgmdaapaaGreatSlsV
import Derived.Test.YtefdnnmgmdaapaaGreatSloH
import Derived.Test.YtefdnnmgmdaapaaGreatPolRefp
import Derived.Test.YtefdnnmgmdaapaaGreatRinCq
namespace Go.Proofs.YtefdnnmgmdaapaaGreat.Sls
open Go.RowKit Go.Shelf RowG Trn Slo
open Pol (Bk polV chk)
open Pts (ofL hsh)
open Rin (succL)

/-- What a slot that is ready holds is a pool that lay there. -/
def okM (w0 : World) (m : List SlotM) : Prop := ∀ x ∈ m, x.st = 2 → Pol.Lies w0 x.p x.c x.pool ∧ x.pool.length ≤ 32
/-- The document's slots, as a value. -/
def RefIs (w0 w : World) (v : Value) (l : List (Slot (List Bk))) : Prop := ∃ m : List SlotM, absL m = l ∧ Slo.Gives w0.heap.size w v m ∧ m.length ≤ 8 ∧ okM w0 m
theorem RefIs.kept {w0 w w' : World} {v : Value} {l : List (Slot (List Bk))} (h : RefIs w0 w v l) (hb : Below w.heap.size w w') : RefIs w0 w' v l := by
  obtain ⟨m, e, hg, hl, ho⟩ := h
  exact ⟨m, e, hg.kept hb, hl, ho⟩
theorem RefIs.slice {w0 w : World} {v : Value} {l : List (Slot (List Bk))} (h : RefIs w0 w v l) : ∃ a n c, v = .slice a n c := by
  obtain ⟨m, -, ⟨a, cap, rfl, -, -⟩, -, -⟩ := h
  exact ⟨a, _, cap, rfl⟩
/-- What the document's slots keep while another thing is turned. -/
theorem RefIs.turned {w0 w w' : World} {S : Nat → Prop} {v : Value} {l : List (Slot (List Bk))} (h : RefIs w0 w v l) (ht : Turned S w w') (hs : ∀ m a cap, v = rowV a cap m → Lies slotK w a cap m → m ≠ [] → ∀ b off, a = some ⟨b, off, none⟩ → ¬ S b) : RefIs w0 w' v l := by
  obtain ⟨m, e, ⟨a, cap, hv, hL, hB⟩, hl, ho⟩ := h
  exact ⟨m, e, ⟨a, cap, hv, ht.lies hL (hs m a cap hv hL), hB⟩, hl, ho⟩
theorem okM_set {w0 : World} {m : List SlotM} (h : okM w0 m) (k : Nat) (x : SlotM) (hx : x.st = 2 → Pol.Lies w0 x.p x.c x.pool ∧ x.pool.length ≤ 32) : okM w0 (m.set k x) := by
  intro y hy
  rcases List.mem_or_eq_of_mem_set hy with hy | rfl
  · exact h y hy
  · exact hx
theorem okM_act {w0 : World} {m : List SlotM} (h : okM w0 m) (x : ActM) (hx : Pol.Lies w0 x.p x.c x.pool) : okM w0 (actSM rightB m x).1 ∧ (actSM rightB m x).1.length = m.length := by
  unfold actSM
  split
  · unfold beginM
    split
    · exact ⟨okM_set h _ _ (fun e => by cases e), List.length_set⟩
    · exact ⟨h, rfl⟩
  · split
    · unfold fillM
      split
      · rename_i hh
        exact ⟨okM_set h _ _ (fun _ => ⟨hx, ((right_iff _).2 hh.2.2).1⟩), List.length_set⟩
      · exact ⟨h, rfl⟩
    · unfold spoilM
      split
      · exact ⟨okM_set h _ _ (fun e => by cases e), List.length_set⟩
      · exact ⟨h, rfl⟩
theorem new_ref (n : Int) (w0 w : World) (hb : Below w0.heap.size w0 w) : Calls Tryz.prog 7 #[.int .i64 n] w fun e W' => ∃ v, e = .returned v ∧ RefIs w0 W' v (new n) ∧ Below w.heap.size w W' :=
  (refNew_any n w).mono fun _ _ ⟨v, he, hg, hb'⟩ => ⟨v, he, ⟨newM n, abs_new n, hg.less hb.size, by unfold newM; rw [List.length_replicate]; omega, fun x hx => by
    unfold newM at hx
    rw [List.eq_of_mem_replicate hx]
    intro e; cases e⟩, hb'⟩
section
variable {w0 w : World} {v : Value} {l : List (Slot (List Bk))} (h : RefIs w0 w v l) (hb : Below w0.heap.size w0 w)
include h hb
theorem told_ref (x : ActM) (hx : Pol.Lies w0 x.p x.c x.pool) :
    Calls Tryz.prog 9 #[v, actV x] w fun e W' => ∃ v', e = .returned (.tuple #[v', .bool (Slo.act rightB l x.act).2]) ∧ RefIs w0 W' v' (Slo.act rightB l x.act).1 ∧ Below w.heap.size w W' := by
  obtain ⟨m, rfl, ⟨a, cap, rfl, hL, hB⟩, hl, ho⟩ := h
  obtain ⟨e1, e2⟩ := abs_act rightB m x
  obtain ⟨o1, o2⟩ := okM_act ho x hx
  refine (told_any rightB a cap m x w hL (by omega) w0.heap.size hB hb.size fun W' hb' => ?_).mono fun e W' ⟨v', he, hg, hb'⟩ => ⟨v', by rw [he, e2], ⟨_, e1, hg, by rw [o2]; exact hl, o1⟩, hb'⟩
  refine (Pol.refCheck_any x.p x.c x.pool (rightB x.pool) (right_iff _) W' (hx.kept (below2 hb hb'))).mono fun e W2 ⟨he, hb2⟩ => ⟨?_, hb2⟩
  rw [he]
  cases rightB x.pool <;> rfl
theorem pick_ref (i y : Int) : Calls Tryz.prog 11 #[v, .int .i64 i, .int .u64 y] w fun e W' => e = .returned (.tuple #[.int .i64 (pickOf l i y).1, .bool (pickOf l i y).2]) ∧ Below w.heap.size w W' := by
  obtain ⟨m, rfl, ⟨a, cap, rfl, hL, hB⟩, hl, ho⟩ := h
  refine (refPick_any a cap m i y w hL (fun z => succL (ofL hsh z) y) fun k hk _ h2 => ?_).mono fun e W' ⟨he, hb'⟩ => ⟨?_, hb'⟩
  · obtain ⟨h3, h4⟩ := ho _ (List.getElem_mem hk) h2
    exact Rin.refPick_any _ _ _ y w (h3.kept hb) (by omega)
  · rw [he]
    unfold pickOf
    rw [abs_read]
    cases readyB m i <;> rfl
theorem has_ref (i y : Int) : Calls Tryz.prog 13 #[v, .int .i64 i, .int .i64 y] w fun e W' => e = .returned (.tuple #[.bool (hasOf l i y).1, .bool (hasOf l i y).2]) ∧ W' = w := by
  obtain ⟨m, rfl, ⟨a, cap, rfl, hL, hB⟩, hl, ho⟩ := h
  refine (refHas_any a cap m i y w hL (fun z => Pol.find z y 0) fun k hk _ h2 => ?_).mono fun e W' ⟨he, hb'⟩ => ⟨?_, hb'⟩
  · exact Pol.refFind_any _ _ _ y w ((ho _ (List.getElem_mem hk) h2).1.kept hb)
  · rw [he]
    unfold hasOf
    rw [abs_read]
    cases readyB m i <;> rfl
omit hb in
theorem size_ref (i : Int) : Calls Tryz.prog 15 #[v, .int .i64 i] w fun e W' => e = .returned (.tuple #[.int .i64 (sizeOf l i).1, .bool (sizeOf l i).2]) ∧ W' = w := by
  obtain ⟨m, rfl, ⟨a, cap, rfl, hL, hB⟩, hl, ho⟩ := h
  refine (refSize_any a cap m i w hL).mono fun e W' ⟨he, hb'⟩ => ⟨?_, hb'⟩
  rw [he]
  unfold sizeOf
  rw [abs_read]
  cases readyB m i <;> rfl
end
/-- The document's slots lie elsewhere than the program's. -/
theorem ref_after {w0 w w' : World} {f : Foot} {l l' : List (Slot (List Bk))} {v : Value} (h : RefIs w0 w v l) (hh : Held w f l') (ht : Turned f.has w w') : RefIs w0 w' v l := by
  obtain ⟨m', -, hm⟩ := hh
  refine h.turned ht fun m a cap _ hL hn b off e hb => ?_
  obtain ⟨b', off', e', hc⟩ := hL.cell hn
  rw [e] at e'; cases e'
  obtain rfl : b = f.g := hb
  cases m with
  | nil => exact hn rfl
  | cons x m =>
    obtain ⟨T, u, hv⟩ := hm.iface (hc 0 x rfl 0 _ rfl)
    cases hv
theorem do_both {w0 w : World} {f : Foot} {l : List (Slot (List Bk))} {v : Value} (h : Stand w0 w f l) (hr : RefIs w0 w v l) (x : ActM) (hz : Pol.Lies w0 x.p x.c x.pool) : Calls Tryz.prog 8 #[f.v, actV x] w fun e W' => e = .returned (.bool (Slo.act rightB l x.act).2) ∧ Stand w0 W' f (Slo.act rightB l x.act).1 ∧ RefIs w0 W' v l :=
  (do_any f l x w h.held (hz.kept h.below)).mono fun _ _ hd => ⟨(Does.stand h hd).1, (Does.stand h hd).2, ref_after hr h.held hd.2.2⟩
/-- Both, side by side. -/
def Pair (w0 : World) (f : Foot) (v : Value) (l l' : List (Slot (List Bk))) (w : World) : Prop := Stand w0 w f l ∧ RefIs w0 w v l'
theorem Pair.more {w0 w w' : World} {f : Foot} {v : Value} {l l' : List (Slot (List Bk))} (h : Pair w0 f v l l' w) (hb : Below w.heap.size w w') : Pair w0 f v l l' w' := ⟨h.1.more hb, h.2.kept hb⟩
section
variable {w0 w : World} {f : Foot} {v : Value} {l : List (Slot (List Bk))} (h : Pair w0 f v l l w)
include h
theorem do_pair (x : ActM) (hz : Pol.Lies w0 x.p x.c x.pool) : Calls Tryz.prog 8 #[f.v, actV x] w fun e W' => e = .returned (.bool (Slo.act rightB l x.act).2) ∧ Pair w0 f v (Slo.act rightB l x.act).1 l W' := do_both h.1 h.2 x hz
theorem pick_pair (i y : Int) : Calls Tryz.prog 10 #[f.v, .int .i64 i, .int .u64 y] w fun e W' => e = .returned (.tuple #[.int .i64 (pickOf l i y).1, .bool (pickOf l i y).2]) ∧ Pair w0 f v l l W' := (Pick_told f l i y w h.1.held).mono fun _ _ ⟨he, hb⟩ => ⟨he, h.more hb⟩
theorem has_pair (i y : Int) : Calls Tryz.prog 12 #[f.v, .int .i64 i, .int .i64 y] w fun e W' => e = .returned (.tuple #[.bool (hasOf l i y).1, .bool (hasOf l i y).2]) ∧ Pair w0 f v l l W' := (Has_told f l i y w h.1.held).mono fun _ _ ⟨he, hb⟩ => ⟨he, h.more hb⟩
theorem size_pair (i : Int) : Calls Tryz.prog 14 #[f.v, .int .i64 i] w fun e W' => e = .returned (.tuple #[.int .i64 (sizeOf l i).1, .bool (sizeOf l i).2]) ∧ Pair w0 f v l l W' := (Size_told f l i w h.1.held).mono fun _ _ ⟨he, hb⟩ => ⟨he, h.more hb⟩
theorem refpick_pair (i y : Int) : Calls Tryz.prog 11 #[v, .int .i64 i, .int .u64 y] w fun e W' => e = .returned (.tuple #[.int .i64 (pickOf l i y).1, .bool (pickOf l i y).2]) ∧ Pair w0 f v l l W' := (pick_ref h.2 h.1.below i y).mono fun _ _ ⟨he, hb⟩ => ⟨he, h.more hb⟩
theorem refhas_pair (i y : Int) : Calls Tryz.prog 13 #[v, .int .i64 i, .int .i64 y] w fun e W' => e = .returned (.tuple #[.bool (hasOf l i y).1, .bool (hasOf l i y).2]) ∧ Pair w0 f v l l W' := (has_ref h.2 h.1.below i y).mono fun _ _ ⟨he, hw⟩ => ⟨he, hw ▸ h⟩
theorem refsize_pair (i : Int) : Calls Tryz.prog 15 #[v, .int .i64 i] w fun e W' => e = .returned (.tuple #[.int .i64 (sizeOf l i).1, .bool (sizeOf l i).2]) ∧ Pair w0 f v l l W' := (size_ref h.2 i).mono fun _ _ ⟨he, hw⟩ => ⟨he, hw ▸ h⟩
end
theorem told_pair {w0 w : World} {f : Foot} {v : Value} {l l' : List (Slot (List Bk))} (h : Pair w0 f v l' l w) (x : ActM) (hx : Pol.Lies w0 x.p x.c x.pool) :
    Calls Tryz.prog 9 #[v, actV x] w fun e W' => ∃ v', e = .returned (.tuple #[v', .bool (Slo.act rightB l x.act).2]) ∧ Pair w0 f v' l' (Slo.act rightB l x.act).1 W' := (told_ref h.2 h.1.below x hx).mono fun _ _ ⟨v', he, hr, hb⟩ => ⟨v', he, h.1.more hb, hr⟩
end Go.Proofs.YtefdnnmgmdaapaaGreat.Sls
