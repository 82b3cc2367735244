/-
  Package model: a packet's flow; what each kind of operation tells and hands on, but for a packet that is one (dispatch, update, expire, stats); deeds.
-/
import Derived.Test.YtbamodkgagcmnaaGreatMdlCM
import Derived.Test.YtbamodkgagcmnaaGreatModJM
import Derived.Test.YtbamodkgagcmnaaGreatBPklM
import Derived.Test.YtbamodkgagcmnaaGreatPolQM
import Derived.Test.YtbamodkgagcmnaaGreatSwpBM
import Derived.Test.YtbamodkgagcmnaaGreatSwpPM
set_option maxRecDepth 100000
namespace Go.Proofs.YtbamodkgagcmnaaGreat.Mdl
open Go.RowKit Go.Shelf RowG Trn
open Pol (polV chk chkV)
open Pkt (Tells outV noP pktV pktC keyV okP recS closes)
open Prb (home)
open Go.Proofs.YtbamodkgagcmnaaGreat.Mod (Bk Mo Ans ansV ansC AnsBox putAns TabIs Deals hasId known del deals opV opC)

attribute [local go_sem] Oper.semAt_some

/-! ### a packet's flow -/
/-- What a packet is to package packet: none, or its key's bytes and whether it closes. -/
def FlowIs (s : ByteArray) : Option (ByteArray × Bool) → Prop
  | none => ∃ e, e ≠ 0 ∧ Tells 128 #[.string s] (noP e)
  | some (k, c) => k.size ≤ 38 ∧ ∃ (V : Int) (x y : ByteArray) (F T p f : Int), Tells 128 #[.string s] (outV V x y F T p f 0) ∧ Tells 130 #[keyV V x y F T p] (.tuple #[.string k, .bool true]) ∧ Tells 131 #[pktV V x y F T p f] (.bool c)
/-! ### plain -/
/-- May a pool be? -/
noncomputable def goodB (z : List Bk) : Bool := @decide (chk z) (Classical.propDecidable _)
theorem good_iff (z : List Bk) : chk z ↔ goodB z = true := ⟨fun h => @decide_eq_true _ (Classical.propDecidable _) h, fun h => @of_decide_eq_true _ (Classical.propDecidable _) h⟩
theorem good_few {z : List Bk} (h : goodB z = true) : z.length ≤ 32 := ((good_iff z).2 h).1
/-! ### deeds -/
abbrev fnV (k : Nat) : Value := .func (.func k) #[] #[]
abbrev deedsC : Array Value := #[fnV 83, fnV 84, fnV 85, fnV 86]
set_option maxHeartbeats 400000 in
theorem deeds_told (w : World) : Calls Tryz.prog 46 #[] w fun e W' => e = .returned (.agg deedsC) ∧ Below w.heap.size w W' := by
  go_enter Tryz.func46, Tryz.ntmps46
  go_wp2_with fail
  refine bodyPost_ret (v := .agg deedsC) (by simp [results, Tryz.results46, go_sem]) rfl ?_
  exact ⟨rfl, (Below.refl _ w).alloc (Nat.le_refl _) _⟩

section
variable {f : Foot} {idle : Int} {pa : Option Addr} {pc : Nat} {P : List Bk} {sc : Nat} {m : List ShM}
/-- What an operation tells, and hands on. -/
def Told (y : Ans) (H : World → Value → Prop) (w : World) (e : Ending) (W' : World) : Prop := ∃ v, e = .returned (.tuple #[ansV y, v]) ∧ H W' v ∧ Below w.heap.size w W'
/-- The boxes at the beginning of each: the operation, an answer. -/
theorem op_boxes (w : World) (kd : Int) (pkt : ByteArray) (oa : Option Addr) (on oc : Nat) (sh : Int) :
    let W := (w.alloc (.cells (opC kd pkt oa on oc sh) 42)).alloc (.cells (ansC ⟨0, 0, false, 0⟩) 39)
    (W.cell? ⟨w.heap.size, 0, none⟩ = some (.int .i64 kd) ∧ W.cell? ⟨w.heap.size, 1, none⟩ = some (.string pkt) ∧ W.cell? ⟨w.heap.size, 2, none⟩ = some (.slice oa on oc) ∧ W.cell? ⟨w.heap.size, 3, none⟩ = some (.int .i64 sh)) ∧ AnsBox W (w.heap.size + 1) ⟨0, 0, false, 0⟩ ∧ Below w.heap.size w W ∧ W.heap.size = w.heap.size + 2 := by
  have b1 : Below w.heap.size w (w.alloc (.cells (opC kd pkt oa on oc sh) 42)) := (Below.refl _ w).alloc (Nat.le_refl _) _
  have h1 := World.alloc_heap_new w (.cells (opC kd pkt oa on oc sh) 42)
  have s1 := World.size_alloc w (.cells (opC kd pkt oa on oc sh) 42)
  generalize w.alloc (.cells (opC kd pkt oa on oc sh) 42) = W1 at *
  have b2 : Below W1.heap.size W1 (W1.alloc (.cells (ansC ⟨0, 0, false, 0⟩) 39)) := (Below.refl _ W1).alloc (Nat.le_refl _) _
  have h2 := World.alloc_heap_new W1 (.cells (ansC ⟨0, 0, false, 0⟩) 39)
  have s2 := World.size_alloc W1 (.cells (ansC ⟨0, 0, false, 0⟩) 39)
  have e := (b2.block w.heap.size (by omega)).trans h1
  rw [s1] at h2
  refine ⟨⟨?_, ?_, ?_, ?_⟩, h2, below2 b1 b2, by omega⟩ <;> simp [World.cell?, e]

theorem ans_below {w : World} (W : World) (hb : Below w.heap.size w W) {g : Nat} (hg : w.heap.size ≤ g) (y : Ans) : Below w.heap.size w (putAns W g y) := (Mod.putAns_turned W g y).below hb hb.size fun k hk => by rw [show k = g from hk]; exact hg
set_option maxHeartbeats 1000000 in
/-- A packet that is none. -/
theorem dispatch_bad (w : World) (kd : Int) (pkt : ByteArray) (oa : Option Addr) (on oc : Nat) (sh now : Int) (hF : FlowIs pkt none) :
    Calls Tryz.prog 83 #[f.v, opV kd pkt oa on oc sh, .int .i64 now] w (Told ⟨9, 0, false, 0⟩ (fun _ _ => True) w) := by
  obtain ⟨e, he, hP⟩ := hF
  obtain ⟨⟨-, c1, -, -⟩, a0, b0, s0⟩ := op_boxes w kd pkt oa on oc sh
  have CP := Lib.hid (hP ((w.alloc (.cells (opC kd pkt oa on oc sh) 42)).alloc (.cells (ansC ⟨0, 0, false, 0⟩) 39)))
  have A0 := Lib.hid a0
  have B0 := Lib.hid b0
  have e1 : (e != 0) = true := bne_iff_ne.2 he
  have e2 : (e == 0) = false := beq_false_of_ne he
  clear he hP a0 b0
  go_enter Tryz.func83, Tryz.ntmps83
  go_wp2_with fail
  refine CP.out.mono ?_
  rintro r w1 ⟨rfl, hb⟩
  have al := (Below.refl w1.heap.size w1).alloc (Nat.le_refl _) (.cells (pktC 0 ⟨#[]⟩ ⟨#[]⟩ 0 0 0 0) 81)
  have A1 := Lib.hid ((A0.out.kept hb).kept al)
  have B1 := Lib.hid (below2 (below2 B0.out hb) al)
  have CF := Lib.hid (fails_told 9 (w1.alloc (.cells (pktC 0 ⟨#[]⟩ ⟨#[]⟩ 0 0 0 0) 81)))
  clear hb al CP A0 B0 c1
  go_wp2_with fail
  refine CF.out.mono ?_
  rintro r w2 ⟨rfl, hb⟩
  have A2 := Lib.hid (A1.out.kept hb)
  have B2 := Lib.hid (below2 B1.out hb)
  clear hb CF A1 B1
  obtain ⟨⟨x0, x1, x2, x3⟩, fr⟩ := A2.out.cells
  have f0 := fr 0
  have f1 := fr 1
  have f2 := fr 2
  have f3 := fr 3
  clear fr
  go_wp2_with fail
  obtain ⟨⟨z0, z1, z2, z3⟩, -⟩ := (A2.out.put ⟨9, 0, false, 0⟩).cells
  unfold putAns at z0 z1 z2 z3
  clear x0 x1 x2 x3 f0 f1 f2 f3
  refine bodyPost_ret (v := .tuple #[ansV ⟨9, 0, false, 0⟩, .nilFunc]) ?q1 rfl ?q2
  case q1 =>
    simp only [results, Tryz.results83]
    simp [go_sem, z0, z1, z2, z3]
  case q2 => exact ⟨_, rfl, trivial, ans_below w2 B2.out (show w.heap.size ≤ w.heap.size + 1 by omega) ⟨9, 0, false, 0⟩⟩
set_option maxHeartbeats 1000000 in
/-- A pool that may not be. -/
theorem update_bad (w : World) (kd : Int) (pkt : ByteArray) (oa : Option Addr) (z : List Bk) (oc : Nat) (sh now : Int) (hz : Pol.Lies w oa oc z) (hg : goodB z = false) :
    Calls Tryz.prog 84 #[f.v, opV kd pkt oa z.length oc sh, .int .i64 now] w (Told ⟨10, 0, false, 0⟩ (fun _ _ => True) w) := by
  obtain ⟨⟨-, -, c2, -⟩, a0, b0, s0⟩ := op_boxes w kd pkt oa z.length oc sh
  have CP := Lib.hid (Pol.Check_told oa oc z (goodB z) (good_iff z) _ (hz.kept b0))
  rw [hg, show chkV false = .int .i64 10 from rfl] at CP
  have A0 := Lib.hid a0
  have B0 := Lib.hid b0
  clear hz hg a0 b0
  go_enter Tryz.func84, Tryz.ntmps84
  go_wp2_with fail
  refine CP.out.mono ?_
  rintro r w1 ⟨rfl, hb⟩
  have A1 := Lib.hid (A0.out.kept hb)
  have B1 := Lib.hid (below2 B0.out hb)
  have CF := Lib.hid (fails_told 10 w1)
  clear hb CP A0 B0 c2
  go_wp2_with fail
  refine CF.out.mono ?_
  rintro r w2 ⟨rfl, hb⟩
  have A2 := Lib.hid (A1.out.kept hb)
  have B2 := Lib.hid (below2 B1.out hb)
  clear hb CF A1 B1
  obtain ⟨⟨x0, x1, x2, x3⟩, fr⟩ := A2.out.cells
  have f0 := fr 0
  have f1 := fr 1
  have f2 := fr 2
  have f3 := fr 3
  clear fr
  go_wp2_with fail
  obtain ⟨⟨z0, z1, z2, z3⟩, -⟩ := (A2.out.put ⟨10, 0, false, 0⟩).cells
  unfold putAns at z0 z1 z2 z3
  clear x0 x1 x2 x3 f0 f1 f2 f3
  refine bodyPost_ret (v := .tuple #[ansV ⟨10, 0, false, 0⟩, .nilFunc]) ?q1 rfl ?q2
  case q1 =>
    simp only [results, Tryz.results84]
    simp [go_sem, z0, z1, z2, z3]
  case q2 => exact ⟨_, rfl, trivial, ans_below w2 B2.out (show w.heap.size ≤ w.heap.size + 1 by omega) ⟨10, 0, false, 0⟩⟩
/-- A pool's row lies in no box of an answer. -/
theorem own_turned {B g : Nat} {W W' : World} {v : Value} {z : List Bk} {cs : Array Value} (h : Pol.Own B W v z) (hg : W.heap[g]? = some (.cells cs 39 (0, 0))) (ht : Turned (· = g) W W') : Pol.Own B W' v z := by
  refine ⟨h.1, ?_⟩
  rcases h.2 with h0 | ⟨g', cap, cur, hv, hb, hg', r⟩
  · exact .inl h0
  · refine .inr ⟨g', cap, cur, hv, hb, (ht.rest g' (heap_lt hg') fun e => ?_).trans hg', r⟩
    rw [show g' = g from e, hg] at hg'
    cases hg'
/-- What Update hands on: the pool lies in a row of its own. -/
def UpdIs (B : Nat) (z : List Bk) (W : World) (v : Value) : Prop := ∃ b u, v = updV b ∧ W.heap[b]? = some (.cells #[u] 32 (0, 0)) ∧ Pol.Own B W u z
set_option maxHeartbeats 1000000 in
theorem update_good (w : World) (kd : Int) (pkt : ByteArray) (oa : Option Addr) (z : List Bk) (oc : Nat) (sh now : Int) (hz : Pol.Lies w oa oc z) (hg : goodB z = true) :
    Calls Tryz.prog 84 #[f.v, opV kd pkt oa z.length oc sh, .int .i64 now] w (Told ⟨0, 0, false, 0⟩ (UpdIs w.heap.size z) w) := by
  have hl := good_few hg
  obtain ⟨⟨-, -, c2, -⟩, a0, b0, s0⟩ := op_boxes w kd pkt oa z.length oc sh
  have CP := Lib.hid (Pol.Check_told oa oc z (goodB z) (good_iff z) _ (hz.kept b0))
  rw [hg, show chkV true = .int .i64 0 from rfl] at CP
  have A0 := Lib.hid a0
  have B0 := Lib.hid b0
  have HZ := Lib.hid hz
  clear hz hg a0 b0
  go_enter Tryz.func84, Tryz.ntmps84
  go_wp2_with fail
  refine CP.out.mono ?_
  rintro r w1 ⟨rfl, hb⟩
  have A1 := Lib.hid (A0.out.kept hb)
  have B1 := Lib.hid (below2 B0.out hb)
  have CF := Lib.hid (Pol.Clone_any oa oc z w1 (HZ.out.kept (below2 B0.out hb)) (by omega))
  have c2' := (hb.cell (World.block_lt_of_cell? _ _ c2)).trans c2
  clear hb CP A0 B0 c2 HZ
  go_wp2_with fail
  refine CF.out.mono ?_
  rintro r w2 ⟨u, rfl, ho, hb⟩
  obtain ⟨ua, uc, rfl, -⟩ := ho.lies
  have A2 := A1.out.kept hb
  have B2 := below2 B1.out hb
  have hle : w.heap.size ≤ w1.heap.size := B1.out.size
  have hlt2 : w.heap.size + 1 < w2.heap.size := Nat.lt_of_lt_of_le (heap_lt A1.out) hb.size
  have ht := Mod.putAns_turned w2 (w.heap.size + 1) ⟨0, 0, false, 0⟩
  have hsz : (putAns w2 (w.heap.size + 1) ⟨0, 0, false, 0⟩).heap.size = w2.heap.size := by simp [putAns, World.setCell]
  obtain ⟨⟨x0, x1, x2, x3⟩, fr⟩ := A2.cells
  have f0 := fr 0
  have f1 := fr 1
  have f2 := fr 2
  have f3 := fr 3
  have al := (Below.refl (putAns w2 (w.heap.size + 1) ⟨0, 0, false, 0⟩).heap.size (putAns w2 (w.heap.size + 1) ⟨0, 0, false, 0⟩)).alloc (Nat.le_refl _) (.cells #[polV ua uc z] 32)
  have A4 := Lib.hid ((A2.put ⟨0, 0, false, 0⟩).kept al)
  have U4 := Lib.hid (World.alloc_heap_new (putAns w2 (w.heap.size + 1) ⟨0, 0, false, 0⟩) (.cells #[polV ua uc z] 32))
  have O4 := Lib.hid ((own_turned (Pol.own_less hle ho) A2 ht).kept al)
  have B4 := Lib.hid (below2 (ans_below w2 B2 (show w.heap.size ≤ w.heap.size + 1 by omega) ⟨0, 0, false, 0⟩) al)
  rw [hsz] at U4
  clear hb CF A1 B1 ho al fr ht hsz A2 B2
  go_wp2_with fail
  obtain ⟨⟨z0, z1, z2, z3⟩, -⟩ := A4.out.cells
  unfold putAns at z0 z1 z2 z3
  clear x0 x1 x2 x3 f0 f1 f2 f3
  refine bodyPost_ret (v := .tuple #[ansV ⟨0, 0, false, 0⟩, updV w2.heap.size]) ?q1 rfl ?q2
  case q1 =>
    simp only [results, Tryz.results84]
    simp [go_sem, z0, z1, z2, z3]
  case q2 => exact ⟨_, rfl, ⟨w2.heap.size, polV ua uc z, rfl, U4.out, O4.out⟩, B4.out⟩
end
end Go.Proofs.YtbamodkgagcmnaaGreat.Mdl
