/-
  Package slots: Pick, Has and Size as contracts.
-/
import Derived.Test.YtefdnnmgmdaapaaGreatSlsA
import Derived.Test.YtefdnnmgmdaapaaGreatPolQ
import Derived.Test.YtefdnnmgmdaapaaGreatBRin
namespace Go.Proofs.YtefdnnmgmdaapaaGreat.Sls
open Go.RowKit Go.Shelf RowG Trn Slo
open Pol (Bk polV below_alloc)
open Pts (Pt ptsV ofL hsh Rise)
open Rin (succL)

attribute [local go_sem] Oper.semAt_some

abbrev zeroR : Value := .agg #[.slice none 0 0, .slice none 0 0]
theorem as_spoilt (v : Value) (w : World) : (Instr.typeAssert (.iface 54 v) 52 64 true).run Tryz.prog w = .ok (.tuple #[zeroR, .bool false]) w := by kernel_rfl
theorem as_built (v : Value) (w : World) : (Instr.typeAssert (.iface 78 v) 52 64 true).run Tryz.prog w = .ok (.tuple #[zeroR, .bool false]) w := by kernel_rfl
theorem as_ready (v : Value) (w : World) : (Instr.typeAssert (.iface 64 v) 52 64 true).run Tryz.prog w = .ok (.tuple #[v, .bool true]) w := by kernel_rfl
theorem box_ready (w : World) (x y : Value) : Below w.heap.size w (w.alloc (.cells #[x, y] 64)) ∧ (w.alloc (.cells #[x, y] 64)).cell? ⟨w.heap.size, 0, none⟩ = some x ∧ (w.alloc (.cells #[x, y] 64)).cell? ⟨w.heap.size, 1, none⟩ = some y :=
  ⟨below_alloc _ _, by simp, by simp⟩

set_option maxHeartbeats 400000 in
theorem pick_told (pa : Option Addr) (pc n : Nat) (ca : Option Addr) (cc : Nat) (L : List Pt) (h : Int) (w : World) (hL : Pts.Lies w ca cc L) (hr : Rise L) :
    Calls Tryz.prog 26 #[.agg #[.slice pa n pc, ptsV ca cc L], .int .u64 h] w fun e W' => e = .returned (.int .i64 (succL L h)) ∧ Below w.heap.size w W' := by
  obtain ⟨b0, c0, c1⟩ := box_ready w (.slice pa n pc) (ptsV ca cc L)
  have C := Lib.hid (Rin.Succ_told ca cc L h _ (hL.kept b0))
  have HR := Lib.hid hr
  have HB := Lib.hid b0
  clear hL hr b0
  go_enter Tryz.func26, Tryz.ntmps26
  go_wp2_with fail
  refine C.out.mono ?_
  rintro e w1 ⟨⟨r, rfl, ht⟩, rfl⟩
  have HE := Lib.hid (ht.2.2 HR.out)
  clear ht C
  go_wp2_with fail
  go_ret
  exact ⟨by rw [← HE.out]; rfl, HB.out⟩
set_option maxHeartbeats 400000 in
theorem pickF_told (pa : Option Addr) (pc n : Nat) (ca : Option Addr) (cc : Nat) (L : List Pt) (h : Int) (b : Nat) (w : World) (hL : Pts.Lies w ca cc L) (hr : Rise L) (hc : w.cell? ⟨b, 0, none⟩ = some (.int .u64 h)) :
    Calls Tryz.prog 25 #[.agg #[.slice pa n pc, ptsV ca cc L], .pointer (some ⟨b, 0, none⟩)] w fun e W' => e = .returned (.int .i64 (succL L h)) ∧ Below w.heap.size w W' := by
  obtain ⟨b0, c0, c1⟩ := box_ready w (.slice pa n pc) (ptsV ca cc L)
  have C := Lib.hid (pick_told pa pc n ca cc L h _ (hL.kept b0) hr)
  have c2 := (b0.cell (World.block_lt_of_cell? w _ hc)).trans hc
  have HB := Lib.hid b0
  clear hL hr b0 hc
  go_enter Tryz.func25, Tryz.ntmps25
  go_wp2_with fail
  refine C.out.mono ?_
  rintro e w1 ⟨rfl, hb⟩
  have H1 := Lib.hid (below2 HB.out hb)
  clear hb C
  go_wp2_with fail
  go_ret
  exact ⟨rfl, H1.out⟩
set_option maxHeartbeats 400000 in
theorem sizeF_told (pa : Option Addr) (pc n : Nat) (u : Value) (hu : ∃ a k c, u = .slice a k c) (w : World) :
    Calls Tryz.prog 33 #[.agg #[.slice pa n pc, u]] w fun e W' => e = .returned (.int .i64 n) ∧ Below w.heap.size w W' := by
  obtain ⟨a, k, c, rfl⟩ := hu
  obtain ⟨b0, c0, c1⟩ := box_ready w (.slice pa n pc) (.slice a k c)
  have HB := Lib.hid b0
  clear b0
  go_enter Tryz.func33, Tryz.ntmps33
  go_wp2
  go_ret
  exact ⟨rfl, HB.out⟩
/-- Has a pool a backend of that Id? -/
def hasB (z : List Bk) (id : Int) : Bool := decide (0 ≤ Pol.find z id 0)
set_option maxHeartbeats 400000 in
theorem has_told (pa : Option Addr) (pc : Nat) (z : List Bk) (id : Int) (w : World) (hz : Pol.Lies w pa pc z) :
    Calls Tryz.prog 31 #[polV pa pc z, .int .i64 id] w fun e W' => e = .returned (.bool (hasB z id)) ∧ Below w.heap.size w W' := by
  have C := Lib.hid (Pol.Find_told pa pc z id w hz)
  unfold hasB
  generalize Pol.find z id 0 = k at *
  clear hz
  go_enter Tryz.func31, Tryz.ntmps31
  go_wp2_with fail
  refine C.out.mono ?_
  rintro e w1 ⟨rfl, hb⟩
  have HB := Lib.hid hb
  clear hb C
  go_wp2_with fail
  go_ret
  exact ⟨rfl, HB.out⟩
set_option maxHeartbeats 400000 in
theorem hasF_told (pa : Option Addr) (pc : Nat) (z : List Bk) (ca : Option Addr) (cc m : Nat) (id : Int) (b : Nat) (w : World) (hz : Pol.Lies w pa pc z) (hc : w.cell? ⟨b, 0, none⟩ = some (.int .i64 id)) :
    Calls Tryz.prog 30 #[.agg #[polV pa pc z, .slice ca m cc], .pointer (some ⟨b, 0, none⟩)] w fun e W' => e = .returned (.bool (hasB z id)) ∧ Below w.heap.size w W' := by
  obtain ⟨b0, c0, c1⟩ := box_ready w (polV pa pc z) (.slice ca m cc)
  have C := Lib.hid (has_told pa pc z id _ (hz.kept b0))
  have c2 := (b0.cell (World.block_lt_of_cell? w _ hc)).trans hc
  have HB := Lib.hid b0
  clear hz b0 hc
  go_enter Tryz.func30, Tryz.ntmps30
  go_wp2_with fail
  refine C.out.mono ?_
  rintro e w1 ⟨rfl, hb⟩
  have H1 := Lib.hid (below2 HB.out hb)
  clear hb C
  go_wp2_with fail
  go_ret
  exact ⟨rfl, H1.out⟩

/-! ### read -/
theorem not_ready {x : SlM} (h : x.abs = .spoilt ∨ x.abs = .built) : x = .spoilt ∨ x = .built := by
  cases x with
  | spoilt => exact .inl rfl
  | built => exact .inr rfl
  | ready _ _ _ _ _ => rcases h with h | h <;> cases h
set_option maxHeartbeats 400000 in
theorem readI_not (x : SlM) (hx : x = .spoilt ∨ x = .built) (k : Fn) (cs : Array Value) (w : World) :
    Calls Tryz.prog 23 #[x.v, .func k #[] cs] w fun e W' => e = .returned (.tuple #[.int .i64 0, .bool false]) ∧ Below w.heap.size w W' := by
  obtain ⟨b0, -, -⟩ := box_ready w (.slice none 0 0) (.slice none 0 0)
  have HB := Lib.hid b0
  clear b0
  have a0 := as_spoilt (.agg #[])
  have a1 := as_built (.agg #[])
  rcases hx with rfl | rfl
  · rw [show SlM.spoilt.v = spoiltV from rfl]
    go_enter Tryz.func23, Tryz.ntmps23
    go_wp2
    go_ret2
    exact ⟨rfl, HB.out⟩
  · rw [show SlM.built.v = builtV from rfl]
    go_enter Tryz.func23, Tryz.ntmps23
    go_wp2
    go_ret2
    exact ⟨rfl, HB.out⟩
set_option maxHeartbeats 400000 in
theorem readB_not (x : SlM) (hx : x = .spoilt ∨ x = .built) (k : Fn) (cs : Array Value) (w : World) :
    Calls Tryz.prog 29 #[x.v, .func k #[] cs] w fun e W' => e = .returned (.tuple #[.bool false, .bool false]) ∧ Below w.heap.size w W' := by
  obtain ⟨b0, -, -⟩ := box_ready w (.slice none 0 0) (.slice none 0 0)
  have HB := Lib.hid b0
  clear b0
  have a0 := as_spoilt (.agg #[])
  have a1 := as_built (.agg #[])
  rcases hx with rfl | rfl
  · rw [show SlM.spoilt.v = spoiltV from rfl]
    go_enter Tryz.func29, Tryz.ntmps29
    go_wp2
    go_ret2
    exact ⟨rfl, HB.out⟩
  · rw [show SlM.built.v = builtV from rfl]
    go_enter Tryz.func29, Tryz.ntmps29
    go_wp2
    go_ret2
    exact ⟨rfl, HB.out⟩
set_option maxHeartbeats 800000 in
theorem read_pick (pa : Option Addr) (pc n : Nat) (ca : Option Addr) (cc : Nat) (L : List Pt) (h : Int) (b : Nat) (w : World) (hL : Pts.Lies w ca cc L) (hr : Rise L) (hc : w.cell? ⟨b, 0, none⟩ = some (.int .u64 h)) :
    Calls Tryz.prog 23 #[.iface 64 (.agg #[.slice pa n pc, ptsV ca cc L]), .func (.func 25) #[] #[.pointer (some ⟨b, 0, none⟩)]] w
      fun e W' => e = .returned (.tuple #[.int .i64 (succL L h), .bool true]) ∧ Below w.heap.size w W' := by
  obtain ⟨b0, c0, c1⟩ := box_ready w (.slice pa n pc) (ptsV ca cc L)
  have a0 := as_ready (.agg #[.slice pa n pc, ptsV ca cc L])
  have C := Lib.hid (fun W (hb : Below w.heap.size w W) => pickF_told pa pc n ca cc L h b W (hL.kept hb) hr ((hb.cell (World.block_lt_of_cell? w _ hc)).trans hc))
  have HB := Lib.hid b0
  clear hL hr b0 hc
  go_enter Tryz.func23, Tryz.ntmps23
  go_wp2_with fail
  refine (C.out _ HB.out).mono ?_
  rintro e w1 ⟨rfl, hb⟩
  have H1 := Lib.hid (below2 HB.out hb)
  clear hb C
  go_wp2_with fail
  go_ret2
  exact ⟨rfl, H1.out⟩
set_option maxHeartbeats 800000 in
theorem read_size (pa : Option Addr) (pc n : Nat) (ca : Option Addr) (cc m : Nat) (w : World) :
    Calls Tryz.prog 23 #[.iface 64 (.agg #[.slice pa n pc, .slice ca m cc]), .func (.func 33) #[] #[]] w
      fun e W' => e = .returned (.tuple #[.int .i64 n, .bool true]) ∧ Below w.heap.size w W' := by
  obtain ⟨b0, c0, c1⟩ := box_ready w (.slice pa n pc) (.slice ca m cc)
  have a0 := as_ready (.agg #[.slice pa n pc, .slice ca m cc])
  have C := Lib.hid (sizeF_told pa pc n (.slice ca m cc) ⟨_, _, _, rfl⟩)
  have HB := Lib.hid b0
  clear b0
  go_enter Tryz.func23, Tryz.ntmps23
  go_wp2_with fail
  refine (C.out _).mono ?_
  rintro e w1 ⟨rfl, hb⟩
  have H1 := Lib.hid (below2 HB.out hb)
  clear hb C
  go_wp2_with fail
  go_ret2
  exact ⟨rfl, H1.out⟩
set_option maxHeartbeats 800000 in
theorem read_has (pa : Option Addr) (pc : Nat) (z : List Bk) (ca : Option Addr) (cc m : Nat) (id : Int) (b : Nat) (w : World) (hz : Pol.Lies w pa pc z) (hc : w.cell? ⟨b, 0, none⟩ = some (.int .i64 id)) :
    Calls Tryz.prog 29 #[.iface 64 (.agg #[polV pa pc z, .slice ca m cc]), .func (.func 30) #[] #[.pointer (some ⟨b, 0, none⟩)]] w
      fun e W' => e = .returned (.tuple #[.bool (hasB z id), .bool true]) ∧ Below w.heap.size w W' := by
  obtain ⟨b0, c0, c1⟩ := box_ready w (polV pa pc z) (.slice ca m cc)
  have a0 := as_ready (.agg #[polV pa pc z, .slice ca m cc])
  have C := Lib.hid (fun W (hb : Below w.heap.size w W) => hasF_told pa pc z ca cc m id b W (hz.kept hb) ((hb.cell (World.block_lt_of_cell? w _ hc)).trans hc))
  have HB := Lib.hid b0
  generalize hasB z id = q at *
  clear b0 hz hc
  go_enter Tryz.func29, Tryz.ntmps29
  go_wp2_with fail
  refine (C.out _ HB.out).mono ?_
  rintro e w1 ⟨rfl, hb⟩
  have H1 := Lib.hid (below2 HB.out hb)
  clear hb C
  go_wp2_with fail
  go_ret2
  exact ⟨rfl, H1.out⟩

/-! ### what is told of a slot -/
def pickOf (l : List (Slot (List Bk))) (i h : Int) : Int × Bool := match Slo.read l i with
  | some z => (succL (ofL hsh z) h, true)
  | none => (0, false)
def sizeOf (l : List (Slot (List Bk))) (i : Int) : Int × Bool := match Slo.read l i with
  | some z => ((z.length : Int), true)
  | none => (0, false)
def hasOf (l : List (Slot (List Bk))) (i id : Int) : Bool × Bool := match Slo.read l i with
  | some z => (hasB z id, true)
  | none => (false, false)
def SlM.pool : SlM → Option (List Bk)
  | .ready _ _ z _ _ => some z
  | _ => none
theorem read_abs {m : List SlM} {i : Int} {x : SlM} (h : atM m i = x) : Slo.read (m.map SlM.abs) i = x.pool := by
  subst h
  unfold Slo.read
  rw [abs_at]
  cases atM m i <;> rfl
theorem box_any (w : World) (v : Value) (T : TypeId) : Below w.heap.size w (w.alloc (.cells #[v] T)) ∧ (w.alloc (.cells #[v] T)).cell? ⟨w.heap.size, 0, none⟩ = some v := ⟨below_alloc _ _, by simp⟩
set_option maxHeartbeats 800000 in
theorem Pick_told (f : Foot) (l : List (Slot (List Bk))) (i h : Int) (w : World) (hl : Held w f l) :
    Calls Tryz.prog 10 #[f.v, .int .i64 i, .int .u64 h] w fun e W' => e = .returned (.tuple #[.int .i64 (pickOf l i h).1, .bool (pickOf l i h).2]) ∧ Below w.heap.size w W' := by
  obtain ⟨m, rfl, hm⟩ := hl
  obtain ⟨b0, c0⟩ := box_any w (.int .u64 h) 23
  have A := Lib.hid (at_told f m i _ (hm.kept b0))
  have G := (hm.kept b0).at_good i
  have HB := Lib.hid b0
  cases hx : atM m i with
  | ready pa pc z ca cc =>
    rw [hx] at A G
    have e : pickOf (m.map SlM.abs) i h = (succL (ofL hsh z) h, true) := by unfold pickOf; rw [read_abs hx]; rfl
    rw [e]
    obtain ⟨⟨-, g2, -⟩, -, -⟩ := G
    have C := Lib.hid (read_pick pa pc z.length ca cc (ofL hsh z) h w.heap.size _ g2 (Pts.ofL_rise hsh z) c0)
    rw [show (SlM.ready pa pc z ca cc).v = .iface 64 (.agg #[.slice pa z.length pc, ptsV ca cc (ofL hsh z)]) from rfl] at A
    generalize ofL hsh z = L at *
    generalize z.length = n at *
    clear e hx hm b0 c0 g2
    go_enter Tryz.func10, Tryz.ntmps10
    go_wp2_with fail
    refine A.out.mono ?_
    rintro e w1 ⟨rfl, rfl⟩
    go_wp2_with fail
    refine C.out.mono ?_
    rintro e w2 ⟨rfl, hb⟩
    have H2 := Lib.hid (below2 HB.out hb)
    clear hb C A
    go_wp2_with fail
    go_ret2
    exact ⟨rfl, H2.out⟩
  | _ =>
    rw [hx] at A
    have e : pickOf (m.map SlM.abs) i h = (0, false) := by unfold pickOf; rw [read_abs hx]; rfl
    rw [e]
    have C := Lib.hid (readI_not _ (not_ready (x := atM m i) (by rw [hx]; first | exact .inl rfl | exact .inr rfl)) (.func 25) #[.pointer (some ⟨w.heap.size, 0, none⟩)] (w.alloc (.cells #[.int .u64 h] 23)))
    rw [hx] at C
    generalize SlM.v _ = v at *
    clear e hx hm b0 c0 G
    go_enter Tryz.func10, Tryz.ntmps10
    go_wp2_with fail
    refine A.out.mono ?_
    rintro e w1 ⟨rfl, rfl⟩
    go_wp2_with fail
    refine C.out.mono ?_
    rintro e w2 ⟨rfl, hb⟩
    have H2 := Lib.hid (below2 HB.out hb)
    clear hb C A
    go_wp2_with fail
    go_ret2
    exact ⟨rfl, H2.out⟩
set_option maxHeartbeats 800000 in
theorem Size_told (f : Foot) (l : List (Slot (List Bk))) (i : Int) (w : World) (hl : Held w f l) :
    Calls Tryz.prog 14 #[f.v, .int .i64 i] w fun e W' => e = .returned (.tuple #[.int .i64 (sizeOf l i).1, .bool (sizeOf l i).2]) ∧ Below w.heap.size w W' := by
  obtain ⟨m, rfl, hm⟩ := hl
  have A := Lib.hid (at_told f m i _ hm)
  cases hx : atM m i with
  | ready pa pc z ca cc =>
    rw [hx] at A
    have e : sizeOf (m.map SlM.abs) i = ((z.length : Int), true) := by unfold sizeOf; rw [read_abs hx]; rfl
    rw [e]
    have C := Lib.hid (read_size pa pc z.length ca cc (ofL hsh z).length w)
    rw [show (SlM.ready pa pc z ca cc).v = .iface 64 (.agg #[.slice pa z.length pc, .slice ca (ofL hsh z).length cc]) from rfl] at A
    generalize (ofL hsh z).length = k at *
    generalize z.length = n at *
    clear e hx hm
    go_enter Tryz.func14, Tryz.ntmps14
    go_wp2_with fail
    refine A.out.mono ?_
    rintro e w1 ⟨rfl, rfl⟩
    go_wp2_with fail
    refine C.out.mono ?_
    rintro e w2 ⟨rfl, hb⟩
    have H2 := Lib.hid hb
    clear hb C A
    go_wp2_with fail
    go_ret2
    exact ⟨rfl, H2.out⟩
  | _ =>
    rw [hx] at A
    have e : sizeOf (m.map SlM.abs) i = (0, false) := by unfold sizeOf; rw [read_abs hx]; rfl
    rw [e]
    have C := Lib.hid (readI_not _ (not_ready (x := atM m i) (by rw [hx]; first | exact .inl rfl | exact .inr rfl)) (.func 33) #[] w)
    rw [hx] at C
    generalize SlM.v _ = v at *
    clear e hx hm
    go_enter Tryz.func14, Tryz.ntmps14
    go_wp2_with fail
    refine A.out.mono ?_
    rintro e w1 ⟨rfl, rfl⟩
    go_wp2_with fail
    refine C.out.mono ?_
    rintro e w2 ⟨rfl, hb⟩
    have H2 := Lib.hid hb
    clear hb C A
    go_wp2_with fail
    go_ret2
    exact ⟨rfl, H2.out⟩
set_option maxHeartbeats 800000 in
theorem Has_told (f : Foot) (l : List (Slot (List Bk))) (i id : Int) (w : World) (hl : Held w f l) :
    Calls Tryz.prog 12 #[f.v, .int .i64 i, .int .i64 id] w fun e W' => e = .returned (.tuple #[.bool (hasOf l i id).1, .bool (hasOf l i id).2]) ∧ Below w.heap.size w W' := by
  obtain ⟨m, rfl, hm⟩ := hl
  obtain ⟨b0, c0⟩ := box_any w (.int .i64 id) 3
  have A := Lib.hid (at_told f m i _ (hm.kept b0))
  have G := (hm.kept b0).at_good i
  have HB := Lib.hid b0
  cases hx : atM m i with
  | ready pa pc z ca cc =>
    rw [hx] at A G
    have e : hasOf (m.map SlM.abs) i id = (hasB z id, true) := by unfold hasOf; rw [read_abs hx]; rfl
    rw [e]
    obtain ⟨⟨g1, -, -⟩, -, -⟩ := G
    have C := Lib.hid (read_has pa pc z ca cc (ofL hsh z).length id w.heap.size _ g1 c0)
    rw [show (SlM.ready pa pc z ca cc).v = .iface 64 (.agg #[polV pa pc z, .slice ca (ofL hsh z).length cc]) from rfl] at A
    generalize (ofL hsh z).length = n at *
    generalize hasB z id = q at *
    clear e hx hm b0 c0 g1
    go_enter Tryz.func12, Tryz.ntmps12
    go_wp2_with fail
    refine A.out.mono ?_
    rintro e w1 ⟨rfl, rfl⟩
    go_wp2_with fail
    refine C.out.mono ?_
    rintro e w2 ⟨rfl, hb⟩
    have H2 := Lib.hid (below2 HB.out hb)
    clear hb C A
    go_wp2_with fail
    go_ret2
    exact ⟨rfl, H2.out⟩
  | _ =>
    rw [hx] at A
    have e : hasOf (m.map SlM.abs) i id = (false, false) := by unfold hasOf; rw [read_abs hx]; rfl
    rw [e]
    have C := Lib.hid (readB_not _ (not_ready (x := atM m i) (by rw [hx]; first | exact .inl rfl | exact .inr rfl)) (.func 30) #[.pointer (some ⟨w.heap.size, 0, none⟩)] (w.alloc (.cells #[.int .i64 id] 3)))
    rw [hx] at C
    generalize SlM.v _ = v at *
    clear e hx hm b0 c0 G
    go_enter Tryz.func12, Tryz.ntmps12
    go_wp2_with fail
    refine A.out.mono ?_
    rintro e w1 ⟨rfl, rfl⟩
    go_wp2_with fail
    refine C.out.mono ?_
    rintro e w2 ⟨rfl, hb⟩
    have H2 := Lib.hid (below2 HB.out hb)
    clear hb C A
    go_wp2_with fail
    go_ret2
    exact ⟨rfl, H2.out⟩
end Go.Proofs.YtefdnnmgmdaapaaGreat.Sls
