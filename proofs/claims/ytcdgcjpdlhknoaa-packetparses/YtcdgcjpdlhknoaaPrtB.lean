/-
  Package port: the tail of a head of tcp; the map of protocols, and what it tells.
-/
import Derived.Test.YtcdgcjpdlhknoaaPrtA
namespace Go.Proofs.Ytcdgcjpdlhknoaa.Prt
open Go.RowKit Go.Shelf Txt Rgn

/-- What stands behind the ports, of 6 and of 17. -/
def tailT (f : Int) : ByteArray := (⟨#[0, 0, 0, 0, 0, 0, 0, 0, 80]⟩ ++ Oct.str (Oct.bytes f.toNat 1)) ++ ⟨#[0, 0, 0, 0, 0, 0]⟩
def tailU : ByteArray := ⟨#[0, 8, 0, 0]⟩

set_option maxHeartbeats 1000000 in
theorem tcp_tail (f : Int) (h0 : 0 ≤ f) (h1 : f ≤ 255) (w : World) :
    Calls Try.prog 107 #[.agg #[], .int .i64 f] w fun e W' => e = .returned (.string (tailT f)) ∧ Below w.heap.size w W' := by
  have q := IntWalk.u64_in f (by omega)
  go_enter Try.func107, Try.ntmps107
  go_wp2_with fail
  refine (Put_some f 1 _ (by omega) (by omega) (by omega)).mono ?_
  rintro e w2 ⟨S, rfl, hz, hS, hb2⟩
  have hz1 : (⟨#[0, 0, 0, 0, 0, 0, 0, 0, 80]⟩ : ByteArray).size = 9 := rfl
  go_wp2_with fail
  go_ret
  exact ⟨by rw [hS.out]; rfl, below2 (below_alloc w _) hb2⟩

/-! ### the map of protocols -/
theorem und_map : Try.prog.underlying 120 = some (.map 3 118) := by kernel_rfl
theorem und_int : Try.prog.underlying 3 = some (.int .i64) := by kernel_rfl
theorem keyed : Maps.Keyed Try.prog 3 := Maps.int_keyed und_int
theorem zero_el (w : World) : (zeroValue 118).run Try.prog w = .ok .nilIface w := by kernel_rfl

open Classical in
/-- How an element of the map is told: by the number of its protocol, 0 for none. -/
noncomputable def rdP (v : Value) : Option (DataW Unit × List MemPlace) :=
  if v = tcpV then some (.lit (.int .i64 6), []) else if v = udpV then some (.lit (.int .i64 17), []) else if v = .nilIface then some (.lit (.int .i64 0), []) else none
theorem rdP_tcp : rdP tcpV = some (.lit (.int .i64 6), []) := by unfold rdP; rw [if_pos rfl]
theorem rdP_udp : rdP udpV = some (.lit (.int .i64 17), []) := by unfold rdP; rw [if_neg (by simp), if_pos rfl]
theorem rdP_none : rdP .nilIface = some (.lit (.int .i64 0), []) := by unfold rdP; rw [if_neg (by simp), if_neg (by simp), if_pos rfl]
theorem rdP_inv {v : Value} {n : Int} {ps : List MemPlace} (h : rdP v = some (.lit (.int .i64 n), ps)) : (n = 6 ∧ v = tcpV) ∨ (n = 17 ∧ v = udpV) ∨ (n = 0 ∧ v = .nilIface) := by
  unfold rdP at h
  split at h
  · simp at h; exact .inl ⟨by omega, by assumption⟩
  · split at h
    · simp at h; exact .inr (.inl ⟨by omega, by assumption⟩)
    · split at h
      · simp at h; exact .inr (.inr ⟨by omega, by assumption⟩)
      · cases h

/-- What the map holds. -/
def both : DataW Unit := ((DataW.map []).put (.int .i64 6) (.lit (.int .i64 6))).put (.int .i64 17) (.lit (.int .i64 17))

set_option maxHeartbeats 1000000 in
theorem protocols_any (w : World) :
    Calls Try.prog 74 #[] w fun e W' => ∃ b, e = .returned (.map (some b)) ∧ W'.ownsMap Try.prog 3 rdP b 2 both ∧ Below w.heap.size w W' := by
  obtain ⟨w1, r1, o1, g1⟩ := (World.ownsMap_made w Try.prog 3 rdP).update keyed und_map (by unfold maxLen; omega) (Maps.keyOf_int_mk und_int (a := 6) (by decide)) rdP_tcp
  obtain ⟨w2, r2, o2, g2⟩ := o1.update keyed und_map (by unfold maxLen; omega) (Maps.keyOf_int_mk und_int (a := 17) (by decide)) rdP_udp
  have hB : Below w.heap.size w w2 := ((below_alloc w (.map #[] 0)).grown g1 (by simp) (fun j hj => by cases hj; exact Nat.le_refl _)).grown g2 (Nat.le_trans (by simp) g1.size) (fun j hj => by cases hj; exact Nat.le_refl _)
  have O := Lib.hid o2
  clear o1 o2 g1 g2
  have hmm := @run_makeMap Try.prog
  go_enter Try.func74, Try.ntmps74
  go_wp2
  go_ret
  exact ⟨_, rfl, O.out, hB⟩

theorem both_has (p : Int) : Maps.has both (.int .i64 p) = (p == 6 || p == 17) := by
  by_cases h6 : p = 6
  · subst h6; rfl
  · by_cases h17 : p = 17
    · subst h17; rfl
    · unfold both
      rw [Maps.has_put_other (by simp [h17]), Maps.has_put_other (by simp [h6]), beq_false_of_ne h6, beq_false_of_ne h17]
      rfl

/-- What is looked up. -/
theorem look_any {W : World} {b : Nat} (h : W.ownsMap Try.prog 3 rdP b 2 both) (p : Int) (hp : (Lit.int .i64 p).wf = true) :
    ∃ v, (Instr.lookup 120 (.map (some b)) (.int .i64 p) true).run Try.prog W = .ok (.tuple #[v, .bool (p == 6 || p == 17)]) W ∧ (p = 6 → v = tcpV) ∧ (p = 17 → v = udpV) := by
  obtain ⟨v, ps, hr, hv⟩ := h.look_ok keyed und_map (zero_el W) rdP_none (Maps.keyOf_int_mk und_int hp)
  refine ⟨v, ?_, ?_, ?_⟩
  · rw [hr, both_has]
  · rintro rfl
    rcases rdP_inv (n := 6) hv with h | h | h
    · exact h.2
    · omega
    · omega
  · rintro rfl
    rcases rdP_inv (n := 17) hv with h | h | h
    · omega
    · exact h.2
    · omega

/-- The three ways. -/
theorem look_tcp {W : World} {b : Nat} (h : W.ownsMap Try.prog 3 rdP b 2 both) : (Instr.lookup 120 (.map (some b)) (.int .i64 6) true).run Try.prog W = .ok (.tuple #[tcpV, .bool true]) W := by
  obtain ⟨v, hr, h6, _⟩ := look_any h 6 (by decide)
  obtain rfl := h6 rfl
  exact hr
theorem look_udp {W : World} {b : Nat} (h : W.ownsMap Try.prog 3 rdP b 2 both) : (Instr.lookup 120 (.map (some b)) (.int .i64 17) true).run Try.prog W = .ok (.tuple #[udpV, .bool true]) W := by
  obtain ⟨v, hr, _, h17⟩ := look_any h 17 (by decide)
  obtain rfl := h17 rfl
  exact hr
theorem look_none {W : World} {b : Nat} (h : W.ownsMap Try.prog 3 rdP b 2 both) (p : Int) (hp : (Lit.int .i64 p).wf = true) (h6 : p ≠ 6) (h17 : p ≠ 17) :
    ∃ v, (Instr.lookup 120 (.map (some b)) (.int .i64 p) true).run Try.prog W = .ok (.tuple #[v, .bool false]) W := by
  obtain ⟨v, hr, _, _⟩ := look_any h p hp
  rw [beq_false_of_ne h6, beq_false_of_ne h17] at hr
  exact ⟨v, hr⟩

/-! ### which function a protocol's method is -/
theorem at_tcp (w : World) :
    (method 248 130 (.agg #[]) "gangplank/port.least").run Try.prog w = .ok (104, .agg #[]) w ∧
    (method 248 130 (.agg #[]) "gangplank/port.size").run Try.prog w = .ok (106, .agg #[]) w ∧
    (method 248 130 (.agg #[]) "gangplank/port.wrong").run Try.prog w = .ok (108, .agg #[]) w ∧
    (method 248 130 (.agg #[]) "gangplank/port.flags").run Try.prog w = .ok (103, .agg #[]) w ∧
    (method 248 130 (.agg #[]) "gangplank/port.most").run Try.prog w = .ok (105, .agg #[]) w ∧
    (method 248 130 (.agg #[]) "gangplank/port.tail").run Try.prog w = .ok (107, .agg #[]) w :=
  ⟨by kernel_rfl, by kernel_rfl, by kernel_rfl, by kernel_rfl, by kernel_rfl, by kernel_rfl⟩
theorem at_udp (w : World) :
    (method 248 131 (.agg #[]) "gangplank/port.least").run Try.prog w = .ok (110, .agg #[]) w ∧
    (method 248 131 (.agg #[]) "gangplank/port.size").run Try.prog w = .ok (112, .agg #[]) w ∧
    (method 248 131 (.agg #[]) "gangplank/port.wrong").run Try.prog w = .ok (114, .agg #[]) w ∧
    (method 248 131 (.agg #[]) "gangplank/port.flags").run Try.prog w = .ok (109, .agg #[]) w ∧
    (method 248 131 (.agg #[]) "gangplank/port.most").run Try.prog w = .ok (111, .agg #[]) w ∧
    (method 248 131 (.agg #[]) "gangplank/port.tail").run Try.prog w = .ok (113, .agg #[]) w :=
  ⟨by kernel_rfl, by kernel_rfl, by kernel_rfl, by kernel_rfl, by kernel_rfl, by kernel_rfl⟩
end Go.Proofs.Ytcdgcjpdlhknoaa.Prt
