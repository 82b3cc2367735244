/-
  Package packet: plain facts on keys and their bytes.
-/
import Derived.Test.YtcdgcjpdlhknoaaPktD
import Derived.Laws.StructEq
namespace Go.Proofs.Ytcdgcjpdlhknoaa.Pkt
open Go.RowKit Go.Shelf Txt Rgn
open Lib (byteCells)

/-- May it be a key? -/
def right (V : Int) (x y : ByteArray) (F T p : Int) : Prop := (V = 4 ∧ x.size = 4 ∧ y.size = 4 ∨ V = 6 ∧ x.size = 16 ∧ y.size = 16) ∧ (p = 6 ∨ p = 17) ∧ (0 ≤ F ∧ F ≤ 65535) ∧ (0 ≤ T ∧ T ≤ 65535)
/-- A key's bytes. -/
def recS (V : Int) (x y : ByteArray) (F T p : Int) : ByteArray := Oct.str (recL V x y F T p)

section
variable (V : Int) (x y : ByteArray) (F T p : Int)
theorem nums_list : nums V F T p = [UInt8.ofNat (low V), UInt8.ofNat (low p), UInt8.ofNat (low F / 256), UInt8.ofNat (low F), UInt8.ofNat (low T / 256), UInt8.ofNat (low T)] := rfl
theorem recS_list : (recS V x y F T p).data.toList = recL V x y F T p := rfl
theorem recS_size : (recS V x y F T p).size = 38 := by rw [← len_list, recS_list, recL_length]
theorem recS_nums : gv (recS V x y F T p) 0 1 = low V % 256 ∧ gv (recS V x y F T p) 1 1 = low p % 256 ∧ gv (recS V x y F T p) 2 2 = low F % 65536 ∧ gv (recS V x y F T p) 4 2 = low T % 65536 := by
  unfold gv
  rw [recS_list]
  unfold recL
  rw [nums_list]
  refine ⟨?_, ?_, ?_, ?_⟩
  · simp [Oct.num]
  · simp [Oct.num]
  · simp [Oct.num]; omega
  · simp [Oct.num]; omega
theorem recS_src (h : x.size ≤ 16) : (recS V x y F T p).extract 6 (6 + x.size) = x := by
  refine ba_ext ?_
  rw [ext_list, recS_list]
  unfold recL
  rw [List.drop_append, nums_length, List.drop_eq_nil_of_le (by rw [nums_length]; omega), List.nil_append, Nat.sub_self, List.drop_zero, Nat.add_sub_cancel_left, pad_short _ _ (by rw [len_list]; exact h), List.append_assoc,
    List.take_append_of_le_length (by rw [len_list]; omega), List.take_of_length_le (by rw [len_list]; omega)]
theorem recS_dst (h : y.size ≤ 16) : (recS V x y F T p).extract 22 (22 + y.size) = y := by
  refine ba_ext ?_
  rw [ext_list, recS_list]
  unfold recL
  rw [← List.append_assoc, List.drop_append, List.drop_eq_nil_of_le (by simp [nums_length, pad_length]), List.nil_append, List.length_append, nums_length, pad_length, Nat.sub_self, List.drop_zero, Nat.add_sub_cancel_left, pad_short _ _ (by rw [len_list]; exact h),
    List.take_append_of_le_length (by rw [len_list]; omega), List.take_of_length_le (by rw [len_list]; omega)]
variable {V x y F T p}
theorem low_is {v : Int} (h : 0 ≤ v) (h2 : v ≤ 65535) : low v = v.toNat := by unfold low; omega
/-- What a key's bytes tell. -/
theorem right_told (h : right V x y F T p) : okR (recS V x y F T p) ∧ ((gv (recS V x y F T p) 0 1 : Nat) : Int) = V ∧ ((gv (recS V x y F T p) 1 1 : Nat) : Int) = p ∧ ((gv (recS V x y F T p) 2 2 : Nat) : Int) = F ∧ ((gv (recS V x y F T p) 4 2 : Nat) : Int) = T := by
  obtain ⟨h1, h2, h3, h4⟩ := h
  obtain ⟨e0, e1, e2, e3⟩ := recS_nums V x y F T p
  have a0 : low V = V.toNat := low_is (by omega) (by omega)
  have a1 : low p = p.toNat := low_is (by omega) (by omega)
  rw [a0] at e0
  rw [a1] at e1
  rw [low_is h3.1 h3.2] at e2
  rw [low_is h4.1 h4.2] at e3
  refine ⟨⟨?_, ?_⟩, ?_, ?_, ?_, ?_⟩
  · show gv _ 0 1 = 4 ∨ gv _ 0 1 = 6
    omega
  · show gv _ 1 1 = 6 ∨ gv _ 1 1 = 17
    omega
  · omega
  · omega
  · omega
  · omega
theorem right_size (h : right V x y F T p) : x.size = addr V ∧ y.size = addr V ∧ 1 ≤ addr V ∧ addr V ≤ 16 := by
  unfold addr
  rcases h.1 with ⟨e, h1, h2⟩ | ⟨e, h1, h2⟩
  · rw [if_pos e]; omega
  · rw [if_neg (by omega), if_pos e]; omega
/-- Unlike keys have unlike bytes. -/
theorem right_apart {V' : Int} {x' y' : ByteArray} {F' T' p' : Int} (h : right V x y F T p) (h' : right V' x' y' F' T' p') (e : recS V x y F T p = recS V' x' y' F' T' p') : V = V' ∧ x = x' ∧ y = y' ∧ F = F' ∧ T = T' ∧ p = p' := by
  obtain ⟨_, a0, a1, a2, a3⟩ := right_told h
  obtain ⟨_, b0, b1, b2, b3⟩ := right_told h'
  have sx := right_size h
  have sx' := right_size h'
  have ev : V = V' := by rw [← a0, ← b0, e]
  refine ⟨ev, ?_, ?_, by rw [← a2, ← b2, e], by rw [← a3, ← b3, e], by rw [← a1, ← b1, e]⟩
  · rw [← recS_src V x y F T p (by omega), ← recS_src V' x' y' F' T' p' (by omega), sx.1, sx'.1, e, ev]
  · rw [← recS_dst V x y F T p (by omega), ← recS_dst V' x' y' F' T' p' (by omega), sx.2.1, sx'.2.1, e, ev]
end
/-- What stands in a record that may be a key's is one. -/
theorem okR_right (s : ByteArray) (hs : s.size = 38) (h : okR s) (n : Nat) (hn : addr (gv s 0 1 : Nat) = n) : right (gv s 0 1 : Nat) (s.extract 6 (6 + n)) (s.extract 22 (22 + n)) (gv s 2 2 : Nat) (gv s 4 2 : Nat) (gv s 1 1 : Nat) := by
  have l2 := gv_lt s 2 2 (by omega)
  have l4 := gv_lt s 4 2 (by omega)
  obtain ⟨h1, h2⟩ := h
  change gv s 0 1 = 4 ∨ gv s 0 1 = 6 at h1
  change gv s 1 1 = 6 ∨ gv s 1 1 = 17 at h2
  refine ⟨?_, by omega, by omega, by omega⟩
  unfold addr at hn
  rcases h1 with e | e
  · rw [e, if_pos (by rfl)] at hn
    rw [ext_size _ _ _ (by omega), ext_size _ _ _ (by omega)]
    omega
  · rw [e, if_neg (by omega), if_pos (by rfl)] at hn
    rw [ext_size _ _ _ (by omega), ext_size _ _ _ (by omega)]
    omega
theorem okR_addr (s : ByteArray) (h : okR s) : 1 ≤ addr (gv s 0 1 : Nat) ∧ addr (gv s 0 1 : Nat) ≤ 16 := by
  unfold addr
  rcases h.1 with e | e
  · rw [show gv s 0 1 = 4 from e]; decide
  · rw [show gv s 0 1 = 6 from e]; decide

theorem text_cmp (x y : ByteArray) : (x.toList == y.toList) = decide (x = y) := by
  rw [ByteArray.toList_eq, ByteArray.toList_eq]
  by_cases e : x = y
  · rw [e, decide_eq_true rfl]; exact beq_self_eq_true _
  · rw [decide_eq_false e]; exact beq_false_of_ne fun h => e (ba_ext h)
/-- How two keys are compared. -/
theorem key_cmp (V : Int) (x y : ByteArray) (F T p V' : Int) (x' y' : ByteArray) (F' T' p' : Int) (b : Bool) (h : (V = V' ∧ x = x' ∧ y = y' ∧ F = F' ∧ T = T' ∧ p = p') ↔ b = true) (W : World) :
    (Op.equalIn 10000 24 (keyV V x y F T p) (keyV V' x' y' F' T' p')).run Try.prog W = .ok b W := by
  have hx := text_cmp x x'
  have hy := text_cmp y y'
  go_simp
  cases b <;> (repeat' split) <;> simp_all

/-- A packet, as a value. -/
abbrev pktC (V : Int) (x y : ByteArray) (F T p f : Int) : Array Value := #[.int .i64 V, .string x, .string y, .int .i64 F, .int .i64 T, .int .i64 p, .int .i64 f]
abbrev pktV (V : Int) (x y : ByteArray) (F T p f : Int) : Value := .agg (pktC V x y F T p f)
/-- How two packets are compared. -/
theorem pkt_cmp (V : Int) (x y : ByteArray) (F T p f V' : Int) (x' y' : ByteArray) (F' T' p' f' : Int) (b : Bool) (h : (V = V' ∧ x = x' ∧ y = y' ∧ F = F' ∧ T = T' ∧ p = p' ∧ f = f') ↔ b = true) (W : World) :
    (Op.equalIn 10000 26 (pktV V x y F T p f) (pktV V' x' y' F' T' p' f')).run Try.prog W = .ok b W := by
  have hx := text_cmp x x'
  have hy := text_cmp y y'
  go_simp
  cases b <;> (repeat' split) <;> simp_all
end Go.Proofs.Ytcdgcjpdlhknoaa.Pkt
