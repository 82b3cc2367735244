/-
  Package packet: a record's bytes in an array: how copy and clear fill it; fill.
-/
import Derived.Test.YtcdgcjpdlhknoaaTxt
import Derived.Test.YtcdgcjpdlhknoaaRgnJ
import Derived.Laws.CopyRow
import Derived.Laws.CopyOwn
import Derived.Laws.BytesArg
import Derived.Lib.UnsafeStr
import Derived.Lib.Strings
namespace Go.Proofs.Ytcdgcjpdlhknoaa.Pkt
open Go.RowKit Go.Shelf Txt Rgn
open Lib (byteCells)

theorem cells_append (a b : List UInt8) : byteCells (a ++ b) = byteCells a ++ byteCells b := by simp [byteCells]
theorem cells_length (l : List UInt8) : (byteCells l).length = l.length := by simp [byteCells]
theorem cells_take (l : List UInt8) (n : Nat) : (byteCells l).take n = byteCells (l.take n) := by simp [byteCells, List.map_take]
theorem cells_drop (l : List UInt8) (n : Nat) : (byteCells l).drop n = byteCells (l.drop n) := by simp [byteCells, List.map_drop]
theorem cells_small (l : List UInt8) : ∀ v ∈ byteCells l, v.oneCell' = true := by
  intro v hv
  obtain ⟨b, _, rfl⟩ := List.mem_map.1 hv
  rfl
theorem cells_zero (n : Nat) : List.replicate n (Value.int .u8 0) = byteCells (List.replicate n 0) := by simp [byteCells]

/-- The array of a record lies in a block, with these bytes. -/
def Rec (W : World) (b : Nat) (L : List UInt8) : Prop := W.heap[b]? = some (.cells (byteCells L).toArray 71 (0, 0))
/-- The world in which it has these. -/
def recW (W : World) (b : Nat) (L : List UInt8) : World := W.setRow b (byteCells L).toArray
theorem Rec.turned {W : World} {b : Nat} {L : List UInt8} (h : Rec W b L) (M : List UInt8) : Rec (recW W b M) b M := setRow_heap W b _ _ _ _ h
theorem Rec.kept {W W' : World} {b : Nat} {L : List UInt8} (h : Rec W b L) (hb : Below W.heap.size W W') : Rec W' b L := (hb.block b (Array.getElem?_eq_some_iff.1 h).1).trans h
theorem recW_twice (W : World) (b : Nat) (L M : List UInt8) : recW (recW W b L) b M = recW W b M := setRow_setRow W b _ _
theorem recW_other (W : World) (b k : Nat) (L : List UInt8) (h : k ≠ b) : (recW W b L).heap[k]? = W.heap[k]? := setRow_other W b k _ h
theorem recW_size (W : World) (b : Nat) (L : List UInt8) : (recW W b L).heap.size = W.heap.size := by simp [recW, World.setRow]
theorem recW_below (W : World) (b : Nat) (L : List UInt8) : Below b W (recW W b L) := below_setRow (Below.refl b W) (Nat.le_refl b) _

/-- L with bytes M from a place on. -/
def lay (L : List UInt8) (o : Nat) (M : List UInt8) : List UInt8 := L.take o ++ (M ++ L.drop (o + M.length))
theorem lay_length (L : List UInt8) (o : Nat) (M : List UInt8) (h : o + M.length ≤ L.length) : (lay L o M).length = L.length := by simp [lay]; omega
theorem lay_lay (L : List UInt8) (o : Nat) (M K : List UInt8) (h : o + M.length + K.length ≤ L.length) : lay (lay L o M) (o + M.length) K = lay L o (M ++ K) := by
  have ho : (L.take o).length = o := by rw [List.length_take]; omega
  unfold lay
  rw [← List.append_assoc (L.take o) M, List.take_append_of_le_length (by simp; omega), List.take_of_length_le (by simp; omega), List.drop_append, List.drop_eq_nil_of_le (by simp; omega), List.nil_append, List.drop_drop]
  simp only [List.length_append, ho, List.append_assoc]
  congr 4; omega
/-- As many bytes of l as n, and zeros behind. -/
def pad (n : Nat) (l : List UInt8) : List UInt8 := l.take n ++ List.replicate (n - l.length) 0
theorem pad_length (n : Nat) (l : List UInt8) : (pad n l).length = n := by simp [pad]; omega
theorem pad_long (n : Nat) (l : List UInt8) (h : n ≤ l.length) : pad n l = l.take n := by unfold pad; rw [show n - l.length = 0 by omega]; simp
theorem pad_short (n : Nat) (l : List UInt8) (h : l.length ≤ n) : pad n l = l ++ List.replicate (n - l.length) 0 := by unfold pad; rw [List.take_of_length_le h]

theorem u8_size : (Try.prog.info? 5).map (·.size) = some 1 := by kernel_rfl

/-- A text is copied over a part of a record: as much of it as fits. -/
theorem run_copy_rec (W : World) (b : Nat) (L : List UInt8) (h : Rec W b L) (sT ty : TypeId) (o n c : Nat) (hn : o + n ≤ L.length) (s : ByteArray) :
    (Builtin.copy_ #[74, sT] ty #[.slice (some ⟨b, o, none⟩) n c, .string s]).run Try.prog W = .ok (goInt (s.data.toList.take n).length) (recW W b (lay L o (s.data.toList.take n))) := by
  have hst := run_storeCells_at (P := Try.prog) b o 71 (byteCells (s.data.toList.take n)) 0 (byteCells L).toArray W h (by simp [cells_length]; omega) (cells_small _)
  have hm : Nat.min s.size n = (s.data.toList.take n).length := by rw [List.length_take, len_list]; exact Nat.min_comm _ _
  have htk : List.take (s.data.toList.take n).length (List.map (fun b : UInt8 => Value.int IntKind.u8 (b.toNat : Int)) s.data.toList) = byteCells (s.data.toList.take n) := by
    rw [← List.map_take, List.length_take, ← List.take_take, List.take_of_length_le (Nat.le_refl s.data.toList.length)]
    rfl
  simp only [Nat.add_zero, cells_length] at hst
  have he : recW W b (lay L o (s.data.toList.take n)) = W.setRow b ((byteCells L).toArray.toList.take o ++ byteCells (s.data.toList.take n) ++ (byteCells L).toArray.toList.drop (o + (s.data.toList.take n).length)).toArray := by
    unfold recW lay
    rw [cells_append, cells_append, ← cells_take, ← cells_drop, List.append_assoc]
  rw [he]
  cases hq : Try.prog.info? 5 with
  | none => have := u8_size; simp [hq] at this
  | some i =>
    simp [Builtin.copy_, run_underlying Try.underlying74, Builtin.lenOf, Builtin.firstCells, sizeOf, typeInfo, hq]
    rw [hm, htk, hst]
    simp [Result.andThen]

/-- Nothing is cleared where no place is left. -/
theorem run_clear_none (W : World) (ty : TypeId) (a : Option Addr) (c : Nat) : (Builtin.clear_ #[74] ty #[.slice a 0 c]).run Try.prog W = .ok (.tuple #[]) W := by
  cases a <;> simp [Builtin.clear_, run_underlying Try.underlying74]
/-- A part of a record is cleared. -/
theorem run_clear_rec (W : World) (b : Nat) (L : List UInt8) (h : Rec W b L) (ty : TypeId) (o n c : Nat) (h0 : 0 < n) (hn : o + n ≤ L.length) :
    (Builtin.clear_ #[74] ty #[.slice (some ⟨b, o, none⟩) n c]).run Try.prog W = .ok (.tuple #[]) (recW W b (lay L o (List.replicate n 0))) := by
  have hz : ∀ w, (zeroValue 5).run Try.prog w = .ok (.int .u8 0) w := fun w => by kernel_rfl
  have hst := run_storeCells_at (P := Try.prog) b o 71 (byteCells (List.replicate n 0)) 0 (byteCells L).toArray W h (by simp [cells_length]; omega) (cells_small _)
  have hzc : (Builtin.zeroCells (Value.int .u8 0).cells n).toList = byteCells (List.replicate n 0) := by
    rw [← cells_zero]
    apply List.ext_getElem
    · simp [Builtin.zeroCells, Value.cells]
    · intro i h1 h2
      simp [Builtin.zeroCells, Value.cells, Nat.mod_one]
  simp only [Nat.add_zero, cells_length, List.length_replicate] at hst
  have he : recW W b (lay L o (List.replicate n 0)) = W.setRow b ((byteCells L).toArray.toList.take o ++ byteCells (List.replicate n 0) ++ (byteCells L).toArray.toList.drop (o + n)).toArray := by
    unfold recW lay
    rw [cells_append, cells_append, ← cells_take, ← cells_drop, List.append_assoc, List.length_replicate]
  rw [he]
  obtain ⟨m, rfl⟩ : ∃ m, n = m + 1 := ⟨n - 1, by omega⟩
  simp [Builtin.clear_, run_underlying Try.underlying74, hz, hzc, hst]

set_option maxRecDepth 100000 in
set_option maxHeartbeats 1000000 in
/-- fill lays a text into a part of a record, and zeros behind it. -/
theorem fill_any (b o n c : Nat) (s : ByteArray) (L : List UInt8) (hn : o + n ≤ L.length) (hc : n ≤ c) (w : World) (h : Rec w b L) :
    Calls Try.prog 69 #[.slice (some ⟨b, o, none⟩) n c, .string s] w fun e W' => e = .returned (.tuple #[]) ∧ W' = recW w b (lay L o (pad n s.data.toList)) := by
  have e1 := fun sT ty => run_copy_rec w b L h sT ty o n c hn s
  have hl : (s.data.toList.take n).length = min n s.size := by rw [List.length_take, len_list]
  by_cases hk : n ≤ s.size
  · have e2 : (s.data.toList.take n).length = n := by omega
    rw [e2] at e1
    have e3 := fun ty a c' => run_clear_none (recW w b (lay L o (s.data.toList.take n))) ty a c'
    have E := Lib.hid (show pad n s.data.toList = s.data.toList.take n from pad_long _ _ (by rw [len_list]; exact hk))
    clear hl e2
    generalize s.data.toList.take n = M at *
    go_enter Try.func69, Try.ntmps69
    go_wp2_with fail
    all_goals (go_end0; exact ⟨rfl, by rw [E.out]⟩)
  · have hk2 : s.size < n := by omega
    have e0 : s.data.toList.take n = s.data.toList := List.take_of_length_le (by rw [len_list]; omega)
    have e2 : s.data.toList.length = s.size := len_list s
    rw [e0, e2] at e1
    have hr : Rec (recW w b (lay L o s.data.toList)) b (lay L o s.data.toList) := h.turned _
    have e3 := fun ty c' => run_clear_rec (recW w b (lay L o s.data.toList)) b _ hr ty (o + s.size) (n - s.size) c' (by omega) (by rw [lay_length _ _ _ (by omega)]; omega)
    have e4 := lay_lay L o s.data.toList (List.replicate (n - s.size) 0) (by rw [List.length_replicate]; omega)
    rw [e2] at e4
    rw [recW_twice, e4] at e3
    have E := Lib.hid (show pad n s.data.toList = s.data.toList ++ List.replicate (n - s.size) 0 from by rw [pad_short _ _ (by omega), e2])
    clear hl hr e0 e2 e4 h
    generalize s.data.toList ++ List.replicate (n - s.size) 0 = M at *
    generalize lay L o s.data.toList = K at *
    go_enter Try.func69, Try.ntmps69
    go_wp2_with fail
    go_end0
    exact ⟨rfl, by rw [E.out]⟩
end Go.Proofs.Ytcdgcjpdlhknoaa.Pkt
