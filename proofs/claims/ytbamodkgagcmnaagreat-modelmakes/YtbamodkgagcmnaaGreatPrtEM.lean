/-
  Package port: plain facts on heads (what is put has the numbers that it was put with, what stands behind makes no difference), and its calls as the laws meet them.
-/
import Derived.Test.YtbamodkgagcmnaaGreatPrtDM
set_option maxRecDepth 100000
namespace Go.Proofs.YtbamodkgagcmnaaGreat.Prt
open Go.RowKit Go.Shelf Txt
open Oct (num num_bytes bytes_length)

/-- A text that begins with a head of a protocol. -/
def good (p : Int) (s : ByteArray) : Prop := (p = 6 ∧ 20 ≤ s.size ∧ 20 ≤ sizeT s ∧ sizeT s ≤ s.size) ∨ (p = 17 ∧ 8 ≤ s.size ∧ 8 ≤ sizeU s ∧ sizeU s ≤ s.size)
/-- The flags that stand in it. -/
def flagsOf (p : Int) (s : ByteArray) : Nat := if p = 6 then gv s 13 1 else 0
theorem flagsOf_tcp (s : ByteArray) : flagsOf 6 s = gv s 13 1 := if_pos rfl
theorem flagsOf_udp (s : ByteArray) : flagsOf 17 s = 0 := if_neg (by omega)
/-- The error of a text that begins with none. -/
def errOf (p : Int) (s : ByteArray) : Int := if p = 6 then (if s.size < 20 then 2 else 8) else if p = 17 then (if s.size < 8 then 2 else 4) else 7
/-- What stands behind a head makes no difference. -/
theorem good_app (p : Int) (s b : ByteArray) (h : good p s) : good p (s ++ b) ∧ gv (s ++ b) 0 2 = gv s 0 2 ∧ gv (s ++ b) 2 2 = gv s 2 2 ∧ flagsOf p (s ++ b) = flagsOf p s := by
  have hz : (s ++ b).size = s.size + b.size := ByteArray.size_append
  rcases h with ⟨rfl, h0, h1, h2⟩ | ⟨rfl, h0, h1, h2⟩
  · have e : sizeT (s ++ b) = sizeT s := by unfold sizeT; rw [gv_app s b 12 1 (by omega)]
    exact ⟨.inl ⟨rfl, by omega, by omega, by omega⟩, gv_app s b 0 2 (by omega), gv_app s b 2 2 (by omega), by rw [flagsOf_tcp, flagsOf_tcp, gv_app s b 13 1 (by omega)]⟩
  · have e : sizeU (s ++ b) = sizeU s := by unfold sizeU; rw [gv_app s b 4 2 (by omega)]
    exact ⟨.inr ⟨rfl, by omega, by omega, by omega⟩, gv_app s b 0 2 (by omega), gv_app s b 2 2 (by omega), by rw [flagsOf_udp, flagsOf_udp]⟩

/-- Numbers that can be put. -/
def fit (p x y f : Int) : Prop := (p = 6 ∨ p = 17) ∧ (0 ≤ x ∧ x ≤ 65535) ∧ (0 ≤ y ∧ y ≤ 65535) ∧ 0 ≤ f ∧ (p = 6 → f ≤ 255) ∧ (p = 17 → f = 0)
/-- What is put of them. -/
def putS (p x y f : Int) : ByteArray := if p = 6 then putT x y f else putU x y
theorem putS_tcp (x y f : Int) : putS 6 x y f = putT x y f := if_pos rfl
theorem putS_udp (x y f : Int) : putS 17 x y f = putU x y := if_neg (by omega)
theorem putT_list (x y f : Int) : (putT x y f).data.toList = Oct.bytes x.toNat 2 ++ (Oct.bytes y.toNat 2 ++ ([0, 0, 0, 0, 0, 0, 0, 0, 80] ++ (Oct.bytes f.toNat 1 ++ [0, 0, 0, 0, 0, 0]))) := rfl
theorem putU_list (x y : Int) : (putU x y).data.toList = Oct.bytes x.toNat 2 ++ (Oct.bytes y.toNat 2 ++ [0, 8, 0, 0]) := rfl
theorem putT_size (x y f : Int) : (putT x y f).size = 20 := by rw [← len_list, putT_list]; rfl
theorem putU_size (x y : Int) : (putU x y).size = 8 := by rw [← len_list, putU_list]; rfl
/-- How many bytes are put. -/
def most (p : Int) : Nat := if p = 6 then 20 else 8
theorem putS_size (p x y f : Int) : (putS p x y f).size = most p := by
  unfold putS most
  split
  · exact putT_size x y f
  · exact putU_size x y

theorem putT_nums (x y f : Int) (hx : 0 ≤ x ∧ x ≤ 65535) (hy : 0 ≤ y ∧ y ≤ 65535) (hf : 0 ≤ f ∧ f ≤ 255) :
    sizeT (putT x y f) = 20 ∧ gv (putT x y f) 0 2 = x.toNat ∧ gv (putT x y f) 2 2 = y.toNat ∧ gv (putT x y f) 13 1 = f.toNat := by
  refine ⟨?_, ?_, ?_, ?_⟩
  · unfold sizeT gv
    rw [putT_list]
    have e : num (((Oct.bytes x.toNat 2 ++ (Oct.bytes y.toNat 2 ++ ([0, 0, 0, 0, 0, 0, 0, 0, 80] ++ (Oct.bytes f.toNat 1 ++ [0, 0, 0, 0, 0, 0])))).drop 12).take 1) = 80 := rfl
    rw [e]
  · unfold gv
    rw [putT_list]
    show num (Oct.bytes x.toNat 2) = _
    rw [num_bytes]; omega
  · unfold gv
    rw [putT_list]
    show num (Oct.bytes y.toNat 2) = _
    rw [num_bytes]; omega
  · unfold gv
    rw [putT_list]
    show num (Oct.bytes f.toNat 1) = _
    rw [num_bytes]; omega
theorem putU_nums (x y : Int) (hx : 0 ≤ x ∧ x ≤ 65535) (hy : 0 ≤ y ∧ y ≤ 65535) :
    sizeU (putU x y) = 8 ∧ gv (putU x y) 0 2 = x.toNat ∧ gv (putU x y) 2 2 = y.toNat := by
  refine ⟨?_, ?_, ?_⟩
  · unfold sizeU gv
    rw [putU_list]
    rfl
  · unfold gv
    rw [putU_list]
    show num (Oct.bytes x.toNat 2) = _
    rw [num_bytes]; omega
  · unfold gv
    rw [putU_list]
    show num (Oct.bytes y.toNat 2) = _
    rw [num_bytes]; omega
/-- What is put begins with a head, and has the numbers that it was put with. -/
theorem putS_parsed (p x y f : Int) (h : fit p x y f) : good p (putS p x y f) ∧ gv (putS p x y f) 0 2 = x.toNat ∧ gv (putS p x y f) 2 2 = y.toNat ∧ flagsOf p (putS p x y f) = f.toNat := by
  obtain ⟨hp, hx, hy, hf, h6, h17⟩ := h
  rcases hp with rfl | rfl
  · obtain ⟨n0, n1, n2, n3⟩ := putT_nums x y f hx hy ⟨hf, h6 rfl⟩
    have hz := putT_size x y f
    rw [putS_tcp, flagsOf_tcp]
    exact ⟨.inl ⟨rfl, by omega, by omega, by omega⟩, n1, n2, n3⟩
  · obtain ⟨n0, n1, n2⟩ := putU_nums x y hx hy
    have hz := putU_size x y
    have hf0 := h17 rfl
    rw [putS_udp, flagsOf_udp]
    exact ⟨.inr ⟨rfl, by omega, by omega, by omega⟩, n1, n2, by omega⟩
/-! The calls. -/
theorem Parse_good (p : Int) (s : ByteArray) (hs : s.size ≤ 1099511627776) (h : good p s) (w : World) :
    Calls Tryz.prog 185 #[.int .i64 p, .string s] w fun e W' => e = .returned (okV (gv s 0 2 : Nat) (gv s 2 2 : Nat) (flagsOf p s : Nat)) ∧ Below w.heap.size w W' := by
  rcases h with ⟨rfl, h0, h1, h2⟩ | ⟨rfl, h0, h1, h2⟩
  · rw [flagsOf_tcp]
    exact Parse_tcp_good s h0 hs h1 h2 w
  · rw [flagsOf_udp]
    exact Parse_udp_good s h0 hs h1 h2 w
/-- What Put answers of numbers that can be put, under a name of its own. -/
theorem Put_named (p x y f : Int) (h : fit p x y f) (w : World) :
    Calls Tryz.prog 118 #[.int .i64 p, .agg #[.int .i64 x, .int .i64 y, .int .i64 f]] w fun e W' => ∃ S : ByteArray, e = .returned (.tuple #[.string S, .int .i64 0]) ∧ S.size = most p ∧ Hid (S = putS p x y f) ∧ Below w.heap.size w W' := by
  have hz := putS_size p x y f
  obtain ⟨hp, hx, hy, hf, h6, h17⟩ := h
  rcases hp with rfl | rfl
  · rw [putS_tcp] at hz ⊢
    exact (Put_tcp_good x y f hx.1 hx.2 hy.1 hy.2 hf (h6 rfl) w).mono fun _ _ ⟨he, hb⟩ => ⟨_, he, hz, Lib.hid rfl, hb⟩
  · obtain rfl := h17 rfl
    rw [putS_udp] at hz ⊢
    exact (Put_udp_good x y hx.1 hx.2 hy.1 hy.2 w).mono fun _ _ ⟨he, hb⟩ => ⟨_, he, hz, Lib.hid rfl, hb⟩
/-- The error of numbers that can't be put. -/
def errP (p : Int) : Int := if p = 6 ∨ p = 17 then 1 else 7
/-- What is put is parsed, whatever stands behind it. -/
theorem Parse_put (S b : ByteArray) (p x y f : Int) (h : fit p x y f) (hb : b.size ≤ 1000000) (hS : Hid (S = putS p x y f)) (w : World) :
    Calls Tryz.prog 185 #[.int .i64 p, .string (S ++ b)] w fun e W' => e = .returned (okV x y f) ∧ Below w.heap.size w W' := by
  rw [hS.out]
  have hz := putS_size p x y f
  have hm : most p ≤ 20 := by unfold most; split <;> omega
  obtain ⟨k0, k1, k2, k3⟩ := putS_parsed p x y f h
  obtain ⟨g0, g1, g2, g3⟩ := good_app p (putS p x y f) b k0
  have hc := Parse_good p (putS p x y f ++ b) (by rw [ByteArray.size_append]; omega) g0 w
  obtain ⟨_, hx, hy, hf, _, _⟩ := h
  rw [g1, g2, g3, k1, k2, k3, Int.toNat_of_nonneg hx.1, Int.toNat_of_nonneg hy.1, Int.toNat_of_nonneg hf] at hc
  exact hc
theorem Parse_put0 (S : ByteArray) (p x y f : Int) (h : fit p x y f) (hS : Hid (S = putS p x y f)) (w : World) :
    Calls Tryz.prog 185 #[.int .i64 p, .string S] w fun e W' => e = .returned (okV x y f) ∧ Below w.heap.size w W' := by
  have h := Parse_put S ⟨#[]⟩ p x y f h (by decide) hS w
  rwa [app_nil] at h
/-- A variable that holds a head. -/
def Headed (W : World) (b : Nat) (x y f : Int) : Prop := W.heap[b]? = some (.cells #[.int .i64 x, .int .i64 y, .int .i64 f] 178 (0, 0))
theorem headed_new (W : World) (x y f : Int) : Headed (W.alloc (.cells #[.int .i64 x, .int .i64 y, .int .i64 f] 178)) W.heap.size x y f := World.alloc_heap_new W _
theorem Headed.kept {W W' : World} {b : Nat} {x y f : Int} (h : Headed W b x y f) (hb : Below W.heap.size W W') : Headed W' b x y f := (hb.block b (Array.getElem?_eq_some_iff.1 h).1).trans h
theorem Headed.alloc {W : World} {b : Nat} {x y f : Int} (h : Headed W b x y f) (o : Obj) : Headed (W.alloc o) b x y f := h.kept (below_alloc W o)
theorem Headed.cells {W : World} {b : Nat} {x y f : Int} (h : Headed W b x y f) : W.cell? ⟨b, 0, none⟩ = some (.int .i64 x) ∧ W.cell? ⟨b, 1, none⟩ = some (.int .i64 y) ∧ W.cell? ⟨b, 2, none⟩ = some (.int .i64 f) :=
  ⟨(head_cells h).1, (head_cells h).2.1, (head_cells h).2.2.1⟩
end Go.Proofs.YtbamodkgagcmnaaGreat.Prt
