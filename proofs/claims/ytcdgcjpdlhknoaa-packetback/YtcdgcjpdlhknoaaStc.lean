/-
  Statements whose parameters are keys and packets: how such a value is opened to its fields, and that it reads the same in any world.
-/
import Derived.Test.YtcdgcjpdlhknoaaProg
import Derived.ProofKit
import Derived.OpenShut
import Derived.ChangeMaps5
import Derived.Deep.Strs
import Derived.Deep.Slices
namespace Go.Proofs.Ytcdgcjpdlhknoaa.Stc
open Go.ChangeShapes Go.WideShapes Go.RowKit
variable {H : Type} {enc : TypeId × Value → H} {w : World} {base : Nat} {spare : Nat → Bool} {held : Bool}

/-- What its fields keep to. -/
structure KeyOk (V : Int) (x y : ByteArray) (F T p : Int) : Prop where
  v : (Lit.int .i64 V).wf = true
  x : x.size ≤ maxLen
  y : y.size ≤ maxLen
  f : (Lit.int .i64 F).wf = true
  t : (Lit.int .i64 T).wf = true
  p : (Lit.int .i64 p).wf = true
/-- A key's datum. -/
abbrev keyD (V : Int) (x y : ByteArray) (F T p : Int) : DataW H := .agg [.lit (.int .i64 V), .lit (.string x.data.toList), .lit (.string y.data.toList), .lit (.int .i64 F), .lit (.int .i64 T), .lit (.int .i64 p)]
abbrev keyL (V : Int) (x y : ByteArray) (F T p : Int) : List Value := [.int .i64 V, .string x, .string y, .int .i64 F, .int .i64 T, .int .i64 p]

set_option maxRecDepth 100000 in
theorem key_under : ∃ f0 f1 f2 f3 f4 f5 : Field, Try.prog.underlying 24 = some (.struct #[f0, f1, f2, f3, f4, f5]) ∧
    (f0.type = 3 ∧ f0.offset = 0) ∧ (f1.type = 9 ∧ f1.offset = 1) ∧ (f2.type = 9 ∧ f2.offset = 2) ∧ (f3.type = 3 ∧ f3.offset = 3) ∧ (f4.type = 3 ∧ f4.offset = 4) ∧ (f5.type = 3 ∧ f5.offset = 5) :=
  ⟨_, _, _, _, _, _, Try.underlying24, ⟨rfl, rfl⟩, ⟨rfl, rfl⟩, ⟨rfl, rfl⟩, ⟨rfl, rfl⟩, ⟨rfl, rfl⟩, ⟨rfl, rfl⟩⟩
theorem key_size : Try.prog.cellsOf 24 = 6 := by kernel_rfl
theorem int_size : Try.prog.cellsOf 3 = 1 := by kernel_rfl
theorem str_size : Try.prog.cellsOf 9 = 1 := by kernel_rfl

set_option maxRecDepth 100000 in
/-- A key is opened. -/
theorem trod_key {fuel : Nat} {cs : List Value} {d : DataW H × List MemPlace} (h : DataW.trod enc Try.prog w base spare held fuel 24 cs = some d) :
    ∃ (V : Int) (x y : ByteArray) (F T p : Int), cs = keyL V x y F T p ∧ d = (keyD V x y F T p, []) ∧ KeyOk V x y F T p := by
  obtain ⟨f0, f1, f2, f3, f4, f5, hu, ⟨t0, o0⟩, ⟨t1, o1⟩, ⟨t2, o2⟩, ⟨t3, o3⟩, ⟨t4, o4⟩, ⟨t5, o5⟩⟩ := key_under
  obtain ⟨ys, n, _, rfl, hl, hn, hf⟩ := DataW.trod_struct hu h
  rw [key_size] at hl
  match cs, hl with
  | [c0, c1, c2, c3, c4, c5], _ =>
    match ys, hn with
    | [y0, y1, y2, y3, y4, y5], _ =>
      have g0 := hf 0 f0 rfl
      have g1 := hf 1 f1 rfl
      have g2 := hf 2 f2 rfl
      have g3 := hf 3 f3 rfl
      have g4 := hf 4 f4 rfl
      have g5 := hf 5 f5 rfl
      rw [t0, o0, int_size] at g0
      rw [t1, o1, str_size] at g1
      rw [t2, o2, str_size] at g2
      rw [t3, o3, int_size] at g3
      rw [t4, o4, int_size] at g4
      rw [t5, o5, int_size] at g5
      obtain ⟨V, e0, r0, w0⟩ := DataW.trod_int Try.underlying3 (x := y0) g0
      obtain ⟨x, e1, r1, w1⟩ := DataW.trod_string Try.underlying9 (x := y1) g1
      obtain ⟨y, e2, r2, w2⟩ := DataW.trod_string Try.underlying9 (x := y2) g2
      obtain ⟨F, e3, r3, w3⟩ := DataW.trod_int Try.underlying3 (x := y3) g3
      obtain ⟨T, e4, r4, w4⟩ := DataW.trod_int Try.underlying3 (x := y4) g4
      obtain ⟨p, e5, r5, w5⟩ := DataW.trod_int Try.underlying3 (x := y5) g5
      simp only [List.drop_succ_cons, List.drop_zero, List.take_succ_cons, List.take_zero, List.cons.injEq, and_true] at e0 e1 e2 e3 e4 e5
      subst e0 e1 e2 e3 e4 e5 r0 r1 r2 r3 r4 r5
      exact ⟨V, x, y, F, T, p, rfl, rfl, w0, w1, w2, w3, w4, w5⟩
set_option maxRecDepth 100000 in
/-- It reads so in any world. -/
theorem trod_key_mk {V : Int} {x y : ByteArray} {F T p : Int} (h : KeyOk V x y F T p) : DataW.trod enc Try.prog w base spare held 2 24 (keyL V x y F T p) = some (keyD V x y F T p, []) := by
  obtain ⟨f0, f1, f2, f3, f4, f5, hu, ⟨t0, o0⟩, ⟨t1, o1⟩, ⟨t2, o2⟩, ⟨t3, o3⟩, ⟨t4, o4⟩, ⟨t5, o5⟩⟩ := key_under
  have hi : ∀ {n : Int}, (Lit.int .i64 n).wf = true → DataW.trod enc Try.prog w base spare held 1 3 [.int .i64 n] = some (.lit (.int .i64 n), []) := fun hw => trod_int_mk 0 Try.underlying3 hw
  have hs : ∀ {s : ByteArray}, s.size ≤ maxLen → DataW.trod enc Try.prog w base spare held 1 9 [.string s] = some (.lit (.string s.data.toList), []) := fun hw => by simp [DataW.trod, Try.underlying9, hw]
  have := trod_struct_mk (enc := enc) (P := Try.prog) (w := w) (base := base) (spare := spare) (held := held) (n := 1) (cs := keyL V x y F T p)
    (xs := [(.lit (.int .i64 V), []), (.lit (.string x.data.toList), []), (.lit (.string y.data.toList), []), (.lit (.int .i64 F), []), (.lit (.int .i64 T), []), (.lit (.int .i64 p), [])]) hu (by rw [key_size]; rfl)
    (by simp [t0, o0, t1, o1, t2, o2, t3, o3, t4, o4, t5, o5, int_size, str_size, hi h.v, hs h.x, hs h.y, hi h.f, hi h.t, hi h.p])
  simpa using this

set_option maxRecDepth 100000 in
/-- A parameter that is a key. -/
theorem open_key {r : Reach} {b0 : Nat} {v : Value} {d : DataW H} {ps : List MemPlace} (hv : Value.okWide Try.prog w r b0 24 v) (h : DataW.Trod enc Try.prog w base spare held 24 v d ps) :
    ∃ (V : Int) (x y : ByteArray) (F T p : Int), v = .agg #[.int .i64 V, .string x, .string y, .int .i64 F, .int .i64 T, .int .i64 p] ∧ d = keyD V x y F T p ∧ ps = [] ∧ KeyOk V x y F T p := by
  obtain ⟨cs, rfl, hz⟩ := okWide_struct Try.underlying24 hv
  obtain ⟨fuel, hf⟩ := h
  obtain ⟨V, x, y, F, T, p, hc, hd, hk⟩ := trod_key hf
  simp only [Prod.mk.injEq] at hd
  refine ⟨V, x, y, F, T, p, ?_, hd.1, hd.2, hk⟩
  cases cs
  simp [Value.cells] at hc
  rw [hc]
theorem shut_key {V : Int} {x y : ByteArray} {F T p : Int} (h : KeyOk V x y F T p) : DataW.Trod enc Try.prog w base spare held 24 (.agg #[.int .i64 V, .string x, .string y, .int .i64 F, .int .i64 T, .int .i64 p]) (keyD V x y F T p) [] := ⟨2, trod_key_mk h⟩

/-- A packet's datum. -/
abbrev pktD (V : Int) (x y : ByteArray) (F T p f : Int) : DataW H := .agg [keyD V x y F T p, .lit (.int .i64 f)]
theorem pkt_size : Try.prog.cellsOf 26 = 7 := by kernel_rfl
set_option maxRecDepth 100000 in
theorem pkt_under : ∃ f0 f1 : Field, Try.prog.underlying 26 = some (.struct #[f0, f1]) ∧ (f0.type = 24 ∧ f0.offset = 0) ∧ (f1.type = 3 ∧ f1.offset = 6) :=
  ⟨_, _, Try.underlying26, ⟨rfl, rfl⟩, ⟨rfl, rfl⟩⟩
set_option maxRecDepth 100000 in
/-- A parameter that is a packet. -/
theorem open_pkt {r : Reach} {b0 : Nat} {v : Value} {d : DataW H} {ps : List MemPlace} (hv : Value.okWide Try.prog w r b0 26 v) (h : DataW.Trod enc Try.prog w base spare held 26 v d ps) :
    ∃ (V : Int) (x y : ByteArray) (F T p f : Int), v = .agg #[.int .i64 V, .string x, .string y, .int .i64 F, .int .i64 T, .int .i64 p, .int .i64 f] ∧ d = pktD V x y F T p f ∧ ps = [] ∧ KeyOk V x y F T p ∧ (Lit.int .i64 f).wf = true := by
  obtain ⟨f0, f1, hu, ⟨t0, o0⟩, ⟨t1, o1⟩⟩ := pkt_under
  obtain ⟨cs, rfl, hz⟩ := okWide_struct hu hv
  obtain ⟨fuel, hf⟩ := h
  obtain ⟨y0, y1, n, hx, hl, g0, g1⟩ := trod_struct2 hu hf
  rw [t0, o0, key_size] at g0
  rw [t1, o1, int_size] at g1
  rw [pkt_size] at hz
  obtain ⟨l⟩ := cs
  match l, hz with
  | [c0, c1, c2, c3, c4, c5, c6], _ =>
    obtain ⟨V, x, y, F, T, p, hc, hd, hk⟩ := trod_key g0
    obtain ⟨f, e1, r1, w1⟩ := DataW.trod_int Try.underlying3 g1
    simp only [Value.cells, List.drop_zero, List.take_succ_cons, List.take_zero, List.cons.injEq, and_true] at hc
    simp only [Value.cells, List.drop_succ_cons, List.drop_zero, List.take_succ_cons, List.take_zero, List.cons.injEq, and_true] at e1
    obtain ⟨rfl, rfl, rfl, rfl, rfl, rfl⟩ := hc
    subst e1 hd r1
    simp only [Prod.mk.injEq] at hx
    exact ⟨V, x, y, F, T, p, f, rfl, hx.1, hx.2, hk, w1⟩
set_option maxRecDepth 100000 in
theorem shut_pkt {V : Int} {x y : ByteArray} {F T p f : Int} (h : KeyOk V x y F T p) (hf : (Lit.int .i64 f).wf = true) : DataW.Trod enc Try.prog w base spare held 26 (.agg #[.int .i64 V, .string x, .string y, .int .i64 F, .int .i64 T, .int .i64 p, .int .i64 f]) (pktD V x y F T p f) [] := by
  obtain ⟨f0, f1, hu, ⟨t0, o0⟩, ⟨t1, o1⟩⟩ := pkt_under
  have := trod_struct2_mk (enc := enc) (P := Try.prog) (w := w) (base := base) (spare := spare) (held := held) (n := 2) (cs := [.int .i64 V, .string x, .string y, .int .i64 F, .int .i64 T, .int .i64 p, .int .i64 f]) hu (by rw [pkt_size]; rfl)
    (by rw [t0, o0, key_size]; exact trod_key_mk h) (by rw [t1, o1, int_size]; exact trod_int_mk 1 Try.underlying3 hf)
  exact ⟨3, this⟩
end Go.Proofs.Ytcdgcjpdlhknoaa.Stc
