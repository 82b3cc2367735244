/-
  Statements whose parameters are configurations, operations with their times, and rows of such: how such a value is opened.
-/
import Derived.Test.YtbamodkgagcmnaaGreatBTabQ
import Derived.Test.YtbamodkgagcmnaaGreatRowNQ
import Derived.Test.YtbamodkgagcmnaaGreatBPolQ
import Derived.ProofKit
import Derived.OpenShut
import Derived.ChangeMaps5
import Derived.Deep.Strs
import Derived.Deep.Slices
import Derived.Test.YtbamodkgagcmnaaGreatMdlKQ
set_option maxRecDepth 100000
namespace Go.Proofs.YtbamodkgagcmnaaGreat.Mdo
open Go.ChangeShapes Go.WideShapes Go.RowKit Go.Shelf Go.Deep RowG

/-- A backend's two cells. -/
def bkK : Kind (Int × Int) := ⟨2, fun x => [.int .i64 x.1, .int .i64 x.2], by decide, fun _ => rfl, fun x u hu => by
  simp at hu; rcases hu with rfl | rfl <;> rfl⟩
def BkOk (x : Int × Int) : Prop := (Lit.int .i64 x.1).wf = true ∧ (Lit.int .i64 x.2).wf = true
/-- An operation and its time, as they lie. -/
structure StM where
  kd : Int
  pkt : ByteArray
  p : Option Addr
  c : Nat
  pool : List (Int × Int)
  sh : Int
  now : Int
instance : Inhabited StM := ⟨⟨0, ⟨#[]⟩, none, 0, [], 0, 0⟩⟩
abbrev stV (x : StM) : Value := .agg #[.int .i64 x.kd, .string x.pkt, .slice x.p x.pool.length x.c, .int .i64 x.sh, .int .i64 x.now]
def stK : Kind StM := ⟨5, fun x => [.int .i64 x.kd, .string x.pkt, .slice x.p x.pool.length x.c, .int .i64 x.sh, .int .i64 x.now], by decide, fun _ => rfl, fun x u hu => by
  simp at hu; rcases hu with rfl | rfl | rfl | rfl | rfl <;> rfl⟩
/-- Its operation alone. -/
def opK : Kind StM := ⟨4, fun x => [.int .i64 x.kd, .string x.pkt, .slice x.p x.pool.length x.c, .int .i64 x.sh], by decide, fun _ => rfl, fun x u hu => by
  simp at hu; rcases hu with rfl | rfl | rfl | rfl <;> rfl⟩
structure StOk (w : World) (x : StM) : Prop where
  kd : (Lit.int .i64 x.kd).wf = true
  pkt : x.pkt.size ≤ maxLen
  lies : RowG.Lies bkK w x.p x.c x.pool
  pool : ∀ y ∈ x.pool, BkOk y
  sh : (Lit.int .i64 x.sh).wf = true
  now : (Lit.int .i64 x.now).wf = true
/-- A row of backends is one as pools have it. -/
theorem pol_lies {W : World} {a : Option Addr} {c : Nat} {z : List (Int × Int)} (h : RowG.Lies bkK W a c z) : Pol.Lies W a c z :=
  ⟨h.max, h.len, fun hn => by
    obtain ⟨b, off, e, hc⟩ := h.cell hn
    exact ⟨b, off, e, fun i x hi => ⟨hc i x hi 0 _ rfl, hc i x hi 1 _ rfl⟩⟩⟩
section
variable {P : Program} {H : Type} {enc : TypeId × Value → H} {w : World} {base : Nat} {spare : Nat → Bool} {held : Bool} {e eo ti ts tl tb : TypeId} {f0 f1 f2 f3 h0 h1 g0' g1' : Field}
/-- A backend is opened. -/
theorem trod_bk (hu : P.underlying tb = some (.struct #[g0', g1'])) (ce : P.cellsOf tb = 2) (hi : P.underlying ti = some (.int .i64)) (ci : P.cellsOf ti = 1)
    (t0 : g0'.type = ti ∧ g0'.offset = 0) (t1 : g1'.type = ti ∧ g1'.offset = 1)
    (n : Nat) (cs : List Value) (x : DataW H × List MemPlace) (h : DataW.trod enc P w base spare held n tb cs = some x) : ∃ y : Int × Int, cs = bkK.enc y ∧ BkOk y := by
  obtain ⟨ys, k, _, rfl, hl, hn, hf⟩ := DataW.trod_struct hu h
  rw [ce] at hl
  match cs, hl with
  | [c0, c1], _ =>
    match ys, hn with
    | [y0, y1], _ =>
      have g0 := hf 0 g0' rfl
      have g1 := hf 1 g1' rfl
      rw [t0.1, t0.2, ci] at g0
      rw [t1.1, t1.2, ci] at g1
      obtain ⟨A, e0, _, w0⟩ := DataW.trod_int hi (x := y0) g0
      obtain ⟨B, e1, _, w1⟩ := DataW.trod_int hi (x := y1) g1
      simp at e0 e1
      subst e0; subst e1
      exact ⟨(A, B), rfl, w0, w1⟩
/-- An operation is opened. -/
theorem trod_op (hu : P.underlying eo = some (.struct #[f0, f1, f2, f3])) (ce : P.cellsOf eo = 4) (hi : P.underlying ti = some (.int .i64)) (ci : P.cellsOf ti = 1) (ht : P.underlying ts = some .string) (ct : P.cellsOf ts = 1) (hs : P.underlying tl = some (.slice tb)) (cs' : P.cellsOf tl = 1)
    (hb : P.underlying tb = some (.struct #[g0', g1'])) (cb : P.cellsOf tb = 2) (s0 : g0'.type = ti ∧ g0'.offset = 0) (s1 : g1'.type = ti ∧ g1'.offset = 1)
    (t0 : f0.type = ti ∧ f0.offset = 0) (t1 : f1.type = ts ∧ f1.offset = 1) (t2 : f2.type = tl ∧ f2.offset = 2) (t3 : f3.type = ti ∧ f3.offset = 3)
    (n : Nat) (cs : List Value) (x : DataW H × List MemPlace) (h : DataW.trod enc P w base spare held n eo cs = some x) : ∃ (kd : Int) (pkt : ByteArray) (p : Option Addr) (c : Nat) (z : List (Int × Int)) (sh : Int), cs = [.int .i64 kd, .string pkt, .slice p z.length c, .int .i64 sh] ∧ (Lit.int .i64 kd).wf = true ∧ pkt.size ≤ maxLen ∧ RowG.Lies bkK w p c z ∧ (∀ y ∈ z, BkOk y) ∧ (Lit.int .i64 sh).wf = true := by
  obtain ⟨ys, k, _, rfl, hl, hn, hf⟩ := DataW.trod_struct hu h
  rw [ce] at hl
  match cs, hl with
  | [c0, c1, c2, c3], _ =>
    match ys, hn with
    | [y0, y1, y2, y3], _ =>
      have g0 := hf 0 f0 rfl
      have g1 := hf 1 f1 rfl
      have g2 := hf 2 f2 rfl
      have g3 := hf 3 f3 rfl
      rw [t0.1, t0.2, ci] at g0
      rw [t1.1, t1.2, ct] at g1
      rw [t2.1, t2.2, cs'] at g2
      rw [t3.1, t3.2, ci] at g3
      obtain ⟨A, e0, _, w0⟩ := DataW.trod_int hi (x := y0) g0
      obtain ⟨s, e1, _, w1⟩ := DataW.trod_string ht (x := y1) g1
      obtain ⟨p, c, l, e2, h2, o2⟩ := trod_rows (K := bkK) (Ok := BkOk) hs cb (trod_bk hb cb hi ci s0 s1) _ _ y2 g2
      obtain ⟨B, e3, _, w3⟩ := DataW.trod_int hi (x := y3) g3
      simp at e0 e1 e2 e3
      subst e0; subst e1; subst e2; subst e3
      exact ⟨A, s, p, c, l, B, rfl, w0, w1, h2, o2, w3⟩
/-- An operation and its time are opened. -/
theorem trod_st (hue : P.underlying e = some (.struct #[h0, h1])) (cee : P.cellsOf e = 5) (q0 : h0.type = eo ∧ h0.offset = 0) (q1 : h1.type = ti ∧ h1.offset = 4)
    (hu : P.underlying eo = some (.struct #[f0, f1, f2, f3])) (ce : P.cellsOf eo = 4) (hi : P.underlying ti = some (.int .i64)) (ci : P.cellsOf ti = 1) (ht : P.underlying ts = some .string) (ct : P.cellsOf ts = 1) (hs : P.underlying tl = some (.slice tb)) (cs' : P.cellsOf tl = 1)
    (hb : P.underlying tb = some (.struct #[g0', g1'])) (cb : P.cellsOf tb = 2) (s0 : g0'.type = ti ∧ g0'.offset = 0) (s1 : g1'.type = ti ∧ g1'.offset = 1)
    (t0 : f0.type = ti ∧ f0.offset = 0) (t1 : f1.type = ts ∧ f1.offset = 1) (t2 : f2.type = tl ∧ f2.offset = 2) (t3 : f3.type = ti ∧ f3.offset = 3)
    (n : Nat) (cs : List Value) (x : DataW H × List MemPlace) (h : DataW.trod enc P w base spare held n e cs = some x) : ∃ y : StM, cs = stK.enc y ∧ StOk w y := by
  obtain ⟨ys, k, _, rfl, hl, hn, hf⟩ := DataW.trod_struct hue h
  rw [cee] at hl
  match cs, hl with
  | [c0, c1, c2, c3, c4], _ =>
    match ys, hn with
    | [y0, y1], _ =>
      have g0 := hf 0 h0 rfl
      have g1 := hf 1 h1 rfl
      rw [q0.1, q0.2, ce] at g0
      rw [q1.1, q1.2, ci] at g1
      obtain ⟨kd, pkt, p, c, z, sh, hc, w0, w1, w2, w3, w4⟩ := trod_op hu ce hi ci ht ct hs cs' hb cb s0 s1 t0 t1 t2 t3 _ _ y0 g0
      obtain ⟨T, e1, _, w5⟩ := DataW.trod_int hi (x := y1) g1
      simp at hc e1
      obtain ⟨rfl, rfl, rfl, rfl⟩ := hc
      subst e1
      exact ⟨⟨kd, pkt, p, c, z, sh, T⟩, rfl, w0, w1, w2, w3, w4, w5⟩
end
section
variable {H : Type} {enc : TypeId × Value → H} {w : World} {base : Nat} {spare : Nat → Bool} {held : Bool}
theorem laidOut : laidOutB Tryz.prog = true := by kernel_rfl
theorem st_size : Tryz.prog.cellsOf 44 = 5 := by kernel_rfl
theorem op_size : Tryz.prog.cellsOf 42 = 4 := by kernel_rfl
theorem trod_st17 (n : Nat) (cs : List Value) (x : DataW H × List MemPlace) (h : DataW.trod enc Tryz.prog w base spare held n 44 cs = some x) : ∃ y : StM, cs = stK.enc y ∧ StOk w y :=
  trod_st (eo := 42) (ti := 3) (ts := 9) (tl := 32) (tb := 83) rfl st_size ⟨rfl, rfl⟩ ⟨rfl, rfl⟩ rfl op_size rfl rfl rfl rfl rfl rfl rfl rfl ⟨rfl, rfl⟩ ⟨rfl, rfl⟩ ⟨rfl, rfl⟩ ⟨rfl, rfl⟩ ⟨rfl, rfl⟩ ⟨rfl, rfl⟩ n cs x h
/-- A parameter that is a row of operations with their times. -/
theorem open_steps {r : Reach} {b0 : Nat} {v : Value} {d : DataW H} {ps : List MemPlace} (hv : Value.okWide Tryz.prog w r b0 24 v) (h : DataW.Trod enc Tryz.prog w base spare held 24 v d ps) :
    ∃ (a : Option Addr) (cap : Nat) (T : List StM), v = rowV a cap T ∧ Lies stK w a cap T ∧ ∀ x ∈ T, StOk w x :=
  open_rows Tryz.underlying24 st_size trod_st17 hv h
/-- A parameter that is one. -/
theorem open_step {r : Reach} {b0 : Nat} {v : Value} {d : DataW H} {ps : List MemPlace} (hv : Value.okWide Tryz.prog w r b0 44 v) (h : DataW.Trod enc Tryz.prog w base spare held 44 v d ps) :
    ∃ x : StM, v = stV x ∧ StOk w x := by
  obtain ⟨cs, rfl, hz⟩ := okWide_struct Tryz.underlying44 hv
  obtain ⟨fuel, hf⟩ := h
  obtain ⟨y, hc, ho⟩ := trod_st17 _ _ _ hf
  refine ⟨y, ?_, ho⟩
  cases cs
  simp [Value.cells, stK] at hc
  rw [hc]
/-- A configuration's five numbers. -/
structure CfgOk (W S cap idle K : Int) : Prop where
  W : (Lit.int .i64 W).wf = true
  S : (Lit.int .i64 S).wf = true
  cap : (Lit.int .i64 cap).wf = true
  idle : (Lit.int .i64 idle).wf = true
  K : (Lit.int .i64 K).wf = true
theorem cfg_size : Tryz.prog.cellsOf 23 = 5 := by kernel_rfl
theorem int_size : Tryz.prog.cellsOf 3 = 1 := by kernel_rfl
theorem cfg_under : ∃ f0 f1 f2 f3 f4 : Field, Tryz.prog.underlying 23 = some (.struct #[f0, f1, f2, f3, f4]) ∧ (f0.type = 3 ∧ f0.offset = 0) ∧ (f1.type = 3 ∧ f1.offset = 1) ∧ (f2.type = 3 ∧ f2.offset = 2) ∧ (f3.type = 3 ∧ f3.offset = 3) ∧ (f4.type = 3 ∧ f4.offset = 4) :=
  ⟨_, _, _, _, _, Tryz.underlying23, ⟨rfl, rfl⟩, ⟨rfl, rfl⟩, ⟨rfl, rfl⟩, ⟨rfl, rfl⟩, ⟨rfl, rfl⟩⟩
/-- A parameter that is a configuration. -/
theorem open_cfg {r : Reach} {b0 : Nat} {v : Value} {d : DataW H} {ps : List MemPlace} (hv : Value.okWide Tryz.prog w r b0 23 v) (h : DataW.Trod enc Tryz.prog w base spare held 23 v d ps) :
    ∃ W S cap idle K : Int, v = .agg #[.int .i64 W, .int .i64 S, .int .i64 cap, .int .i64 idle, .int .i64 K] ∧ CfgOk W S cap idle K := by
  obtain ⟨cs, rfl, hz⟩ := okWide_struct Tryz.underlying23 hv
  obtain ⟨fuel, hf⟩ := h
  obtain ⟨f0, f1, f2, f3, f4, hu, ⟨t0, o0⟩, ⟨t1, o1⟩, ⟨t2, o2⟩, ⟨t3, o3⟩, ⟨t4, o4⟩⟩ := cfg_under
  obtain ⟨ys, k, _, _, hl, hn, hf⟩ := DataW.trod_struct hu hf
  rw [cfg_size] at hl
  obtain ⟨l⟩ := cs
  simp only [Value.cells] at hl hf
  match l, hl with
  | [c0, c1, c2, c3, c4], _ =>
    match ys, hn with
    | [y0, y1, y2, y3, y4], _ =>
      have g0 := hf 0 f0 rfl
      have g1 := hf 1 f1 rfl
      have g2 := hf 2 f2 rfl
      have g3 := hf 3 f3 rfl
      have g4 := hf 4 f4 rfl
      rw [t0, o0, int_size] at g0
      rw [t1, o1, int_size] at g1
      rw [t2, o2, int_size] at g2
      rw [t3, o3, int_size] at g3
      rw [t4, o4, int_size] at g4
      obtain ⟨A, e0, _, w0⟩ := DataW.trod_int Tryz.underlying3 (x := y0) g0
      obtain ⟨B, e1, _, w1⟩ := DataW.trod_int Tryz.underlying3 (x := y1) g1
      obtain ⟨C, e2, _, w2⟩ := DataW.trod_int Tryz.underlying3 (x := y2) g2
      obtain ⟨D, e3, _, w3⟩ := DataW.trod_int Tryz.underlying3 (x := y3) g3
      obtain ⟨E, e4, _, w4⟩ := DataW.trod_int Tryz.underlying3 (x := y4) g4
      simp at e0 e1 e2 e3 e4
      subst e0 e1 e2 e3 e4
      exact ⟨A, B, C, D, E, rfl, w0, w1, w2, w3, w4⟩
end
end Go.Proofs.YtbamodkgagcmnaaGreat.Mdo

set_option maxRecDepth 100000
namespace Go.Proofs.YtbamodkgagcmnaaGreat.Mdl
open Go.RowKit Go.Shelf RowG Trn
open Pol (polV)
open Prb (home)
open Mdo (StM stV pol_lies)
open Flo (Gives)
open Go.Proofs.YtbamodkgagcmnaaGreat.Mod (Bk Mo Cfg cfgV okB Ans ansV ansC AnsBox opV opC)

attribute [local go_sem] Oper.semAt_some

/-- A model that was made since, and boxes of answers beside it: what lay there lies as it lay. -/
structure Stand (w0 w : World) (f : Foot) (idle : Int) (mo : Mo) (l : List (Nat × Ans)) : Prop where
  held : Held w f idle mo
  below : Below w0.heap.size w0 w
  from' : f.from' w0.heap.size
  some : 0 < mo.tables.length
  box : ∀ q ∈ l, AnsBox w q.1 q.2 ∧ q.1 ≠ f.p ∧ q.1 ≠ f.g
theorem Held.lt {w : World} {f : Foot} {idle : Int} {mo : Mo} (h : Held w f idle mo) : f.p < w.heap.size ∧ f.g < w.heap.size := by
  obtain ⟨pa, pc, P, sc, m, _, hl⟩ := h
  exact ⟨heap_lt hl.box, hl.row.lt⟩
theorem has_from {f : Foot} {B : Nat} (h : f.from' B) (k : Nat) (hk : f.has k) : B ≤ k := by
  rcases hk with rfl | rfl
  · exact h.1
  · exact h.2
section
variable {w0 w w' : World} {f f2 : Foot} {idle idle2 : Int} {mo mo2 : Mo} {l : List (Nat × Ans)}
theorem Stand.more (h : Stand w0 w f idle mo l) (hb : Below w.heap.size w w') : Stand w0 w' f idle mo l :=
  ⟨h.held.kept hb, below2 h.below hb, h.from', h.some, fun q hq => ⟨(h.box q hq).1.kept hb, (h.box q hq).2⟩⟩
/-- One answer more in a box. -/
theorem Stand.answer (h : Stand w0 w f idle mo l) (y : Ans) : Stand w0 (w.alloc (.cells (ansC y) 39)) f idle mo ((w.heap.size, y) :: l) := by
  have h2 := h.more ((Below.refl _ w).alloc (Nat.le_refl _) (.cells (ansC y) 39))
  refine ⟨h2.held, h2.below, h2.from', h2.some, fun q hq => ?_⟩
  rcases List.mem_cons.1 hq with rfl | hq
  · have hl := h.held.lt
    exact ⟨World.alloc_heap_new w _, by show w.heap.size ≠ f.p; omega, by show w.heap.size ≠ f.g; omega⟩
  · exact h2.box q hq
theorem Stand.less (h : Stand w0 w f idle mo l) {l' : List (Nat × Ans)} (hl : ∀ q ∈ l', q ∈ l) : Stand w0 w f idle mo l' := ⟨h.held, h.below, h.from', h.some, fun q hq => h.box q (hl q hq)⟩
theorem step_len (mo : Mo) (o : Mod.Op) : (step mo o).1.tables.length = mo.tables.length := by
  unfold step Mod.doOp
  split
  · split
    · rfl
    · simp
  · split
    · split <;> rfl
    · split
      · split
        · simp
        · rfl
      · split <;> rfl
/-- An operation that is done. -/
theorem Does.stand {r : Mo × Ans} {e : Ending} (h : Stand w0 w f idle mo l) (hd : Does f idle r w e w') (hr : r.1.tables.length = mo.tables.length) : e = .returned (ansV r.2) ∧ Stand w0 w' f idle r.1 l :=
  ⟨hd.1, hd.2.1, hd.2.2.below h.below h.below.size fun k hk => has_from h.from' k hk, h.from', by rw [hr]; exact h.some, fun q hq => ⟨(hd.2.2.rest q.1 (heap_lt (h.box q hq).1) (by rintro (e | e); exact (h.box q hq).2.1 e; exact (h.box q hq).2.2 e)).trans (h.box q hq).1, (h.box q hq).2⟩⟩
/-- The blocks of two models are not the same. -/
structure Apart (f f2 : Foot) : Prop where
  pp : f.p ≠ f2.p
  pg : f.p ≠ f2.g
  gp : f.g ≠ f2.p
  gg : f.g ≠ f2.g
/-- What turns one model leaves another one. -/
theorem Held.over (h : Held w f idle mo) (h2 : Held w f2 idle2 mo2) (ap : Apart f f2) (ht : Turned f2.has w w') : Held w' f idle mo := by
  obtain ⟨pa, pc, P, sc, m, rfl, hl⟩ := h
  obtain ⟨pa2, pc2, P2, sc2, m2, rfl, hl2⟩ := h2
  have e : w'.heap[f.g]? = w.heap[f.g]? := ht.rest f.g hl.row.lt (by rintro (e | e); exact ap.gp e; exact ap.gg e)
  have cell : ∀ k, w'.cell? ⟨f.g, k, none⟩ = w.cell? ⟨f.g, k, none⟩ := fun k => World.cell?_of_block (w := w) e
  exact ⟨pa, pc, P, sc, m, rfl, (ht.rest f.p (heap_lt hl.box) (by rintro (e | e); exact ap.pp e; exact ap.pg e)).trans hl.box, row_turned hl.row e, fun k v hv => hl.even k v (by rwa [cell] at hv), fun k v hv => hl.odd k v (by rwa [cell] at hv), pol_turned ht hl.pool fun hn b off e => hl2.pool_apart hl.pool hn b off e, hl.few,
    fun x hx => ⟨ht.lies (hl.good x hx).lies fun hn b off e => hl2.tab_apart (hl.good x hx).lies hn b off e, (hl.good x hx).len, (hl.good x hx).keys, (hl.good x hx).small⟩, hl.many, hl.ne⟩
theorem Stand.over (h : Stand w0 w f idle mo l) (h2 : Stand w0 w f2 idle2 mo2 l) (ap : Apart f f2) (ht : Turned f2.has w w') : Stand w0 w' f idle mo l :=
  ⟨h.held.over h2.held ap ht, ht.below h.below h.below.size fun k hk => has_from h2.from' k hk, h.from', h.some, fun q hq => ⟨(ht.rest q.1 (heap_lt (h.box q hq).1) (by rintro (e | e); exact (h2.box q hq).2.1 e; exact (h2.box q hq).2.2 e)).trans (h.box q hq).1, (h.box q hq).2⟩⟩
end
/-! ### the calls -/
theorem new_stand (cW : Int) (n : Nat) (cap : Nat) (idle cK : Int) (hc : okB ⟨cW, (n : Int), (cap : Int), idle, cK⟩ = true) (h0 : 0 < n) (hn : n ≤ 16) (hcap : cap ≤ 64) (w0 w : World) (hb : Below w0.heap.size w0 w) : Calls Tryz.prog 13 #[cfgV ⟨cW, (n : Int), (cap : Int), idle, cK⟩] w fun e W' => ∃ f : Foot, e = .returned (.tuple #[f.v, .int .i64 0]) ∧ Stand w0 W' f idle (Mod.new n cap) [] :=
  (New_good cW n cap idle cK hc hn hcap w).mono fun _ _ ⟨f, he, hh, hf, hb'⟩ => ⟨f, he, hh, below2 hb hb', ⟨Nat.le_trans hb.size hf.1, Nat.le_trans hb.size hf.2⟩, by simp [Mod.new]; exact h0, fun q hq => by cases hq⟩
section
variable {w0 w : World} {f : Foot} {idle : Int} {mo : Mo} {l : List (Nat × Ans)} (h : Stand w0 w f idle mo l)
include h
theorem do_stand (kd : Int) (pkt : ByteArray) (oa : Option Addr) (z : List Bk) (oc : Nat) (sh now : Int) (hz : Pol.Lies w oa oc z) (fl : Option (ByteArray × Bool)) (hF : FlowIs pkt fl) :
    Calls Tryz.prog 17 #[f.v, opV kd pkt oa z.length oc sh, .int .i64 now] w fun e W' => e = .returned (ansV (step mo (opOf kd fl z sh now idle)).2) ∧ Stand w0 W' f idle (step mo (opOf kd fl z sh now idle)).1 l ∧ Turned f.has w W' :=
  (Do_told f idle mo w h.held h.some kd pkt oa z oc sh now hz fl hF).mono fun _ _ hd => ⟨(Does.stand h hd (step_len _ _)).1, (Does.stand h hd (step_len _ _)).2, hd.2.2⟩
theorem pool_stand : Calls Tryz.prog 20 #[f.v] w fun e W' => ∃ a c, e = .returned (polV a c mo.pool) ∧ Pol.Lies W' a c mo.pool ∧ Stand w0 W' f idle mo l ∧ Below w.heap.size w W' :=
  (Pool_told f idle mo w h.held).mono fun _ _ ⟨_, he, ⟨a, c, hv, hl⟩, hb⟩ => ⟨a, c, by rw [he, hv], hl, h.more hb, hb⟩
theorem table_stand (i : Int) : Calls Tryz.prog 22 #[f.v, .int .i64 i] w fun e W' => ∃ a c, e = .returned (rowV a c (tabAt mo i)) ∧ Lies entK W' a c (tabAt mo i) ∧ Stand w0 W' f idle mo l ∧ Below w.heap.size w W' :=
  (Table_told f idle mo i w h.held).mono fun _ _ ⟨_, he, ⟨a, c, hv, hl⟩, hb⟩ => ⟨a, c, by rw [he, hv], hl, h.more hb, hb⟩
theorem copy_stand : Calls Tryz.prog 37 #[f.v] w fun e W' => ∃ f2 : Foot, e = .returned f2.v ∧ Stand w0 W' f2 idle mo l ∧ Stand w0 W' f idle mo l ∧ Apart f f2 ∧ Apart f2 f :=
  (Copy_told f idle mo h.some w h.held).mono fun _ W' ⟨f2, he, hh, hf, hb⟩ => by
    have hl := h.held.lt
    have h1 := hf.1
    have h2 := hf.2
    have hs := h.below.size
    refine ⟨f2, he, ⟨hh, below2 h.below hb, ⟨by omega, by omega⟩, h.some, fun q hq => ⟨(h.box q hq).1.kept hb, ?_, ?_⟩⟩, h.more hb, ⟨by omega, by omega, by omega, by omega⟩, ⟨by omega, by omega, by omega, by omega⟩⟩
    · have := heap_lt (h.box q hq).1; omega
    · have := heap_lt (h.box q hq).1; omega
end
end Go.Proofs.YtbamodkgagcmnaaGreat.Mdl
