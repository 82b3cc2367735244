/-
  Rows of things that hold rows themselves, over any program: how a row in a cell is opened; acts with pins as such things.
-/
import Derived.Test.YtbamodkgagcmnaaGreatCelRM
import Derived.Test.YtbamodkgagcmnaaGreatEpoPM
import Derived.Test.YtbamodkgagcmnaaGreatBTabM
import Derived.Test.YtbamodkgagcmnaaGreatBPolM
import Derived.ProofKit
import Derived.OpenShut
import Derived.ChangeMaps5
import Derived.Deep.Strs
import Derived.Deep.Slices
set_option maxRecDepth 100000
namespace Go.Proofs.YtbamodkgagcmnaaGreat.RowG
open Go.ChangeShapes Go.WideShapes Go.RowKit Go.Shelf Go.Deep
section
variable {α : Type} {K : Kind α} {Ok : α → Prop} {P : Program} {H : Type} {enc : TypeId × Value → H} {w : World} {base : Nat} {spare : Nat → Bool} {held : Bool} {t e : TypeId}
end
end Go.Proofs.YtbamodkgagcmnaaGreat.RowG
namespace Go.Proofs.YtbamodkgagcmnaaGreat.Epo
open Go.ChangeShapes Go.WideShapes Go.RowKit Go.Shelf Go.Deep RowG
/-- An act as it lies in memory: its pins are a row of their own. -/
structure ActM where
  k : Int
  slot : Int
  at' : Int
  p : Option Addr
  c : Nat
  pins : List Int
instance : Inhabited ActM := ⟨⟨0, 0, 0, none, 0, []⟩⟩
abbrev ActM.act (x : ActM) : Act := ⟨x.k, x.slot, x.at', x.pins⟩
def actM : Kind ActM := ⟨4, fun x => [.int .i64 x.k, .int .i64 x.slot, .int .i64 x.at', rowV x.p x.c x.pins], by decide, fun _ => rfl, fun x u hu => by
  simp at hu; rcases hu with rfl | rfl | rfl | rfl <;> rfl⟩
structure ActOk (w : World) (x : ActM) : Prop where
  k : (Lit.int .i64 x.k).wf = true
  slot : (Lit.int .i64 x.slot).wf = true
  at' : (Lit.int .i64 x.at').wf = true
  lies : Lies numK w x.p x.c x.pins
  pins : ∀ y ∈ x.pins, (Lit.int .i64 y).wf = true
section
variable {P : Program} {H : Type} {enc : TypeId × Value → H} {w : World} {base : Nat} {spare : Nat → Bool} {held : Bool} {e ti ts : TypeId} {f0 f1 f2 f3 : Field}
end
end Go.Proofs.YtbamodkgagcmnaaGreat.Epo

set_option maxRecDepth 100000
namespace Go.Proofs.YtbamodkgagcmnaaGreat.Mdo
open Go.ChangeShapes Go.WideShapes Go.RowKit Go.Shelf Go.Deep RowG

/-- A backend's two cells. -/
def bkK : Kind (Int × Int) := ⟨2, fun x => [.int .i64 x.1, .int .i64 x.2], by decide, fun _ => rfl, fun x u hu => by
  simp at hu; rcases hu with rfl | rfl <;> rfl⟩
def BkOk (x : Int × Int) : Prop := (Lit.int .i64 x.1).wf = true ∧ (Lit.int .i64 x.2).wf = true
/-- An operation and its time, as they lie. -/
structure StM where
  kd : Int
  pkt : ByteArray
  p : Option Addr
  c : Nat
  pool : List (Int × Int)
  sh : Int
  now : Int
instance : Inhabited StM := ⟨⟨0, ⟨#[]⟩, none, 0, [], 0, 0⟩⟩
abbrev stV (x : StM) : Value := .agg #[.int .i64 x.kd, .string x.pkt, .slice x.p x.pool.length x.c, .int .i64 x.sh, .int .i64 x.now]
def stK : Kind StM := ⟨5, fun x => [.int .i64 x.kd, .string x.pkt, .slice x.p x.pool.length x.c, .int .i64 x.sh, .int .i64 x.now], by decide, fun _ => rfl, fun x u hu => by
  simp at hu; rcases hu with rfl | rfl | rfl | rfl | rfl <;> rfl⟩
/-- Its operation alone. -/
def opK : Kind StM := ⟨4, fun x => [.int .i64 x.kd, .string x.pkt, .slice x.p x.pool.length x.c, .int .i64 x.sh], by decide, fun _ => rfl, fun x u hu => by
  simp at hu; rcases hu with rfl | rfl | rfl | rfl <;> rfl⟩
structure StOk (w : World) (x : StM) : Prop where
  kd : (Lit.int .i64 x.kd).wf = true
  pkt : x.pkt.size ≤ maxLen
  lies : RowG.Lies bkK w x.p x.c x.pool
  pool : ∀ y ∈ x.pool, BkOk y
  sh : (Lit.int .i64 x.sh).wf = true
  now : (Lit.int .i64 x.now).wf = true
/-- A row of backends is one as pools have it. -/
theorem pol_lies {W : World} {a : Option Addr} {c : Nat} {z : List (Int × Int)} (h : RowG.Lies bkK W a c z) : Pol.Lies W a c z :=
  ⟨h.max, h.len, fun hn => by
    obtain ⟨b, off, e, hc⟩ := h.cell hn
    exact ⟨b, off, e, fun i x hi => ⟨hc i x hi 0 _ rfl, hc i x hi 1 _ rfl⟩⟩⟩
section
variable {P : Program} {H : Type} {enc : TypeId × Value → H} {w : World} {base : Nat} {spare : Nat → Bool} {held : Bool} {e eo ti ts tl tb : TypeId} {f0 f1 f2 f3 h0 h1 g0' g1' : Field}
end
section
variable {H : Type} {enc : TypeId × Value → H} {w : World} {base : Nat} {spare : Nat → Bool} {held : Bool}
theorem laidOut : laidOutB Tryz.prog = true := by kernel_rfl
/-- A configuration's five numbers. -/
structure CfgOk (W S cap idle K : Int) : Prop where
  W : (Lit.int .i64 W).wf = true
  S : (Lit.int .i64 S).wf = true
  cap : (Lit.int .i64 cap).wf = true
  idle : (Lit.int .i64 idle).wf = true
  K : (Lit.int .i64 K).wf = true
theorem int_size : Tryz.prog.cellsOf 3 = 1 := by kernel_rfl
end
end Go.Proofs.YtbamodkgagcmnaaGreat.Mdo

set_option maxRecDepth 100000
namespace Go.Proofs.YtbamodkgagcmnaaGreat.Mdl
open Go.RowKit Go.Shelf RowG Trn
open Pol (polV)
open Prb (home)
open Mdo (StM stV pol_lies)
open Flo (Gives)
open Go.Proofs.YtbamodkgagcmnaaGreat.Mod (Bk Mo Cfg cfgV okB Ans ansV ansC AnsBox opV opC)

attribute [local go_sem] Oper.semAt_some

/-- A model that was made since, and boxes of answers beside it: what lay there lies as it lay. -/
structure Stand (w0 w : World) (f : Foot) (idle : Int) (mo : Mo) (l : List (Nat × Ans)) : Prop where
  held : Held w f idle mo
  below : Below w0.heap.size w0 w
  from' : f.from' w0.heap.size
  some : 0 < mo.tables.length
  box : ∀ q ∈ l, AnsBox w q.1 q.2 ∧ q.1 ≠ f.p ∧ q.1 ≠ f.g
theorem Held.lt {w : World} {f : Foot} {idle : Int} {mo : Mo} (h : Held w f idle mo) : f.p < w.heap.size ∧ f.g < w.heap.size := by
  obtain ⟨pa, pc, P, sc, m, _, hl⟩ := h
  exact ⟨heap_lt hl.box, hl.row.lt⟩
theorem has_from {f : Foot} {B : Nat} (h : f.from' B) (k : Nat) (hk : f.has k) : B ≤ k := by
  rcases hk with rfl | rfl
  · exact h.1
  · exact h.2
section
variable {w0 w w' : World} {f f2 : Foot} {idle idle2 : Int} {mo mo2 : Mo} {l : List (Nat × Ans)}
theorem Stand.more (h : Stand w0 w f idle mo l) (hb : Below w.heap.size w w') : Stand w0 w' f idle mo l :=
  ⟨h.held.kept hb, below2 h.below hb, h.from', h.some, fun q hq => ⟨(h.box q hq).1.kept hb, (h.box q hq).2⟩⟩
/-- One answer more in a box. -/
theorem Stand.answer (h : Stand w0 w f idle mo l) (y : Ans) : Stand w0 (w.alloc (.cells (ansC y) 39)) f idle mo ((w.heap.size, y) :: l) := by
  have h2 := h.more ((Below.refl _ w).alloc (Nat.le_refl _) (.cells (ansC y) 39))
  refine ⟨h2.held, h2.below, h2.from', h2.some, fun q hq => ?_⟩
  rcases List.mem_cons.1 hq with rfl | hq
  · have hl := h.held.lt
    exact ⟨World.alloc_heap_new w _, by show w.heap.size ≠ f.p; omega, by show w.heap.size ≠ f.g; omega⟩
  · exact h2.box q hq
theorem Stand.less (h : Stand w0 w f idle mo l) {l' : List (Nat × Ans)} (hl : ∀ q ∈ l', q ∈ l) : Stand w0 w f idle mo l' := ⟨h.held, h.below, h.from', h.some, fun q hq => h.box q (hl q hq)⟩
theorem step_len (mo : Mo) (o : Mod.Op) : (step mo o).1.tables.length = mo.tables.length := by
  unfold step Mod.doOp
  split
  · split
    · rfl
    · simp
  · split
    · split <;> rfl
    · split
      · split
        · simp
        · rfl
      · split <;> rfl
/-- An operation that is done. -/
theorem Does.stand {r : Mo × Ans} {e : Ending} (h : Stand w0 w f idle mo l) (hd : Does f idle r w e w') (hr : r.1.tables.length = mo.tables.length) : e = .returned (ansV r.2) ∧ Stand w0 w' f idle r.1 l :=
  ⟨hd.1, hd.2.1, hd.2.2.below h.below h.below.size fun k hk => has_from h.from' k hk, h.from', by rw [hr]; exact h.some, fun q hq => ⟨(hd.2.2.rest q.1 (heap_lt (h.box q hq).1) (by rintro (e | e); exact (h.box q hq).2.1 e; exact (h.box q hq).2.2 e)).trans (h.box q hq).1, (h.box q hq).2⟩⟩
/-- The blocks of two models are not the same. -/
structure Apart (f f2 : Foot) : Prop where
  pp : f.p ≠ f2.p
  pg : f.p ≠ f2.g
  gp : f.g ≠ f2.p
  gg : f.g ≠ f2.g
/-- What turns one model leaves another one. -/
theorem Held.over (h : Held w f idle mo) (h2 : Held w f2 idle2 mo2) (ap : Apart f f2) (ht : Turned f2.has w w') : Held w' f idle mo := by
  obtain ⟨pa, pc, P, sc, m, rfl, hl⟩ := h
  obtain ⟨pa2, pc2, P2, sc2, m2, rfl, hl2⟩ := h2
  have e : w'.heap[f.g]? = w.heap[f.g]? := ht.rest f.g hl.row.lt (by rintro (e | e); exact ap.gp e; exact ap.gg e)
  have cell : ∀ k, w'.cell? ⟨f.g, k, none⟩ = w.cell? ⟨f.g, k, none⟩ := fun k => World.cell?_of_block (w := w) e
  exact ⟨pa, pc, P, sc, m, rfl, (ht.rest f.p (heap_lt hl.box) (by rintro (e | e); exact ap.pp e; exact ap.pg e)).trans hl.box, row_turned hl.row e, fun k v hv => hl.even k v (by rwa [cell] at hv), fun k v hv => hl.odd k v (by rwa [cell] at hv), pol_turned ht hl.pool fun hn b off e => hl2.pool_apart hl.pool hn b off e, hl.few,
    fun x hx => ⟨ht.lies (hl.good x hx).lies fun hn b off e => hl2.tab_apart (hl.good x hx).lies hn b off e, (hl.good x hx).len, (hl.good x hx).keys, (hl.good x hx).small⟩, hl.many, hl.ne⟩
theorem Stand.over (h : Stand w0 w f idle mo l) (h2 : Stand w0 w f2 idle2 mo2 l) (ap : Apart f f2) (ht : Turned f2.has w w') : Stand w0 w' f idle mo l :=
  ⟨h.held.over h2.held ap ht, ht.below h.below h.below.size fun k hk => has_from h2.from' k hk, h.from', h.some, fun q hq => ⟨(ht.rest q.1 (heap_lt (h.box q hq).1) (by rintro (e | e); exact (h2.box q hq).2.1 e; exact (h2.box q hq).2.2 e)).trans (h.box q hq).1, (h.box q hq).2⟩⟩
end
/-! ### the calls -/
theorem new_stand (cW : Int) (n : Nat) (cap : Nat) (idle cK : Int) (hc : okB ⟨cW, (n : Int), (cap : Int), idle, cK⟩ = true) (h0 : 0 < n) (hn : n ≤ 16) (hcap : cap ≤ 64) (w0 w : World) (hb : Below w0.heap.size w0 w) : Calls Tryz.prog 13 #[cfgV ⟨cW, (n : Int), (cap : Int), idle, cK⟩] w fun e W' => ∃ f : Foot, e = .returned (.tuple #[f.v, .int .i64 0]) ∧ Stand w0 W' f idle (Mod.new n cap) [] :=
  (New_good cW n cap idle cK hc hn hcap w).mono fun _ _ ⟨f, he, hh, hf, hb'⟩ => ⟨f, he, hh, below2 hb hb', ⟨Nat.le_trans hb.size hf.1, Nat.le_trans hb.size hf.2⟩, by simp [Mod.new]; exact h0, fun q hq => by cases hq⟩
section
variable {w0 w : World} {f : Foot} {idle : Int} {mo : Mo} {l : List (Nat × Ans)} (h : Stand w0 w f idle mo l)
include h
theorem do_stand (kd : Int) (pkt : ByteArray) (oa : Option Addr) (z : List Bk) (oc : Nat) (sh now : Int) (hz : Pol.Lies w oa oc z) (fl : Option (ByteArray × Bool)) (hF : FlowIs pkt fl) :
    Calls Tryz.prog 17 #[f.v, opV kd pkt oa z.length oc sh, .int .i64 now] w fun e W' => e = .returned (ansV (step mo (opOf kd fl z sh now idle)).2) ∧ Stand w0 W' f idle (step mo (opOf kd fl z sh now idle)).1 l ∧ Turned f.has w W' :=
  (Do_told f idle mo w h.held h.some kd pkt oa z oc sh now hz fl hF).mono fun _ _ hd => ⟨(Does.stand h hd (step_len _ _)).1, (Does.stand h hd (step_len _ _)).2, hd.2.2⟩
theorem pool_stand : Calls Tryz.prog 20 #[f.v] w fun e W' => ∃ a c, e = .returned (polV a c mo.pool) ∧ Pol.Lies W' a c mo.pool ∧ Stand w0 W' f idle mo l ∧ Below w.heap.size w W' :=
  (Pool_told f idle mo w h.held).mono fun _ _ ⟨_, he, ⟨a, c, hv, hl⟩, hb⟩ => ⟨a, c, by rw [he, hv], hl, h.more hb, hb⟩
theorem table_stand (i : Int) : Calls Tryz.prog 22 #[f.v, .int .i64 i] w fun e W' => ∃ a c, e = .returned (rowV a c (tabAt mo i)) ∧ Lies entK W' a c (tabAt mo i) ∧ Stand w0 W' f idle mo l ∧ Below w.heap.size w W' :=
  (Table_told f idle mo i w h.held).mono fun _ _ ⟨_, he, ⟨a, c, hv, hl⟩, hb⟩ => ⟨a, c, by rw [he, hv], hl, h.more hb, hb⟩
end
end Go.Proofs.YtbamodkgagcmnaaGreat.Mdl
