/-
  Package model: plain facts for the laws: many operations one behind the other.
-/
import Derived.Test.YtbamodkgagcmnaaGreatMdlXM
import Derived.Test.YtbamodkgagcmnaaGreatMdlYM
import Derived.Test.YtbamodkgagcmnaaGreatEpoPM
import Derived.Test.YtbamodkgagcmnaaGreatSwpBM
import Derived.Test.YtbamodkgagcmnaaGreatBFldM
import Derived.Test.YtbamodkgagcmnaaGreatBFloM
import Derived.Test.YtbamodkgagcmnaaGreatBPlmM
import Derived.Test.YtbamodkgagcmnaaGreatBRinM
import Derived.Test.YtbamodkgagcmnaaGreatRinCpM
import Derived.Test.YtbamodkgagcmnaaGreatBFnvM
set_option maxRecDepth 100000
namespace Go.Proofs.YtbamodkgagcmnaaGreat.Mdl
open Go.RowKit Go.Shelf RowG Trn
open Pol (chk)
open Prb (home)
open Mdo (StM stV StOk pol_lies)
open Go.Proofs.YtbamodkgagcmnaaGreat.Mod (Bk Mo Cfg okB inB Ans Inv total)

/-- What many operations make of a model. -/
noncomputable abbrev goes (mo : Mo) (l : List Mod.Op) : Mo := Mod.runs home pickK shardN goodB mo l
abbrev opSt (g : ByteArray → Option (ByteArray × Bool)) (idle : Int) (x : StM) : Mod.Op := opOf x.kd (g x.pkt) x.pool x.sh x.now idle
abbrev opsOf (g : ByteArray → Option (ByteArray × Bool)) (idle : Int) (L : List StM) : List Mod.Op := L.map (opSt g idle)
theorem pick_ok (p : List Bk) (k : ByteArray) (hg : goodB p = true) (hp : p ≠ []) : Mod.hasId p (pickK p k) = true := by
  obtain ⟨x, hx, e⟩ := Rin.pick_in Pts.hsh ((good_iff p).2 hg) hp (hashN k : Nat)
  rw [Mod.hasId_iff]
  exact ⟨x, hx, e⟩
/-- How many flows the first shards have. -/
def firstN (mo : Mo) (k : Nat) : Nat := total (mo.tables.take k)
/-! ### an operation and its time, cell by cell -/
theorem st_keep {W W' : World} {b o : Nat} {x : StM} (s : W.cell? ⟨b, o, none⟩ = some (.int .i64 x.kd) ∧ W.cell? ⟨b, o + 1, none⟩ = some (.string x.pkt) ∧ W.cell? ⟨b, o + 2, none⟩ = some (.slice x.p x.pool.length x.c) ∧ W.cell? ⟨b, o + 3, none⟩ = some (.int .i64 x.sh) ∧ W.cell? ⟨b, o + 4, none⟩ = some (.int .i64 x.now)) (hb : Below W.heap.size W W') :
    W'.cell? ⟨b, o, none⟩ = some (.int .i64 x.kd) ∧ W'.cell? ⟨b, o + 1, none⟩ = some (.string x.pkt) ∧ W'.cell? ⟨b, o + 2, none⟩ = some (.slice x.p x.pool.length x.c) ∧ W'.cell? ⟨b, o + 3, none⟩ = some (.int .i64 x.sh) ∧ W'.cell? ⟨b, o + 4, none⟩ = some (.int .i64 x.now) := by
  obtain ⟨h0, h1, h2, h3, h4⟩ := s
  exact ⟨(hb.cell (World.block_lt_of_cell? _ _ h0)).trans h0, (hb.cell (World.block_lt_of_cell? _ _ h1)).trans h1, (hb.cell (World.block_lt_of_cell? _ _ h2)).trans h2, (hb.cell (World.block_lt_of_cell? _ _ h3)).trans h3, (hb.cell (World.block_lt_of_cell? _ _ h4)).trans h4⟩
end Go.Proofs.YtbamodkgagcmnaaGreat.Mdl

set_option maxRecDepth 100000
namespace Go.Proofs.YtbamodkgagcmnaaGreat.Mdl
open Go.RowKit Go.Shelf RowG Trn
open Prb (home)
open Mdo (StM stK StOk pol_lies)
open Tab (Ent Right count places)
open Go.Proofs.YtbamodkgagcmnaaGreat.Mod (Bk Mo Cfg Ans Inv ansV ansC opV opC fresh fresh_le)

section
variable {w0 wb wr : World} {f : Foot} {idle : Int} {mo0 : Mo} {g : ByteArray → Option (ByteArray × Bool)} {L : List StM} {a : Option Addr} {c : Nat} {k : Nat}
end
theorem Held.keys {w : World} {f : Foot} {idle : Int} {mo : Mo} (h : Held w f idle mo) (i : Int) : ∀ x ∈ tabAt mo i, x.key.size ≤ 4611686018427387904 := by
  obtain ⟨pa, pc, P, sc, m, rfl, hl⟩ := h
  rw [tab_atM]
  intro x hx
  have := (atM_good hl i).keys x hx; omega
/-! ### expired again and again -/
/-- How many are due. -/
def dues (now : Int) (T : List Ent) : Nat := count 1 T - fresh now T
end Go.Proofs.YtbamodkgagcmnaaGreat.Mdl

set_option maxRecDepth 100000
namespace Go.Proofs.YtbamodkgagcmnaaGreat.Mdl
open Go.RowKit Go.Shelf RowG
open Prb (home)
open Tab (Ent Right)
open Flo (keys)
open Go.Proofs.YtbamodkgagcmnaaGreat.Mod (Bk Mo Inv)

/-- How often a key stands in a row. -/
def occ (key : ByteArray) (l : List ByteArray) : Nat := (l.filter fun k => decide (k = key)).length
section
variable {n cap : Nat} {mo : Mo}
end
end Go.Proofs.YtbamodkgagcmnaaGreat.Mdl

set_option maxRecDepth 100000
namespace Go.Proofs.YtbamodkgagcmnaaGreat.Pol
open Go.RowKit Go.Shelf Rgn

/-- What DeleteFunc has done: the first i of ds are what is left of the first j of bs; the others stand as they stood. -/
structure Left (id : Int) (bs ds : List Bk) (i j : Nat) : Prop where
  lt : i < j
  le : j ≤ bs.length
  len : ds.length = bs.length
  done : ds.take i = without (bs.take j) id
  rest : ds.drop j = bs.drop j
theorem Left.at {id : Int} {bs ds : List Bk} {i j : Nat} (h : Left id bs ds i j) (hj : j < bs.length) : ∃ x, ds[j]? = some x ∧ bs[j]? = some x := by
  refine ⟨bs[j], ?_, List.getElem?_eq_getElem hj⟩
  have := congrArg (fun l => l[0]?) h.rest
  simp only [List.getElem?_drop, Nat.add_zero] at this
  rw [this]; exact List.getElem?_eq_getElem hj
theorem Left.start (id : Int) (bs : List Bk) (k : Nat) (hk : k < bs.length) (hno : ∀ j x, j < k → bs[j]? = some x → x.1 ≠ id) (h : ∀ x, bs[k]? = some x → x.1 = id) : Left id bs bs k (k + 1) := by
  refine ⟨by omega, by omega, rfl, ?_, rfl⟩
  rw [take_more bs k hk]
  have e := h bs[k] (List.getElem?_eq_getElem hk)
  simp only [without, List.filter_append, List.filter_cons, List.filter_nil]
  rw [if_neg (by simp [e]), List.append_nil]
  refine (List.filter_eq_self.2 fun x hx => ?_).symm
  obtain ⟨j, hj, rfl⟩ := List.getElem_of_mem hx
  have hj' : j < k := by simp at hj; omega
  have := hno j bs[j] hj' (List.getElem?_eq_getElem (by omega))
  simpa using this
theorem Left.skip {id : Int} {bs ds : List Bk} {i j : Nat} (h : Left id bs ds i j) (hj : j < bs.length) (he : ∀ x, bs[j]? = some x → x.1 = id) : Left id bs ds i (j + 1) := by
  have e := he bs[j] (List.getElem?_eq_getElem hj)
  refine ⟨by have := h.lt; omega, by omega, h.len, ?_, ?_⟩
  · rw [take_more bs j hj, h.done]
    simp only [without, List.filter_append, List.filter_cons, List.filter_nil]
    rw [if_neg (by simp [e]), List.append_nil]
  · have := congrArg (List.drop 1) h.rest
    rwa [List.drop_drop, List.drop_drop] at this
theorem Left.keep {id : Int} {bs ds : List Bk} {i j : Nat} (h : Left id bs ds i j) (hj : j < bs.length) (x : Bk) (hx : bs[j]? = some x) (he : x.1 ≠ id) : Left id bs (ds.set i x) (i + 1) (j + 1) := by
  have hlt := h.lt
  have hx' : bs[j] = x := by rw [List.getElem?_eq_getElem hj] at hx; exact Option.some.inj hx
  refine ⟨by omega, by omega, by rw [List.length_set]; exact h.len, ?_, ?_⟩
  · rw [take_more bs j hj, hx']
    have e1 : without (bs.take j ++ [x]) id = without (bs.take j) id ++ [x] := by simp [without, he]
    rw [e1, ← h.done, take_more _ i (by rw [List.length_set, h.len]; omega), List.take_set_of_le (Nat.le_refl _)]
    congr 1; simp
  · have := congrArg (List.drop 1) h.rest
    rw [List.drop_drop, List.drop_drop] at this
    rw [List.drop_set_of_lt (by omega)]; exact this

end Go.Proofs.YtbamodkgagcmnaaGreat.Pol

set_option maxRecDepth 100000
namespace Go.Proofs.YtbamodkgagcmnaaGreat.Mdl
open Go.RowKit Go.Shelf RowG Trn
open Pol (polV chk without)
open Prb (home)
open Tab (Ent Right)
open Go.Proofs.YtbamodkgagcmnaaGreat.Mod (Bk Ans ansV ansC AnsBox deals hasId)

/-- Decide, as one line. -/
theorem decide_told {a : Option Addr} {cap : Nat} {T : List Ent} {pa : Option Addr} {pc : Nat} {P : List Bk} {k : ByteArray} {w : World} (c : Bool) (now idle : Int) (hT : Lies entK w a cap T) (hP : Pol.Lies w pa pc P) (hk : k.size ≤ 60) (hs : Flo.Short 60 T) (hl : T.length ≤ 64) (hPl : P.length ≤ 1000000000) :
    Calls Tryz.prog 24 #[rowV a cap T, polV pa pc P, .string k, .bool c, .int .i64 now, .int .i64 idle] w fun e W' => ∃ ua uc, e = .returned (.tuple #[rowV ua uc (deals home pickK T P k c now (IntKind.i64.wrap (now + idle))).1, ansV (deals home pickK T P k c now (IntKind.i64.wrap (now + idle))).2]) ∧ Lies entK W' ua uc (deals home pickK T P k c now (IntKind.i64.wrap (now + idle))).1 ∧ Below w.heap.size w W' :=
  (Decide_told _ _ _ _ _ _ _ _ c now idle hT hP (by omega) (fun x hx => by have := hs x hx; omega) hl hPl).mono fun _ _ ⟨_, he, ⟨ua, uc, hv, hu⟩, hb⟩ => ⟨ua, uc, by rw [he, hv], hu, hb⟩
theorem ans_new (w : World) (y : Ans) : AnsBox (w.alloc (.cells (ansC y) 39)) w.heap.size y ∧ Below w.heap.size w (w.alloc (.cells (ansC y) 39)) :=
  ⟨World.alloc_heap_new w _, (Below.refl _ w).alloc (Nat.le_refl _) _⟩
theorem ans_kept {w w' : World} {g : Nat} {y : Ans} (h : AnsBox w g y) (hb : Below w.heap.size w w') : AnsBox w' g y := h.kept hb
theorem pol_of {w W : World} {R : Prop} {a : Option Addr} {c : Nat} {z : List Bk} (h : Pol.Lies w a c z) (hS : Below w.heap.size w W ∧ R) : Pol.Lies W a c z := h.kept hS.1
theorem two_keep {w W W' : World} {b : Nat} {s1 s2 : Value} (h : Below w.heap.size w W ∧ W.cell? ⟨b, 1, none⟩ = some s1 ∧ W.cell? ⟨b, 2, none⟩ = some s2) (hb : Below W.heap.size W W') :
    Below w.heap.size w W' ∧ W'.cell? ⟨b, 1, none⟩ = some s1 ∧ W'.cell? ⟨b, 2, none⟩ = some s2 :=
  ⟨below2 h.1 hb, (hb.cell (World.block_lt_of_cell? _ _ h.2.1)).trans h.2.1, (hb.cell (World.block_lt_of_cell? _ _ h.2.2)).trans h.2.2⟩
theorem six_keep {w W W' : World} {b b2 o : Nat} {s1 s2 t0 t1 t2 t3 : Value} (h : Below w.heap.size w W ∧ W.cell? ⟨b, 1, none⟩ = some s1 ∧ W.cell? ⟨b, 2, none⟩ = some s2 ∧ W.cell? ⟨b2, o, none⟩ = some t0 ∧ W.cell? ⟨b2, o + 1, none⟩ = some t1 ∧ W.cell? ⟨b2, o + 2, none⟩ = some t2 ∧ W.cell? ⟨b2, o + 3, none⟩ = some t3) (hb : Below W.heap.size W W') :
    Below w.heap.size w W' ∧ W'.cell? ⟨b, 1, none⟩ = some s1 ∧ W'.cell? ⟨b, 2, none⟩ = some s2 ∧ W'.cell? ⟨b2, o, none⟩ = some t0 ∧ W'.cell? ⟨b2, o + 1, none⟩ = some t1 ∧ W'.cell? ⟨b2, o + 2, none⟩ = some t2 ∧ W'.cell? ⟨b2, o + 3, none⟩ = some t3 := by
  have k : ∀ {a : Addr} {v : Value}, W.cell? a = some v → W'.cell? a = some v := fun {a v} e => (hb.cell (World.block_lt_of_cell? _ _ e)).trans e
  obtain ⟨h0, x1, x2, y0, y1, y2, y3⟩ := h
  exact ⟨below2 h0 hb, k x1, k x2, k y0, k y1, k y2, k y3⟩
theorem z_lt (T : List Ent) (k : ByteArray) : Tab.zOf (Tab.find home T k) < (T.length : Int) := by
  cases h : Tab.find home T k with
  | none => show (-1 : Int) < _; omega
  | some a => have := (Tab.find_some h).1; show (a : Int) < _; omega
theorem sum_told (k : ByteArray) (hk : k.size ≤ 60) (w : World) : Calls Tryz.prog 32 #[.string k] w fun e W' => e = .returned (.int .u64 (hashN k : Nat)) ∧ Below w.heap.size w W' := Fnv.Sum_any k w (by omega)
theorem pick_told (a : Option Addr) (cap : Nat) (P : List Bk) (k : ByteArray) (w : World) (hz : Pol.Lies w a cap P) (hl : P.length ≤ 1000000000) :
    Calls Tryz.prog 31 #[polV a cap P, .int .u64 (hashN k : Nat)] w fun e W' => e = .returned (.int .i64 (pickK P k)) ∧ Below w.heap.size w W' := Rin.Pick_told a cap P (hashN k : Nat) w hz hl
end Go.Proofs.YtbamodkgagcmnaaGreat.Mdl
