/-
  Law 17's few (package gangplanklaw17), and the document's Few (package gangplankref17).
-/
import Derived.Test.YtbamodkgagcmnaaGreatMdlWD
import Derived.Test.YtbamodkgagcmnaaGreatCelRD
import Derived.WalkMore
import Derived.OwnWalk
import Derived.Lib.SliceRun
import Derived.Test.YtbamodkgagcmnaaGreatMdlXD
import Derived.Test.YtbamodkgagcmnaaGreatEpoPD
import Derived.Test.YtbamodkgagcmnaaGreatSwpBD
import Derived.Test.YtbamodkgagcmnaaGreatFloPD
import Derived.Test.YtbamodkgagcmnaaGreatBFloD
import Derived.Test.YtbamodkgagcmnaaGreatBPlmD
import Derived.Test.YtbamodkgagcmnaaGreatBRinD
import Derived.Test.YtbamodkgagcmnaaGreatRinCpD
import Derived.Test.YtbamodkgagcmnaaGreatBFnvD
set_option maxRecDepth 100000
namespace Go.Proofs.YtbamodkgagcmnaaGreat.Mdl
open Go.RowKit Go.Shelf Go.WideShapes RowG
open Mdo
open Go.Proofs.YtbamodkgagcmnaaGreat.Mod (Cfg cfgV smallB)

attribute [local go_sem] Oper.semAt_some

/-- So few operations, and so small ones, that a law looks at them. -/
def fewL (L : List StM) : Prop := L.length ≤ 12 ∧ ∀ x ∈ L, x.pkt.size ≤ 100 ∧ x.pool.length ≤ 8
instance (L : List StM) : Decidable (fewL L) := inferInstanceAs (Decidable (_ ∧ _))
theorem lies_op {W : World} {a : Option Addr} {cap : Nat} {T : List StM} (h : Lies opK W a cap T) {k : Nat} (hk : k < T.length) :
    ∃ b off, a = some ⟨b, off, none⟩ ∧ W.cell? ⟨b, off + k * 4, none⟩ = some (.int .i64 T[k].kd) ∧ W.cell? ⟨b, off + k * 4 + 1, none⟩ = some (.string T[k].pkt) ∧ W.cell? ⟨b, off + k * 4 + 2, none⟩ = some (.slice T[k].p T[k].pool.length T[k].c) ∧ W.cell? ⟨b, off + k * 4 + 3, none⟩ = some (.int .i64 T[k].sh) := by
  obtain ⟨b, off, e, hc⟩ := h.at hk
  exact ⟨b, off, e, hc 0 _ rfl, hc 1 _ rfl, hc 2 _ rfl, hc 3 _ rfl⟩
set_option maxHeartbeats 800000 in
theorem refFew_any (a : Option Addr) (cap : Nat) (T : List StM) (w : World) (h : Lies opK w a cap T) (hp : ∀ x ∈ T, x.pkt.size ≤ maxLen) :
    Calls Tryz.prog 42 #[rowV a cap T, .int .i64 12] w fun e W' => e = .returned (.bool (decide (fewL T))) ∧ W' = w := by
  have H := Lib.hid h
  have HP := Lib.hid hp
  have hcap := h.max
  have hlc := h.len
  unfold maxLen at hcap
  clear h hp
  by_cases h0 : 12 < T.length
  · have d0 : decide ((12 : Int) < (T.length : Int)) = true := decide_eq_true (by omega)
    have d1 : decide (12 < T.length) = true := decide_eq_true h0
    have HF := Lib.hid (show decide (fewL T) = false from decide_eq_false fun h => by have := h.1; omega)
    go_enter Tryz.func42, Tryz.ntmps42
    go_wp2_with fail
    go_ret
    exact ⟨by rw [HF.out]; rfl, rfl⟩
  have d0 : decide ((12 : Int) < (T.length : Int)) = false := decide_eq_false (by omega)
  have d1 : decide (12 < T.length) = false := decide_eq_false h0
  go_enter Tryz.func42, Tryz.ntmps42
  go_wp2_with fail
  go_loopw [5] (fun i W => W = w ∧ ∃ k : Nat, k ≤ T.length ∧ i = .int .i64 k ∧ ∀ j (hj : j < T.length), j < k → T[j].pkt.size ≤ 100 ∧ T[j].pool.length ≤ 8) (fun i _ => T.length - (intOf i).toNat)
  case atStart => exact ⟨rfl, 0, Nat.zero_le _, rfl, fun j _ hj => by omega⟩
  case round =>
    obtain ⟨rfl, k, hk, rfl, hall⟩ := hrel
    have HA := Lib.hid hall
    clear hall
    by_cases hlt : k < T.length
    · obtain ⟨b, off, rfl, q0, q1, q2, q3⟩ := lies_op H.out hlt
      have hpl := HP.out _ (List.getElem_mem hlt)
      unfold maxLen at hpl
      by_cases g0 : 100 < T[k].pkt.size
      · have e0 : decide ((100 : Int) < (T[k].pkt.size : Int)) = true := decide_eq_true (by omega)
        have e1 : decide (100 < T[k].pkt.size) = true := decide_eq_true g0
        have HF := Lib.hid (show decide (fewL T) = false from decide_eq_false fun h => by have := (h.2 _ (List.getElem_mem hlt)).1; omega)
        generalize T[k] = x at *
        go_wp2_with fail
        go_ret
        exact ⟨by rw [HF.out]; rfl, rfl⟩
      · have e0 : decide ((100 : Int) < (T[k].pkt.size : Int)) = false := decide_eq_false (by omega)
        have e1 : decide (100 < T[k].pkt.size) = false := decide_eq_false g0
        by_cases g1 : 8 < T[k].pool.length
        · have e2 : decide ((8 : Int) < (T[k].pool.length : Int)) = true := decide_eq_true (by omega)
          have e3 : decide (8 < T[k].pool.length) = true := decide_eq_true g1
          have HF := Lib.hid (show decide (fewL T) = false from decide_eq_false fun h => by have := (h.2 _ (List.getElem_mem hlt)).2; omega)
          generalize T[k] = x at *
          go_wp2_with fail
          go_ret
          exact ⟨by rw [HF.out]; rfl, rfl⟩
        · have e2 : decide ((8 : Int) < (T[k].pool.length : Int)) = false := decide_eq_false (by omega)
          have e3 : decide (8 < T[k].pool.length) = false := decide_eq_false g1
          have HN := Lib.hid (show ∀ j (hj : j < T.length), j < k + 1 → T[j].pkt.size ≤ 100 ∧ T[j].pool.length ≤ 8 from fun j hj hjk => by
            rcases Nat.lt_or_ge j k with h | h
            · exact HA.out j hj h
            · obtain rfl : j = k := by omega
              exact ⟨by omega, by omega⟩)
          clear HA
          generalize T[k] = x at *
          go_wp2_with fail
          exact ⟨⟨trivial, k + 1, hlt, by go_num, HN.out⟩, by simp [intOf]; omega⟩
    · obtain rfl : k = T.length := by omega
      have HF := Lib.hid (show decide (fewL T) = true from decide_eq_true ⟨by omega, fun x hx => by
        obtain ⟨j, hj, rfl⟩ := List.getElem_of_mem hx
        exact HA.out j hj hj⟩)
      go_wp2_with fail
      go_ret
      exact ⟨by rw [HF.out]; rfl, rfl⟩
end Go.Proofs.YtbamodkgagcmnaaGreat.Mdl

set_option maxRecDepth 100000
namespace Go.Proofs.YtbamodkgagcmnaaGreat.Mdl
open Go.RowKit Go.Shelf RowG Trn
open Pol (chk)
open Prb (home)
open Mdo (StM stV StOk pol_lies)
open Go.Proofs.YtbamodkgagcmnaaGreat.Mod (Bk Mo Cfg okB inB Ans Inv total)

/-- What many operations make of a model. -/
noncomputable abbrev goes (mo : Mo) (l : List Mod.Op) : Mo := Mod.runs home pickK shardN goodB mo l
abbrev opSt (g : ByteArray → Option (ByteArray × Bool)) (idle : Int) (x : StM) : Mod.Op := opOf x.kd (g x.pkt) x.pool x.sh x.now idle
abbrev opsOf (g : ByteArray → Option (ByteArray × Bool)) (idle : Int) (L : List StM) : List Mod.Op := L.map (opSt g idle)
/-- How many flows the first shards have. -/
def firstN (mo : Mo) (k : Nat) : Nat := total (mo.tables.take k)
/-! ### an operation and its time, cell by cell -/
theorem st_keep {W W' : World} {b o : Nat} {x : StM} (s : W.cell? ⟨b, o, none⟩ = some (.int .i64 x.kd) ∧ W.cell? ⟨b, o + 1, none⟩ = some (.string x.pkt) ∧ W.cell? ⟨b, o + 2, none⟩ = some (.slice x.p x.pool.length x.c) ∧ W.cell? ⟨b, o + 3, none⟩ = some (.int .i64 x.sh) ∧ W.cell? ⟨b, o + 4, none⟩ = some (.int .i64 x.now)) (hb : Below W.heap.size W W') :
    W'.cell? ⟨b, o, none⟩ = some (.int .i64 x.kd) ∧ W'.cell? ⟨b, o + 1, none⟩ = some (.string x.pkt) ∧ W'.cell? ⟨b, o + 2, none⟩ = some (.slice x.p x.pool.length x.c) ∧ W'.cell? ⟨b, o + 3, none⟩ = some (.int .i64 x.sh) ∧ W'.cell? ⟨b, o + 4, none⟩ = some (.int .i64 x.now) := by
  obtain ⟨h0, h1, h2, h3, h4⟩ := s
  exact ⟨(hb.cell (World.block_lt_of_cell? _ _ h0)).trans h0, (hb.cell (World.block_lt_of_cell? _ _ h1)).trans h1, (hb.cell (World.block_lt_of_cell? _ _ h2)).trans h2, (hb.cell (World.block_lt_of_cell? _ _ h3)).trans h3, (hb.cell (World.block_lt_of_cell? _ _ h4)).trans h4⟩
end Go.Proofs.YtbamodkgagcmnaaGreat.Mdl

set_option maxRecDepth 100000
namespace Go.Proofs.YtbamodkgagcmnaaGreat.Mdl
open Go.RowKit Go.Shelf RowG Trn
open Prb (home)
open Mdo (StM stK StOk pol_lies)
open Tab (Ent Right count places)
open Go.Proofs.YtbamodkgagcmnaaGreat.Mod (Bk Mo Cfg Ans Inv ansV ansC opV opC fresh fresh_le)

section
variable {w0 wb wr : World} {f : Foot} {idle : Int} {mo0 : Mo} {g : ByteArray → Option (ByteArray × Bool)} {L : List StM} {a : Option Addr} {c : Nat} {k : Nat}
end
theorem Held.keys {w : World} {f : Foot} {idle : Int} {mo : Mo} (h : Held w f idle mo) (i : Int) : ∀ x ∈ tabAt mo i, x.key.size ≤ 4611686018427387904 := by
  obtain ⟨pa, pc, P, sc, m, rfl, hl⟩ := h
  rw [tab_atM]
  intro x hx
  have := (atM_good hl i).keys x hx; omega
/-! ### expired again and again -/
/-- How many are due. -/
def dues (now : Int) (T : List Ent) : Nat := count 1 T - fresh now T
end Go.Proofs.YtbamodkgagcmnaaGreat.Mdl

set_option maxRecDepth 100000
namespace Go.Proofs.YtbamodkgagcmnaaGreat.Mdl
open Go.RowKit Go.Shelf RowG
open Prb (home)
open Tab (Ent Right)
open Flo (keys)
open Go.Proofs.YtbamodkgagcmnaaGreat.Mod (Bk Mo Inv)

/-- How often a key stands in a row. -/
def occ (key : ByteArray) (l : List ByteArray) : Nat := (l.filter fun k => decide (k = key)).length
section
variable {n cap : Nat} {mo : Mo}
end
end Go.Proofs.YtbamodkgagcmnaaGreat.Mdl

set_option maxRecDepth 100000
namespace Go.Proofs.YtbamodkgagcmnaaGreat.Pol
open Go.RowKit Go.Shelf Rgn

/-- What DeleteFunc has done: the first i of ds are what is left of the first j of bs; the others stand as they stood. -/
structure Left (id : Int) (bs ds : List Bk) (i j : Nat) : Prop where
  lt : i < j
  le : j ≤ bs.length
  len : ds.length = bs.length
  done : ds.take i = without (bs.take j) id
  rest : ds.drop j = bs.drop j
theorem Left.at {id : Int} {bs ds : List Bk} {i j : Nat} (h : Left id bs ds i j) (hj : j < bs.length) : ∃ x, ds[j]? = some x ∧ bs[j]? = some x := by
  refine ⟨bs[j], ?_, List.getElem?_eq_getElem hj⟩
  have := congrArg (fun l => l[0]?) h.rest
  simp only [List.getElem?_drop, Nat.add_zero] at this
  rw [this]; exact List.getElem?_eq_getElem hj
theorem Left.start (id : Int) (bs : List Bk) (k : Nat) (hk : k < bs.length) (hno : ∀ j x, j < k → bs[j]? = some x → x.1 ≠ id) (h : ∀ x, bs[k]? = some x → x.1 = id) : Left id bs bs k (k + 1) := by
  refine ⟨by omega, by omega, rfl, ?_, rfl⟩
  rw [take_more bs k hk]
  have e := h bs[k] (List.getElem?_eq_getElem hk)
  simp only [without, List.filter_append, List.filter_cons, List.filter_nil]
  rw [if_neg (by simp [e]), List.append_nil]
  refine (List.filter_eq_self.2 fun x hx => ?_).symm
  obtain ⟨j, hj, rfl⟩ := List.getElem_of_mem hx
  have hj' : j < k := by simp at hj; omega
  have := hno j bs[j] hj' (List.getElem?_eq_getElem (by omega))
  simpa using this
theorem Left.skip {id : Int} {bs ds : List Bk} {i j : Nat} (h : Left id bs ds i j) (hj : j < bs.length) (he : ∀ x, bs[j]? = some x → x.1 = id) : Left id bs ds i (j + 1) := by
  have e := he bs[j] (List.getElem?_eq_getElem hj)
  refine ⟨by have := h.lt; omega, by omega, h.len, ?_, ?_⟩
  · rw [take_more bs j hj, h.done]
    simp only [without, List.filter_append, List.filter_cons, List.filter_nil]
    rw [if_neg (by simp [e]), List.append_nil]
  · have := congrArg (List.drop 1) h.rest
    rwa [List.drop_drop, List.drop_drop] at this
theorem Left.keep {id : Int} {bs ds : List Bk} {i j : Nat} (h : Left id bs ds i j) (hj : j < bs.length) (x : Bk) (hx : bs[j]? = some x) (he : x.1 ≠ id) : Left id bs (ds.set i x) (i + 1) (j + 1) := by
  have hlt := h.lt
  have hx' : bs[j] = x := by rw [List.getElem?_eq_getElem hj] at hx; exact Option.some.inj hx
  refine ⟨by omega, by omega, by rw [List.length_set]; exact h.len, ?_, ?_⟩
  · rw [take_more bs j hj, hx']
    have e1 : without (bs.take j ++ [x]) id = without (bs.take j) id ++ [x] := by simp [without, he]
    rw [e1, ← h.done, take_more _ i (by rw [List.length_set, h.len]; omega), List.take_set_of_le (Nat.le_refl _)]
    congr 1; simp
  · have := congrArg (List.drop 1) h.rest
    rw [List.drop_drop, List.drop_drop] at this
    rw [List.drop_set_of_lt (by omega)]; exact this

end Go.Proofs.YtbamodkgagcmnaaGreat.Pol

set_option maxRecDepth 100000
namespace Go.Proofs.YtbamodkgagcmnaaGreat.Mdl
open Go.RowKit Go.Shelf RowG Trn
open Pol (polV chk without)
open Prb (home)
open Tab (Ent Right)
open Go.Proofs.YtbamodkgagcmnaaGreat.Mod (Bk Ans ansV ansC AnsBox deals hasId)

/-- Decide, as one line. -/
theorem decide_told {a : Option Addr} {cap : Nat} {T : List Ent} {pa : Option Addr} {pc : Nat} {P : List Bk} {k : ByteArray} {w : World} (c : Bool) (now idle : Int) (hT : Lies entK w a cap T) (hP : Pol.Lies w pa pc P) (hk : k.size ≤ 60) (hs : Flo.Short 60 T) (hl : T.length ≤ 64) (hPl : P.length ≤ 1000000000) :
    Calls Tryz.prog 24 #[rowV a cap T, polV pa pc P, .string k, .bool c, .int .i64 now, .int .i64 idle] w fun e W' => ∃ ua uc, e = .returned (.tuple #[rowV ua uc (deals home pickK T P k c now (IntKind.i64.wrap (now + idle))).1, ansV (deals home pickK T P k c now (IntKind.i64.wrap (now + idle))).2]) ∧ Lies entK W' ua uc (deals home pickK T P k c now (IntKind.i64.wrap (now + idle))).1 ∧ Below w.heap.size w W' :=
  (Decide_told _ _ _ _ _ _ _ _ c now idle hT hP (by omega) (fun x hx => by have := hs x hx; omega) hl hPl).mono fun _ _ ⟨_, he, ⟨ua, uc, hv, hu⟩, hb⟩ => ⟨ua, uc, by rw [he, hv], hu, hb⟩
theorem ans_new (w : World) (y : Ans) : AnsBox (w.alloc (.cells (ansC y) 39)) w.heap.size y ∧ Below w.heap.size w (w.alloc (.cells (ansC y) 39)) :=
  ⟨World.alloc_heap_new w _, (Below.refl _ w).alloc (Nat.le_refl _) _⟩
theorem ans_kept {w w' : World} {g : Nat} {y : Ans} (h : AnsBox w g y) (hb : Below w.heap.size w w') : AnsBox w' g y := h.kept hb
theorem two_keep {w W W' : World} {b : Nat} {s1 s2 : Value} (h : Below w.heap.size w W ∧ W.cell? ⟨b, 1, none⟩ = some s1 ∧ W.cell? ⟨b, 2, none⟩ = some s2) (hb : Below W.heap.size W W') :
    Below w.heap.size w W' ∧ W'.cell? ⟨b, 1, none⟩ = some s1 ∧ W'.cell? ⟨b, 2, none⟩ = some s2 :=
  ⟨below2 h.1 hb, (hb.cell (World.block_lt_of_cell? _ _ h.2.1)).trans h.2.1, (hb.cell (World.block_lt_of_cell? _ _ h.2.2)).trans h.2.2⟩
end Go.Proofs.YtbamodkgagcmnaaGreat.Mdl
