/-
  Package model: a law's turn over a row of operations; a shard that is expired again and again.
-/
import Derived.Test.YtbamodkgagcmnaaGreatMdlV
import Derived.Test.YtbamodkgagcmnaaGreatMdlK
import Derived.Test.YtbamodkgagcmnaaGreatSwpB
import Derived.Test.YtbamodkgagcmnaaGreatBFld
set_option maxRecDepth 100000
namespace Go.Proofs.YtbamodkgagcmnaaGreat.Mdl
open Go.RowKit Go.Shelf RowG Trn
open Prb (home)
open Mdo (StM stK StOk pol_lies)
open Tab (Ent Right count places)
open Go.Proofs.YtbamodkgagcmnaaGreat.Mod (Bk Mo Cfg Ans Inv ansV ansC opV opC fresh fresh_le)

section
variable {w0 wb wr : World} {f : Foot} {idle : Int} {mo0 : Mo} {g : ByteArray → Option (ByteArray × Bool)} {L : List StM} {a : Option Addr} {c : Nat} {k : Nat}
/-- One turn of a row of operations. -/
theorem turn_do (hS : Stand wb wr f idle (goes mo0 ((opsOf g idle L).take k)) []) (hk : k < L.length) (hst : ∀ x ∈ L, StOk w0 x) (hw : Below w0.heap.size w0 wb) (hg : ∀ s, s.size ≤ 1099511627776 → FlowIs s (g s)) (hz : ∀ x ∈ L, x.pkt.size ≤ 100) :
    Calls Tryz.prog 17 #[f.v, opV L[k].kd L[k].pkt L[k].p L[k].pool.length L[k].c L[k].sh, .int .i64 L[k].now] wr.drew fun e W' => (∃ v, e = .returned v) ∧ Stand wb W' f idle (goes mo0 ((opsOf g idle L).take (k + 1))) [] ∧ Turned f.has wr W' := by
  have hm := List.getElem_mem hk
  have hS' := hS.more (Below.refl _ wr).drew
  refine (do_stand hS' _ _ _ _ _ _ _ (pol_lies (((hst _ hm).lies.kept hw).kept hS'.below)) (g L[k].pkt) (hg _ (by have := hz _ hm; omega))).mono ?_
  rintro e W' ⟨he, hs, ht⟩
  refine ⟨⟨_, he⟩, ?_, (Turned.of_below (Below.refl _ wr).drew).trans ht⟩
  rw [goes_next hk]
  exact hs
/-- Its five cells. -/
theorem turn_cells (hS : Stand wb wr f idle (goes mo0 ((opsOf g idle L).take k)) []) (hk : k < L.length) (hl : Lies stK wb a c L) :
    ∃ b off, a = some ⟨b, off, none⟩ ∧ (wr.cell? ⟨b, off + k * 5, none⟩ = some (.int .i64 L[k].kd) ∧ wr.cell? ⟨b, off + k * 5 + 1, none⟩ = some (.string L[k].pkt) ∧ wr.cell? ⟨b, off + k * 5 + 2, none⟩ = some (.slice L[k].p L[k].pool.length L[k].c) ∧ wr.cell? ⟨b, off + k * 5 + 3, none⟩ = some (.int .i64 L[k].sh) ∧ wr.cell? ⟨b, off + k * 5 + 4, none⟩ = some (.int .i64 L[k].now)) ∧ ¬ f.has b := by
  obtain ⟨b, off, e, q0, q1, q2, q3, q4⟩ := lies_st hl hk
  exact ⟨b, off, e, st_keep ⟨q0, q1, q2, q3, q4⟩ hS.below, not_has hS.from' (World.block_lt_of_cell? _ _ q0)⟩
end
theorem Held.keys {w : World} {f : Foot} {idle : Int} {mo : Mo} (h : Held w f idle mo) (i : Int) : ∀ x ∈ tabAt mo i, x.key.size ≤ 4611686018427387904 := by
  obtain ⟨pa, pc, P, sc, m, rfl, hl⟩ := h
  rw [tab_atM]
  intro x hx
  have := (atM_good hl i).keys x hx; omega
theorem Stand.tab_keep {w0 w w' : World} {f : Foot} {idle : Int} {mo : Mo} {l : List (Nat × Ans)} (h : Stand w0 w f idle mo l) {a : Option Addr} {c : Nat} {T : List Ent} (hl : Lies entK w a c T) (ht : Turned f.has w w') : Lies entK w' a c T := by
  obtain ⟨pa, pc, P, sc, m, rfl, hh⟩ := h.held
  exact ht.lies hl fun hn b off e => hh.tab_apart hl hn b off e
theorem Stand.pool_keep {w0 w w' : World} {f : Foot} {idle : Int} {mo : Mo} {l : List (Nat × Ans)} (h : Stand w0 w f idle mo l) {a : Option Addr} {c : Nat} {T : List Bk} (hl : Pol.Lies w a c T) (ht : Turned f.has w w') : Pol.Lies w' a c T := by
  obtain ⟨pa, pc, P, sc, m, rfl, hh⟩ := h.held
  exact pol_turned ht hl fun hn b off e => hh.pool_apart hl hn b off e
theorem few_and {s : Bool} {L : List StM} (h : (s && decide (fewL L)) = true) : L.length ≤ 12 ∧ ∀ x ∈ L, x.pkt.size ≤ 100 := by
  rw [Bool.and_eq_true, decide_eq_true_eq] at h
  exact ⟨h.2.1, fun x hx => (h.2.2 x hx).1⟩
/-- A row of one. -/
theorem lies_stOne (w : World) (x : StM) (_ho : StOk w x) : Lies stK (w.alloc (.cells #[.int .i64 x.kd, .string x.pkt, .slice x.p x.pool.length x.c, .int .i64 x.sh, .int .i64 x.now] 44)) (some ⟨w.heap.size, 0, none⟩) 1 [x] :=
  ⟨by unfold maxLen; omega, Nat.le_refl _, fun _ => ⟨w.heap.size, 0, rfl, fun i y hi j u hu => by
    match i, hi with
    | 0, hi =>
      simp at hi; subst hi
      obtain ⟨⟨q0, q1, q2, q3, q4⟩, _⟩ := st_box w x
      match j, hu with
      | 0, hu => simp [stK] at hu; subst hu; exact q0
      | 1, hu => simp [stK] at hu; subst hu; exact q1
      | 2, hu => simp [stK] at hu; subst hu; exact q2
      | 3, hu => simp [stK] at hu; subst hu; exact q3
      | 4, hu => simp [stK] at hu; subst hu; exact q4
      | (j + 5), hu => simp [stK] at hu
    | (i + 1), hi => simp at hi⟩⟩
/-! ### expired again and again -/
/-- How many are due. -/
def dues (now : Int) (T : List Ent) : Nat := count 1 T - fresh now T
theorem exp_turn {n cap : Nat} {mo : Mo} (h : Inv home shardN goodB n cap mo) {i : Nat} (hi : i < n) (now idle : Int) (fl : Option (ByteArray × Bool)) (pl : List Bk) :
    ∃ d : Nat, (step mo (opOf 2 fl pl (i : Int) now idle)).2 = ⟨0, 0, false, (d : Int)⟩ ∧ Inv home shardN goodB n cap (step mo (opOf 2 fl pl (i : Int) now idle)).1 ∧
      count 1 (tabAt (step mo (opOf 2 fl pl (i : Int) now idle)).1 (i : Int)) + d = count 1 (tabAt mo (i : Int)) ∧ d + dues now (tabAt (step mo (opOf 2 fl pl (i : Int) now idle)).1 (i : Int)) = dues now (tabAt mo (i : Int)) := by
  have hn : 0 < n := by omega
  have hI := Mod.inv_do (pick := pickK) (fun k => shard_ok k n) h hn (opOf 2 fl pl (i : Int) now idle)
  obtain ⟨h1, e1, hr, hc⟩ := tab_at h hi
  obtain ⟨h2, e2, _, _⟩ := tab_at hI hi
  have hs : 0 ≤ (i : Int) ∧ (i : Int) < (mo.tables.length : Int) := ⟨by omega, by omega⟩
  have hst : step mo (opOf 2 fl pl (i : Int) now idle) = (⟨mo.pool, mo.tables.set i (Tab.stepT home now (Mod.looks mo.tables[i] (mo.places.getD i 0)) mo.tables[i]), mo.places.set i (Mod.nextOf mo.tables[i] (mo.places.getD i 0))⟩, ⟨0, 0, false, (Tab.dueN now (Mod.looks mo.tables[i] (mo.places.getD i 0)) mo.tables[i] : Nat)⟩) := by
    have hg : mo.tables.getD i [] = mo.tables[i] := by rw [List.getD_eq_getElem?_getD, List.getElem?_eq_getElem h1]; rfl
    show (if 0 ≤ (i : Int) ∧ (i : Int) < (mo.tables.length : Int) then _ else _) = _
    rw [if_pos hs]
    show ((⟨mo.pool, mo.tables.set i (Tab.stepT home now (Mod.looks (mo.tables.getD i []) (mo.places.getD i 0)) (mo.tables.getD i [])), mo.places.set i (Mod.nextOf (mo.tables.getD i []) (mo.places.getD i 0))⟩ : Mo), (⟨0, 0, false, (Tab.dueN now (Mod.looks (mo.tables.getD i []) (mo.places.getD i 0)) (mo.tables.getD i []) : Nat)⟩ : Ans)) = _
    rw [hg]
  have hl : ∀ q ∈ Mod.looks mo.tables[i] (mo.places.getD i 0), q < mo.tables[i].length := fun q hq => Tab.places_mem (Tab.span_le _ _) hq
  have st := Tab.stepped (now := now) hr (Mod.looks mo.tables[i] (mo.places.getD i 0)) hl
  have sd := Mod.step_due (now := now) hr (Mod.looks mo.tables[i] (mo.places.getD i 0)) hl
  have e3 : tabAt (step mo (opOf 2 fl pl (i : Int) now idle)).1 (i : Int) = Tab.stepT home now (Mod.looks mo.tables[i] (mo.places.getD i 0)) mo.tables[i] := by
    rw [hst]
    unfold tabAt
    rw [if_pos (by simp; omega)]
    simp [h1]
  have hcnt := st.cnt
  refine ⟨Tab.dueN now (Mod.looks mo.tables[i] (mo.places.getD i 0)) mo.tables[i], by rw [hst], hI, ?_, ?_⟩
  · rw [e3, e1]; omega
  · unfold dues; rw [e3, e1]; omega
/-- What All makes of a table: as many are left as are not due. -/
theorem exp_all {n cap : Nat} {mo : Mo} (h : Inv home shardN goodB n cap mo) (h64 : cap ≤ 64) {i : Nat} (hi : i < n) (now : Int) :
    Tab.dueN now (places (tabAt mo (i : Int)).length 0 (tabAt mo (i : Int)).length) (tabAt mo (i : Int)) = dues now (tabAt mo (i : Int)) ∧ count 1 (Swp.stepC now (places (tabAt mo (i : Int)).length 0 (tabAt mo (i : Int)).length) (tabAt mo (i : Int))) + dues now (tabAt mo (i : Int)) = count 1 (tabAt mo (i : Int)) ∧ (Swp.stepC now (places (tabAt mo (i : Int)).length 0 (tabAt mo (i : Int)).length) (tabAt mo (i : Int))).length = (tabAt mo (i : Int)).length := by
  obtain ⟨_, e1, hr, hc⟩ := tab_at h hi
  rw [e1]
  rw [← hc] at h64
  clear hc
  generalize mo.tables[i] = T at *
  have hl : ∀ q ∈ places T.length 0 T.length, q < T.length := fun q hq => Tab.places_mem (Nat.le_refl _) hq
  have h1 := Mod.all_due (now := now) hr
  have st := (Tab.stepped (now := now) hr _ hl).cnt
  rw [Swp.stepC_stepT h64]
  refine ⟨h1, ?_, (Tab.stepped (now := now) hr _ hl).len⟩
  unfold dues
  omega
end Go.Proofs.YtbamodkgagcmnaaGreat.Mdl
