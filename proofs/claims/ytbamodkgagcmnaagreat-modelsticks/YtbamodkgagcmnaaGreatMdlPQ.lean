/-
  Package model: plain facts for the laws: many operations one behind the other.
-/
import Derived.Test.YtbamodkgagcmnaaGreatMdlXQ
import Derived.Test.YtbamodkgagcmnaaGreatMdlYQ
import Derived.Test.YtbamodkgagcmnaaGreatMdlKQ
import Derived.Test.YtbamodkgagcmnaaGreatSwpBQ
import Derived.Test.YtbamodkgagcmnaaGreatBFldQ
set_option maxRecDepth 100000
namespace Go.Proofs.YtbamodkgagcmnaaGreat.Mdl
open Go.RowKit Go.Shelf RowG Trn
open Pol (chk)
open Prb (home)
open Mdo (StM stV StOk pol_lies)
open Go.Proofs.YtbamodkgagcmnaaGreat.Mod (Bk Mo Cfg okB inB Ans Inv total)

/-- What many operations make of a model. -/
noncomputable abbrev goes (mo : Mo) (l : List Mod.Op) : Mo := Mod.runs home pickK shardN goodB mo l
theorem flows_all : ∃ g : ByteArray → Option (ByteArray × Bool), ∀ s, s.size ≤ 1099511627776 → FlowIs s (g s) :=
  (Classical.skolem (p := fun (s : ByteArray) (fl : Option (ByteArray × Bool)) => s.size ≤ 1099511627776 → FlowIs s fl)).1 fun (s : ByteArray) => by
    by_cases h : s.size ≤ 1099511627776
    · obtain ⟨fl, hf⟩ := flow_of s h
      exact ⟨fl, fun _ => hf⟩
    · exact ⟨none, fun h' => absurd h' h⟩
abbrev opSt (g : ByteArray → Option (ByteArray × Bool)) (idle : Int) (x : StM) : Mod.Op := opOf x.kd (g x.pkt) x.pool x.sh x.now idle
abbrev opsOf (g : ByteArray → Option (ByteArray × Bool)) (idle : Int) (L : List StM) : List Mod.Op := L.map (opSt g idle)
theorem goes_next {g : ByteArray → Option (ByteArray × Bool)} {idle : Int} {L : List StM} {k : Nat} (hk : k < L.length) (mo : Mo) : goes mo ((opsOf g idle L).take (k + 1)) = (step (goes mo ((opsOf g idle L).take k)) (opSt g idle L[k])).1 := by
  have hk' : k < (opsOf g idle L).length := by simpa using hk
  have := Mod.runs_take (home := home) (pick := pickK) (shardOf := shardN) (good := goodB) (m := mo) hk'
  unfold goes
  rw [this]
  simp [step]
theorem shard_ok (k : ByteArray) (n : Nat) : shardN k n < n ∨ n = 0 := by
  rcases Nat.eq_zero_or_pos n with h | h
  · exact .inr h
  · exact .inl (shardN_lt k h)
theorem pick_ok (p : List Bk) (k : ByteArray) (hg : goodB p = true) (hp : p ≠ []) : Mod.hasId p (pickK p k) = true := by
  obtain ⟨x, hx, e⟩ := Rin.pick_in Pts.hsh ((good_iff p).2 hg) hp (hashN k : Nat)
  rw [Mod.hasId_iff]
  exact ⟨x, hx, e⟩
theorem good_nil : goodB [] = true := (good_iff _).1 ⟨by simp, fun i x h => by simp at h⟩
theorem inv_goes {n cap : Nat} (hn : 0 < n) : ∀ (l : List Mod.Op) (mo : Mo), Inv home shardN goodB n cap mo → Inv home shardN goodB n cap (goes mo l)
  | [], _, h => h
  | o :: l, _, h => inv_goes hn l _ (Mod.inv_do (fun k => shard_ok k n) h hn o)
theorem inv_new {n cap : Nat} (hn : 0 < n) (l : List Mod.Op) : Inv home shardN goodB n cap (goes (Mod.new n cap) l) := inv_goes hn l _ (Mod.inv_new n cap good_nil)
theorem ok_nat {W S cap idle K : Int} (h : okB ⟨W, S, cap, idle, K⟩ = true) : ∃ n c : Nat, S = n ∧ cap = c ∧ 0 < n ∧ n ≤ 16 ∧ 0 < c ∧ c ≤ 64 ∧ 0 ≤ idle ∧ idle ≤ 1000000 := by
  unfold okB inB at h
  simp only [Bool.and_eq_true, decide_eq_true_eq] at h
  obtain ⟨_, h2, h3, h4, _⟩ := h
  exact ⟨S.toNat, cap.toNat, by omega, by omega, by omega, by omega, by omega, by omega, by omega, by omega⟩
theorem total_le {n cap : Nat} {mo : Mo} (h : Inv home shardN goodB n cap mo) (hn : n ≤ 16) (hc : cap ≤ 64) : total mo.tables ≤ 1024 := by
  have key : ∀ ts : List (List Tab.Ent), (∀ T ∈ ts, T.length = cap) → total ts ≤ cap * ts.length := by
    intro ts
    induction ts with
    | nil => intro _; simp [total]
    | cons T ts ih =>
      intro hT
      have h1 := ih fun U hU => hT U (List.mem_cons_of_mem _ hU)
      have h2 := Tab.count_le 1 T
      have h3 := hT T (List.mem_cons_self ..)
      unfold total at h1 ⊢
      simp only [List.map_cons, List.sum_cons, List.length_cons]
      rw [Nat.mul_add, Nat.mul_one]; omega
  have h1 := key mo.tables h.cap
  rw [h.len] at h1
  have h2 : cap * n ≤ 64 * 16 := Nat.mul_le_mul hc hn
  omega
/-- The table of a shard that there is. -/
theorem tab_at {n cap : Nat} {mo : Mo} (h : Inv home shardN goodB n cap mo) {k : Nat} (hk : k < n) : ∃ hk' : k < mo.tables.length, tabAt mo (k : Int) = mo.tables[k] ∧ Tab.Right home mo.tables[k] ∧ (mo.tables[k]).length = cap := by
  obtain ⟨h1, h2, h3, h4⟩ := h.at hk
  refine ⟨h1, ?_, h3, h4⟩
  unfold tabAt
  rw [if_pos (by omega), Int.toNat_natCast, h2]
/-- How many flows the first shards have. -/
def firstN (mo : Mo) (k : Nat) : Nat := total (mo.tables.take k)
theorem firstN_next {n cap : Nat} {mo : Mo} (h : Inv home shardN goodB n cap mo) {k : Nat} (hk : k < n) : firstN mo (k + 1) = firstN mo k + (Flo.keys (tabAt mo (k : Int))).length := by
  obtain ⟨h1, h2, _, _⟩ := tab_at h hk
  unfold firstN total
  rw [List.take_succ_eq_append_getElem h1, h2, Flo.keys_length]
  simp only [List.map_append, List.sum_append, List.map_cons, List.map_nil, List.sum_cons, List.sum_nil]
  omega
theorem firstN_all {n cap : Nat} {mo : Mo} (h : Inv home shardN goodB n cap mo) : firstN mo n = total mo.tables := by
  unfold firstN
  rw [← h.len, List.take_length]
theorem firstN_le {n cap : Nat} {mo : Mo} (h : Inv home shardN goodB n cap mo) (hn : n ≤ 16) (hc : cap ≤ 64) (k : Nat) : firstN mo k ≤ 1024 := by
  have h1 := total_le h hn hc
  have h2 : total (mo.tables.take k) + total (mo.tables.drop k) = total mo.tables := by
    unfold total
    rw [← List.sum_append, ← List.map_append, List.take_append_drop]
  unfold firstN; omega
/-! ### an operation and its time, cell by cell -/
theorem st_keep {W W' : World} {b o : Nat} {x : StM} (s : W.cell? ⟨b, o, none⟩ = some (.int .i64 x.kd) ∧ W.cell? ⟨b, o + 1, none⟩ = some (.string x.pkt) ∧ W.cell? ⟨b, o + 2, none⟩ = some (.slice x.p x.pool.length x.c) ∧ W.cell? ⟨b, o + 3, none⟩ = some (.int .i64 x.sh) ∧ W.cell? ⟨b, o + 4, none⟩ = some (.int .i64 x.now)) (hb : Below W.heap.size W W') :
    W'.cell? ⟨b, o, none⟩ = some (.int .i64 x.kd) ∧ W'.cell? ⟨b, o + 1, none⟩ = some (.string x.pkt) ∧ W'.cell? ⟨b, o + 2, none⟩ = some (.slice x.p x.pool.length x.c) ∧ W'.cell? ⟨b, o + 3, none⟩ = some (.int .i64 x.sh) ∧ W'.cell? ⟨b, o + 4, none⟩ = some (.int .i64 x.now) := by
  obtain ⟨h0, h1, h2, h3, h4⟩ := s
  exact ⟨(hb.cell (World.block_lt_of_cell? _ _ h0)).trans h0, (hb.cell (World.block_lt_of_cell? _ _ h1)).trans h1, (hb.cell (World.block_lt_of_cell? _ _ h2)).trans h2, (hb.cell (World.block_lt_of_cell? _ _ h3)).trans h3, (hb.cell (World.block_lt_of_cell? _ _ h4)).trans h4⟩
theorem st_turn {W W' : World} {b o : Nat} {x : StM} {f : Foot} (s : W.cell? ⟨b, o, none⟩ = some (.int .i64 x.kd) ∧ W.cell? ⟨b, o + 1, none⟩ = some (.string x.pkt) ∧ W.cell? ⟨b, o + 2, none⟩ = some (.slice x.p x.pool.length x.c) ∧ W.cell? ⟨b, o + 3, none⟩ = some (.int .i64 x.sh) ∧ W.cell? ⟨b, o + 4, none⟩ = some (.int .i64 x.now)) (ht : Turned f.has W W') (hn : ¬ f.has b) :
    W'.cell? ⟨b, o, none⟩ = some (.int .i64 x.kd) ∧ W'.cell? ⟨b, o + 1, none⟩ = some (.string x.pkt) ∧ W'.cell? ⟨b, o + 2, none⟩ = some (.slice x.p x.pool.length x.c) ∧ W'.cell? ⟨b, o + 3, none⟩ = some (.int .i64 x.sh) ∧ W'.cell? ⟨b, o + 4, none⟩ = some (.int .i64 x.now) := by
  obtain ⟨h0, h1, h2, h3, h4⟩ := s
  exact ⟨ht.cell h0 hn, ht.cell h1 hn, ht.cell h2 hn, ht.cell h3 hn, ht.cell h4 hn⟩
theorem not_has {f : Foot} {B b : Nat} (h : f.from' B) (hb : b < B) : ¬ f.has b := fun e => by have := has_from h b e; omega
theorem st_box (w : World) (x : StM) : let W := w.alloc (.cells #[.int .i64 x.kd, .string x.pkt, .slice x.p x.pool.length x.c, .int .i64 x.sh, .int .i64 x.now] 44)
    (W.cell? ⟨w.heap.size, 0, none⟩ = some (.int .i64 x.kd) ∧ W.cell? ⟨w.heap.size, 0 + 1, none⟩ = some (.string x.pkt) ∧ W.cell? ⟨w.heap.size, 0 + 2, none⟩ = some (.slice x.p x.pool.length x.c) ∧ W.cell? ⟨w.heap.size, 0 + 3, none⟩ = some (.int .i64 x.sh) ∧ W.cell? ⟨w.heap.size, 0 + 4, none⟩ = some (.int .i64 x.now)) ∧ Below w.heap.size w W := by
  have h1 := World.alloc_heap_new w (.cells #[.int .i64 x.kd, .string x.pkt, .slice x.p x.pool.length x.c, .int .i64 x.sh, .int .i64 x.now] 44)
  refine ⟨⟨?_, ?_, ?_, ?_, ?_⟩, (Below.refl _ w).alloc (Nat.le_refl _) _⟩ <;> (unfold World.cell?; rw [h1]; rfl)
end Go.Proofs.YtbamodkgagcmnaaGreat.Mdl

set_option maxRecDepth 100000
namespace Go.Proofs.YtbamodkgagcmnaaGreat.Mdl
open Go.RowKit Go.Shelf RowG Trn
open Prb (home)
open Mdo (StM stK StOk pol_lies)
open Tab (Ent Right count places)
open Go.Proofs.YtbamodkgagcmnaaGreat.Mod (Bk Mo Cfg Ans Inv ansV ansC opV opC fresh fresh_le)

section
variable {w0 wb wr : World} {f : Foot} {idle : Int} {mo0 : Mo} {g : ByteArray → Option (ByteArray × Bool)} {L : List StM} {a : Option Addr} {c : Nat} {k : Nat}
/-- One turn of a row of operations. -/
theorem turn_do (hS : Stand wb wr f idle (goes mo0 ((opsOf g idle L).take k)) []) (hk : k < L.length) (hst : ∀ x ∈ L, StOk w0 x) (hw : Below w0.heap.size w0 wb) (hg : ∀ s, s.size ≤ 1099511627776 → FlowIs s (g s)) (hz : ∀ x ∈ L, x.pkt.size ≤ 100) :
    Calls Tryz.prog 17 #[f.v, opV L[k].kd L[k].pkt L[k].p L[k].pool.length L[k].c L[k].sh, .int .i64 L[k].now] wr.drew fun e W' => (∃ v, e = .returned v) ∧ Stand wb W' f idle (goes mo0 ((opsOf g idle L).take (k + 1))) [] ∧ Turned f.has wr W' := by
  have hm := List.getElem_mem hk
  have hS' := hS.more (Below.refl _ wr).drew
  refine (do_stand hS' _ _ _ _ _ _ _ (pol_lies (((hst _ hm).lies.kept hw).kept hS'.below)) (g L[k].pkt) (hg _ (by have := hz _ hm; omega))).mono ?_
  rintro e W' ⟨he, hs, ht⟩
  refine ⟨⟨_, he⟩, ?_, (Turned.of_below (Below.refl _ wr).drew).trans ht⟩
  rw [goes_next hk]
  exact hs
/-- Its five cells. -/
theorem turn_cells (hS : Stand wb wr f idle (goes mo0 ((opsOf g idle L).take k)) []) (hk : k < L.length) (hl : Lies stK wb a c L) :
    ∃ b off, a = some ⟨b, off, none⟩ ∧ (wr.cell? ⟨b, off + k * 5, none⟩ = some (.int .i64 L[k].kd) ∧ wr.cell? ⟨b, off + k * 5 + 1, none⟩ = some (.string L[k].pkt) ∧ wr.cell? ⟨b, off + k * 5 + 2, none⟩ = some (.slice L[k].p L[k].pool.length L[k].c) ∧ wr.cell? ⟨b, off + k * 5 + 3, none⟩ = some (.int .i64 L[k].sh) ∧ wr.cell? ⟨b, off + k * 5 + 4, none⟩ = some (.int .i64 L[k].now)) ∧ ¬ f.has b := by
  obtain ⟨b, off, e, q0, q1, q2, q3, q4⟩ := lies_st hl hk
  exact ⟨b, off, e, st_keep ⟨q0, q1, q2, q3, q4⟩ hS.below, not_has hS.from' (World.block_lt_of_cell? _ _ q0)⟩
end
theorem Held.keys {w : World} {f : Foot} {idle : Int} {mo : Mo} (h : Held w f idle mo) (i : Int) : ∀ x ∈ tabAt mo i, x.key.size ≤ 4611686018427387904 := by
  obtain ⟨pa, pc, P, sc, m, rfl, hl⟩ := h
  rw [tab_atM]
  intro x hx
  have := (atM_good hl i).keys x hx; omega
theorem Stand.tab_keep {w0 w w' : World} {f : Foot} {idle : Int} {mo : Mo} {l : List (Nat × Ans)} (h : Stand w0 w f idle mo l) {a : Option Addr} {c : Nat} {T : List Ent} (hl : Lies entK w a c T) (ht : Turned f.has w w') : Lies entK w' a c T := by
  obtain ⟨pa, pc, P, sc, m, rfl, hh⟩ := h.held
  exact ht.lies hl fun hn b off e => hh.tab_apart hl hn b off e
theorem few_and {s : Bool} {L : List StM} (h : (s && decide (fewL L)) = true) : L.length ≤ 12 ∧ ∀ x ∈ L, x.pkt.size ≤ 100 := by
  rw [Bool.and_eq_true, decide_eq_true_eq] at h
  exact ⟨h.2.1, fun x hx => (h.2.2 x hx).1⟩
/-- A row of one. -/
theorem lies_stOne (w : World) (x : StM) : Lies stK (w.alloc (.cells #[.int .i64 x.kd, .string x.pkt, .slice x.p x.pool.length x.c, .int .i64 x.sh, .int .i64 x.now] 44)) (some ⟨w.heap.size, 0, none⟩) 1 [x] :=
  ⟨by unfold maxLen; omega, Nat.le_refl _, fun _ => ⟨w.heap.size, 0, rfl, fun i y hi j u hu => by
    match i, hi with
    | 0, hi =>
      simp at hi; subst hi
      obtain ⟨⟨q0, q1, q2, q3, q4⟩, _⟩ := st_box w x
      match j, hu with
      | 0, hu => simp [stK] at hu; subst hu; exact q0
      | 1, hu => simp [stK] at hu; subst hu; exact q1
      | 2, hu => simp [stK] at hu; subst hu; exact q2
      | 3, hu => simp [stK] at hu; subst hu; exact q3
      | 4, hu => simp [stK] at hu; subst hu; exact q4
      | (j + 5), hu => simp [stK] at hu
    | (i + 1), hi => simp at hi⟩⟩
/-- How many flows there are behind an operation. -/
theorem turn_total {n cap : Nat} {mo : Mo} (h : Inv home shardN goodB n cap mo) (hn : 0 < n) (o : Mod.Op) :
    (o.kind = 0 → Mod.total (step mo o).1.tables ≤ Mod.total mo.tables + 1 ∧ Mod.total mo.tables ≤ Mod.total (step mo o).1.tables + 1 ∧ (Mod.total (step mo o).1.tables = Mod.total mo.tables + 1 → (step mo o).2.made = true)) ∧
    (o.kind = 2 → (Mod.total (step mo o).1.tables : Int) + (step mo o).2.count = Mod.total mo.tables) ∧
    (o.kind ≠ 0 → o.kind ≠ 2 → Mod.total (step mo o).1.tables = Mod.total mo.tables) :=
  Mod.do_total (pick := pickK) (fun k => shard_ok k n) h hn o
theorem turn_inv {n cap : Nat} {mo : Mo} (h : Inv home shardN goodB n cap mo) (hn : 0 < n) (o : Mod.Op) : Inv home shardN goodB n cap (step mo o).1 :=
  Mod.inv_do (pick := pickK) (fun k => shard_ok k n) h hn o
theorem turn_fails {n cap : Nat} {mo : Mo} (h : Inv home shardN goodB n cap mo) (hn : 0 < n) (o : Mod.Op) :
    ((step mo o).2.err ≠ 0 → (step mo o).1 = mo) ∧ (o.kind = 3 → (step mo o).1 = mo) ∧ (o.kind = 2 → (step mo o).2.count ≤ 4 ∧ 0 ≤ (step mo o).2.count) :=
  Mod.do_fails (pick := pickK) (fun k => shard_ok k n) h hn (fun p k hg hp => pick_ok p k hg hp) o
theorem stats_turn (mo : Mo) (idle : Int) : step mo (opOf 3 none [] 0 0 idle) = (mo, ⟨0, 0, false, ((Mod.total mo.tables : Nat) : Int)⟩) := rfl
/-! ### expired again and again -/
/-- How many are due. -/
def dues (now : Int) (T : List Ent) : Nat := count 1 T - fresh now T
theorem exp_turn {n cap : Nat} {mo : Mo} (h : Inv home shardN goodB n cap mo) {i : Nat} (hi : i < n) (now idle : Int) (fl : Option (ByteArray × Bool)) (pl : List Bk) :
    ∃ d : Nat, (step mo (opOf 2 fl pl (i : Int) now idle)).2 = ⟨0, 0, false, (d : Int)⟩ ∧ Inv home shardN goodB n cap (step mo (opOf 2 fl pl (i : Int) now idle)).1 ∧
      count 1 (tabAt (step mo (opOf 2 fl pl (i : Int) now idle)).1 (i : Int)) + d = count 1 (tabAt mo (i : Int)) ∧ d + dues now (tabAt (step mo (opOf 2 fl pl (i : Int) now idle)).1 (i : Int)) = dues now (tabAt mo (i : Int)) := by
  have hn : 0 < n := by omega
  have hI := Mod.inv_do (pick := pickK) (fun k => shard_ok k n) h hn (opOf 2 fl pl (i : Int) now idle)
  obtain ⟨h1, e1, hr, hc⟩ := tab_at h hi
  obtain ⟨h2, e2, _, _⟩ := tab_at hI hi
  have hs : 0 ≤ (i : Int) ∧ (i : Int) < (mo.tables.length : Int) := ⟨by omega, by omega⟩
  have hst : step mo (opOf 2 fl pl (i : Int) now idle) = (⟨mo.pool, mo.tables.set i (Tab.stepT home now (Mod.looks mo.tables[i] (mo.places.getD i 0)) mo.tables[i]), mo.places.set i (Mod.nextOf mo.tables[i] (mo.places.getD i 0))⟩, ⟨0, 0, false, (Tab.dueN now (Mod.looks mo.tables[i] (mo.places.getD i 0)) mo.tables[i] : Nat)⟩) := by
    have hg : mo.tables.getD i [] = mo.tables[i] := by rw [List.getD_eq_getElem?_getD, List.getElem?_eq_getElem h1]; rfl
    show (if 0 ≤ (i : Int) ∧ (i : Int) < (mo.tables.length : Int) then _ else _) = _
    rw [if_pos hs]
    show ((⟨mo.pool, mo.tables.set i (Tab.stepT home now (Mod.looks (mo.tables.getD i []) (mo.places.getD i 0)) (mo.tables.getD i [])), mo.places.set i (Mod.nextOf (mo.tables.getD i []) (mo.places.getD i 0))⟩ : Mo), (⟨0, 0, false, (Tab.dueN now (Mod.looks (mo.tables.getD i []) (mo.places.getD i 0)) (mo.tables.getD i []) : Nat)⟩ : Ans)) = _
    rw [hg]
  have hl : ∀ q ∈ Mod.looks mo.tables[i] (mo.places.getD i 0), q < mo.tables[i].length := fun q hq => Tab.places_mem (Tab.span_le _ _) hq
  have st := Tab.stepped (now := now) hr (Mod.looks mo.tables[i] (mo.places.getD i 0)) hl
  have sd := Mod.step_due (now := now) hr (Mod.looks mo.tables[i] (mo.places.getD i 0)) hl
  have e3 : tabAt (step mo (opOf 2 fl pl (i : Int) now idle)).1 (i : Int) = Tab.stepT home now (Mod.looks mo.tables[i] (mo.places.getD i 0)) mo.tables[i] := by
    rw [hst]
    unfold tabAt
    rw [if_pos (by simp; omega)]
    simp [h1]
  have hcnt := st.cnt
  refine ⟨Tab.dueN now (Mod.looks mo.tables[i] (mo.places.getD i 0)) mo.tables[i], by rw [hst], hI, ?_, ?_⟩
  · rw [e3, e1]; omega
  · unfold dues; rw [e3, e1]; omega
/-- What All makes of a table: as many are left as are not due. -/
theorem exp_all {n cap : Nat} {mo : Mo} (h : Inv home shardN goodB n cap mo) (h64 : cap ≤ 64) {i : Nat} (hi : i < n) (now : Int) :
    Tab.dueN now (places (tabAt mo (i : Int)).length 0 (tabAt mo (i : Int)).length) (tabAt mo (i : Int)) = dues now (tabAt mo (i : Int)) ∧ count 1 (Swp.stepC now (places (tabAt mo (i : Int)).length 0 (tabAt mo (i : Int)).length) (tabAt mo (i : Int))) + dues now (tabAt mo (i : Int)) = count 1 (tabAt mo (i : Int)) ∧ (Swp.stepC now (places (tabAt mo (i : Int)).length 0 (tabAt mo (i : Int)).length) (tabAt mo (i : Int))).length = (tabAt mo (i : Int)).length := by
  obtain ⟨_, e1, hr, hc⟩ := tab_at h hi
  rw [e1]
  rw [← hc] at h64
  clear hc
  generalize mo.tables[i] = T at *
  have hl : ∀ q ∈ places T.length 0 T.length, q < T.length := fun q hq => Tab.places_mem (Nat.le_refl _) hq
  have h1 := Mod.all_due (now := now) hr
  have st := (Tab.stepped (now := now) hr _ hl).cnt
  rw [Swp.stepC_stepT h64]
  refine ⟨h1, ?_, (Tab.stepped (now := now) hr _ hl).len⟩
  unfold dues
  omega
end Go.Proofs.YtbamodkgagcmnaaGreat.Mdl
