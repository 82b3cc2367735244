/-
  Package model: plain facts for the laws: many operations one behind the other.
-/
import Derived.Test.YtbamodkgagcmnaaGreatMdlX
import Derived.Test.YtbamodkgagcmnaaGreatMdlY
set_option maxRecDepth 100000
namespace Go.Proofs.YtbamodkgagcmnaaGreat.Mdl
open Go.RowKit Go.Shelf RowG Trn
open Pol (chk)
open Prb (home)
open Mdo (StM stV StOk pol_lies)
open Go.Proofs.YtbamodkgagcmnaaGreat.Mod (Bk Mo Cfg okB inB Ans Inv total)

/-- What many operations make of a model. -/
noncomputable abbrev goes (mo : Mo) (l : List Mod.Op) : Mo := Mod.runs home pickK shardN goodB mo l
theorem flows_all : ∃ g : ByteArray → Option (ByteArray × Bool), ∀ s, s.size ≤ 1099511627776 → FlowIs s (g s) :=
  (Classical.skolem (p := fun (s : ByteArray) (fl : Option (ByteArray × Bool)) => s.size ≤ 1099511627776 → FlowIs s fl)).1 fun (s : ByteArray) => by
    by_cases h : s.size ≤ 1099511627776
    · obtain ⟨fl, hf⟩ := flow_of s h
      exact ⟨fl, fun _ => hf⟩
    · exact ⟨none, fun h' => absurd h' h⟩
abbrev opSt (g : ByteArray → Option (ByteArray × Bool)) (idle : Int) (x : StM) : Mod.Op := opOf x.kd (g x.pkt) x.pool x.sh x.now idle
abbrev opsOf (g : ByteArray → Option (ByteArray × Bool)) (idle : Int) (L : List StM) : List Mod.Op := L.map (opSt g idle)
theorem goes_next {g : ByteArray → Option (ByteArray × Bool)} {idle : Int} {L : List StM} {k : Nat} (hk : k < L.length) (mo : Mo) : goes mo ((opsOf g idle L).take (k + 1)) = (step (goes mo ((opsOf g idle L).take k)) (opSt g idle L[k])).1 := by
  have hk' : k < (opsOf g idle L).length := by simpa using hk
  have := Mod.runs_take (home := home) (pick := pickK) (shardOf := shardN) (good := goodB) (m := mo) hk'
  unfold goes
  rw [this]
  simp [step]
theorem shard_ok (k : ByteArray) (n : Nat) : shardN k n < n ∨ n = 0 := by
  rcases Nat.eq_zero_or_pos n with h | h
  · exact .inr h
  · exact .inl (shardN_lt k h)
theorem pick_ok (p : List Bk) (k : ByteArray) (hg : goodB p = true) (hp : p ≠ []) : Mod.hasId p (pickK p k) = true := by
  obtain ⟨x, hx, e⟩ := Rin.pick_in Pts.hsh ((good_iff p).2 hg) hp (hashN k : Nat)
  rw [Mod.hasId_iff]
  exact ⟨x, hx, e⟩
theorem good_nil : goodB [] = true := (good_iff _).1 ⟨by simp, fun i x h => by simp at h⟩
theorem inv_goes {n cap : Nat} (hn : 0 < n) : ∀ (l : List Mod.Op) (mo : Mo), Inv home shardN goodB n cap mo → Inv home shardN goodB n cap (goes mo l)
  | [], _, h => h
  | o :: l, _, h => inv_goes hn l _ (Mod.inv_do (fun k => shard_ok k n) h hn o)
theorem inv_new {n cap : Nat} (hn : 0 < n) (l : List Mod.Op) : Inv home shardN goodB n cap (goes (Mod.new n cap) l) := inv_goes hn l _ (Mod.inv_new n cap good_nil)
theorem ok_nat {W S cap idle K : Int} (h : okB ⟨W, S, cap, idle, K⟩ = true) : ∃ n c : Nat, S = n ∧ cap = c ∧ 0 < n ∧ n ≤ 16 ∧ 0 < c ∧ c ≤ 64 ∧ 0 ≤ idle ∧ idle ≤ 1000000 := by
  unfold okB inB at h
  simp only [Bool.and_eq_true, decide_eq_true_eq] at h
  obtain ⟨_, h2, h3, h4, _⟩ := h
  exact ⟨S.toNat, cap.toNat, by omega, by omega, by omega, by omega, by omega, by omega, by omega, by omega⟩
theorem total_le {n cap : Nat} {mo : Mo} (h : Inv home shardN goodB n cap mo) (hn : n ≤ 16) (hc : cap ≤ 64) : total mo.tables ≤ 1024 := by
  have key : ∀ ts : List (List Tab.Ent), (∀ T ∈ ts, T.length = cap) → total ts ≤ cap * ts.length := by
    intro ts
    induction ts with
    | nil => intro _; simp [total]
    | cons T ts ih =>
      intro hT
      have h1 := ih fun U hU => hT U (List.mem_cons_of_mem _ hU)
      have h2 := Tab.count_le 1 T
      have h3 := hT T (List.mem_cons_self ..)
      unfold total at h1 ⊢
      simp only [List.map_cons, List.sum_cons, List.length_cons]
      rw [Nat.mul_add, Nat.mul_one]; omega
  have h1 := key mo.tables h.cap
  rw [h.len] at h1
  have h2 : cap * n ≤ 64 * 16 := Nat.mul_le_mul hc hn
  omega
/-- The table of a shard that there is. -/
theorem tab_at {n cap : Nat} {mo : Mo} (h : Inv home shardN goodB n cap mo) {k : Nat} (hk : k < n) : ∃ hk' : k < mo.tables.length, tabAt mo (k : Int) = mo.tables[k] ∧ Tab.Right home mo.tables[k] ∧ (mo.tables[k]).length = cap := by
  obtain ⟨h1, h2, h3, h4⟩ := h.at hk
  refine ⟨h1, ?_, h3, h4⟩
  unfold tabAt
  rw [if_pos (by omega), Int.toNat_natCast, h2]
/-- How many flows the first shards have. -/
def firstN (mo : Mo) (k : Nat) : Nat := total (mo.tables.take k)
theorem firstN_next {n cap : Nat} {mo : Mo} (h : Inv home shardN goodB n cap mo) {k : Nat} (hk : k < n) : firstN mo (k + 1) = firstN mo k + (Flo.keys (tabAt mo (k : Int))).length := by
  obtain ⟨h1, h2, _, _⟩ := tab_at h hk
  unfold firstN total
  rw [List.take_succ_eq_append_getElem h1, h2, Flo.keys_length]
  simp only [List.map_append, List.sum_append, List.map_cons, List.map_nil, List.sum_cons, List.sum_nil]
  omega
theorem firstN_all {n cap : Nat} {mo : Mo} (h : Inv home shardN goodB n cap mo) : firstN mo n = total mo.tables := by
  unfold firstN
  rw [← h.len, List.take_length]
theorem firstN_le {n cap : Nat} {mo : Mo} (h : Inv home shardN goodB n cap mo) (hn : n ≤ 16) (hc : cap ≤ 64) (k : Nat) : firstN mo k ≤ 1024 := by
  have h1 := total_le h hn hc
  have h2 : total (mo.tables.take k) + total (mo.tables.drop k) = total mo.tables := by
    unfold total
    rw [← List.sum_append, ← List.map_append, List.take_append_drop]
  unfold firstN; omega
/-! ### an operation and its time, cell by cell -/
theorem st_keep {W W' : World} {b o : Nat} {x : StM} (s : W.cell? ⟨b, o, none⟩ = some (.int .i64 x.kd) ∧ W.cell? ⟨b, o + 1, none⟩ = some (.string x.pkt) ∧ W.cell? ⟨b, o + 2, none⟩ = some (.slice x.p x.pool.length x.c) ∧ W.cell? ⟨b, o + 3, none⟩ = some (.int .i64 x.sh) ∧ W.cell? ⟨b, o + 4, none⟩ = some (.int .i64 x.now)) (hb : Below W.heap.size W W') :
    W'.cell? ⟨b, o, none⟩ = some (.int .i64 x.kd) ∧ W'.cell? ⟨b, o + 1, none⟩ = some (.string x.pkt) ∧ W'.cell? ⟨b, o + 2, none⟩ = some (.slice x.p x.pool.length x.c) ∧ W'.cell? ⟨b, o + 3, none⟩ = some (.int .i64 x.sh) ∧ W'.cell? ⟨b, o + 4, none⟩ = some (.int .i64 x.now) := by
  obtain ⟨h0, h1, h2, h3, h4⟩ := s
  exact ⟨(hb.cell (World.block_lt_of_cell? _ _ h0)).trans h0, (hb.cell (World.block_lt_of_cell? _ _ h1)).trans h1, (hb.cell (World.block_lt_of_cell? _ _ h2)).trans h2, (hb.cell (World.block_lt_of_cell? _ _ h3)).trans h3, (hb.cell (World.block_lt_of_cell? _ _ h4)).trans h4⟩
theorem st_turn {W W' : World} {b o : Nat} {x : StM} {f : Foot} (s : W.cell? ⟨b, o, none⟩ = some (.int .i64 x.kd) ∧ W.cell? ⟨b, o + 1, none⟩ = some (.string x.pkt) ∧ W.cell? ⟨b, o + 2, none⟩ = some (.slice x.p x.pool.length x.c) ∧ W.cell? ⟨b, o + 3, none⟩ = some (.int .i64 x.sh) ∧ W.cell? ⟨b, o + 4, none⟩ = some (.int .i64 x.now)) (ht : Turned f.has W W') (hn : ¬ f.has b) :
    W'.cell? ⟨b, o, none⟩ = some (.int .i64 x.kd) ∧ W'.cell? ⟨b, o + 1, none⟩ = some (.string x.pkt) ∧ W'.cell? ⟨b, o + 2, none⟩ = some (.slice x.p x.pool.length x.c) ∧ W'.cell? ⟨b, o + 3, none⟩ = some (.int .i64 x.sh) ∧ W'.cell? ⟨b, o + 4, none⟩ = some (.int .i64 x.now) := by
  obtain ⟨h0, h1, h2, h3, h4⟩ := s
  exact ⟨ht.cell h0 hn, ht.cell h1 hn, ht.cell h2 hn, ht.cell h3 hn, ht.cell h4 hn⟩
theorem not_has {f : Foot} {B b : Nat} (h : f.from' B) (hb : b < B) : ¬ f.has b := fun e => by have := has_from h b e; omega
theorem st_box (w : World) (x : StM) : let W := w.alloc (.cells #[.int .i64 x.kd, .string x.pkt, .slice x.p x.pool.length x.c, .int .i64 x.sh, .int .i64 x.now] 44)
    (W.cell? ⟨w.heap.size, 0, none⟩ = some (.int .i64 x.kd) ∧ W.cell? ⟨w.heap.size, 0 + 1, none⟩ = some (.string x.pkt) ∧ W.cell? ⟨w.heap.size, 0 + 2, none⟩ = some (.slice x.p x.pool.length x.c) ∧ W.cell? ⟨w.heap.size, 0 + 3, none⟩ = some (.int .i64 x.sh) ∧ W.cell? ⟨w.heap.size, 0 + 4, none⟩ = some (.int .i64 x.now)) ∧ Below w.heap.size w W := by
  have h1 := World.alloc_heap_new w (.cells #[.int .i64 x.kd, .string x.pkt, .slice x.p x.pool.length x.c, .int .i64 x.sh, .int .i64 x.now] 44)
  refine ⟨⟨?_, ?_, ?_, ?_, ?_⟩, (Below.refl _ w).alloc (Nat.le_refl _) _⟩ <;> (unfold World.cell?; rw [h1]; rfl)
end Go.Proofs.YtbamodkgagcmnaaGreat.Mdl
