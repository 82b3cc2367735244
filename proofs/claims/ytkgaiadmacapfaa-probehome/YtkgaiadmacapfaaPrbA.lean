/-
  Package probe: Home, way and the function that way hands back, as contracts.
-/
import Derived.Test.YtkgaiadmacapfaaBFnv
import Derived.Test.YtkgaiadmacapfaaSte
import Derived.Test.YtkgaiadmacapfaaTabW
namespace Go.Proofs.Ytkgaiadmacapfaa.Prb
open Go.RowKit Go.Shelf RowG Tab

attribute [local go_sem] Oper.semAt_some

/-- Where a key's way begins, in a table of some places. -/
def home (k : ByteArray) (n : Nat) : Nat := Fnv.jn 14695981039346656037 k.data.toList % n
theorem home_lt (k : ByteArray) {n : Nat} (hn : 0 < n) : home k n < n := Nat.mod_lt _ hn
/-- What Home tells. -/
def homeZ (k : ByteArray) (n : Int) : Int := if n < 1 then 0 else (home k n.toNat : Nat)
theorem homeZ_low (k : ByteArray) {n : Int} (h : n < 1) : homeZ k n = 0 := if_pos h
theorem homeZ_nat (k : ByteArray) {n : Nat} (h : 0 < n) : homeZ k (n : Int) = (home k n : Nat) := if_neg (by omega)
/-- An entry's value. -/
abbrev entV (x : Ent) : Value := .agg #[.int .i64 x.st, .string x.key, .int .i64 x.be, .int .i64 x.dl]

theorem sum_mod (q m : Nat) (hm0 : 0 < m) (hm : m ≤ 9223372036854775807) : IntKind.u64.wrap (m : Int) = (m : Int) ∧ wrap64 ((q : Int) % (m : Int)) = ((q % m : Nat) : Int) := by
  have hl := Nat.mod_lt q hm0
  refine ⟨by rw [Fnv.u64_mod m, Nat.mod_eq_of_lt (by omega)], ?_⟩
  have hx : (q : Int) % (m : Int) = ((q % m : Nat) : Int) := by omega
  rw [hx]
  generalize q % m = x at hl
  exact IntWalk.wrap64_in _ (by omega)

set_option maxHeartbeats 400000 in
/-- Where a way begins. -/
theorem Home_told (k : ByteArray) (n : Int) (w : World) (hk : k.size ≤ 4611686018427387904) (hn : (Lit.int .i64 n).wf = true) :
    Calls Try.prog 16 #[.string k, .int .i64 n] w fun e W' => e = .returned (.int .i64 (homeZ k n)) ∧ Below w.heap.size w W' := by
  have hr : -9223372036854775808 ≤ n ∧ n ≤ 9223372036854775807 := by simpa [Lit.wf, IntKind.min, IntKind.max, IntKind.signed, IntKind.bits] using hn
  go_enter Try.func16, Try.ntmps16
  by_cases h1 : n < 1
  · have d1 : decide (n < 1) = true := by simpa using h1
    go_wp2_with fail
    go_ret
    exact ⟨by rw [homeZ_low k h1]; rfl, Below.refl _ _⟩
  · have d1 : decide (n < 1) = false := by simpa using h1
    obtain ⟨m, rfl⟩ := Int.eq_ofNat_of_zero_le (show 0 ≤ n by omega)
    have hm0 : 0 < m := by omega
    have HH := Lib.hid (homeZ_nat k hm0)
    unfold home at HH
    obtain ⟨e2, e3⟩ := sum_mod (Fnv.jn 14695981039346656037 k.data.toList) m hm0 (by omega)
    have E3 := Lib.hid e3
    clear e3
    have hne : (m : Int) ≠ 0 := by omega
    go_wp2_with fail
    refine (Fnv.Sum_any k _ hk).mono ?_
    rintro e w1 ⟨rfl, hb⟩
    go_wp2_with fail
    go_ret
    exact ⟨by rw [HH.out, ← E3.out]; rfl, hb⟩

set_option maxHeartbeats 400000 in
theorem way_told (v : Value) (hv : v.oneCell' = true) (k : ByteArray) (w : World) :
    Calls Try.prog 22 #[v, .string k] w fun e w' =>
      e = .returned (.func (.func 28) #[] #[.pointer (some ⟨w.heap.size + 1, 0, none⟩), .pointer (some ⟨w.heap.size, 0, none⟩)]) ∧
      w' = (w.alloc (.cells #[v] 22)).alloc (.cells #[.string k] 9) := by
  go_enter Try.func22, Try.ntmps22
  go_wp2
  go_ret
  exact ⟨rfl, rfl⟩

/-- What a round must keep: all cells but those of one block. -/
def KeepsBut (p : Nat) (W W' : World) : Prop := ∀ (a : Addr) (v : Value), a.block ≠ p → W.cell? a = some v → W'.cell? a = some v
theorem keepsBut_t {p : Nat} {A B C : World} (h : KeepsBut p A B) (k : KeepsBut p B C) : KeepsBut p A C := fun a v ha hv => k a v ha (h a v ha hv)
theorem keepsBut_b {p : Nat} {w : World} (W : World) (l : Nat) (o o' : Obj) (_ : w.heap.size ≤ l) (h : W.heap[l]? = some o) (hc : o.isCells = false) (_ : o.isWalk = false) : KeepsBut p W (W.putObj l o') :=
  fun _ _ _ hv => cell_kept hv (grownBy_putObj' W l o') (fun r e => by cases e; exact ⟨o, h, hc⟩)
theorem lies_but {α : Type} {K : Kind α} {W W' : World} {a : Option Addr} {cap : Nat} {xs : List α} {p : Nat} (h : Lies K W a cap xs) (hk : KeepsBut p W W') (ha : ∀ b off, a = some ⟨b, off, none⟩ → xs ≠ [] → b ≠ p) : Lies K W' a cap xs :=
  ⟨h.max, h.len, fun hn => by
    obtain ⟨b, off, e, hc⟩ := h.cell hn
    exact ⟨b, off, e, fun i x hi j u hj => hk _ _ (ha b off e hn) (hc i x hi j u hj)⟩⟩
theorem finTake_succ {n k : Nat} (h : k < n) : (List.finRange n).take (k + 1) = (List.finRange n).take k ++ [⟨k, h⟩] := by
  rw [List.take_succ_eq_append_getElem (by simpa using h)]; simp
theorem finTake_length {n k : Nat} (h : k ≤ n) : ((List.finRange n).take k).length = k := by simp [h]

/-- The places of a key's way in a table. -/
def pl (T : List Ent) (k : ByteArray) (i : Nat) : Nat := (home k T.length + i) % T.length
/-- What a way tells at a step: the place, and the entry that stands there. -/
def wayV (T : List Ent) (k : ByteArray) (i : Fin T.length) : Array Value := #[.int .i64 (pl T k i.1 : Nat), entV (ent T (pl T k i.1))]
theorem pl_lt (T : List Ent) (k : ByteArray) (i : Nat) (h : 0 < T.length) : pl T k i < T.length := Nat.mod_lt _ h
theorem pl_next (T : List Ent) (k : ByteArray) (i : Nat) (h : 0 < T.length) : pl T k (i + 1) = if pl T k i + 1 = T.length then 0 else pl T k i + 1 := by
  have h1 := pl_lt T k i h
  unfold pl at *
  rw [← Nat.add_assoc, Nat.add_mod]
  split
  · rename_i he
    rcases Nat.lt_or_ge 1 T.length with h2 | h2
    · rw [Nat.mod_eq_of_lt h2, he, Nat.mod_self]
    · have : T.length = 1 := by omega
      rw [this, Nat.mod_one]
  · rename_i he
    rcases Nat.lt_or_ge 1 T.length with h2 | h2
    · rw [Nat.mod_eq_of_lt h2, Nat.mod_eq_of_lt (by omega)]
    · omega

set_option maxRecDepth 100000 in
set_option maxHeartbeats 1000000 in
theorem way1_in (m : Nat) (hm : 1 ≤ m) (l Bk Bt p : Nat) (k : ByteArray) (hk : k.size ≤ 4611686018427387904) (a : Option Addr) (cap : Nat) (T : List Ent) (hp : Bt ≠ p) (ha : ∀ b off, a = some ⟨b, off, none⟩ → T ≠ [] → b ≠ p)
    (J Jx : List (Fin T.length) → World → Prop) (W : World) (hJ : AbidesFrom W.heap.size J)
    (hY : ∀ pre x W, J pre W → pre.length < T.length → YieldAt Fence.wide (m - 1) Try.prog l (wayV T k x) W fun e W' =>
      (e = .returned (.bool true) ∧ J (pre ++ [x]) W' ∧ KeepsBut p W W') ∨ (e = .returned (.bool false) ∧ Jx (pre ++ [x]) W'))
    (hck : W.cell? ⟨Bk, 0, none⟩ = some (.string k)) (hct : W.cell? ⟨Bt, 0, none⟩ = some (rowV a cap T)) (hT : Lies entK W a cap T) (h0 : J [] W) :
    CallsIn Fence.wide m Try.prog 28 #[.func (.yield l) #[] #[], .pointer (some ⟨Bk, 0, none⟩), .pointer (some ⟨Bt, 0, none⟩)] W fun e W' => (∃ v, e = .returned v) ∧
      ((∃ ys, ys = List.finRange T.length ∧ J ys W') ∨ (∃ pre : List (Fin T.length), (∃ l, pre ++ l = List.finRange T.length) ∧ Jx pre W')) := by
  have h1 : 1 ≤ m := hm
  have hmx := hT.max
  have hln := hT.len
  unfold maxLen at hmx
  refine callsIn_of_wp Try.func28 rfl trivial ?_ rfl
  simp only [Try.ntmps28, List.size_toArray, List.length_cons, List.length_nil, Nat.reduceAdd, Nat.reduceSub, Array.replicate_succ, Array.replicate_zero, List.push_toArray, List.append_toArray, List.nil_append, List.cons_append]
  gi_wp2_with fail
  refine ⟨trivial, ?_⟩
  gi_at_call 16
  refine (callsIn_wide.2 (Home_told k (T.length : Nat) _ hk (by simp [Lit.wf, IntKind.min, IntKind.max, IntKind.signed, IntKind.bits]; omega))).mono ?_
  rintro e w2 ⟨rfl, hb2⟩
  have hJ2 : J [] w2 := hJ _ _ _ none h0 (grown_none hb2) (fun r e => by cases e)
  have hct2 : w2.cell? ⟨Bt, 0, none⟩ = some (rowV a cap T) := cell_kept hct (grown_none hb2) (fun r e => by cases e)
  have hT2 := hT.kept hb2
  gi_wp2
  obtain ⟨q0, hq0, hz0⟩ : ∃ q : Nat, homeZ k (T.length : Nat) = (q : Int) ∧ (0 < T.length → q = pl T k 0) := by
    by_cases hn : 0 < T.length
    · exact ⟨home k T.length, homeZ_nat k hn, fun _ => by unfold pl; rw [Nat.add_zero, Nat.mod_eq_of_lt (home_lt k hn)]⟩
    · exact ⟨0, homeZ_low k (by omega), fun h => absurd h hn⟩
  rw [hq0]
  clear hck hct hT h0 hb2 hq0
  gi_loopw [4, 11] (fun at_ i wr => ∃ j q : Nat, j ≤ T.length ∧ i = .int .i64 j ∧ at_ = .int .i64 q ∧ (0 < T.length → q = pl T k j) ∧ J ((List.finRange T.length).take j) wr ∧ wr.cell? ⟨Bt, 0, none⟩ = some (rowV a cap T) ∧ Lies entK wr a cap T)
    (fun _ i _ => T.length - (intOf i).toNat)
  case atStart => exact ⟨0, q0, Nat.zero_le _, rfl, rfl, hz0, hJ2, hct2, hT2⟩
  case round =>
    obtain ⟨j, q, hj, rfl, rfl, hq, hJs, hcx, hTx⟩ := hrel
    by_cases hlt : j < T.length
    · have hn : 0 < T.length := by omega
      obtain rfl := hq hn
      have hql := pl_lt T k j hn
      have HN := Lib.hid (pl_next T k j hn)
      obtain ⟨b, off, hb, c0, c1, c2, c3⟩ := hTx.ent hql
      obtain ⟨fn, tmps, assign, body, hy, hR⟩ := hY _ ⟨j, hlt⟩ wr hJs (by rw [finTake_length hj]; exact hlt)
      unfold wayV at hy
      dsimp only at hy
      rw [ent_at hql] at hy
      have HT := Lib.hid hTx
      have HE := Lib.hid hb
      subst hb
      clear hTx hq hz0 hJ2 hct2 hT2
      generalize pl T k j = q at *
      gi_wp2
      refine hR.mono ?_
      clear hY hy hR hJ c0 c1 c2 c3
      rintro e W3 (⟨rfl, hJ3, hk3⟩ | ⟨rfl, hJx3⟩)
      · have hc3 := hk3 ⟨Bt, 0, none⟩ _ hp hcx
        have hT3 := Lib.hid (lies_but HT.out hk3 ha)
        clear hk3 hcx
        by_cases hw : q + 1 = T.length
        · have d1 : ((q : Int) + 1 == (T.length : Int)) = true := by simp; omega
          have HW := Lib.hid hw
          clear hw
          gi_wp2
          go_roundw
          case rel => exact ⟨j + 1, 0, by omega, by simp, rfl, fun _ => by rw [HN.out, if_pos HW.out], by rw [finTake_succ hlt]; exact hJ3, hc3, hT3.out⟩
          case measure => simp [intOf]; omega
        · have d1 : ((q : Int) + 1 == (T.length : Int)) = false := by simp; omega
          have HW := Lib.hid hw
          clear hw
          gi_wp2
          go_roundw
          case rel => exact ⟨j + 1, q + 1, by omega, by simp, by simp, fun _ => by rw [HN.out, if_neg HW.out], by rw [finTake_succ hlt]; exact hJ3, hc3, hT3.out⟩
          case measure => simp [intOf]; omega
      · gi_wp2
        refine bodyPost_ret (results_none rfl _ _ _) rfl ?_
        exact ⟨⟨_, rfl⟩, .inr ⟨_, ⟨_, by rw [← finTake_succ hlt]; exact List.take_append_drop _ _⟩, hJx3⟩⟩
    · obtain rfl : j = T.length := by omega
      gi_wp2
      go_end0
      exact ⟨⟨_, rfl⟩, .inl ⟨_, by rw [List.take_of_length_le (by simp)], hJs⟩⟩

theorem way_stops (m : Nat) (hm : 1 ≤ m) (Bk Bt p : Nat) (k : ByteArray) (hk : k.size ≤ 4611686018427387904) (a : Option Addr) (cap : Nat) (T : List Ent) (hp : Bt ≠ p) (ha : ∀ b off, a = some ⟨b, off, none⟩ → T ≠ [] → b ≠ p) (w : World)
    (hBk : Bk < w.heap.size) (hBt : Bt < w.heap.size) (hck : w.cell? ⟨Bk, 0, none⟩ = some (.string k)) (hct : w.cell? ⟨Bt, 0, none⟩ = some (rowV a cap T)) (hT : Lies entK w a cap T) :
    SeqStopsK Fence.wide m Try.prog 28 #[.pointer (some ⟨Bk, 0, none⟩), .pointer (some ⟨Bt, 0, none⟩)] (wayV T k) (KeepsBut p) (fun ys => ys = List.finRange T.length) (fun pre => ∃ l, pre ++ l = List.finRange T.length) T.length w := fun l J Jx W hW hJ _ hY h0 =>
  way1_in m hm l Bk Bt p k hk a cap T hp ha J Jx W hJ hY ((hW.cell (p := ⟨Bk, 0, none⟩) hBk).trans hck) ((hW.cell (p := ⟨Bt, 0, none⟩) hBt).trans hct) (hT.kept hW) h0
end Go.Proofs.Ytkgaiadmacapfaa.Prb
