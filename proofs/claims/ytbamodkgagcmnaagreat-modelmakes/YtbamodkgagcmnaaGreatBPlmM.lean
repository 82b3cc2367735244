/-
  Pools: the first backend of which something is so (package pool: first, of, Find).
-/
import Derived.Test.YtbamodkgagcmnaaGreatBPolM
import Derived.Laws.EntriesVeiled
import Derived.Lib.SliceRun
set_option maxRecDepth 100000
namespace Go.Proofs.YtbamodkgagcmnaaGreat.Pol
open Go.RowKit Go.Shelf Rgn

/-- The value of a backend. -/
abbrev bkV (x : Bk) : Value := .agg #[.int .i64 x.1, .int .i64 x.2]
/-- The place of the first backend of which q is so; -1, if there is none. -/
def idx (q : Bk → Bool) : List Bk → Nat → Int
  | [], _ => -1
  | x :: bs, k => if q x = true then k else idx q bs (k + 1)
theorem idx_drop (q : Bk → Bool) (bs : List Bk) : ∀ (k m : Nat), k ≤ bs.length → (∀ j x, j < k → bs[j]? = some x → q x = false) → idx q bs m = idx q (bs.drop k) (m + k) := by
  induction bs with
  | nil => intro k m hk _; simp at hk; subst hk; rfl
  | cons x bs ih =>
    intro k m hk hno
    cases k with
    | zero => rfl
    | succ k =>
      rw [List.drop_succ_cons]
      have h0 := hno 0 x (by omega) rfl
      rw [show idx q (x :: bs) m = idx q bs (m + 1) from if_neg (by simp [h0]), ih k (m + 1) (by simpa using hk) (fun j y hj hy => hno (j + 1) y (by omega) (by simpa using hy))]
      congr 1; omega
theorem idx_hit (q : Bk → Bool) (bs : List Bk) (k : Nat) (hk : k < bs.length) (hno : ∀ j x, j < k → bs[j]? = some x → q x = false) (h : q bs[k] = true) : idx q bs 0 = k := by
  rw [idx_drop q bs k 0 (by omega) hno, List.drop_eq_getElem_cons hk, Nat.zero_add]
  exact if_pos h
theorem idx_none (q : Bk → Bool) (bs : List Bk) (hno : ∀ j x, j < bs.length → bs[j]? = some x → q x = false) : idx q bs 0 = -1 := by
  rw [idx_drop q bs bs.length 0 (Nat.le_refl _) hno, List.drop_length]; rfl
theorem idx_find (bs : List Bk) (id : Int) : ∀ k, idx (fun x => x.1 == id) bs k = find bs id k := by
  induction bs with
  | nil => intro k; rfl
  | cons x bs ih => intro k; unfold idx find; rw [ih]; by_cases h : x.1 = id <;> simp [h]

/-- What a question tells of a backend, whatever lies beside what lay. -/
def Asks (k : Nat) (cb : Array Value) (q : Bk → Bool) (w : World) : Prop :=
  ∀ (x : Bk) W, Below w.heap.size w W → Calls Tryz.prog k (#[bkV x] ++ cb) W fun e W' => e = .returned (.bool (q x)) ∧ Below W.heap.size W W'

set_option maxRecDepth 100000 in
set_option maxHeartbeats 2000000 in
theorem first_any (a : Option Addr) (cap : Nat) (bs : List Bk) (g n : Nat) (hn : n ≤ 1000) (k : Nat → Nat) (cb : Nat → Array Value) (q : Nat → Bk → Bool) (qq : Bk → Bool) (w : World) (h : Lies w a cap bs) (hg : g < w.heap.size)
    (hq : ∀ j, j < n → w.cell? ⟨g, j, none⟩ = some (.func (.func (k j)) #[] (cb j)))
    (hen : ∀ j, j < n → Enters Tryz.prog (k j)) (hc : ∀ j, j < n → Asks (k j) (cb j) (q j) w)
    (hqq : ∀ x, qq x = true ↔ ∃ j, j < n ∧ q j x = true) :
    Calls Tryz.prog 67 #[polV a cap bs, .slice (some ⟨g, 0, none⟩) n n] w fun e W' => e = .returned (.int .i64 (idx qq bs 0)) ∧ Below w.heap.size w W' := by
  have H := Lib.hid h
  have HQ := Lib.hid hqq
  clear h hqq
  go_enter Tryz.func67, Tryz.ntmps67
  go_wp2
  go_loopw [4, 11] (fun v i W => ∃ m : Nat, m ≤ bs.length ∧ v = .int .i64 0 ∧ i = .int .i64 m ∧ (∀ j x, j < m → bs[j]? = some x → qq x = false) ∧ Below w.heap.size w W) (fun _ i _ => bs.length - (intOf i).toNat)
  case atStart => exact ⟨0, Nat.zero_le _, rfl, rfl, fun j x hj => absurd hj (by omega), Below.refl _ _⟩
  case round =>
    obtain ⟨m, hm, rfl, rfl, hno, hB⟩ := hrel
    have HN := Lib.hid hno
    have HB := Lib.hid hB
    clear hno hB
    by_cases hlt : m < bs.length
    · obtain ⟨b, off, rfl, c0, c1⟩ := (H.out.kept HB.out).at hlt
      have hC := H.out.len
      have hM := H.out.max
      unfold maxLen at hM
      have HH := Lib.hid (idx_hit qq bs m hlt HN.out)
      have HI := Lib.hid (show bs[m]? = some bs[m] from List.getElem?_eq_getElem hlt)
      generalize bs[m] = x at *
      go_wp2
      have HB1 := Lib.hid (HB.out.alloc HB.out.size (.cells #[.int .i64 x.1, .int .i64 x.2] 83))
      have HBn := Lib.hid (Below.refl (wr.heap.size + 1) (wr.alloc (.cells #[.int .i64 x.1, .int .i64 x.2] 83)))
      have d0 : (wr.alloc (.cells #[.int .i64 x.1, .int .i64 x.2] 83)).cell? ⟨wr.heap.size, 0, none⟩ = some (.int .i64 x.1) := by simp
      have d1 : (wr.alloc (.cells #[.int .i64 x.1, .int .i64 x.2] 83)).cell? ⟨wr.heap.size, 1, none⟩ = some (.int .i64 x.2) := by simp
      have ds : wr.heap.size < (wr.alloc (.cells #[.int .i64 x.1, .int .i64 x.2] 83)).heap.size := by simp
      generalize wr.alloc (.cells #[.int .i64 x.1, .int .i64 x.2] 83) = w1 at *
      generalize wr.heap.size = B at *
      go_loopw [4, 18] (fun v i W => ∃ j : Nat, j ≤ n ∧ v = .int .i64 0 ∧ i = .int .i64 j ∧ (∀ j', j' < j → q j' x = false) ∧ Below w1.heap.size w1 W) (fun _ i _ => n - (intOf i).toNat)
      case atStart => exact ⟨0, Nat.zero_le _, rfl, rfl, fun j hj => absurd hj (by omega), Below.refl _ _⟩
      case round =>
        obtain ⟨j, hj, rfl, rfl, hqn, hB2⟩ := hrel
        have HQN := Lib.hid hqn
        have HB2 := Lib.hid hB2
        have e0 := (hB2.cell (p := ⟨B, 0, none⟩) ds).trans d0
        have e1 := (hB2.cell (p := ⟨B, 1, none⟩) ds).trans d1
        clear hqn hB2 d0 d1
        by_cases hjn : j < n
        · have cq := ((HB1.out.trans (HB2.out.mono HB1.out.size)).cell (p := ⟨g, j, none⟩) hg).trans (hq j hjn)
          have en : ∀ (args : Array Value) (w : World), (callFunc (k j) args).run Tryz.prog w = .ok (.enter (k j) args) w := hen j hjn
          have C := Lib.hid (hc j hjn x)
          clear hq hen hc c0 c1
          have HW := Lib.hid (HB1.out.trans (HB2.out.mono HB1.out.size))
          go_wp2_with fail
          refine (C.out _ HW.out).mono ?_
          rintro e w2 ⟨rfl, hb2⟩
          have HB3 := Lib.hid (below2 HB2.out hb2)
          have HW3 := Lib.hid (HW.out.trans (hb2.mono HW.out.size))
          clear hb2
          cases hqx : q j x with
          | true =>
            have HT := Lib.hid (HH.out ((HQ.out x).2 ⟨j, hjn, hqx⟩))
            go_wp2_with fail
            go_ret
            exact ⟨by rw [HT.out]; rfl, HW3.out⟩
          | false =>
            have HF := Lib.hid (show ∀ j', j' < j + 1 → q j' x = false from fun j' h' => by
              by_cases e : j' = j
              · rw [e]; exact hqx
              · exact HQN.out j' (by omega))
            clear hqx
            go_wp2_with fail
            go_roundw
            case rel => exact ⟨j + 1, by omega, rfl, by go_num, HF.out, HB3.out⟩
            case measure => simp [intOf]; omega
        · have HF := Lib.hid (show qq x = false by
            cases hx : qq x with
            | false => rfl
            | true =>
              obtain ⟨j', h1, h2⟩ := (HQ.out x).1 hx
              rw [HQN.out j' (by omega)] at h2; exact absurd h2 (by simp))
          have HW := Lib.hid (HB1.out.trans (HB2.out.mono HB1.out.size))
          clear hq hen hc c0 c1
          go_wp2_with fail
          go_roundw
          case rel =>
            refine ⟨m + 1, by omega, rfl, by go_num, fun j' y h' hy => ?_, HW.out⟩
            by_cases e : j' = m
            · rw [e, HI.out] at hy; cases hy; exact HF.out
            · exact HN.out j' y (by omega) hy
          case measure => simp [intOf]; omega
    · go_wp2
      go_ret
      rw [idx_none qq bs (fun j x hj => HN.out j x (by omega))]
      exact ⟨rfl, HB.out⟩

set_option maxHeartbeats 800000 in
theorem of_any (id : Int) (w : World) :
    Calls Tryz.prog 71 #[.int .i64 id] w fun e W' => e = .returned (.func (.func 105) #[] #[.pointer (some ⟨w.heap.size, 0, none⟩)]) ∧ W' = w.alloc (.cells #[.int .i64 id] 3) := by
  go_enter Tryz.func71, Tryz.ntmps71
  go_wp2
  go_ret
  exact ⟨rfl, rfl⟩
set_option maxHeartbeats 800000 in
theorem of_asks (id : Int) (B : Nat) (w : World) (hB : B < w.heap.size) (hc : w.cell? ⟨B, 0, none⟩ = some (.int .i64 id)) : Asks 105 #[.pointer (some ⟨B, 0, none⟩)] (fun x => x.1 == id) w := by
  intro x W hb
  have c0 := (hb.cell (p := ⟨B, 0, none⟩) hB).trans hc
  have hl := Nat.lt_of_lt_of_le hB hb.size
  have c1 : (W.alloc (.cells #[.int .i64 x.1, .int .i64 x.2] 83)).cell? ⟨B, 0, none⟩ = some (.int .i64 id) := ((below_alloc W _).cell (p := ⟨B, 0, none⟩) hl).trans c0
  have al := Lib.hid (below_alloc W (.cells #[.int .i64 x.1, .int .i64 x.2] 83))
  clear hb hc c0
  go_enter Tryz.func105, Tryz.ntmps105
  go_wp2
  go_ret
  exact ⟨rfl, al.out⟩
/-- Asked for one Id alone. -/
theorem first_one (a : Option Addr) (cap : Nat) (bs : List Bk) (id : Int) (B : Nat) (w : World) (h : Lies w a cap bs) (hB : B < w.heap.size) (hc : w.cell? ⟨B, 0, none⟩ = some (.int .i64 id)) :
    Calls Tryz.prog 67 #[polV a cap bs, .slice (some ⟨w.heap.size, 0, none⟩) 1 1] (w.alloc (.cells #[.func (.func 105) #[] #[.pointer (some ⟨B, 0, none⟩)]] 126))
      fun e W' => e = .returned (.int .i64 (find bs id 0)) ∧ Below w.heap.size w W' := by
  have al := below_alloc w (.cells #[.func (.func 105) #[] #[.pointer (some ⟨B, 0, none⟩)]] 126)
  refine (first_any a cap bs w.heap.size 1 (by omega) (fun _ => 105) (fun _ => #[.pointer (some ⟨B, 0, none⟩)]) (fun _ x => x.1 == id) (fun x => x.1 == id) _ (h.kept al) (by simp) ?_ (fun _ _ => enters_of Tryz.func105 (by kernel_rfl) rfl) (fun _ _ => of_asks id B _ (by simp; omega) ((al.cell (p := ⟨B, 0, none⟩) hB).trans hc)) (fun x => ⟨fun h => ⟨0, by omega, h⟩, fun ⟨_, _, h⟩ => h⟩)).mono ?_
  · intro j hj
    obtain rfl : j = 0 := by omega
    simp
  · rintro e W' ⟨rfl, hb⟩
    exact ⟨by rw [idx_find], below2 al hb⟩
set_option maxHeartbeats 2000000 in
theorem Find_told (a : Option Addr) (cap : Nat) (bs : List Bk) (id : Int) (w : World) (h : Lies w a cap bs) :
    Calls Tryz.prog 34 #[polV a cap bs, .int .i64 id] w fun e W' => e = .returned (.int .i64 (find bs id 0)) ∧ Below w.heap.size w W' := by
  have H := Lib.hid h
  clear h
  go_enter Tryz.func34, Tryz.ntmps34
  go_wp2_with fail
  refine (of_any id w).mono ?_
  rintro e w1 ⟨rfl, hw1⟩
  have b1 := Lib.hid (show Below w.heap.size w w1 by rw [hw1]; exact below_alloc _ _)
  have c1 : w1.cell? ⟨w.heap.size, 0, none⟩ = some (.int .i64 id) := by rw [hw1]; simp
  have l1 : w.heap.size < w1.heap.size := by rw [hw1]; simp
  have C := Lib.hid (first_one a cap bs id w.heap.size w1 (H.out.kept b1.out) l1 c1)
  clear hw1
  go_wp2_with fail
  refine C.out.mono ?_
  rintro e w2 ⟨rfl, hb2⟩
  have b2 := Lib.hid (below2 b1.out hb2)
  clear hb2
  go_wp2_with fail
  go_ret
  exact ⟨rfl, b2.out⟩
end Go.Proofs.YtbamodkgagcmnaaGreat.Pol

namespace Go.Proofs.YtbamodkgagcmnaaGreat.Pol
open Go.RowKit Go.Shelf Rgn

/-- A value that is a pool. -/
def Gives (W : World) (v : Value) (bs : List Bk) : Prop := ∃ a cap, v = polV a cap bs ∧ Lies W a cap bs
def GivesI (W : World) (v : Value) (zs : List Int) : Prop := ∃ a cap, v = intsV a cap zs ∧ LiesI W a cap zs
theorem eql_nil (a : Option Addr) (n c n' c' : Nat) (w : World) : (binOp .eql 32 (.slice a n c) (.slice none n' c')).run Tryz.prog w = .ok (.bool a.isNone) w := Lib.run_eql_slice_nil w _ _ a n c n' c' Tryz.underlying32
theorem flat_one (bs : List Bk) : ∀ u ∈ flat bs, u.oneCell' = true := by
  intro u hu
  simp only [flat, List.mem_flatMap] at hu
  obtain ⟨x, _, hx⟩ := hu
  simp at hx; rcases hx with rfl | rfl <;> rfl
theorem flat_lies {W : World} {b off cap : Nat} {bs : List Bk} (h : Lies W (some ⟨b, off, none⟩) cap bs) (j : Nat) (u : Value) (hj : (flat bs)[j]? = some u) : W.cell? ⟨b, off + j, none⟩ = some u := by
  have hl : j < bs.length * 2 := by
    rw [← flat_length]; exact (List.getElem?_eq_some_iff.1 hj).1
  have hk : j / 2 < bs.length := by omega
  obtain ⟨b', off', e, hc⟩ := h.cell (fun e => by rw [e] at hk; exact absurd hk (by simp))
  cases e
  obtain ⟨c0, c1⟩ := hc (j / 2) bs[j / 2] (List.getElem?_eq_getElem hk)
  obtain ⟨f0, f1⟩ := flat_get bs (j / 2) bs[j / 2] (List.getElem?_eq_getElem hk)
  rcases Nat.mod_two_eq_zero_or_one j with h0 | h0
  · have e : j / 2 * 2 = j := by omega
    rw [e] at f0 c0
    rw [f0] at hj; cases hj; exact c0
  · have e : j / 2 * 2 + 1 = j := by omega
    rw [e] at f1
    rw [Nat.add_assoc, e] at c1
    rw [f1] at hj; cases hj; exact c1
theorem Lies.addr {W : World} {p : Addr} {cap : Nat} {bs : List Bk} (h : Lies W (some p) cap bs) (hn : bs ≠ []) : ∃ b off, p = ⟨b, off, none⟩ := by
  obtain ⟨b, off, e, _⟩ := h.cell hn
  cases e; exact ⟨b, off, rfl⟩

set_option maxHeartbeats 2000000 in
theorem Clone_any (a : Option Addr) (cap : Nat) (bs : List Bk) (w : World) (h : Lies w a cap bs) (hl : bs.length ≤ 8796093022207) :
    Calls Tryz.prog 52 #[polV a cap bs] w fun e W' => ∃ v, e = .returned v ∧ Own w.heap.size W' v bs ∧ Below w.heap.size w W' := by
  have H := Lib.hid h
  clear h
  have q22 := eql_nil
  cases a with
  | none =>
    have e : bs = [] := by
      cases bs with
      | nil => rfl
      | cons x bs => obtain ⟨b, off, e, _⟩ := H.out.cell (by simp); cases e
    subst e
    go_enter Tryz.func52, Tryz.ntmps52
    go_wp2
    go_ret
    exact ⟨_, rfl, own_nil _ _, Below.refl _ _⟩
  | some p =>
    obtain ⟨i0, hi, hz0, hz1, hz2⟩ := info_parts info_bk
    have HC := Lib.hid (show ∀ j u, (flat bs)[j]? = some u → w.cell? (p.add j) = some u from fun j u hj => by
      have hn : bs ≠ [] := fun e => by subst e; simp [flat] at hj
      obtain ⟨b, off, rfl⟩ := H.out.addr hn
      rw [Addr.add_lit]
      exact flat_lies H.out j u hj)
    go_enter Tryz.func52, Tryz.ntmps52
    go_wp2_with (at_builtin; refine wpList_append_own _ rfl _ _ 32 rfl w.heap.size 83 i0 (.agg #[.int .i64 0, .int .i64 0]) 2 16 Tryz.underlying32 hi hz0 hz1 hz2 rfl (by decide) _ _ _ rfl (World.ownsRow_made w #[] 0 (Nat.le_refl _) (Nat.zero_le _) (by simp)) p bs.length cap (flat bs) rfl ?qc1 ?qc2 ?qc3 ?qc4 ?qc5 ?qc6 ?_)
    case qc1 => exact flat_length bs
    case qc2 => intro j u hj; exact Lib.cell?_alloc_some _ (HC.out j u hj)
    case qc3 => exact flat_one bs
    case qc4 => unfold maxLen; omega
    case qc5 => omega
    case qc6 => simp
    intro v' w1 hown hgrow hnil
    have HO := Lib.hid hown
    have HG := Lib.hid hgrow
    clear hown hgrow hnil
    go_wp2
    go_ret
    refine ⟨_, rfl, ?_, ?_⟩
    · have := HO.out
      unfold Own
      simpa using this
    · exact ((Below.refl _ w).alloc (Nat.le_refl _) _).grown HG.out (by simp) (by intro k hk; simp [Value.ownBlock] at hk; omega)

/-- A row of backends that may be written. -/
def Row (W : World) (g cap : Nat) (bs : List Bk) : Prop :=
  ∃ cur : Array Value, W.heap[g]? = some (.cells cur 83 (0, 0)) ∧ bs.length ≤ cap ∧ cap ≤ maxLen ∧ cur.size = cap * 2 ∧ cur.toList.take (bs.length * 2) = flat bs
theorem Own.row {B : Nat} {W : World} {v : Value} {bs : List Bk} (h : Own B W v bs) (hn : bs ≠ []) : ∃ g cap, v = polV (some ⟨g, 0, none⟩) cap bs ∧ B ≤ g ∧ Row W g cap bs := by
  rcases h.2 with ⟨_, h0⟩ | ⟨g, cap, cur, rfl, hb, r⟩
  · exact absurd (List.eq_nil_of_length_eq_zero h0) hn
  · exact ⟨g, cap, rfl, hb, cur, r⟩
theorem Row.own {B : Nat} {W : World} {g cap : Nat} {bs : List Bk} (h : Row W g cap bs) (hB : B ≤ g) : Own B W (polV (some ⟨g, 0, none⟩) cap bs) bs := by
  obtain ⟨cur, r⟩ := h
  exact ⟨flat_length bs, .inr ⟨g, cap, cur, rfl, hB, r⟩⟩
theorem Row.lt {W : World} {g cap : Nat} {bs : List Bk} (h : Row W g cap bs) : g < W.heap.size := by
  obtain ⟨cur, hg, _⟩ := h
  rcases Nat.lt_or_ge g W.heap.size with h | h
  · exact h
  · rw [Array.getElem?_eq_none h] at hg; cases hg
theorem Row.len {W : World} {g cap : Nat} {bs : List Bk} (h : Row W g cap bs) : bs.length ≤ cap ∧ cap ≤ maxLen := by
  obtain ⟨cur, _, h1, h2, _⟩ := h; exact ⟨h1, h2⟩
theorem Row.kept {W W' : World} {g cap : Nat} {bs : List Bk} (h : Row W g cap bs) (hb : Below W.heap.size W W') : Row W' g cap bs := by
  have hl := h.lt
  obtain ⟨cur, hg, r⟩ := h
  exact ⟨cur, (hb.block g hl).trans hg, r⟩
theorem Row.cell {W : World} {g cap : Nat} {bs : List Bk} (h : Row W g cap bs) {i : Nat} (hi : i < bs.length) :
    W.cell? ⟨g, i * 2, none⟩ = some (.int .i64 bs[i].1) ∧ W.cell? ⟨g, i * 2 + 1, none⟩ = some (.int .i64 bs[i].2) ∧ W.frozen? ⟨g, i * 2, none⟩ = false ∧ W.frozen? ⟨g, i * 2 + 1, none⟩ = false := by
  obtain ⟨cur, hg, h1, h2, h3, h4⟩ := h
  obtain ⟨f0, f1⟩ := flat_get bs i bs[i] (List.getElem?_eq_getElem hi)
  rw [← h4, List.getElem?_take_of_lt (by omega)] at f0 f1
  rw [Array.getElem?_toList] at f0 f1
  refine ⟨?_, ?_, ?_, ?_⟩ <;> simp [World.cell?, World.frozen?, hg, f0, f1]
theorem Row.lies {W : World} {g cap : Nat} {bs : List Bk} (h : Row W g cap bs) : Lies W (some ⟨g, 0, none⟩) cap bs :=
  ⟨h.len.2, h.len.1, fun _ => ⟨g, 0, rfl, fun i x hi => by
    obtain ⟨hl, e⟩ := List.getElem?_eq_some_iff.1 hi
    obtain ⟨c0, c1, _⟩ := h.cell hl
    rw [e] at c0 c1
    rw [Nat.zero_add]; exact ⟨c0, c1⟩⟩⟩
theorem flat_set (bs : List Bk) : ∀ (i : Nat) (x : Bk), flat (bs.set i x) = ((flat bs).set (i * 2) (.int .i64 x.1)).set (i * 2 + 1) (.int .i64 x.2) := by
  induction bs with
  | nil => intro i x; simp [flat]
  | cons y bs ih =>
    intro i x
    have e : ∀ (y : Bk) bs, flat (y :: bs) = .int .i64 y.1 :: .int .i64 y.2 :: flat bs := fun y bs => by simp [flat]
    cases i with
    | zero => simp [e]
    | succ i =>
      rw [List.set_cons_succ, e, e, ih i x, show (i + 1) * 2 = i * 2 + 1 + 1 by omega]
      simp [List.set_cons_succ]
/-- A world in which a backend stands at a place of a row. -/
def put2 (W : World) (g i : Nat) (x : Bk) : World := (W.setCell ⟨g, i * 2, none⟩ (.int .i64 x.1)).setCell ⟨g, i * 2 + 1, none⟩ (.int .i64 x.2)
theorem Row.put {W : World} {g cap : Nat} {bs : List Bk} (h : Row W g cap bs) (i : Nat) (x : Bk) : Row (put2 W g i x) g cap (bs.set i x) := by
  obtain ⟨cur, hg, h1, h2, h3, h4⟩ := h
  refine ⟨(cur.setIfInBounds (i * 2) (.int .i64 x.1)).setIfInBounds (i * 2 + 1) (.int .i64 x.2), heap_setCell_same _ _ _ _ _ _ (heap_setCell_same _ _ _ _ _ _ hg), by simpa using h1, h2, by simpa using h3, ?_⟩
  rw [List.length_set, flat_set, ← h4]
  simp [List.take_set]
theorem Row.put_other {W : World} {g cap : Nat} {bs : List Bk} (h : Row W g cap bs) {a : Addr} (ha : g ≠ a.block) (v : Value) : Row (W.setCell a v) g cap bs := by
  obtain ⟨cur, hg, r⟩ := h
  exact ⟨cur, (heap_setCell_other _ _ _ _ ha).trans hg, r⟩
theorem Row.drew {W : World} {g cap : Nat} {bs : List Bk} (h : Row W g cap bs) : Row W.drew g cap bs := h
theorem Row.cut {W : World} {g cap : Nat} {bs : List Bk} (h : Row W g cap bs) (i : Nat) : Row W g cap (bs.take i) := by
  obtain ⟨cur, hg, h1, h2, h3, h4⟩ := h
  have hl : (bs.take i).length ≤ bs.length := by simp; omega
  refine ⟨cur, hg, by omega, h2, h3, ?_⟩
  have e : flat (bs.take i) = (flat bs).take ((bs.take i).length * 2) := by
    have e1 : flat bs = flat (bs.take i) ++ flat (bs.drop i) := by
      conv => lhs; rw [← List.take_append_drop i bs]
      unfold flat
      rw [List.flatMap_append]
    rw [e1]
    exact (List.take_left' (flat_length (bs.take i))).symm
  rw [e, ← h4, List.take_take]
  congr 1; omega
theorem below_put {B : Nat} {w W : World} (h : Below B w W) {g : Nat} (hg : B ≤ g) (i : Nat) (x : Bk) : Below B w (put2 W g i x) := (h.setCell (p := ⟨g, i * 2, none⟩) hg _).setCell (p := ⟨g, i * 2 + 1, none⟩) hg _
end Go.Proofs.YtbamodkgagcmnaaGreat.Pol
