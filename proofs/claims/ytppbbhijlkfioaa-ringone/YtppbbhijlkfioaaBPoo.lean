/-
  Pools: the first backend of which something is so (package pool: first, of, Find).
-/
import Derived.Test.YtppbbhijlkfioaaBPol
import Derived.Laws.EntriesVeiled
import Derived.Lib.SliceRun
namespace Go.Proofs.Ytppbbhijlkfioaa.Pol
open Go.RowKit Go.Shelf Rgn

/-- The value of a backend. -/
abbrev bkV (x : Bk) : Value := .agg #[.int .i64 x.1, .int .i64 x.2]
/-- The place of the first backend of which q is so; -1, if there is none. -/
def idx (q : Bk → Bool) : List Bk → Nat → Int
  | [], _ => -1
  | x :: bs, k => if q x = true then k else idx q bs (k + 1)
theorem idx_drop (q : Bk → Bool) (bs : List Bk) : ∀ (k m : Nat), k ≤ bs.length → (∀ j x, j < k → bs[j]? = some x → q x = false) → idx q bs m = idx q (bs.drop k) (m + k) := by
  induction bs with
  | nil => intro k m hk _; simp at hk; subst hk; rfl
  | cons x bs ih =>
    intro k m hk hno
    cases k with
    | zero => rfl
    | succ k =>
      rw [List.drop_succ_cons]
      have h0 := hno 0 x (by omega) rfl
      rw [show idx q (x :: bs) m = idx q bs (m + 1) from if_neg (by simp [h0]), ih k (m + 1) (by simpa using hk) (fun j y hj hy => hno (j + 1) y (by omega) (by simpa using hy))]
      congr 1; omega
theorem idx_hit (q : Bk → Bool) (bs : List Bk) (k : Nat) (hk : k < bs.length) (hno : ∀ j x, j < k → bs[j]? = some x → q x = false) (h : q bs[k] = true) : idx q bs 0 = k := by
  rw [idx_drop q bs k 0 (by omega) hno, List.drop_eq_getElem_cons hk, Nat.zero_add]
  exact if_pos h
theorem idx_none (q : Bk → Bool) (bs : List Bk) (hno : ∀ j x, j < bs.length → bs[j]? = some x → q x = false) : idx q bs 0 = -1 := by
  rw [idx_drop q bs bs.length 0 (Nat.le_refl _) hno, List.drop_length]; rfl
theorem idx_find (bs : List Bk) (id : Int) : ∀ k, idx (fun x => x.1 == id) bs k = find bs id k := by
  induction bs with
  | nil => intro k; rfl
  | cons x bs ih => intro k; unfold idx find; rw [ih]; by_cases h : x.1 = id <;> simp [h]

/-- What a question tells of a backend, whatever lies beside what lay. -/
def Asks (k : Nat) (cb : Array Value) (q : Bk → Bool) (w : World) : Prop :=
  ∀ (x : Bk) W, Below w.heap.size w W → Calls Try.prog k (#[bkV x] ++ cb) W fun e W' => e = .returned (.bool (q x)) ∧ Below W.heap.size W W'

set_option maxRecDepth 100000 in
set_option maxHeartbeats 2000000 in
theorem first_any (a : Option Addr) (cap : Nat) (bs : List Bk) (g n : Nat) (hn : n ≤ 1000) (k : Nat → Nat) (cb : Nat → Array Value) (q : Nat → Bk → Bool) (qq : Bk → Bool) (w : World) (h : Lies w a cap bs) (hg : g < w.heap.size)
    (hq : ∀ j, j < n → w.cell? ⟨g, j, none⟩ = some (.func (.func (k j)) #[] (cb j)))
    (hen : ∀ j, j < n → Enters Try.prog (k j)) (hc : ∀ j, j < n → Asks (k j) (cb j) (q j) w)
    (hqq : ∀ x, qq x = true ↔ ∃ j, j < n ∧ q j x = true) :
    Calls Try.prog 32 #[polV a cap bs, .slice (some ⟨g, 0, none⟩) n n] w fun e W' => e = .returned (.int .i64 (idx qq bs 0)) ∧ Below w.heap.size w W' := by
  have H := Lib.hid h
  have HQ := Lib.hid hqq
  clear h hqq
  go_enter Try.func32, Try.ntmps32
  go_wp2
  go_loopw [4, 11] (fun v i W => ∃ m : Nat, m ≤ bs.length ∧ v = .int .i64 0 ∧ i = .int .i64 m ∧ (∀ j x, j < m → bs[j]? = some x → qq x = false) ∧ Below w.heap.size w W) (fun _ i _ => bs.length - (intOf i).toNat)
  case atStart => exact ⟨0, Nat.zero_le _, rfl, rfl, fun j x hj => absurd hj (by omega), Below.refl _ _⟩
  case round =>
    obtain ⟨m, hm, rfl, rfl, hno, hB⟩ := hrel
    have HN := Lib.hid hno
    have HB := Lib.hid hB
    clear hno hB
    by_cases hlt : m < bs.length
    · obtain ⟨b, off, rfl, c0, c1⟩ := (H.out.kept HB.out).at hlt
      have hC := H.out.len
      have hM := H.out.max
      unfold maxLen at hM
      have HH := Lib.hid (idx_hit qq bs m hlt HN.out)
      have HI := Lib.hid (show bs[m]? = some bs[m] from List.getElem?_eq_getElem hlt)
      generalize bs[m] = x at *
      go_wp2
      have HB1 := Lib.hid (HB.out.alloc HB.out.size (.cells #[.int .i64 x.1, .int .i64 x.2] 38))
      have HBn := Lib.hid (Below.refl (wr.heap.size + 1) (wr.alloc (.cells #[.int .i64 x.1, .int .i64 x.2] 38)))
      have d0 : (wr.alloc (.cells #[.int .i64 x.1, .int .i64 x.2] 38)).cell? ⟨wr.heap.size, 0, none⟩ = some (.int .i64 x.1) := by simp
      have d1 : (wr.alloc (.cells #[.int .i64 x.1, .int .i64 x.2] 38)).cell? ⟨wr.heap.size, 1, none⟩ = some (.int .i64 x.2) := by simp
      have ds : wr.heap.size < (wr.alloc (.cells #[.int .i64 x.1, .int .i64 x.2] 38)).heap.size := by simp
      generalize wr.alloc (.cells #[.int .i64 x.1, .int .i64 x.2] 38) = w1 at *
      generalize wr.heap.size = B at *
      go_loopw [4, 18] (fun v i W => ∃ j : Nat, j ≤ n ∧ v = .int .i64 0 ∧ i = .int .i64 j ∧ (∀ j', j' < j → q j' x = false) ∧ Below w1.heap.size w1 W) (fun _ i _ => n - (intOf i).toNat)
      case atStart => exact ⟨0, Nat.zero_le _, rfl, rfl, fun j hj => absurd hj (by omega), Below.refl _ _⟩
      case round =>
        obtain ⟨j, hj, rfl, rfl, hqn, hB2⟩ := hrel
        have HQN := Lib.hid hqn
        have HB2 := Lib.hid hB2
        have e0 := (hB2.cell (p := ⟨B, 0, none⟩) ds).trans d0
        have e1 := (hB2.cell (p := ⟨B, 1, none⟩) ds).trans d1
        clear hqn hB2 d0 d1
        by_cases hjn : j < n
        · have cq := ((HB1.out.trans (HB2.out.mono HB1.out.size)).cell (p := ⟨g, j, none⟩) hg).trans (hq j hjn)
          have en : ∀ (args : Array Value) (w : World), (callFunc (k j) args).run Try.prog w = .ok (.enter (k j) args) w := hen j hjn
          have C := Lib.hid (hc j hjn x)
          clear hq hen hc c0 c1
          have HW := Lib.hid (HB1.out.trans (HB2.out.mono HB1.out.size))
          go_wp2_with fail
          refine (C.out _ HW.out).mono ?_
          rintro e w2 ⟨rfl, hb2⟩
          have HB3 := Lib.hid (below2 HB2.out hb2)
          have HW3 := Lib.hid (HW.out.trans (hb2.mono HW.out.size))
          clear hb2
          cases hqx : q j x with
          | true =>
            have HT := Lib.hid (HH.out ((HQ.out x).2 ⟨j, hjn, hqx⟩))
            go_wp2_with fail
            go_ret
            exact ⟨by rw [HT.out]; rfl, HW3.out⟩
          | false =>
            have HF := Lib.hid (show ∀ j', j' < j + 1 → q j' x = false from fun j' h' => by
              by_cases e : j' = j
              · rw [e]; exact hqx
              · exact HQN.out j' (by omega))
            clear hqx
            go_wp2_with fail
            go_roundw
            case rel => exact ⟨j + 1, by omega, rfl, by go_num, HF.out, HB3.out⟩
            case measure => simp [intOf]; omega
        · have HF := Lib.hid (show qq x = false by
            cases hx : qq x with
            | false => rfl
            | true =>
              obtain ⟨j', h1, h2⟩ := (HQ.out x).1 hx
              rw [HQN.out j' (by omega)] at h2; exact absurd h2 (by simp))
          have HW := Lib.hid (HB1.out.trans (HB2.out.mono HB1.out.size))
          clear hq hen hc c0 c1
          go_wp2_with fail
          go_roundw
          case rel =>
            refine ⟨m + 1, by omega, rfl, by go_num, fun j' y h' hy => ?_, HW.out⟩
            by_cases e : j' = m
            · rw [e, HI.out] at hy; cases hy; exact HF.out
            · exact HN.out j' y (by omega) hy
          case measure => simp [intOf]; omega
    · go_wp2
      go_ret
      rw [idx_none qq bs (fun j x hj => HN.out j x (by omega))]
      exact ⟨rfl, HB.out⟩

set_option maxHeartbeats 800000 in
theorem of_any (id : Int) (w : World) :
    Calls Try.prog 34 #[.int .i64 id] w fun e W' => e = .returned (.func (.func 46) #[] #[.pointer (some ⟨w.heap.size, 0, none⟩)]) ∧ W' = w.alloc (.cells #[.int .i64 id] 3) := by
  go_enter Try.func34, Try.ntmps34
  go_wp2
  go_ret
  exact ⟨rfl, rfl⟩
set_option maxHeartbeats 800000 in
theorem of_asks (id : Int) (B : Nat) (w : World) (hB : B < w.heap.size) (hc : w.cell? ⟨B, 0, none⟩ = some (.int .i64 id)) : Asks 46 #[.pointer (some ⟨B, 0, none⟩)] (fun x => x.1 == id) w := by
  intro x W hb
  have c0 := (hb.cell (p := ⟨B, 0, none⟩) hB).trans hc
  have hl := Nat.lt_of_lt_of_le hB hb.size
  have c1 : (W.alloc (.cells #[.int .i64 x.1, .int .i64 x.2] 38)).cell? ⟨B, 0, none⟩ = some (.int .i64 id) := ((below_alloc W _).cell (p := ⟨B, 0, none⟩) hl).trans c0
  have al := Lib.hid (below_alloc W (.cells #[.int .i64 x.1, .int .i64 x.2] 38))
  clear hb hc c0
  go_enter Try.func46, Try.ntmps46
  go_wp2
  go_ret
  exact ⟨rfl, al.out⟩
/-- Asked for one Id alone. -/
theorem first_one (a : Option Addr) (cap : Nat) (bs : List Bk) (id : Int) (B : Nat) (w : World) (h : Lies w a cap bs) (hB : B < w.heap.size) (hc : w.cell? ⟨B, 0, none⟩ = some (.int .i64 id)) :
    Calls Try.prog 32 #[polV a cap bs, .slice (some ⟨w.heap.size, 0, none⟩) 1 1] (w.alloc (.cells #[.func (.func 46) #[] #[.pointer (some ⟨B, 0, none⟩)]] 62))
      fun e W' => e = .returned (.int .i64 (find bs id 0)) ∧ Below w.heap.size w W' := by
  have al := below_alloc w (.cells #[.func (.func 46) #[] #[.pointer (some ⟨B, 0, none⟩)]] 62)
  refine (first_any a cap bs w.heap.size 1 (by omega) (fun _ => 46) (fun _ => #[.pointer (some ⟨B, 0, none⟩)]) (fun _ x => x.1 == id) (fun x => x.1 == id) _ (h.kept al) (by simp) ?_ (fun _ _ => enters_of Try.func46 (by kernel_rfl) rfl) (fun _ _ => of_asks id B _ (by simp; omega) ((al.cell (p := ⟨B, 0, none⟩) hB).trans hc)) (fun x => ⟨fun h => ⟨0, by omega, h⟩, fun ⟨_, _, h⟩ => h⟩)).mono ?_
  · intro j hj
    obtain rfl : j = 0 := by omega
    simp
  · rintro e W' ⟨rfl, hb⟩
    exact ⟨by rw [idx_find], below2 al hb⟩
set_option maxHeartbeats 2000000 in
theorem Find_told (a : Option Addr) (cap : Nat) (bs : List Bk) (id : Int) (w : World) (h : Lies w a cap bs) :
    Calls Try.prog 20 #[polV a cap bs, .int .i64 id] w fun e W' => e = .returned (.int .i64 (find bs id 0)) ∧ Below w.heap.size w W' := by
  have H := Lib.hid h
  clear h
  go_enter Try.func20, Try.ntmps20
  go_wp2_with fail
  refine (of_any id w).mono ?_
  rintro e w1 ⟨rfl, hw1⟩
  have b1 := Lib.hid (show Below w.heap.size w w1 by rw [hw1]; exact below_alloc _ _)
  have c1 : w1.cell? ⟨w.heap.size, 0, none⟩ = some (.int .i64 id) := by rw [hw1]; simp
  have l1 : w.heap.size < w1.heap.size := by rw [hw1]; simp
  have C := Lib.hid (first_one a cap bs id w.heap.size w1 (H.out.kept b1.out) l1 c1)
  clear hw1
  go_wp2_with fail
  refine C.out.mono ?_
  rintro e w2 ⟨rfl, hb2⟩
  have b2 := Lib.hid (below2 b1.out hb2)
  clear hb2
  go_wp2_with fail
  go_ret
  exact ⟨rfl, b2.out⟩
end Go.Proofs.Ytppbbhijlkfioaa.Pol

namespace Go.Proofs.Ytppbbhijlkfioaa.Pol
open Go.RowKit Go.Shelf Rgn

/-- A value that is a pool. -/
def Gives (W : World) (v : Value) (bs : List Bk) : Prop := ∃ a cap, v = polV a cap bs ∧ Lies W a cap bs
def GivesI (W : World) (v : Value) (zs : List Int) : Prop := ∃ a cap, v = intsV a cap zs ∧ LiesI W a cap zs
theorem eql_nil (a : Option Addr) (n c n' c' : Nat) (w : World) : (binOp .eql 30 (.slice a n c) (.slice none n' c')).run Try.prog w = .ok (.bool a.isNone) w := Lib.run_eql_slice_nil w _ _ a n c n' c' Try.underlying30
theorem flat_one (bs : List Bk) : ∀ u ∈ flat bs, u.oneCell' = true := by
  intro u hu
  simp only [flat, List.mem_flatMap] at hu
  obtain ⟨x, _, hx⟩ := hu
  simp at hx; rcases hx with rfl | rfl <;> rfl
theorem flat_lies {W : World} {b off cap : Nat} {bs : List Bk} (h : Lies W (some ⟨b, off, none⟩) cap bs) (j : Nat) (u : Value) (hj : (flat bs)[j]? = some u) : W.cell? ⟨b, off + j, none⟩ = some u := by
  have hl : j < bs.length * 2 := by
    rw [← flat_length]; exact (List.getElem?_eq_some_iff.1 hj).1
  have hk : j / 2 < bs.length := by omega
  obtain ⟨b', off', e, hc⟩ := h.cell (fun e => by rw [e] at hk; exact absurd hk (by simp))
  cases e
  obtain ⟨c0, c1⟩ := hc (j / 2) bs[j / 2] (List.getElem?_eq_getElem hk)
  obtain ⟨f0, f1⟩ := flat_get bs (j / 2) bs[j / 2] (List.getElem?_eq_getElem hk)
  rcases Nat.mod_two_eq_zero_or_one j with h0 | h0
  · have e : j / 2 * 2 = j := by omega
    rw [e] at f0 c0
    rw [f0] at hj; cases hj; exact c0
  · have e : j / 2 * 2 + 1 = j := by omega
    rw [e] at f1
    rw [Nat.add_assoc, e] at c1
    rw [f1] at hj; cases hj; exact c1
theorem Lies.addr {W : World} {p : Addr} {cap : Nat} {bs : List Bk} (h : Lies W (some p) cap bs) (hn : bs ≠ []) : ∃ b off, p = ⟨b, off, none⟩ := by
  obtain ⟨b, off, e, _⟩ := h.cell hn
  cases e; exact ⟨b, off, rfl⟩

set_option maxHeartbeats 2000000 in
theorem Clone_any (a : Option Addr) (cap : Nat) (bs : List Bk) (w : World) (h : Lies w a cap bs) (hl : bs.length ≤ 8796093022207) :
    Calls Try.prog 29 #[polV a cap bs] w fun e W' => ∃ v, e = .returned v ∧ Own w.heap.size W' v bs ∧ Below w.heap.size w W' := by
  have H := Lib.hid h
  clear h
  have q22 := eql_nil
  cases a with
  | none =>
    have e : bs = [] := by
      cases bs with
      | nil => rfl
      | cons x bs => obtain ⟨b, off, e, _⟩ := H.out.cell (by simp); cases e
    subst e
    go_enter Try.func29, Try.ntmps29
    go_wp2
    go_ret
    exact ⟨_, rfl, own_nil _ _, Below.refl _ _⟩
  | some p =>
    obtain ⟨i0, hi, hz0, hz1, hz2⟩ := info_parts info_bk
    have HC := Lib.hid (show ∀ j u, (flat bs)[j]? = some u → w.cell? (p.add j) = some u from fun j u hj => by
      have hn : bs ≠ [] := fun e => by subst e; simp [flat] at hj
      obtain ⟨b, off, rfl⟩ := H.out.addr hn
      rw [Addr.add_lit]
      exact flat_lies H.out j u hj)
    go_enter Try.func29, Try.ntmps29
    go_wp2_with (at_builtin; refine wpList_append_own _ rfl _ _ 30 rfl w.heap.size 38 i0 (.agg #[.int .i64 0, .int .i64 0]) 2 16 Try.underlying30 hi hz0 hz1 hz2 rfl (by decide) _ _ _ rfl (World.ownsRow_made w #[] 0 (Nat.le_refl _) (Nat.zero_le _) (by simp)) p bs.length cap (flat bs) rfl ?qc1 ?qc2 ?qc3 ?qc4 ?qc5 ?qc6 ?_)
    case qc1 => exact flat_length bs
    case qc2 => intro j u hj; exact Lib.cell?_alloc_some _ (HC.out j u hj)
    case qc3 => exact flat_one bs
    case qc4 => unfold maxLen; omega
    case qc5 => omega
    case qc6 => simp
    intro v' w1 hown hgrow hnil
    have HO := Lib.hid hown
    have HG := Lib.hid hgrow
    clear hown hgrow hnil
    go_wp2
    go_ret
    refine ⟨_, rfl, ?_, ?_⟩
    · have := HO.out
      unfold Own
      simpa using this
    · exact ((Below.refl _ w).alloc (Nat.le_refl _) _).grown HG.out (by simp) (by intro k hk; simp [Value.ownBlock] at hk; omega)

/-- A row of backends that may be written. -/
def Row (W : World) (g cap : Nat) (bs : List Bk) : Prop :=
  ∃ cur : Array Value, W.heap[g]? = some (.cells cur 38 (0, 0)) ∧ bs.length ≤ cap ∧ cap ≤ maxLen ∧ cur.size = cap * 2 ∧ cur.toList.take (bs.length * 2) = flat bs
theorem Own.row {B : Nat} {W : World} {v : Value} {bs : List Bk} (h : Own B W v bs) (hn : bs ≠ []) : ∃ g cap, v = polV (some ⟨g, 0, none⟩) cap bs ∧ B ≤ g ∧ Row W g cap bs := by
  rcases h.2 with ⟨_, h0⟩ | ⟨g, cap, cur, rfl, hb, r⟩
  · exact absurd (List.eq_nil_of_length_eq_zero h0) hn
  · exact ⟨g, cap, rfl, hb, cur, r⟩
theorem Row.own {B : Nat} {W : World} {g cap : Nat} {bs : List Bk} (h : Row W g cap bs) (hB : B ≤ g) : Own B W (polV (some ⟨g, 0, none⟩) cap bs) bs := by
  obtain ⟨cur, r⟩ := h
  exact ⟨flat_length bs, .inr ⟨g, cap, cur, rfl, hB, r⟩⟩
theorem Row.lt {W : World} {g cap : Nat} {bs : List Bk} (h : Row W g cap bs) : g < W.heap.size := by
  obtain ⟨cur, hg, _⟩ := h
  rcases Nat.lt_or_ge g W.heap.size with h | h
  · exact h
  · rw [Array.getElem?_eq_none h] at hg; cases hg
theorem Row.len {W : World} {g cap : Nat} {bs : List Bk} (h : Row W g cap bs) : bs.length ≤ cap ∧ cap ≤ maxLen := by
  obtain ⟨cur, _, h1, h2, _⟩ := h; exact ⟨h1, h2⟩
theorem Row.kept {W W' : World} {g cap : Nat} {bs : List Bk} (h : Row W g cap bs) (hb : Below W.heap.size W W') : Row W' g cap bs := by
  have hl := h.lt
  obtain ⟨cur, hg, r⟩ := h
  exact ⟨cur, (hb.block g hl).trans hg, r⟩
theorem Row.cell {W : World} {g cap : Nat} {bs : List Bk} (h : Row W g cap bs) {i : Nat} (hi : i < bs.length) :
    W.cell? ⟨g, i * 2, none⟩ = some (.int .i64 bs[i].1) ∧ W.cell? ⟨g, i * 2 + 1, none⟩ = some (.int .i64 bs[i].2) ∧ W.frozen? ⟨g, i * 2, none⟩ = false ∧ W.frozen? ⟨g, i * 2 + 1, none⟩ = false := by
  obtain ⟨cur, hg, h1, h2, h3, h4⟩ := h
  obtain ⟨f0, f1⟩ := flat_get bs i bs[i] (List.getElem?_eq_getElem hi)
  rw [← h4, List.getElem?_take_of_lt (by omega)] at f0 f1
  rw [Array.getElem?_toList] at f0 f1
  refine ⟨?_, ?_, ?_, ?_⟩ <;> simp [World.cell?, World.frozen?, hg, f0, f1]
theorem Row.lies {W : World} {g cap : Nat} {bs : List Bk} (h : Row W g cap bs) : Lies W (some ⟨g, 0, none⟩) cap bs :=
  ⟨h.len.2, h.len.1, fun _ => ⟨g, 0, rfl, fun i x hi => by
    obtain ⟨hl, e⟩ := List.getElem?_eq_some_iff.1 hi
    obtain ⟨c0, c1, _⟩ := h.cell hl
    rw [e] at c0 c1
    rw [Nat.zero_add]; exact ⟨c0, c1⟩⟩⟩
theorem flat_set (bs : List Bk) : ∀ (i : Nat) (x : Bk), flat (bs.set i x) = ((flat bs).set (i * 2) (.int .i64 x.1)).set (i * 2 + 1) (.int .i64 x.2) := by
  induction bs with
  | nil => intro i x; simp [flat]
  | cons y bs ih =>
    intro i x
    have e : ∀ (y : Bk) bs, flat (y :: bs) = .int .i64 y.1 :: .int .i64 y.2 :: flat bs := fun y bs => by simp [flat]
    cases i with
    | zero => simp [e]
    | succ i =>
      rw [List.set_cons_succ, e, e, ih i x, show (i + 1) * 2 = i * 2 + 1 + 1 by omega]
      simp [List.set_cons_succ]
/-- A world in which a backend stands at a place of a row. -/
def put2 (W : World) (g i : Nat) (x : Bk) : World := (W.setCell ⟨g, i * 2, none⟩ (.int .i64 x.1)).setCell ⟨g, i * 2 + 1, none⟩ (.int .i64 x.2)
theorem Row.put {W : World} {g cap : Nat} {bs : List Bk} (h : Row W g cap bs) (i : Nat) (x : Bk) : Row (put2 W g i x) g cap (bs.set i x) := by
  obtain ⟨cur, hg, h1, h2, h3, h4⟩ := h
  refine ⟨(cur.setIfInBounds (i * 2) (.int .i64 x.1)).setIfInBounds (i * 2 + 1) (.int .i64 x.2), heap_setCell_same _ _ _ _ _ _ (heap_setCell_same _ _ _ _ _ _ hg), by simpa using h1, h2, by simpa using h3, ?_⟩
  rw [List.length_set, flat_set, ← h4]
  simp [List.take_set]
theorem Row.put_other {W : World} {g cap : Nat} {bs : List Bk} (h : Row W g cap bs) {a : Addr} (ha : g ≠ a.block) (v : Value) : Row (W.setCell a v) g cap bs := by
  obtain ⟨cur, hg, r⟩ := h
  exact ⟨cur, (heap_setCell_other _ _ _ _ ha).trans hg, r⟩
theorem Row.drew {W : World} {g cap : Nat} {bs : List Bk} (h : Row W g cap bs) : Row W.drew g cap bs := h
theorem Row.cut {W : World} {g cap : Nat} {bs : List Bk} (h : Row W g cap bs) (i : Nat) : Row W g cap (bs.take i) := by
  obtain ⟨cur, hg, h1, h2, h3, h4⟩ := h
  have hl : (bs.take i).length ≤ bs.length := by simp; omega
  refine ⟨cur, hg, by omega, h2, h3, ?_⟩
  have e : flat (bs.take i) = (flat bs).take ((bs.take i).length * 2) := by
    have e1 : flat bs = flat (bs.take i) ++ flat (bs.drop i) := by
      conv => lhs; rw [← List.take_append_drop i bs]
      unfold flat
      rw [List.flatMap_append]
    rw [e1]
    exact (List.take_left' (flat_length (bs.take i))).symm
  rw [e, ← h4, List.take_take]
  congr 1; omega
theorem Row.past {W : World} {g cap : Nat} {bs : List Bk} (h : Row W g cap bs) (vs : List Value) : ∀ (o : Nat), bs.length * 2 ≤ o → Row (W.setCells g o vs) g cap bs := by
  induction vs generalizing W with
  | nil => intro o _; exact h
  | cons v vs ih =>
    intro o ho
    show Row ((W.setCell ⟨g, o, none⟩ v).setCells g (o + 1) vs) g cap bs
    refine ih ?_ (o + 1) (by omega)
    obtain ⟨cur, hg, h1, h2, h3, h4⟩ := h
    refine ⟨cur.setIfInBounds o v, heap_setCell_same _ _ _ _ _ _ hg, h1, h2, by simpa using h3, ?_⟩
    rw [Array.toList_setIfInBounds, List.take_set_of_le (by omega)]; exact h4
theorem below_put {B : Nat} {w W : World} (h : Below B w W) {g : Nat} (hg : B ≤ g) (i : Nat) (x : Bk) : Below B w (put2 W g i x) := (h.setCell (p := ⟨g, i * 2, none⟩) hg _).setCell (p := ⟨g, i * 2 + 1, none⟩) hg _

theorem with_set (y : Bk) (bs : List Bk) : ∀ m k : Nat, find bs y.1 m = ((m + k : Nat) : Int) → with_ bs y = bs.set k y := by
  induction bs with
  | nil => intro m k h; unfold find at h; omega
  | cons x bs ih =>
    intro m k h
    unfold find at h
    unfold with_
    by_cases e : x.1 = y.1
    · rw [if_pos e] at h
      rw [if_pos e]
      obtain rfl : k = 0 := by omega
      rfl
    · rw [if_neg e] at h
      rw [if_neg e]
      have := find_ge bs y.1 (m + 1)
      obtain ⟨k', rfl⟩ : ∃ k', k = k' + 1 := ⟨k - 1, by omega⟩
      rw [List.set_cons_succ, ih (m + 1) k' (by rw [h]; omega)]
theorem with_new (y : Bk) (bs : List Bk) (h : ∀ x ∈ bs, x.1 ≠ y.1) : with_ bs y = bs ++ [y] := by
  induction bs with
  | nil => rfl
  | cons x bs ih =>
    unfold with_
    rw [if_neg (h x (by simp)), ih (fun z hz => h z (by simp [hz]))]; rfl

set_option maxHeartbeats 2000000 in
theorem With_told (a : Option Addr) (cap : Nat) (bs : List Bk) (y : Bk) (w : World) (h : Lies w a cap bs) (hl : bs.length ≤ 8796093022207) :
    Calls Try.prog 18 #[polV a cap bs, .agg #[.int .i64 y.1, .int .i64 y.2]] w fun e W' => ∃ v, e = .returned v ∧ Gives W' v (with_ bs y) ∧ Below w.heap.size w W' := by
  have C := fun W hW => Lib.hid (Clone_any a cap bs W hW (by omega))
  have H := Lib.hid h
  have al := Lib.hid (below_alloc w (.cells #[.int .i64 y.1, .int .i64 y.2] 38))
  have d0 : (w.alloc (.cells #[.int .i64 y.1, .int .i64 y.2] 38)).cell? ⟨w.heap.size, 0, none⟩ = some (.int .i64 y.1) := by simp
  have d1 : (w.alloc (.cells #[.int .i64 y.1, .int .i64 y.2] 38)).cell? ⟨w.heap.size, 1, none⟩ = some (.int .i64 y.2) := by simp
  have ds : w.heap.size < (w.alloc (.cells #[.int .i64 y.1, .int .i64 y.2] 38)).heap.size := by simp
  have HL := Lib.hid (H.out.kept al.out)
  clear h
  go_enter Try.func18, Try.ntmps18
  go_wp2_with fail
  generalize w.alloc (.cells #[.int .i64 y.1, .int .i64 y.2] 38) = w1 at *
  refine (C _ HL.out).out.mono ?_
  rintro e w2 ⟨v, rfl, ho, hb⟩
  obtain ⟨a', cap', rfl, hlies⟩ := ho.lies
  have F := Lib.hid (Find_told a' cap' bs y.1 w2 hlies)
  have HO := Lib.hid ho
  have HB := Lib.hid hb
  have e0 := (hb.cell (p := ⟨w.heap.size, 0, none⟩) ds).trans d0
  have e1 := (hb.cell (p := ⟨w.heap.size, 1, none⟩) ds).trans d1
  have es := Nat.lt_of_lt_of_le ds hb.size
  have HW := Lib.hid (below2 al.out hb)
  clear ho hb hlies d0 d1 C
  generalize hBw : w.heap.size = Bw at *
  go_wp2_with fail
  refine F.out.mono ?_
  rintro e w3 ⟨rfl, hb3⟩
  have HO3 := Lib.hid (HO.out.kept hb3)
  have HW3 := Lib.hid (HW.out.trans (hb3.mono (Nat.le_of_lt es)))
  have f0 := (hb3.cell (p := ⟨Bw, 0, none⟩) es).trans e0
  have f1 := (hb3.cell (p := ⟨Bw, 1, none⟩) es).trans e1
  have fs := Nat.lt_of_lt_of_le es hb3.size
  clear hb3 e0 e1 HO HB F
  rcases find_cases y.1 bs 0 with ⟨hf, hno⟩ | ⟨k, x, hf, hk, hx, _⟩
  · have HT := Lib.hid (with_new y bs hno)
    clear hno
    rw [hf]
    go_wp2_with (at_builtin; refine wpList_more rfl _ _ rfl Bw w3.heap.size bs y _ rfl rfl ((own_less (Nat.le_of_lt ds) HO3.out).kept (below_alloc w3 _)) ?c0 ?c1 ?c2 ?c3 ?_)
    case c0 => simp
    case c1 => simp
    case c2 => omega
    case c3 => simp; omega
    intro v' w4 ho4 hb4
    have HB4 := Lib.hid ((HW3.out.alloc (Nat.le_of_lt fs) _).trans hb4.out)
    have HG := Lib.hid ho4.out.lies
    clear hb4 ho4
    go_wp2
    go_ret
    exact ⟨_, rfl, by rw [HT.out]; exact HG.out, by rw [hBw]; exact HB4.out⟩
  · have HT := Lib.hid (with_set y bs 0 k hf)
    rw [hf]
    have hkl := (List.getElem?_eq_some_iff.1 hk).1
    obtain ⟨g, cap2, hv, hBg, hR⟩ := HO3.out.row (fun e => by rw [e] at hkl; exact absurd hkl (by simp))
    have hv' : a' = some ⟨g, 0, none⟩ ∧ cap' = cap2 := by cases hv; exact ⟨rfl, rfl⟩
    obtain ⟨rfl, rfl⟩ := hv'
    obtain ⟨g0, g1, g2, g3⟩ := hR.cell hkl
    have HR := Lib.hid (hR.put k y)
    have HP := Lib.hid (below_put HW3.out (Nat.le_trans (Nat.le_of_lt ds) hBg) k y)
    have hbig := hR.len
    unfold maxLen at hbig
    clear hv hk hx hR
    go_wp2
    go_ret
    exact ⟨_, rfl, by rw [HT.out]; exact ⟨_, cap', by show Value.slice _ bs.length _ = Value.slice _ (bs.set k y).length _; rw [List.length_set], HR.out.lies⟩, by rw [hBw]; exact HP.out⟩
end Go.Proofs.Ytppbbhijlkfioaa.Pol

namespace Go.Proofs.Ytppbbhijlkfioaa.Pol
open Go.RowKit Go.Shelf Rgn

set_option maxRecDepth 100000 in
set_option maxHeartbeats 2000000 in
theorem IndexFunc_any (a : Option Addr) (cap : Nat) (bs : List Bk) (k : Nat) (cb : Array Value) (q : Bk → Bool) (w : World) (h : Lies w a cap bs) (hen : Enters Try.prog k) (hc : Asks k cb q w) :
    Calls Try.prog 55 #[polV a cap bs, .func (.func k) #[] cb] w fun e W' => e = .returned (.int .i64 (idx q bs 0)) ∧ Below w.heap.size w W' := by
  have H := Lib.hid h
  have C := Lib.hid hc
  have en : ∀ (args : Array Value) (w : World), (callFunc k args).run Try.prog w = .ok (.enter k args) w := hen
  clear h hc
  go_enter Try.func55, Try.ntmps55
  go_wp2
  go_loopw [4, 8] (fun v i W => ∃ m : Nat, m ≤ bs.length ∧ v = .int .i64 0 ∧ i = .int .i64 m ∧ (∀ j x, j < m → bs[j]? = some x → q x = false) ∧ Below w.heap.size w W) (fun _ i _ => bs.length - (intOf i).toNat)
  case atStart => exact ⟨0, Nat.zero_le _, rfl, rfl, fun j x hj => absurd hj (by omega), Below.refl _ _⟩
  case round =>
    obtain ⟨m, hm, rfl, rfl, hno, hB⟩ := hrel
    have HN := Lib.hid hno
    have HB := Lib.hid hB
    clear hno hB
    by_cases hlt : m < bs.length
    · obtain ⟨b, off, rfl, c0, c1⟩ := (H.out.kept HB.out).at hlt
      have hC := H.out.len
      have hM := H.out.max
      unfold maxLen at hM
      have HH := Lib.hid (idx_hit q bs m hlt HN.out)
      have HI := Lib.hid (show bs[m]? = some bs[m] from List.getElem?_eq_getElem hlt)
      generalize bs[m] = x at *
      go_wp2_with fail
      refine (C.out x wr HB.out).mono ?_
      rintro e w2 ⟨rfl, hb2⟩
      have HW := Lib.hid (below2 HB.out hb2)
      clear hb2
      cases hqx : q x with
      | true =>
        have HT := Lib.hid (HH.out hqx)
        go_wp2_with fail
        go_ret
        exact ⟨by rw [HT.out]; rfl, HW.out⟩
      | false =>
        have HF := Lib.hid hqx
        clear hqx
        go_wp2_with fail
        go_roundw
        case rel =>
          refine ⟨m + 1, by omega, rfl, by go_num, fun j' y h' hy => ?_, HW.out⟩
          by_cases e : j' = m
          · rw [e, HI.out] at hy; cases hy; exact HF.out
          · exact HN.out j' y (by omega) hy
        case measure => simp [intOf]; omega
    · go_wp2
      go_ret
      rw [idx_none q bs (fun j x hj => HN.out j x (by omega))]
      exact ⟨rfl, HB.out⟩

/-- A part of a row is cleared. -/
theorem run_clear_row {W : World} {g cap : Nat} {bs : List Bk} (h : Row W g cap bs) (i n : Nat) (h0 : 0 < n) (hn : i + n ≤ bs.length) :
    ∃ vs, ∀ ty c, (Builtin.clear_ #[30] ty #[.slice (some ⟨g, i * 2, none⟩) n c]).run Try.prog W = .ok (.tuple #[]) (W.setCells g (i * 2) vs) := by
  have hz : ∀ w, (zeroValue 38).run Try.prog w = .ok (.agg #[.int .i64 0, .int .i64 0]) w := fun w => by kernel_rfl
  have hcell : ∀ j, j < n * 2 → (W.cell? ⟨g, i * 2 + j, none⟩).isSome = true ∧ W.frozen? ⟨g, i * 2 + j, none⟩ = false := fun j hj => by
    obtain ⟨c0, c1, f0, f1⟩ := h.cell (i := i + j / 2) (by omega)
    rcases Nat.mod_two_eq_zero_or_one j with e | e
    · rw [show i * 2 + j = (i + j / 2) * 2 by omega, c0]; exact ⟨rfl, f0⟩
    · rw [show i * 2 + j = (i + j / 2) * 2 + 1 by omega, c1]; exact ⟨rfl, f1⟩
  have hlen : (Builtin.zeroCells (Value.agg #[.int .i64 0, .int .i64 0]).cells n).toList.length = n * 2 := by
    simp [Builtin.zeroCells, Value.cells]
  have hone : ∀ v ∈ (Builtin.zeroCells (Value.agg #[.int .i64 0, .int .i64 0]).cells n).toList, v.oneCell' = true := by
    intro v hv
    obtain ⟨k, hk, rfl⟩ := List.getElem_of_mem hv
    simp only [Builtin.zeroCells, Value.cells, Array.getElem_toList]
    rcases Nat.mod_two_eq_zero_or_one k with e | e <;> simp [e] <;> rfl
  have hst := run_storeCells_cells (P := Try.prog) g (i * 2) (Builtin.zeroCells (Value.agg #[.int .i64 0, .int .i64 0]).cells n).toList 0 W (by rw [hlen]; exact fun j hj => (hcell j hj).1) (by rw [hlen]; exact fun j hj => (hcell j hj).2) hone
  simp only [Nat.add_zero] at hst
  refine ⟨(Builtin.zeroCells (Value.agg #[.int .i64 0, .int .i64 0]).cells n).toList, fun ty c => ?_⟩
  clear hlen hone hcell
  generalize hZ : (Builtin.zeroCells (Value.agg #[.int .i64 0, .int .i64 0]).cells n).toList = Z at *
  obtain ⟨m, rfl⟩ : ∃ m, n = m + 1 := ⟨n - 1, by omega⟩
  simp [Builtin.clear_, run_underlying Try.underlying30, hz, hZ, hst]

theorem box_put {W : World} {g i : Nat} {x : Bk} {a : Addr} (ha : a.block ≠ g) : (put2 W g i x).cell? a = W.cell? a := by
  unfold put2
  rw [World.cell?_setCell_other _ _ _ _ (fun e => ha (by rw [← e])), World.cell?_setCell_other _ _ _ _ (fun e => ha (by rw [← e]))]
theorem below_past {B : Nat} {w W : World} (h : Below B w W) {g : Nat} (hg : B ≤ g) (vs : List Value) : ∀ o, Below B w (W.setCells g o vs) := by
  induction vs generalizing W with
  | nil => intro o; exact h
  | cons v vs ih => intro o; exact ih (h.setCell (p := ⟨g, o, none⟩) hg v) (o + 1)
/-- What DeleteFunc has done: the first i of ds are what is left of the first j of bs; the others stand as they stood. -/
structure Left (id : Int) (bs ds : List Bk) (i j : Nat) : Prop where
  lt : i < j
  le : j ≤ bs.length
  len : ds.length = bs.length
  done : ds.take i = without (bs.take j) id
  rest : ds.drop j = bs.drop j
theorem Left.at {id : Int} {bs ds : List Bk} {i j : Nat} (h : Left id bs ds i j) (hj : j < bs.length) : ∃ x, ds[j]? = some x ∧ bs[j]? = some x := by
  refine ⟨bs[j], ?_, List.getElem?_eq_getElem hj⟩
  have := congrArg (fun l => l[0]?) h.rest
  simp only [List.getElem?_drop, Nat.add_zero] at this
  rw [this]; exact List.getElem?_eq_getElem hj
theorem Left.start (id : Int) (bs : List Bk) (k : Nat) (hk : k < bs.length) (hno : ∀ j x, j < k → bs[j]? = some x → x.1 ≠ id) (h : ∀ x, bs[k]? = some x → x.1 = id) : Left id bs bs k (k + 1) := by
  refine ⟨by omega, by omega, rfl, ?_, rfl⟩
  rw [take_more bs k hk]
  have e := h bs[k] (List.getElem?_eq_getElem hk)
  simp only [without, List.filter_append, List.filter_cons, List.filter_nil]
  rw [if_neg (by simp [e]), List.append_nil]
  refine (List.filter_eq_self.2 fun x hx => ?_).symm
  obtain ⟨j, hj, rfl⟩ := List.getElem_of_mem hx
  have hj' : j < k := by simp at hj; omega
  have := hno j bs[j] hj' (List.getElem?_eq_getElem (by omega))
  simpa using this
theorem Left.skip {id : Int} {bs ds : List Bk} {i j : Nat} (h : Left id bs ds i j) (hj : j < bs.length) (he : ∀ x, bs[j]? = some x → x.1 = id) : Left id bs ds i (j + 1) := by
  have e := he bs[j] (List.getElem?_eq_getElem hj)
  refine ⟨by have := h.lt; omega, by omega, h.len, ?_, ?_⟩
  · rw [take_more bs j hj, h.done]
    simp only [without, List.filter_append, List.filter_cons, List.filter_nil]
    rw [if_neg (by simp [e]), List.append_nil]
  · have := congrArg (List.drop 1) h.rest
    rwa [List.drop_drop, List.drop_drop] at this
theorem Left.keep {id : Int} {bs ds : List Bk} {i j : Nat} (h : Left id bs ds i j) (hj : j < bs.length) (x : Bk) (hx : bs[j]? = some x) (he : x.1 ≠ id) : Left id bs (ds.set i x) (i + 1) (j + 1) := by
  have hlt := h.lt
  have hx' : bs[j] = x := by rw [List.getElem?_eq_getElem hj] at hx; exact Option.some.inj hx
  refine ⟨by omega, by omega, by rw [List.length_set]; exact h.len, ?_, ?_⟩
  · rw [take_more bs j hj, hx']
    have e1 : without (bs.take j ++ [x]) id = without (bs.take j) id ++ [x] := by simp [without, he]
    rw [e1, ← h.done, take_more _ i (by rw [List.length_set, h.len]; omega), List.take_set_of_le (Nat.le_refl _)]
    congr 1; simp
  · have := congrArg (List.drop 1) h.rest
    rw [List.drop_drop, List.drop_drop] at this
    rw [List.drop_set_of_lt (by omega)]; exact this

set_option maxRecDepth 100000 in
set_option maxHeartbeats 4000000 in
theorem DeleteFunc_any (g cap : Nat) (bs : List Bk) (id : Int) (B Bx : Nat) (w : World) (h : Row w g cap bs) (hB : B ≤ g) (hBx : Bx < w.heap.size) (hne : Bx ≠ g) (hc : w.cell? ⟨Bx, 0, none⟩ = some (.int .i64 id)) (hBw : B ≤ w.heap.size) :
    Calls Try.prog 41 #[polV (some ⟨g, 0, none⟩) cap bs, .func (.func 46) #[] #[.pointer (some ⟨Bx, 0, none⟩)]] w
      fun e W' => ∃ v, e = .returned v ∧ Gives W' v (without bs id) ∧ Below B w W' := by
  have en : ∀ (args : Array Value) (w : World), (callFunc 46 args).run Try.prog w = .ok (.enter 46 args) w := enters_of Try.func46 (by kernel_rfl) rfl
  have IF := Lib.hid (IndexFunc_any (some ⟨g, 0, none⟩) cap bs 46 #[.pointer (some ⟨Bx, 0, none⟩)] _ w h.lies (enters_of Try.func46 (by kernel_rfl) rfl) (of_asks id Bx w hBx hc))
  have H := Lib.hid h
  have hM := h.len
  unfold maxLen at hM
  clear h
  go_enter Try.func41, Try.ntmps41
  go_wp2_with fail
  refine IF.out.mono ?_
  rintro e w1 ⟨rfl, hb1⟩
  have H1 := Lib.hid (H.out.kept hb1)
  have hc1 := (hb1.cell (p := ⟨Bx, 0, none⟩) hBx).trans hc
  have hBx1 := Nat.lt_of_lt_of_le hBx hb1.size
  have hBw1 := Nat.le_trans hBw hb1.size
  have HB1 := Lib.hid (hb1.mono hBw)
  clear hb1 hc IF H
  rw [idx_find]
  rcases find_cases id bs 0 with ⟨hf, hno⟩ | ⟨k, x, hf, hk, hx, hno⟩
  · have HT := Lib.hid (show without bs id = bs from List.filter_eq_self.2 fun x hx => by simpa using hno x hx)
    clear hno
    rw [hf]
    go_wp2_with fail
    go_ret
    exact ⟨_, rfl, by rw [HT.out]; exact ⟨_, cap, rfl, H1.out.lies⟩, HB1.out⟩
  · have hkl := (List.getElem?_eq_some_iff.1 hk).1
    have HS := Lib.hid (Left.start id bs k hkl hno (fun y hy => by rw [hk] at hy; cases hy; exact hx))
    have e1 : ((k : Int) == -1) = false := beq_false_of_ne (by omega)
    rw [hf, Nat.zero_add]
    clear hno hf hk hx
    go_wp2_with fail
    go_loopw [5, 6] (fun vi vj W => ∃ (i j : Nat) (ds : List Bk), vi = .int .i64 i ∧ vj = .int .i64 j ∧ Left id bs ds i j ∧ Row W g cap ds ∧ W.cell? ⟨Bx, 0, none⟩ = some (.int .i64 id) ∧ Bx < W.heap.size ∧ B ≤ W.heap.size ∧ Below B w W) (fun _ vj _ => bs.length - (intOf vj).toNat)
    case atStart => exact ⟨k, k + 1, bs, rfl, by go_num, HS.out, H1.out, hc1, hBx1, hBw1, HB1.out⟩
    case round =>
      obtain ⟨i, j, ds, rfl, rfl, hL, hR, hcb, hbl, hbB, hBel⟩ := hrel
      have hlt := hL.lt
      have hle := hL.le
      have hds := hL.len
      have HBel := Lib.hid hBel
      have HL := Lib.hid hL
      have HR := Lib.hid hR
      clear hL hR hBel
      by_cases hj : j < bs.length
      · obtain ⟨x, hx1, hx2⟩ := HL.out.at hj
        have hjd : j < ds.length := by omega
        have hid : i < ds.length := by omega
        obtain ⟨c0, c1, _, _⟩ := HR.out.cell hjd
        have ex : ds[j] = x := by rw [List.getElem?_eq_getElem hjd] at hx1; exact Option.some.inj hx1
        rw [ex] at c0 c1
        clear ex hx1
        have al := below_alloc wr (.cells #[.int .i64 x.1, .int .i64 x.2] 38)
        have HA := Lib.hid (HBel.out.alloc hbB (.cells #[.int .i64 x.1, .int .i64 x.2] 38))
        have HRA := Lib.hid (HR.out.kept al)
        have ca := (al.cell (p := ⟨Bx, 0, none⟩) hbl).trans hcb
        have d0 : (wr.alloc (.cells #[.int .i64 x.1, .int .i64 x.2] 38)).cell? ⟨wr.heap.size, 0, none⟩ = some (.int .i64 x.1) := by simp
        have d1 : (wr.alloc (.cells #[.int .i64 x.1, .int .i64 x.2] 38)).cell? ⟨wr.heap.size, 1, none⟩ = some (.int .i64 x.2) := by simp
        have hs : (wr.alloc (.cells #[.int .i64 x.1, .int .i64 x.2] 38)).heap.size = wr.heap.size + 1 := by simp
        have hgl := HR.out.lt
        have C := Lib.hid (of_asks id Bx _ (by rw [hs]; omega) ca x _ (Below.refl _ _))
        clear al
        go_wp2_with fail
        generalize wr.alloc (.cells #[.int .i64 x.1, .int .i64 x.2] 38) = wa at *
        generalize wr.heap.size = Sz at *
        refine C.out.mono ?_
        rintro e w2 ⟨rfl, hb2⟩
        have e0 := (hb2.cell (p := ⟨Sz, 0, none⟩) (by show Sz < _; omega)).trans d0
        have e1 := (hb2.cell (p := ⟨Sz, 1, none⟩) (by show Sz < _; omega)).trans d1
        have cb2 := (hb2.cell (p := ⟨Bx, 0, none⟩) (by show Bx < _; omega)).trans ca
        have HR2 := Lib.hid (HRA.out.kept hb2)
        have HB2 := Lib.hid (HA.out.trans (hb2.mono (by omega)))
        have hs2 := hb2.size
        clear hb2 d0 d1 ca HRA HA C
        by_cases hq : x.1 = id
        · have eq : (x.1 == id) = true := beq_iff_eq.2 hq
          have HL' := Lib.hid (HL.out.skip hj (fun y hy => by rw [hx2] at hy; cases hy; exact hq))
          rw [eq]
          clear hq eq
          go_wp2_with fail
          go_roundw
          case rel => exact ⟨i, j + 1, ds, rfl, by go_num, HL'.out, HR2.out, cb2, by omega, by omega, HB2.out⟩
          case measure => simp [intOf]; omega
        · have eq : (x.1 == id) = false := beq_false_of_ne hq
          have HL' := Lib.hid (HL.out.keep hj x hx2 hq)
          rw [eq]
          clear hq eq
          obtain ⟨g0, g1, g2, g3⟩ := HR2.out.cell hid
          have HR3 := Lib.hid (HR2.out.put i x)
          have HB3 := Lib.hid (below_put HB2.out hB i x)
          have cb3 := Lib.hid ((box_put (W := w2) (g := g) (i := i) (x := x) (a := ⟨Bx, 0, none⟩) hne).trans cb2)
          have hs3 : (put2 w2 g i x).heap.size = w2.heap.size := by unfold put2; simp
          go_wp2_with fail
          go_roundw
          case rel => exact ⟨i + 1, j + 1, ds.set i x, by go_num, by go_num, HL'.out, HR3.out, cb3.out, by show Bx < (put2 w2 g i x).heap.size; omega, by show B ≤ (put2 w2 g i x).heap.size; omega, HB3.out⟩
          case measure => simp [intOf]; omega
      · obtain rfl : j = bs.length := by omega
        obtain ⟨vs, hcl⟩ := run_clear_row HR.out i (ds.length - i) (by omega) (by omega)
        rw [hds] at hcl
        have HT := Lib.hid (show ds.take i = without bs id by rw [HL.out.done, List.take_length])
        have HR4 := Lib.hid ((HR.out.cut i).past vs (i * 2) (by simp; omega))
        have hlen : (without bs id).length = i := by rw [← HT.out]; simp; omega
        have HLn := Lib.hid hlen
        have HB4 := Lib.hid (below_past HBel.out hB vs (i * 2))
        clear hlen
        go_wp2_with fail
        go_ret
        exact ⟨_, rfl, ⟨some ⟨g, 0, none⟩, cap, by show Value.slice _ i _ = Value.slice _ (without bs id).length _; rw [HLn.out], by rw [← HT.out]; exact HR4.out.lies⟩, HB4.out⟩

set_option maxHeartbeats 1000000 in
theorem DeleteFunc_none (a : Option Addr) (cap : Nat) (id : Int) (Bx : Nat) (w : World) (h : Lies w a cap []) (hBx : Bx < w.heap.size) (hc : w.cell? ⟨Bx, 0, none⟩ = some (.int .i64 id)) :
    Calls Try.prog 41 #[polV a cap [], .func (.func 46) #[] #[.pointer (some ⟨Bx, 0, none⟩)]] w
      fun e W' => e = .returned (polV a cap []) ∧ Below w.heap.size w W' := by
  have IF := Lib.hid (IndexFunc_any a cap [] 46 #[.pointer (some ⟨Bx, 0, none⟩)] _ w h (enters_of Try.func46 (by kernel_rfl) rfl) (of_asks id Bx w hBx hc))
  go_enter Try.func41, Try.ntmps41
  go_wp2_with fail
  refine IF.out.mono ?_
  rintro e w1 ⟨rfl, hb1⟩
  have HB1 := Lib.hid hb1
  clear hb1 IF
  rw [show idx (fun x => x.1 == id) [] 0 = -1 from rfl]
  go_wp2_with fail
  go_ret
  exact ⟨rfl, HB1.out⟩

set_option maxHeartbeats 2000000 in
theorem Without_told (a : Option Addr) (cap : Nat) (bs : List Bk) (id : Int) (w : World) (h : Lies w a cap bs) (hl : bs.length ≤ 8796093022207) :
    Calls Try.prog 23 #[polV a cap bs, .int .i64 id] w fun e W' => ∃ v, e = .returned v ∧ Gives W' v (without bs id) ∧ Below w.heap.size w W' := by
  have C := Lib.hid (Clone_any a cap bs w h (by omega))
  clear h
  go_enter Try.func23, Try.ntmps23
  go_wp2_with fail
  refine C.out.mono ?_
  rintro e w1 ⟨v, rfl, ho, hb⟩
  have HO := Lib.hid ho
  have HB := Lib.hid hb
  have hs := hb.size
  clear ho hb C
  go_wp2_with fail
  refine (of_any id w1).mono ?_
  rintro e w2 ⟨rfl, hw2⟩
  have b2 := Lib.hid (show Below w1.heap.size w1 w2 by rw [hw2]; exact below_alloc _ _)
  have c2 : w2.cell? ⟨w1.heap.size, 0, none⟩ = some (.int .i64 id) := by rw [hw2]; simp
  have l2 : w1.heap.size < w2.heap.size := by rw [hw2]; simp
  have HB2 := Lib.hid (below2 HB.out b2.out)
  clear hw2
  by_cases hn : bs = []
  · subst hn
    obtain ⟨a', cap', rfl, hL⟩ := (HO.out.kept b2.out).lies
    have D := Lib.hid (DeleteFunc_none a' cap' id w1.heap.size w2 hL l2 c2)
    have HL := Lib.hid hL
    clear hL
    go_wp2_with fail
    refine D.out.mono ?_
    rintro e w3 ⟨rfl, hb3⟩
    have HL3 := Lib.hid (HL.out.kept hb3)
    have HB3 := Lib.hid (below2 HB2.out hb3)
    clear hb3
    go_wp2_with fail
    go_ret
    exact ⟨_, rfl, ⟨a', cap', rfl, HL3.out⟩, HB3.out⟩
  · obtain ⟨g, cap', rfl, hBg, hR⟩ := HO.out.row hn
    have hgl := hR.lt
    have D := Lib.hid (DeleteFunc_any g cap' bs id w.heap.size w1.heap.size w2 (hR.kept b2.out) hBg l2 (by omega) c2 (by omega))
    clear hR
    go_wp2_with fail
    refine D.out.mono ?_
    rintro e w3 ⟨v, rfl, hg3, hb3⟩
    have HG3 := Lib.hid hg3
    have HB3 := Lib.hid (HB2.out.trans hb3)
    clear hb3 hg3
    go_wp2_with fail
    go_ret
    exact ⟨_, rfl, HG3.out, HB3.out⟩
end Go.Proofs.Ytppbbhijlkfioaa.Pol
