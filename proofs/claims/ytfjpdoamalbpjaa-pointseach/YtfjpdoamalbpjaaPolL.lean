/-
  Pools: the first backend of which something is so (package pool: first, of, Find).
-/
import Derived.Test.YtfjpdoamalbpjaaPolR
import Derived.Laws.EntriesVeiled
namespace Go.Proofs.Ytfjpdoamalbpjaa.Pol
open Go.RowKit Go.Shelf Rgn

/-- The value of a backend. -/
abbrev bkV (x : Bk) : Value := .agg #[.int .i64 x.1, .int .i64 x.2]
/-- The place of the first backend of which q is so; -1, if there is none. -/
def idx (q : Bk → Bool) : List Bk → Nat → Int
  | [], _ => -1
  | x :: bs, k => if q x = true then k else idx q bs (k + 1)
theorem idx_drop (q : Bk → Bool) (bs : List Bk) : ∀ (k m : Nat), k ≤ bs.length → (∀ j x, j < k → bs[j]? = some x → q x = false) → idx q bs m = idx q (bs.drop k) (m + k) := by
  induction bs with
  | nil => intro k m hk _; simp at hk; subst hk; rfl
  | cons x bs ih =>
    intro k m hk hno
    cases k with
    | zero => rfl
    | succ k =>
      rw [List.drop_succ_cons]
      have h0 := hno 0 x (by omega) rfl
      rw [show idx q (x :: bs) m = idx q bs (m + 1) from if_neg (by simp [h0]), ih k (m + 1) (by simpa using hk) (fun j y hj hy => hno (j + 1) y (by omega) (by simpa using hy))]
      congr 1; omega
theorem idx_hit (q : Bk → Bool) (bs : List Bk) (k : Nat) (hk : k < bs.length) (hno : ∀ j x, j < k → bs[j]? = some x → q x = false) (h : q bs[k] = true) : idx q bs 0 = k := by
  rw [idx_drop q bs k 0 (by omega) hno, List.drop_eq_getElem_cons hk, Nat.zero_add]
  exact if_pos h
theorem idx_none (q : Bk → Bool) (bs : List Bk) (hno : ∀ j x, j < bs.length → bs[j]? = some x → q x = false) : idx q bs 0 = -1 := by
  rw [idx_drop q bs bs.length 0 (Nat.le_refl _) hno, List.drop_length]; rfl
theorem idx_find (bs : List Bk) (id : Int) : ∀ k, idx (fun x => x.1 == id) bs k = find bs id k := by
  induction bs with
  | nil => intro k; rfl
  | cons x bs ih => intro k; unfold idx find; rw [ih]; by_cases h : x.1 = id <;> simp [h]

/-- What a question tells of a backend, whatever lies beside what lay. -/
def Asks (k : Nat) (cb : Array Value) (q : Bk → Bool) (w : World) : Prop :=
  ∀ (x : Bk) W, Below w.heap.size w W → Calls Try.prog k (#[bkV x] ++ cb) W fun e W' => e = .returned (.bool (q x)) ∧ Below W.heap.size W W'

set_option maxRecDepth 100000 in
set_option maxHeartbeats 2000000 in
theorem first_any (a : Option Addr) (cap : Nat) (bs : List Bk) (g n : Nat) (hn : n ≤ 1000) (k : Nat → Nat) (cb : Nat → Array Value) (q : Nat → Bk → Bool) (qq : Bk → Bool) (w : World) (h : Lies w a cap bs) (hg : g < w.heap.size)
    (hq : ∀ j, j < n → w.cell? ⟨g, j, none⟩ = some (.func (.func (k j)) #[] (cb j)))
    (hen : ∀ j, j < n → Enters Try.prog (k j)) (hc : ∀ j, j < n → Asks (k j) (cb j) (q j) w)
    (hqq : ∀ x, qq x = true ↔ ∃ j, j < n ∧ q j x = true) :
    Calls Try.prog 39 #[polV a cap bs, .slice (some ⟨g, 0, none⟩) n n] w fun e W' => e = .returned (.int .i64 (idx qq bs 0)) ∧ Below w.heap.size w W' := by
  have H := Lib.hid h
  have HQ := Lib.hid hqq
  clear h hqq
  go_enter Try.func39, Try.ntmps39
  go_wp2
  go_loopw [4, 11] (fun v i W => ∃ m : Nat, m ≤ bs.length ∧ v = .int .i64 0 ∧ i = .int .i64 m ∧ (∀ j x, j < m → bs[j]? = some x → qq x = false) ∧ Below w.heap.size w W) (fun _ i _ => bs.length - (intOf i).toNat)
  case atStart => exact ⟨0, Nat.zero_le _, rfl, rfl, fun j x hj => absurd hj (by omega), Below.refl _ _⟩
  case round =>
    obtain ⟨m, hm, rfl, rfl, hno, hB⟩ := hrel
    have HN := Lib.hid hno
    have HB := Lib.hid hB
    clear hno hB
    by_cases hlt : m < bs.length
    · obtain ⟨b, off, rfl, c0, c1⟩ := (H.out.kept HB.out).at hlt
      have hC := H.out.len
      have hM := H.out.max
      unfold maxLen at hM
      have HH := Lib.hid (idx_hit qq bs m hlt HN.out)
      have HI := Lib.hid (show bs[m]? = some bs[m] from List.getElem?_eq_getElem hlt)
      generalize bs[m] = x at *
      go_wp2
      have HB1 := Lib.hid (HB.out.alloc HB.out.size (.cells #[.int .i64 x.1, .int .i64 x.2] 35))
      have HBn := Lib.hid (Below.refl (wr.heap.size + 1) (wr.alloc (.cells #[.int .i64 x.1, .int .i64 x.2] 35)))
      have d0 : (wr.alloc (.cells #[.int .i64 x.1, .int .i64 x.2] 35)).cell? ⟨wr.heap.size, 0, none⟩ = some (.int .i64 x.1) := by simp
      have d1 : (wr.alloc (.cells #[.int .i64 x.1, .int .i64 x.2] 35)).cell? ⟨wr.heap.size, 1, none⟩ = some (.int .i64 x.2) := by simp
      have ds : wr.heap.size < (wr.alloc (.cells #[.int .i64 x.1, .int .i64 x.2] 35)).heap.size := by simp
      generalize wr.alloc (.cells #[.int .i64 x.1, .int .i64 x.2] 35) = w1 at *
      generalize wr.heap.size = B at *
      go_loopw [4, 18] (fun v i W => ∃ j : Nat, j ≤ n ∧ v = .int .i64 0 ∧ i = .int .i64 j ∧ (∀ j', j' < j → q j' x = false) ∧ Below w1.heap.size w1 W) (fun _ i _ => n - (intOf i).toNat)
      case atStart => exact ⟨0, Nat.zero_le _, rfl, rfl, fun j hj => absurd hj (by omega), Below.refl _ _⟩
      case round =>
        obtain ⟨j, hj, rfl, rfl, hqn, hB2⟩ := hrel
        have HQN := Lib.hid hqn
        have HB2 := Lib.hid hB2
        have e0 := (hB2.cell (p := ⟨B, 0, none⟩) ds).trans d0
        have e1 := (hB2.cell (p := ⟨B, 1, none⟩) ds).trans d1
        clear hqn hB2 d0 d1
        by_cases hjn : j < n
        · have cq := ((HB1.out.trans (HB2.out.mono HB1.out.size)).cell (p := ⟨g, j, none⟩) hg).trans (hq j hjn)
          have en : ∀ (args : Array Value) (w : World), (callFunc (k j) args).run Try.prog w = .ok (.enter (k j) args) w := hen j hjn
          have C := Lib.hid (hc j hjn x)
          clear hq hen hc c0 c1
          have HW := Lib.hid (HB1.out.trans (HB2.out.mono HB1.out.size))
          go_wp2_with fail
          refine (C.out _ HW.out).mono ?_
          rintro e w2 ⟨rfl, hb2⟩
          have HB3 := Lib.hid (below2 HB2.out hb2)
          have HW3 := Lib.hid (HW.out.trans (hb2.mono HW.out.size))
          clear hb2
          cases hqx : q j x with
          | true =>
            have HT := Lib.hid (HH.out ((HQ.out x).2 ⟨j, hjn, hqx⟩))
            go_wp2_with fail
            go_ret
            exact ⟨by rw [HT.out]; rfl, HW3.out⟩
          | false =>
            have HF := Lib.hid (show ∀ j', j' < j + 1 → q j' x = false from fun j' h' => by
              by_cases e : j' = j
              · rw [e]; exact hqx
              · exact HQN.out j' (by omega))
            clear hqx
            go_wp2_with fail
            go_roundw
            case rel => exact ⟨j + 1, by omega, rfl, by go_num, HF.out, HB3.out⟩
            case measure => simp [intOf]; omega
        · have HF := Lib.hid (show qq x = false by
            cases hx : qq x with
            | false => rfl
            | true =>
              obtain ⟨j', h1, h2⟩ := (HQ.out x).1 hx
              rw [HQN.out j' (by omega)] at h2; exact absurd h2 (by simp))
          have HW := Lib.hid (HB1.out.trans (HB2.out.mono HB1.out.size))
          clear hq hen hc c0 c1
          go_wp2_with fail
          go_roundw
          case rel =>
            refine ⟨m + 1, by omega, rfl, by go_num, fun j' y h' hy => ?_, HW.out⟩
            by_cases e : j' = m
            · rw [e, HI.out] at hy; cases hy; exact HF.out
            · exact HN.out j' y (by omega) hy
          case measure => simp [intOf]; omega
    · go_wp2
      go_ret
      rw [idx_none qq bs (fun j x hj => HN.out j x (by omega))]
      exact ⟨rfl, HB.out⟩

set_option maxHeartbeats 800000 in
theorem of_any (id : Int) (w : World) :
    Calls Try.prog 41 #[.int .i64 id] w fun e W' => e = .returned (.func (.func 56) #[] #[.pointer (some ⟨w.heap.size, 0, none⟩)]) ∧ W' = w.alloc (.cells #[.int .i64 id] 3) := by
  go_enter Try.func41, Try.ntmps41
  go_wp2
  go_ret
  exact ⟨rfl, rfl⟩
set_option maxHeartbeats 800000 in
theorem of_asks (id : Int) (B : Nat) (w : World) (hB : B < w.heap.size) (hc : w.cell? ⟨B, 0, none⟩ = some (.int .i64 id)) : Asks 56 #[.pointer (some ⟨B, 0, none⟩)] (fun x => x.1 == id) w := by
  intro x W hb
  have c0 := (hb.cell (p := ⟨B, 0, none⟩) hB).trans hc
  have hl := Nat.lt_of_lt_of_le hB hb.size
  have c1 : (W.alloc (.cells #[.int .i64 x.1, .int .i64 x.2] 35)).cell? ⟨B, 0, none⟩ = some (.int .i64 id) := ((below_alloc W _).cell (p := ⟨B, 0, none⟩) hl).trans c0
  have al := Lib.hid (below_alloc W (.cells #[.int .i64 x.1, .int .i64 x.2] 35))
  clear hb hc c0
  go_enter Try.func56, Try.ntmps56
  go_wp2
  go_ret
  exact ⟨rfl, al.out⟩
/-- Asked for one Id alone. -/
theorem first_one (a : Option Addr) (cap : Nat) (bs : List Bk) (id : Int) (B : Nat) (w : World) (h : Lies w a cap bs) (hB : B < w.heap.size) (hc : w.cell? ⟨B, 0, none⟩ = some (.int .i64 id)) :
    Calls Try.prog 39 #[polV a cap bs, .slice (some ⟨w.heap.size, 0, none⟩) 1 1] (w.alloc (.cells #[.func (.func 56) #[] #[.pointer (some ⟨B, 0, none⟩)]] 64))
      fun e W' => e = .returned (.int .i64 (find bs id 0)) ∧ Below w.heap.size w W' := by
  have al := below_alloc w (.cells #[.func (.func 56) #[] #[.pointer (some ⟨B, 0, none⟩)]] 64)
  refine (first_any a cap bs w.heap.size 1 (by omega) (fun _ => 56) (fun _ => #[.pointer (some ⟨B, 0, none⟩)]) (fun _ x => x.1 == id) (fun x => x.1 == id) _ (h.kept al) (by simp) ?_ (fun _ _ => enters_of Try.func56 (by kernel_rfl) rfl) (fun _ _ => of_asks id B _ (by simp; omega) ((al.cell (p := ⟨B, 0, none⟩) hB).trans hc)) (fun x => ⟨fun h => ⟨0, by omega, h⟩, fun ⟨_, _, h⟩ => h⟩)).mono ?_
  · intro j hj
    obtain rfl : j = 0 := by omega
    simp
  · rintro e W' ⟨rfl, hb⟩
    exact ⟨by rw [idx_find], below2 al hb⟩
set_option maxHeartbeats 2000000 in
theorem Find_told (a : Option Addr) (cap : Nat) (bs : List Bk) (id : Int) (w : World) (h : Lies w a cap bs) :
    Calls Try.prog 21 #[polV a cap bs, .int .i64 id] w fun e W' => e = .returned (.int .i64 (find bs id 0)) ∧ Below w.heap.size w W' := by
  have H := Lib.hid h
  clear h
  go_enter Try.func21, Try.ntmps21
  go_wp2_with fail
  refine (of_any id w).mono ?_
  rintro e w1 ⟨rfl, hw1⟩
  have b1 := Lib.hid (show Below w.heap.size w w1 by rw [hw1]; exact below_alloc _ _)
  have c1 : w1.cell? ⟨w.heap.size, 0, none⟩ = some (.int .i64 id) := by rw [hw1]; simp
  have l1 : w.heap.size < w1.heap.size := by rw [hw1]; simp
  have C := Lib.hid (first_one a cap bs id w.heap.size w1 (H.out.kept b1.out) l1 c1)
  clear hw1
  go_wp2_with fail
  refine C.out.mono ?_
  rintro e w2 ⟨rfl, hb2⟩
  have b2 := Lib.hid (below2 b1.out hb2)
  clear hb2
  go_wp2_with fail
  go_ret
  exact ⟨rfl, b2.out⟩
end Go.Proofs.Ytfjpdoamalbpjaa.Pol
