/-
  Rings: which hashes go elsewhere, one behind the other (package ring: moves).
-/
import Derived.Test.YtppbbhijlkfioaaRinD
import Derived.Test.YtppbbhijlkfioaaBPts
namespace Go.Proofs.Ytppbbhijlkfioaa.Rin
open Go.RowKit Go.Shelf Rgn
open Pts (Pt ptV ptsV Lies Rise ofL hsh)
open Pol (below2 below_alloc Bk polV)
open Num (LiesN numsV)

attribute [local go_sem] Oper.semAt_some

/-- A hash, behind its place. -/
abbrev Mv := Nat × Int
abbrev mvV (x : Mv) : Array Value := #[.int .i64 (x.1 : Nat), .int .u64 x.2]
/-- Of the first k hashes those that go elsewhere, each behind its place. -/
def mvP (A B : List Pt) (hs : List Int) (k : Nat) : List Mv := ((List.range k).filter fun i => succL A (hs.getD i 0) != succL B (hs.getD i 0)).map fun i => (i, hs.getD i 0)
theorem mvP_fst (A B : List Pt) (hs : List Int) (k : Nat) : (mvP A B hs k).map (fun x : Mv => (x.1 : Int)) = mvK A B hs k := by
  unfold mvP mvK
  rw [List.map_map]; rfl
theorem mvP_yes (A B : List Pt) (hs : List Int) (k : Nat) (hk : k < hs.length) (h : succL A hs[k] ≠ succL B hs[k]) : mvP A B hs (k + 1) = mvP A B hs k ++ [(k, hs[k])] := by
  unfold mvP
  rw [List.range_succ, List.filter_append, List.map_append]
  congr 1
  simp [hk, h]
theorem mvP_no (A B : List Pt) (hs : List Int) (k : Nat) (hk : k < hs.length) (h : succL A hs[k] = succL B hs[k]) : mvP A B hs (k + 1) = mvP A B hs k := by
  unfold mvP
  rw [List.range_succ, List.filter_append, List.map_append]
  simp [hk, h]
theorem range_le (p : Nat → Bool) (k d : Nat) : ((List.range k).filter p).length ≤ ((List.range (k + d)).filter p).length := by
  induction d with
  | zero => exact Nat.le_refl _
  | succ d ih => rw [← Nat.add_assoc, List.range_succ, List.filter_append, List.length_append]; omega
theorem mvP_le (A B : List Pt) (hs : List Int) (k : Nat) (hk : k ≤ hs.length) : (mvP A B hs k).length ≤ (mvP A B hs hs.length).length := by
  unfold mvP
  rw [List.length_map, List.length_map]
  have := range_le (fun i => succL A (hs.getD i 0) != succL B (hs.getD i 0)) k (hs.length - k)
  rwa [show k + (hs.length - k) = hs.length by omega] at this

/-- What lay in A lies in V as it lay, but for block p. -/
def OldBut (p : Nat) (A V : World) : Prop := ∀ (k : Nat) (o : Obj), A.heap[k]? = some o → k ≠ p → V.heap[k]? = some o
/-- What a round that collects places leaves alone. -/
def spM (n p : Nat) (k : Nat) (o : Obj) : Bool := (decide (k < n) && decide (k ≠ p)) || !o.isCells
theorem OldBut.keeps {p l : Nat} {A V V' : World} (h : OldBut p A V) (hl : A.heap.size ≤ l) (k : Keeps (spM A.heap.size p) (some l) V V') : OldBut p A V' := fun i o hi hp => by
  have hlt := (Array.getElem?_eq_some_iff.1 hi).1
  exact k.same i o (h i o hi hp) (fun e => by cases e; omega) (by unfold spM; rw [decide_eq_true hlt, decide_eq_true hp]; rfl)
theorem OldBut.below {p : Nat} {A V V' : World} (h : OldBut p A V) (hb : Below V.heap.size V V') : OldBut p A V' := fun i o hi hp => (hb.block i (Array.getElem?_eq_some_iff.1 (h i o hi hp)).1).trans (h i o hi hp)

set_option maxHeartbeats 400000 in
theorem moves_told (v f g : Value) (hv : v.oneCell' = true) (hf : f.oneCell' = true) (hg : g.oneCell' = true) (w : World) :
    Calls Try.prog 26 #[v, f, g] w fun e w' => e = .returned (.func (.func 43) #[] #[.pointer (some ⟨w.heap.size, 0, none⟩), .pointer (some ⟨w.heap.size + 1, 0, none⟩), .pointer (some ⟨w.heap.size + 2, 0, none⟩)]) ∧ w' = ((w.alloc (.cells #[v] 31)).alloc (.cells #[f] 56)).alloc (.cells #[g] 56) := by
  go_enter Try.func26, Try.ntmps26
  go_wp2
  go_ret
  exact ⟨rfl, rfl⟩

/-- moves$1's frame. -/
abbrev frM (l B0 B1 B2 : Nat) (v : Value) (n k : Nat) (h : Int) (u4 u12 u28 : Value) (z : Nat → Value) : Act := { tmps := #[.func (.yield l) #[] #[], .pointer (some ⟨B0, 0, none⟩), .pointer (some ⟨B1, 0, none⟩), .pointer (some ⟨B2, 0, none⟩), u4, .int .i64 (k : Nat), .int .u64 h, v, .int .i64 (n : Nat), .int .i64 (k : Nat), .bool true, .int .i64 (k : Nat), u12, .int .u64 h, z 0, z 1, z 2, z 3, z 4, z 5, z 6, z 7, z 8, z 9, z 10, z 11, z 12, z 13, u28], defers := [] }
/-- What its operations yield. -/
def valM (l k : Nat) (h : Int) (f g : Value) (sa sb : Int) (c : Bool) : Nat → Value
  | 0 => f
  | 1 => .int .u64 h
  | 2 => .int .i64 sa
  | 3 => g
  | 4 => .int .u64 h
  | 5 => .int .i64 sb
  | 6 => .bool c
  | 7 => .bool c
  | 8 => if c then .func (.yield l) #[] #[] else undef
  | 9 => if c then .int .i64 (k : Nat) else undef
  | 10 => if c then .int .u64 h else undef
  | 11 => if c then .bool true else undef
  | 12 => if c then .bool false else undef
  | _ => .bool false
/-- The world, behind some of them. -/
def stM (J : List Mv → World → Prop) (p : Nat) (A : World) (pre : List Mv) (x : Mv) (c : Bool) (d : Nat → Bool) (W : World) : Prop := J (if d 11 && c then pre ++ [x] else pre) W ∧ OldBut p A W
theorem stM_upd {J : List Mv → World → Prop} {p : Nat} {A : World} {pre : List Mv} {x : Mv} {c : Bool} {d : Nat → Bool} {W : World} (h : stM J p A pre x c d W) (i : Nat) (hi : i ≠ 11) : stM J p A pre x c (upd d i) W := by
  unfold stM; rw [upd_other d (Ne.symm hi)]; exact h
theorem stM_left {J : List Mv → World → Prop} {p : Nat} {A : World} {pre : List Mv} {x : Mv} {d : Nat → Bool} {W : World} (h : stM J p A pre x false d W) (i : Nat) : stM J p A pre x false (upd d i) W := by
  unfold stM at *; rw [Bool.and_false] at *; exact h
/-- An operation that is left out, in a fence. -/
theorem wpOpIn_left {n : Nat} {P : Program} {ops : Array Oper} {Q : Exit → Act → World → Prop} {i : Nat} {o : Oper} {K : Act → World → Prop} {a : Act} {w : World} (ho : ops[i]? = some o) (hw : Region.wanted o (yielded ops a.tmps) = false)
    (h : ∀ K' : Act → World → Prop, (∀ a w, K a w → K' a w) → K' (a.put o.dst undef) w) : wpOpIn Fence.wide n P ops Q i K a w := by
  refine wpOpIn_step ho fun K' hK' => ?_
  rw [if_neg (by rw [hw]; simp)]
  exact ⟨fun _ _ => trivial, h K' hK'⟩
/-- A guarded operation that is done, in a fence. -/
theorem wpOpIn_done {F : Fence} {n : Nat} {P : Program} {ops : Array Oper} {Q : Exit → Act → World → Prop} {i : Nat} {o : Oper} {K : Act → World → Prop} {a : Act} {w : World} (ho : ops[i]? = some o) (hw : Region.wanted o (yielded ops a.tmps) = true)
    (h : ∀ K' : Act → World → Prop, (∀ a w, K a w → K' a w) → Oper.wpIn F n P o a w K' Q) : wpOpIn F n P ops Q i K a w := by
  refine wpOpIn_step ho fun K' hK' => ?_
  rw [if_pos hw]
  exact h K' hK'

set_option maxRecDepth 100000 in
set_option maxHeartbeats 400000 in
theorem moves1_in (m : Nat) (hm : 10 ≤ m) (l B0 B1 B2 p : Nat) (A0 : World) (aH : Option Addr) (cH : Nat) (hs : List Int) (aP : Option Addr) (cP : Nat) (A : List Pt) (aQ : Option Addr) (cQ : Nat) (B : List Pt) (rA : Rise A) (rB : Rise B)
    (hA : ∀ V, OldBut p A0 V → LiesN .u64 V aH cH hs ∧ Lies V aP cP A ∧ Lies V aQ cQ B ∧ V.cell? ⟨B0, 0, none⟩ = some (numsV aH cH hs) ∧ V.cell? ⟨B1, 0, none⟩ = some (askV aP cP A) ∧ V.cell? ⟨B2, 0, none⟩ = some (askV aQ cQ B))
    (J : List Mv → World → Prop) (W : World) (hl : A0.heap.size ≤ l) (hJ : OwnFrom W.heap.size J)
    (hY : ∀ (k : Nat) (pre : List Mv) (x : Mv) (W1 : World), J pre W1 → pre.length < (mvP A B hs hs.length).length → YieldAt Fence.wide k Try.prog l (mvV x) W1 fun e W' => e = .returned (.bool true) ∧ J (pre ++ [x]) W' ∧ Keeps (spM A0.heap.size p) (some l) W1 W')
    (hO : OldBut p A0 W) (h0 : J [] W) :
    CallsIn Fence.wide m Try.prog 43 #[.func (.yield l) #[] #[], .pointer (some ⟨B0, 0, none⟩), .pointer (some ⟨B1, 0, none⟩), .pointer (some ⟨B2, 0, none⟩)] W fun e W' => (∃ v, e = .returned v) ∧ J (mvP A B hs hs.length) W' := by
  have h1 : 1 ≤ m := by omega
  have HY := Lib.hid hY
  have HA := Lib.hid hA
  have RA := Lib.hid rA
  have RB := Lib.hid rB
  have HJ := Lib.hid hJ
  obtain ⟨hN, _, _, b0, b1, b2⟩ := hA W hO
  have hlen := hN.len
  have hmax := hN.max
  unfold maxLen at hmax
  clear hY hA rA rB hN
  refine callsIn_of_wp Try.func43 rfl trivial ?_ rfl
  simp only [Try.ntmps43, List.size_toArray, List.length_cons, List.length_nil, Nat.reduceAdd, Nat.reduceSub, Array.replicate_succ, Array.replicate_zero, List.push_toArray, List.append_toArray, List.nil_append, List.cons_append]
  gi_wp2
  gi_loopw [9] (fun i wr => ∃ k : Nat, k ≤ hs.length ∧ i = .int .i64 k ∧ J (mvP A B hs k) wr ∧ OldBut p A0 wr)
    (fun i _ => hs.length - (intOf i).toNat)
  case atStart => exact ⟨0, Nat.zero_le _, rfl, h0, hO⟩
  case round =>
    obtain ⟨k, hk, rfl, hJs, hOs⟩ := hrel
    have HJs := Lib.hid hJs
    have HOs := Lib.hid hOs
    clear b0 b1 b2 hO h0 hJs hOs
    by_cases hlt : k < hs.length
    · obtain ⟨hNs, _⟩ := HA.out wr HOs.out
      obtain ⟨b, off, rfl, c0⟩ := hNs.at hlt
      have hpl := mvP_le A B hs (k + 1) hlt
      clear hNs
      have HX : Hid (∃ c : Bool, (succL A hs[k] != succL B hs[k]) = c ∧ mvP A B hs (k + 1) = if c then mvP A B hs k ++ [(k, hs[k])] else mvP A B hs k) := by
        by_cases hx : succL A hs[k] = succL B hs[k]
        · exact ⟨false, by simp [hx], mvP_no A B hs k hlt hx⟩
        · exact ⟨true, bne_iff_ne.2 hx, mvP_yes A B hs k hlt hx⟩
      obtain ⟨c, hc, hmv⟩ := HX.out
      have HM := Lib.hid hmv
      rw [hmv] at hpl
      have HL := Lib.hid hpl
      have HC := Lib.hid hc
      clear HX hmv hpl hc
      generalize hs[k] = h at *
      gi_wp2
      refine wpIn_region_inv (fun d a V => ∃ z : Nat → Value, a = frM l B0 B1 B2 (numsV (some ⟨b, off, none⟩) cH hs) hs.length k h undef (.pointer (some ⟨b, off + k, none⟩)) u28 z ∧ InvJ 14 (valM l k h (askV aP cP A) (askV aQ cQ B) (succL A h) (succL B h) c) (stM J p A0 (mvP A B hs k) (k, h) c) d z V) (by kernel_rfl) (by kernel_rfl) ?step ?done ?start
      case start => exact ⟨fun i => match i with | 0 => u14 | 1 => u15 | 2 => u16 | 3 => u17 | 4 => u18 | 5 => u19 | 6 => u20 | 7 => u21 | 8 => u22 | 9 => u23 | 10 => u24 | 11 => u25 | 12 => u26 | _ => u27, rfl, InvJ.start _ ⟨HJ.out _ wr _ none HJs.out (Pol.grown_none ((Below.refl _ wr).drew)) (fun r e => by cases e), HOs.out.below ((Below.refl _ wr).drew)⟩⟩
      case step =>
        rintro d a V i hi hd hall ⟨z, rfl, hI⟩
        replace hi : i < 14 := hi
        have hst := Lib.hid hI.st
        obtain ⟨hNs, hAs, hBs, b0, b1, b2⟩ := HA.out V hst.out.2
        have HAs := Lib.hid hAs
        have HBs := Lib.hid hBs
        clear hNs hAs hBs HJs HOs c0
        obtain rfl | rfl | rfl | rfl | rfl | rfl | rfl | rfl | rfl | rfl | rfl | rfl | rfl | rfl : i = 0 ∨ i = 1 ∨ i = 2 ∨ i = 3 ∨ i = 4 ∨ i = 5 ∨ i = 6 ∨ i = 7 ∨ i = 8 ∨ i = 9 ∨ i = 10 ∨ i = 11 ∨ i = 12 ∨ i = 13 := by omega
        · clear hall
          refine wpOpIn_free rfl rfl (fun K hK => ?_)
          simp only [List.getElem_toArray, List.getElem_cons_zero]
          go_simp
          exact hK _ _ ⟨_, by simp [upv, valM], hI.yields 0 (stM_upd hst.out 0 (by omega))⟩
        · clear hall
          refine wpOpIn_free rfl rfl (fun K hK => ?_)
          simp only [List.getElem_toArray, List.getElem_cons_zero, List.getElem_cons_succ]
          go_simp
          exact hK _ _ ⟨_, by simp [upv, valM], hI.yields 1 (stM_upd hst.out 1 (by omega))⟩
        · have h0 : z 0 = askV aP cP A := hI.pure 0 (by omega) (hall 0 (by kernel_rfl))
          have h1 : z 1 = .int .u64 h := hI.pure 1 (by omega) (hall 1 (by kernel_rfl))
          clear hall
          refine wpOpIn_free rfl rfl (fun K hK => ?_)
          simp only [List.getElem_toArray, List.getElem_cons_zero, List.getElem_cons_succ]
          go_simp
          refine ⟨trivial, (callsIn_wide.2 (succ_told aP cP A h V HAs.out)).mono ?_⟩
          rintro e w3 ⟨⟨r, rfl, ht⟩, rfl⟩
          obtain rfl := told_rise ht RA.out
          exact hK _ _ ⟨_, by simp [upv, valM, h0, h1], hI.yields 2 (stM_upd hst.out 2 (by omega))⟩
        · clear hall
          refine wpOpIn_free rfl rfl (fun K hK => ?_)
          simp only [List.getElem_toArray, List.getElem_cons_zero, List.getElem_cons_succ]
          go_simp
          exact hK _ _ ⟨_, by simp [upv, valM], hI.yields 3 (stM_upd hst.out 3 (by omega))⟩
        · clear hall
          refine wpOpIn_free rfl rfl (fun K hK => ?_)
          simp only [List.getElem_toArray, List.getElem_cons_zero, List.getElem_cons_succ]
          go_simp
          exact hK _ _ ⟨_, by simp [upv, valM], hI.yields 4 (stM_upd hst.out 4 (by omega))⟩
        · have h3 : z 3 = askV aQ cQ B := hI.pure 3 (by omega) (hall 3 (by kernel_rfl))
          have h4 : z 4 = .int .u64 h := hI.pure 4 (by omega) (hall 4 (by kernel_rfl))
          clear hall
          refine wpOpIn_free rfl rfl (fun K hK => ?_)
          simp only [List.getElem_toArray, List.getElem_cons_zero, List.getElem_cons_succ]
          go_simp
          refine ⟨trivial, (callsIn_wide.2 (succ_told aQ cQ B h V HBs.out)).mono ?_⟩
          rintro e w3 ⟨⟨r, rfl, ht⟩, rfl⟩
          obtain rfl := told_rise ht RB.out
          exact hK _ _ ⟨_, by simp [upv, valM, h3, h4], hI.yields 5 (stM_upd hst.out 5 (by omega))⟩
        · have h2 : z 2 = .int .i64 (succL A h) := hI.pure 2 (by omega) (hall 2 (by kernel_rfl))
          have h5 : z 5 = .int .i64 (succL B h) := hI.pure 5 (by omega) (hall 5 (by kernel_rfl))
          clear hall
          refine wpOpIn_free rfl rfl (fun K hK => ?_)
          simp only [List.getElem_toArray, List.getElem_cons_zero, List.getElem_cons_succ]
          go_simp
          exact hK _ _ ⟨_, by simp [upv, valM, h2, h5, HC.out], hI.yields 6 (stM_upd hst.out 6 (by omega))⟩
        · have h6 : z 6 = .bool c := hI.pure 6 (by omega) (hall 6 (by kernel_rfl))
          clear hall
          refine wpOpIn_free rfl rfl (fun K hK => ?_)
          simp only [List.getElem_toArray, List.getElem_cons_zero, List.getElem_cons_succ]
          go_simp
          exact hK _ _ ⟨_, by simp [upv, valM, h6], hI.yields 7 (stM_upd hst.out 7 (by omega))⟩
        · have h7 : z 7 = .bool c := hI.pure 7 (by omega) (hall 7 (by kernel_rfl))
          cases c with
          | false =>
            refine wpOpIn_left rfl ((wanted_if (s := 21) (b := false) (want := true) rfl rfl (by simp [h7])).trans rfl) (fun K hK => ?_)
            exact hK _ _ ⟨_, by simp [valM]; rfl, hI.yields 8 (stM_left hst.out 8)⟩
          | true =>
            refine wpOpIn_done rfl ((wanted_if (s := 21) (b := true) (want := true) rfl rfl (by simp [h7])).trans rfl) (fun K hK => ?_)
            clear hall
            simp only [List.getElem_toArray, List.getElem_cons_zero, List.getElem_cons_succ]
            go_simp
            exact hK _ _ ⟨_, by simp [upv, valM, h7], hI.yields 8 (stM_upd hst.out 8 (by omega))⟩
        · have h7 : z 7 = .bool c := hI.pure 7 (by omega) (hall 7 (by kernel_rfl))
          cases c with
          | false =>
            refine wpOpIn_left rfl ((wanted_if (s := 21) (b := false) (want := true) rfl rfl (by simp [h7])).trans rfl) (fun K hK => ?_)
            exact hK _ _ ⟨_, by simp [valM]; rfl, hI.yields 9 (stM_left hst.out 9)⟩
          | true =>
            refine wpOpIn_done rfl ((wanted_if (s := 21) (b := true) (want := true) rfl rfl (by simp [h7])).trans rfl) (fun K hK => ?_)
            clear hall
            simp only [List.getElem_toArray, List.getElem_cons_zero, List.getElem_cons_succ]
            go_simp
            exact hK _ _ ⟨_, by simp [upv, valM, h7], hI.yields 9 (stM_upd hst.out 9 (by omega))⟩
        · have h7 : z 7 = .bool c := hI.pure 7 (by omega) (hall 7 (by kernel_rfl))
          cases c with
          | false =>
            refine wpOpIn_left rfl ((wanted_if (s := 21) (b := false) (want := true) rfl rfl (by simp [h7])).trans rfl) (fun K hK => ?_)
            exact hK _ _ ⟨_, by simp [valM]; rfl, hI.yields 10 (stM_left hst.out 10)⟩
          | true =>
            refine wpOpIn_done rfl ((wanted_if (s := 21) (b := true) (want := true) rfl rfl (by simp [h7])).trans rfl) (fun K hK => ?_)
            clear hall
            simp only [List.getElem_toArray, List.getElem_cons_zero, List.getElem_cons_succ]
            go_simp
            exact hK _ _ ⟨_, by simp [upv, valM, h7], hI.yields 10 (stM_upd hst.out 10 (by omega))⟩
        · have h7 : z 7 = .bool c := hI.pure 7 (by omega) (hall 7 (by kernel_rfl))
          cases c with
          | false =>
            refine wpOpIn_left rfl ((wanted_if (s := 21) (b := false) (want := true) rfl rfl (by simp [h7])).trans rfl) (fun K hK => ?_)
            exact hK _ _ ⟨_, by simp [valM]; rfl, hI.yields 11 (stM_left hst.out 11)⟩
          | true =>
            have h8 : z 8 = .func (.yield l) #[] #[] := by simpa [valM] using hI.pure 8 (by omega) (hall 8 (by kernel_rfl))
            have h9 : z 9 = .int .i64 (k : Nat) := by simpa [valM] using hI.pure 9 (by omega) (hall 9 (by kernel_rfl))
            have h10 : z 10 = .int .u64 h := by simpa [valM] using hI.pure 10 (by omega) (hall 10 (by kernel_rfl))
            have hj : J (mvP A B hs k) V := by have h := hst.out.1; rwa [hd, Bool.false_and, if_neg (by simp)] at h
            obtain ⟨fn, tmps, assign, body, hy, hR⟩ := HY.out (m - 1) _ (k, h) V hj (by have := HL.out; simp at this; omega)
            refine wpOpIn_done rfl ((wanted_if (s := 21) (b := true) (want := true) rfl rfl (by simp [h7])).trans rfl) (fun K hK => ?_)
            clear hall
            simp only [List.getElem_toArray, List.getElem_cons_zero, List.getElem_cons_succ]
            go_simp
            refine hR.mono ?_
            rintro e w3 ⟨rfl, hj3, hk3⟩
            exact hK _ _ ⟨_, by simp [upv, valM, h7, h8, h9, h10], hI.yields 11 ⟨by rw [upd_same, Bool.true_and, if_pos rfl]; exact hj3, hst.out.2.keeps hl hk3⟩⟩
        · have h7 : z 7 = .bool c := hI.pure 7 (by omega) (hall 7 (by kernel_rfl))
          cases c with
          | false =>
            refine wpOpIn_left rfl ((wanted_if (s := 21) (b := false) (want := true) rfl rfl (by simp [h7])).trans rfl) (fun K hK => ?_)
            exact hK _ _ ⟨_, by simp [valM]; rfl, hI.yields 12 (stM_left hst.out 12)⟩
          | true =>
            have h11 : z 11 = .bool true := by simpa [valM] using hI.pure 11 (by omega) (hall 11 (by kernel_rfl))
            refine wpOpIn_done rfl ((wanted_if (s := 21) (b := true) (want := true) rfl rfl (by simp [h7])).trans rfl) (fun K hK => ?_)
            clear hall
            simp only [List.getElem_toArray, List.getElem_cons_zero, List.getElem_cons_succ]
            go_simp
            exact hK _ _ ⟨_, by simp [upv, valM, h7, h11], hI.yields 12 (stM_upd hst.out 12 (by omega))⟩
        · have h7 : z 7 = .bool c := hI.pure 7 (by omega) (hall 7 (by kernel_rfl))
          have h12 := hI.pure 12 (by omega) (hall 12 (by kernel_rfl))
          clear hall
          refine wpOpIn_free rfl rfl (fun K hK => ?_)
          simp only [List.getElem_toArray, List.getElem_cons_zero, List.getElem_cons_succ]
          cases c with
          | false =>
            have h12' : z 12 = undef := by simpa [valM] using h12
            go_simp
            exact hK _ _ ⟨_, by simp [upv, valM, h7, h12'], hI.yields 13 (stM_upd hst.out 13 (by omega))⟩
          | true =>
            have h12' : z 12 = .bool false := by simpa [valM] using h12
            go_simp
            exact hK _ _ ⟨_, by simp [upv, valM, h7, h12'], hI.yields 13 (stM_upd hst.out 13 (by omega))⟩
      case done =>
        rintro d a V hall ⟨z, rfl, hI⟩
        have h13 : z 13 = .bool false := hI.pure 13 (by omega) (hall 13 (by decide))
        obtain ⟨hj, hb⟩ := hI.st
        rw [hall 11 (by decide), Bool.true_and, ← HM.out] at hj
        have HJ3 := Lib.hid hj
        have HB3 := Lib.hid hb
        clear hall hI hj hb HJs HOs c0
        simp only [frM, h13]
        gi_wp2
        go_roundw
        case rel => exact ⟨k + 1, by omega, by simp, HJ3.out, HB3.out⟩
        case measure => simp [intOf]; omega
    · obtain rfl : k = hs.length := by omega
      gi_wp2
      go_end0
      exact ⟨⟨_, rfl⟩, HJs.out⟩

/-- Which hashes go elsewhere, one behind the other. -/
theorem moves_through (A0 w : World) (B0 B1 B2 p : Nat) (aH : Option Addr) (cH : Nat) (hs : List Int) (aP : Option Addr) (cP : Nat) (A : List Pt) (aQ : Option Addr) (cQ : Nat) (B : List Pt) (rA : Rise A) (rB : Rise B)
    (hA : ∀ V, OldBut p A0 V → LiesN .u64 V aH cH hs ∧ Lies V aP cP A ∧ Lies V aQ cQ B ∧ V.cell? ⟨B0, 0, none⟩ = some (numsV aH cH hs) ∧ V.cell? ⟨B1, 0, none⟩ = some (askV aP cP A) ∧ V.cell? ⟨B2, 0, none⟩ = some (askV aQ cQ B)) (hw : Below A0.heap.size A0 w) :
    Through Try.prog 43 #[.pointer (some ⟨B0, 0, none⟩), .pointer (some ⟨B1, 0, none⟩), .pointer (some ⟨B2, 0, none⟩)] mvV (mvP A B hs hs.length) (spM A0.heap.size p) w := by
  intro m l J W hb hl hl2 hJ hY h0
  refine callsIn_wide.2 (callsIn_wide.1 (moves1_in 10 (Nat.le_refl _) l B0 B1 B2 p A0 aH cH hs aP cP A aQ cQ B rA rB hA J W (Nat.le_trans hw.size hl) hJ hY (fun i o hi _ => ?_) h0))
  have h1 := (Array.getElem?_eq_some_iff.1 hi).1
  exact (hb.block i (Nat.lt_of_lt_of_le h1 hw.size)).trans ((hw.block i h1).trans hi)
end Go.Proofs.Ytppbbhijlkfioaa.Rin
