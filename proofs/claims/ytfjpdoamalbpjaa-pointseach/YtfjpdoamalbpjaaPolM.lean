/-
  Pools: slices.Clone, and package pool's With, over a pool that the call has made.
-/
import Derived.Test.YtfjpdoamalbpjaaPolL
import Derived.Lib.SliceRun
namespace Go.Proofs.Ytfjpdoamalbpjaa.Pol
open Go.RowKit Go.Shelf Rgn

/-- A value that is a pool. -/
def Gives (W : World) (v : Value) (bs : List Bk) : Prop := ∃ a cap, v = polV a cap bs ∧ Lies W a cap bs
def GivesI (W : World) (v : Value) (zs : List Int) : Prop := ∃ a cap, v = intsV a cap zs ∧ LiesI W a cap zs
theorem eql_nil (a : Option Addr) (n c n' c' : Nat) (w : World) : (binOp .eql 22 (.slice a n c) (.slice none n' c')).run Try.prog w = .ok (.bool a.isNone) w := Lib.run_eql_slice_nil w _ _ a n c n' c' Try.underlying22
theorem flat_one (bs : List Bk) : ∀ u ∈ flat bs, u.oneCell' = true := by
  intro u hu
  simp only [flat, List.mem_flatMap] at hu
  obtain ⟨x, _, hx⟩ := hu
  simp at hx; rcases hx with rfl | rfl <;> rfl
theorem flat_lies {W : World} {b off cap : Nat} {bs : List Bk} (h : Lies W (some ⟨b, off, none⟩) cap bs) (j : Nat) (u : Value) (hj : (flat bs)[j]? = some u) : W.cell? ⟨b, off + j, none⟩ = some u := by
  have hl : j < bs.length * 2 := by
    rw [← flat_length]; exact (List.getElem?_eq_some_iff.1 hj).1
  have hk : j / 2 < bs.length := by omega
  obtain ⟨b', off', e, hc⟩ := h.cell (fun e => by rw [e] at hk; exact absurd hk (by simp))
  cases e
  obtain ⟨c0, c1⟩ := hc (j / 2) bs[j / 2] (List.getElem?_eq_getElem hk)
  obtain ⟨f0, f1⟩ := flat_get bs (j / 2) bs[j / 2] (List.getElem?_eq_getElem hk)
  rcases Nat.mod_two_eq_zero_or_one j with h0 | h0
  · have e : j / 2 * 2 = j := by omega
    rw [e] at f0 c0
    rw [f0] at hj; cases hj; exact c0
  · have e : j / 2 * 2 + 1 = j := by omega
    rw [e] at f1
    rw [Nat.add_assoc, e] at c1
    rw [f1] at hj; cases hj; exact c1
theorem Lies.addr {W : World} {p : Addr} {cap : Nat} {bs : List Bk} (h : Lies W (some p) cap bs) (hn : bs ≠ []) : ∃ b off, p = ⟨b, off, none⟩ := by
  obtain ⟨b, off, e, _⟩ := h.cell hn
  cases e; exact ⟨b, off, rfl⟩

set_option maxHeartbeats 2000000 in
theorem Clone_any (a : Option Addr) (cap : Nat) (bs : List Bk) (w : World) (h : Lies w a cap bs) (hl : bs.length ≤ 1000000000000) :
    Calls Try.prog 33 #[polV a cap bs] w fun e W' => ∃ v, e = .returned v ∧ Own w.heap.size W' v bs ∧ Below w.heap.size w W' := by
  have H := Lib.hid h
  clear h
  have q22 := eql_nil
  cases a with
  | none =>
    have e : bs = [] := by
      cases bs with
      | nil => rfl
      | cons x bs => obtain ⟨b, off, e, _⟩ := H.out.cell (by simp); cases e
    subst e
    go_enter Try.func33, Try.ntmps33
    go_wp2
    go_ret
    exact ⟨_, rfl, own_nil _ _, Below.refl _ _⟩
  | some p =>
    obtain ⟨i0, hi, hz0, hz1, hz2⟩ := info_parts info_bk
    have HC := Lib.hid (show ∀ j u, (flat bs)[j]? = some u → w.cell? (p.add j) = some u from fun j u hj => by
      have hn : bs ≠ [] := fun e => by subst e; simp [flat] at hj
      obtain ⟨b, off, rfl⟩ := H.out.addr hn
      rw [Addr.add_lit]
      exact flat_lies H.out j u hj)
    go_enter Try.func33, Try.ntmps33
    go_wp2_with (at_builtin; refine wpList_append_own _ rfl _ _ 22 rfl w.heap.size 35 i0 (.agg #[.int .i64 0, .int .i64 0]) 2 16 Try.underlying22 hi hz0 hz1 hz2 rfl (by decide) _ _ _ rfl (World.ownsRow_made w #[] 0 (Nat.le_refl _) (Nat.zero_le _) (by simp)) p bs.length cap (flat bs) rfl ?qc1 ?qc2 ?qc3 ?qc4 ?qc5 ?qc6 ?_)
    case qc1 => exact flat_length bs
    case qc2 => intro j u hj; exact Lib.cell?_alloc_some _ (HC.out j u hj)
    case qc3 => exact flat_one bs
    case qc4 => unfold maxLen; omega
    case qc5 => omega
    case qc6 => simp
    intro v' w1 hown hgrow hnil
    have HO := Lib.hid hown
    have HG := Lib.hid hgrow
    clear hown hgrow hnil
    go_wp2
    go_ret
    refine ⟨_, rfl, ?_, ?_⟩
    · have := HO.out
      unfold Own
      simpa using this
    · exact ((Below.refl _ w).alloc (Nat.le_refl _) _).grown HG.out (by simp) (by intro k hk; simp [Value.ownBlock] at hk; omega)

/-- A row of backends that may be written. -/
def Row (W : World) (g cap : Nat) (bs : List Bk) : Prop :=
  ∃ cur : Array Value, W.heap[g]? = some (.cells cur 35 (0, 0)) ∧ bs.length ≤ cap ∧ cap ≤ maxLen ∧ cur.size = cap * 2 ∧ cur.toList.take (bs.length * 2) = flat bs
theorem Own.row {B : Nat} {W : World} {v : Value} {bs : List Bk} (h : Own B W v bs) (hn : bs ≠ []) : ∃ g cap, v = polV (some ⟨g, 0, none⟩) cap bs ∧ B ≤ g ∧ Row W g cap bs := by
  rcases h.2 with ⟨_, h0⟩ | ⟨g, cap, cur, rfl, hb, r⟩
  · exact absurd (List.eq_nil_of_length_eq_zero h0) hn
  · exact ⟨g, cap, rfl, hb, cur, r⟩
theorem Row.own {B : Nat} {W : World} {g cap : Nat} {bs : List Bk} (h : Row W g cap bs) (hB : B ≤ g) : Own B W (polV (some ⟨g, 0, none⟩) cap bs) bs := by
  obtain ⟨cur, r⟩ := h
  exact ⟨flat_length bs, .inr ⟨g, cap, cur, rfl, hB, r⟩⟩
theorem Row.lt {W : World} {g cap : Nat} {bs : List Bk} (h : Row W g cap bs) : g < W.heap.size := by
  obtain ⟨cur, hg, _⟩ := h
  rcases Nat.lt_or_ge g W.heap.size with h | h
  · exact h
  · rw [Array.getElem?_eq_none h] at hg; cases hg
theorem Row.len {W : World} {g cap : Nat} {bs : List Bk} (h : Row W g cap bs) : bs.length ≤ cap ∧ cap ≤ maxLen := by
  obtain ⟨cur, _, h1, h2, _⟩ := h; exact ⟨h1, h2⟩
theorem Row.kept {W W' : World} {g cap : Nat} {bs : List Bk} (h : Row W g cap bs) (hb : Below W.heap.size W W') : Row W' g cap bs := by
  have hl := h.lt
  obtain ⟨cur, hg, r⟩ := h
  exact ⟨cur, (hb.block g hl).trans hg, r⟩
theorem Row.cell {W : World} {g cap : Nat} {bs : List Bk} (h : Row W g cap bs) {i : Nat} (hi : i < bs.length) :
    W.cell? ⟨g, i * 2, none⟩ = some (.int .i64 bs[i].1) ∧ W.cell? ⟨g, i * 2 + 1, none⟩ = some (.int .i64 bs[i].2) ∧ W.frozen? ⟨g, i * 2, none⟩ = false ∧ W.frozen? ⟨g, i * 2 + 1, none⟩ = false := by
  obtain ⟨cur, hg, h1, h2, h3, h4⟩ := h
  obtain ⟨f0, f1⟩ := flat_get bs i bs[i] (List.getElem?_eq_getElem hi)
  rw [← h4, List.getElem?_take_of_lt (by omega)] at f0 f1
  rw [Array.getElem?_toList] at f0 f1
  refine ⟨?_, ?_, ?_, ?_⟩ <;> simp [World.cell?, World.frozen?, hg, f0, f1]
theorem Row.lies {W : World} {g cap : Nat} {bs : List Bk} (h : Row W g cap bs) : Lies W (some ⟨g, 0, none⟩) cap bs :=
  ⟨h.len.2, h.len.1, fun _ => ⟨g, 0, rfl, fun i x hi => by
    obtain ⟨hl, e⟩ := List.getElem?_eq_some_iff.1 hi
    obtain ⟨c0, c1, _⟩ := h.cell hl
    rw [e] at c0 c1
    rw [Nat.zero_add]; exact ⟨c0, c1⟩⟩⟩
theorem flat_set (bs : List Bk) : ∀ (i : Nat) (x : Bk), flat (bs.set i x) = ((flat bs).set (i * 2) (.int .i64 x.1)).set (i * 2 + 1) (.int .i64 x.2) := by
  induction bs with
  | nil => intro i x; simp [flat]
  | cons y bs ih =>
    intro i x
    have e : ∀ (y : Bk) bs, flat (y :: bs) = .int .i64 y.1 :: .int .i64 y.2 :: flat bs := fun y bs => by simp [flat]
    cases i with
    | zero => simp [e]
    | succ i =>
      rw [List.set_cons_succ, e, e, ih i x, show (i + 1) * 2 = i * 2 + 1 + 1 by omega]
      simp [List.set_cons_succ]
/-- A world in which a backend stands at a place of a row. -/
def put2 (W : World) (g i : Nat) (x : Bk) : World := (W.setCell ⟨g, i * 2, none⟩ (.int .i64 x.1)).setCell ⟨g, i * 2 + 1, none⟩ (.int .i64 x.2)
theorem Row.put {W : World} {g cap : Nat} {bs : List Bk} (h : Row W g cap bs) (i : Nat) (x : Bk) : Row (put2 W g i x) g cap (bs.set i x) := by
  obtain ⟨cur, hg, h1, h2, h3, h4⟩ := h
  refine ⟨(cur.setIfInBounds (i * 2) (.int .i64 x.1)).setIfInBounds (i * 2 + 1) (.int .i64 x.2), heap_setCell_same _ _ _ _ _ _ (heap_setCell_same _ _ _ _ _ _ hg), by simpa using h1, h2, by simpa using h3, ?_⟩
  rw [List.length_set, flat_set, ← h4]
  simp [List.take_set]
theorem Row.put_other {W : World} {g cap : Nat} {bs : List Bk} (h : Row W g cap bs) {a : Addr} (ha : g ≠ a.block) (v : Value) : Row (W.setCell a v) g cap bs := by
  obtain ⟨cur, hg, r⟩ := h
  exact ⟨cur, (heap_setCell_other _ _ _ _ ha).trans hg, r⟩
theorem Row.drew {W : World} {g cap : Nat} {bs : List Bk} (h : Row W g cap bs) : Row W.drew g cap bs := h
theorem Row.cut {W : World} {g cap : Nat} {bs : List Bk} (h : Row W g cap bs) (i : Nat) : Row W g cap (bs.take i) := by
  obtain ⟨cur, hg, h1, h2, h3, h4⟩ := h
  have hl : (bs.take i).length ≤ bs.length := by simp; omega
  refine ⟨cur, hg, by omega, h2, h3, ?_⟩
  have e : flat (bs.take i) = (flat bs).take ((bs.take i).length * 2) := by
    have e1 : flat bs = flat (bs.take i) ++ flat (bs.drop i) := by
      conv => lhs; rw [← List.take_append_drop i bs]
      unfold flat
      rw [List.flatMap_append]
    rw [e1]
    exact (List.take_left' (flat_length (bs.take i))).symm
  rw [e, ← h4, List.take_take]
  congr 1; omega
theorem Row.past {W : World} {g cap : Nat} {bs : List Bk} (h : Row W g cap bs) (vs : List Value) : ∀ (o : Nat), bs.length * 2 ≤ o → Row (W.setCells g o vs) g cap bs := by
  induction vs generalizing W with
  | nil => intro o _; exact h
  | cons v vs ih =>
    intro o ho
    show Row ((W.setCell ⟨g, o, none⟩ v).setCells g (o + 1) vs) g cap bs
    refine ih ?_ (o + 1) (by omega)
    obtain ⟨cur, hg, h1, h2, h3, h4⟩ := h
    refine ⟨cur.setIfInBounds o v, heap_setCell_same _ _ _ _ _ _ hg, h1, h2, by simpa using h3, ?_⟩
    rw [Array.toList_setIfInBounds, List.take_set_of_le (by omega)]; exact h4
theorem below_put {B : Nat} {w W : World} (h : Below B w W) {g : Nat} (hg : B ≤ g) (i : Nat) (x : Bk) : Below B w (put2 W g i x) := (h.setCell (p := ⟨g, i * 2, none⟩) hg _).setCell (p := ⟨g, i * 2 + 1, none⟩) hg _

theorem with_set (y : Bk) (bs : List Bk) : ∀ m k : Nat, find bs y.1 m = ((m + k : Nat) : Int) → with_ bs y = bs.set k y := by
  induction bs with
  | nil => intro m k h; unfold find at h; omega
  | cons x bs ih =>
    intro m k h
    unfold find at h
    unfold with_
    by_cases e : x.1 = y.1
    · rw [if_pos e] at h
      rw [if_pos e]
      obtain rfl : k = 0 := by omega
      rfl
    · rw [if_neg e] at h
      rw [if_neg e]
      have := find_ge bs y.1 (m + 1)
      obtain ⟨k', rfl⟩ : ∃ k', k = k' + 1 := ⟨k - 1, by omega⟩
      rw [List.set_cons_succ, ih (m + 1) k' (by rw [h]; omega)]
theorem with_new (y : Bk) (bs : List Bk) (h : ∀ x ∈ bs, x.1 ≠ y.1) : with_ bs y = bs ++ [y] := by
  induction bs with
  | nil => rfl
  | cons x bs ih =>
    unfold with_
    rw [if_neg (h x (by simp)), ih (fun z hz => h z (by simp [hz]))]; rfl

set_option maxHeartbeats 2000000 in
theorem With_told (a : Option Addr) (cap : Nat) (bs : List Bk) (y : Bk) (w : World) (h : Lies w a cap bs) (hl : bs.length ≤ 1000000000) :
    Calls Try.prog 23 #[polV a cap bs, .agg #[.int .i64 y.1, .int .i64 y.2]] w fun e W' => ∃ v, e = .returned v ∧ Gives W' v (with_ bs y) ∧ Below w.heap.size w W' := by
  have C := fun W hW => Lib.hid (Clone_any a cap bs W hW (by omega))
  have H := Lib.hid h
  have al := Lib.hid (below_alloc w (.cells #[.int .i64 y.1, .int .i64 y.2] 35))
  have d0 : (w.alloc (.cells #[.int .i64 y.1, .int .i64 y.2] 35)).cell? ⟨w.heap.size, 0, none⟩ = some (.int .i64 y.1) := by simp
  have d1 : (w.alloc (.cells #[.int .i64 y.1, .int .i64 y.2] 35)).cell? ⟨w.heap.size, 1, none⟩ = some (.int .i64 y.2) := by simp
  have ds : w.heap.size < (w.alloc (.cells #[.int .i64 y.1, .int .i64 y.2] 35)).heap.size := by simp
  have HL := Lib.hid (H.out.kept al.out)
  clear h
  go_enter Try.func23, Try.ntmps23
  go_wp2_with fail
  generalize w.alloc (.cells #[.int .i64 y.1, .int .i64 y.2] 35) = w1 at *
  refine (C _ HL.out).out.mono ?_
  rintro e w2 ⟨v, rfl, ho, hb⟩
  obtain ⟨a', cap', rfl, hlies⟩ := ho.lies
  have F := Lib.hid (Find_told a' cap' bs y.1 w2 hlies)
  have HO := Lib.hid ho
  have HB := Lib.hid hb
  have e0 := (hb.cell (p := ⟨w.heap.size, 0, none⟩) ds).trans d0
  have e1 := (hb.cell (p := ⟨w.heap.size, 1, none⟩) ds).trans d1
  have es := Nat.lt_of_lt_of_le ds hb.size
  have HW := Lib.hid (below2 al.out hb)
  clear ho hb hlies d0 d1 C
  generalize hBw : w.heap.size = Bw at *
  go_wp2_with fail
  refine F.out.mono ?_
  rintro e w3 ⟨rfl, hb3⟩
  have HO3 := Lib.hid (HO.out.kept hb3)
  have HW3 := Lib.hid (HW.out.trans (hb3.mono (Nat.le_of_lt es)))
  have f0 := (hb3.cell (p := ⟨Bw, 0, none⟩) es).trans e0
  have f1 := (hb3.cell (p := ⟨Bw, 1, none⟩) es).trans e1
  have fs := Nat.lt_of_lt_of_le es hb3.size
  clear hb3 e0 e1 HO HB F
  rcases find_cases y.1 bs 0 with ⟨hf, hno⟩ | ⟨k, x, hf, hk, hx, _⟩
  · have HT := Lib.hid (with_new y bs hno)
    clear hno
    rw [hf]
    go_wp2_with (at_builtin; refine wpList_more rfl _ _ rfl Bw w3.heap.size bs y _ rfl rfl ((own_less (Nat.le_of_lt ds) HO3.out).kept (below_alloc w3 _)) ?c0 ?c1 ?c2 ?c3 ?_)
    case c0 => simp
    case c1 => simp
    case c2 => omega
    case c3 => simp; omega
    intro v' w4 ho4 hb4
    have HB4 := Lib.hid ((HW3.out.alloc (Nat.le_of_lt fs) _).trans hb4.out)
    have HG := Lib.hid ho4.out.lies
    clear hb4 ho4
    go_wp2
    go_ret
    exact ⟨_, rfl, by rw [HT.out]; exact HG.out, by rw [hBw]; exact HB4.out⟩
  · have HT := Lib.hid (with_set y bs 0 k hf)
    rw [hf]
    have hkl := (List.getElem?_eq_some_iff.1 hk).1
    obtain ⟨g, cap2, hv, hBg, hR⟩ := HO3.out.row (fun e => by rw [e] at hkl; exact absurd hkl (by simp))
    have hv' : a' = some ⟨g, 0, none⟩ ∧ cap' = cap2 := by cases hv; exact ⟨rfl, rfl⟩
    obtain ⟨rfl, rfl⟩ := hv'
    obtain ⟨g0, g1, g2, g3⟩ := hR.cell hkl
    have HR := Lib.hid (hR.put k y)
    have HP := Lib.hid (below_put HW3.out (Nat.le_trans (Nat.le_of_lt ds) hBg) k y)
    have hbig := hR.len
    unfold maxLen at hbig
    clear hv hk hx hR
    go_wp2
    go_ret
    exact ⟨_, rfl, by rw [HT.out]; exact ⟨_, cap', by show Value.slice _ bs.length _ = Value.slice _ (bs.set k y).length _; rw [List.length_set], HR.out.lies⟩, by rw [hBw]; exact HP.out⟩
end Go.Proofs.Ytfjpdoamalbpjaa.Pol
