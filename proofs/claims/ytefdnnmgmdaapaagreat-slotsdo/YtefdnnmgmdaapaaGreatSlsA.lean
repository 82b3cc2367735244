/-
  Package slots: what New makes as one thing in memory; there, at, put, Begin and Spoil as contracts.
-/
import Derived.Test.YtefdnnmgmdaapaaGreatBPlm
import Derived.Test.YtefdnnmgmdaapaaGreatBPtt
import Derived.Test.YtefdnnmgmdaapaaGreatTrn
import Derived.Test.YtefdnnmgmdaapaaGreatSloP
import Derived.BigQuiet
namespace Go.Proofs.YtefdnnmgmdaapaaGreat.Sls
open Go.RowKit Go.Shelf RowG Trn Slo
open Pol (Bk polV)
open Pts (ptsV ofL hsh)

attribute [local go_sem] Oper.semAt_some

/-- A slot as it lies: what is ready holds a pool's row, and its points'. -/
inductive SlM where
  | spoilt
  | built
  | ready (pa : Option Addr) (pc : Nat) (z : List Bk) (ca : Option Addr) (cc : Nat)
instance : Inhabited SlM := ⟨.spoilt⟩
abbrev spoiltV : Value := .iface 54 (.agg #[])
abbrev builtV : Value := .iface 78 (.agg #[])
abbrev readyV (pa : Option Addr) (pc : Nat) (z : List Bk) (ca : Option Addr) (cc : Nat) : Value := .agg #[polV pa pc z, ptsV ca cc (ofL hsh z)]
def SlM.v : SlM → Value
  | .spoilt => spoiltV
  | .built => builtV
  | .ready pa pc z ca cc => .iface 64 (readyV pa pc z ca cc)
def slK : Kind SlM := ⟨1, fun x => [x.v], by decide, fun _ => rfl, fun x u hu => by
  simp at hu; subst hu; cases x <;> rfl⟩
def SlM.abs : SlM → Slot (List Bk)
  | .spoilt => .spoilt
  | .built => .built
  | .ready _ _ z _ _ => .ready z
/-- What a slot holds lies there, and not in this block. -/
def SlM.good (W : World) (g : Nat) : SlM → Prop
  | .ready pa pc z ca cc => (Pol.Lies W pa pc z ∧ Pts.Lies W ca cc (ofL hsh z) ∧ z.length ≤ 32) ∧ (z ≠ [] → ∀ b off, pa = some ⟨b, off, none⟩ → b ≠ g) ∧ (ofL hsh z ≠ [] → ∀ b off, ca = some ⟨b, off, none⟩ → b ≠ g)
  | _ => True
theorem pol_turned {S : Nat → Prop} {W W' : World} {a : Option Addr} {cap : Nat} {xs : List Bk} (h : Turned S W W') (hl : Pol.Lies W a cap xs) (ha : xs ≠ [] → ∀ b off, a = some ⟨b, off, none⟩ → ¬ S b) : Pol.Lies W' a cap xs :=
  ⟨hl.max, hl.len, fun hn => by
    obtain ⟨b, off, e, hc⟩ := hl.cell hn
    refine ⟨b, off, e, fun i x hi => ?_⟩
    obtain ⟨c0, c1⟩ := hc i x hi
    exact ⟨h.cell c0 (ha hn b off e), h.cell c1 (ha hn b off e)⟩⟩
theorem pts_turned {S : Nat → Prop} {W W' : World} {a : Option Addr} {cap : Nat} {xs : List Pts.Pt} (h : Turned S W W') (hl : Pts.Lies W a cap xs) (ha : xs ≠ [] → ∀ b off, a = some ⟨b, off, none⟩ → ¬ S b) : Pts.Lies W' a cap xs :=
  ⟨hl.max, hl.len, fun hn => by
    obtain ⟨b, off, e, hc⟩ := hl.cell hn
    refine ⟨b, off, e, fun i x hi => ?_⟩
    obtain ⟨c0, c1⟩ := hc i x hi
    exact ⟨h.cell c0 (ha hn b off e), h.cell c1 (ha hn b off e)⟩⟩
theorem SlM.good.turned {g : Nat} {W W' : World} {x : SlM} (h : x.good W g) (ht : Turned (· = g) W W') : x.good W' g := by
  cases x with
  | ready pa pc z ca cc =>
    obtain ⟨⟨h1, h2, h5⟩, h3, h4⟩ := h
    exact ⟨⟨pol_turned ht h1 h3, pts_turned ht h2 h4, h5⟩, h3, h4⟩
  | _ => trivial

/-- Which blocks slots take. -/
structure Foot where
  p : Nat
  g : Nat
def Foot.has (f : Foot) (k : Nat) : Prop := k = f.g
def Foot.from' (f : Foot) (B : Nat) : Prop := B ≤ f.p ∧ B ≤ f.g
abbrev Foot.v (f : Foot) : Value := .pointer (some ⟨f.p, 0, none⟩)
/-- What New made lies there, slot by slot. -/
structure Lay (W : World) (f : Foot) (m : List SlM) : Prop where
  box : W.cell? ⟨f.p, 0, none⟩ = some (.slice (some ⟨f.g, 0, none⟩) m.length m.length)
  row : Row slK 52 W f.g m.length m
  good : ∀ x ∈ m, x.good W f.g
  ne : f.p ≠ f.g
/-- What New made lies there, and is this. -/
def Held (W : World) (f : Foot) (l : List (Slot (List Bk))) : Prop := ∃ m, m.map SlM.abs = l ∧ Lay W f m
theorem Lay.kept {W W' : World} {f : Foot} {m : List SlM} (h : Lay W f m) (hb : Below W.heap.size W W') : Lay W' f m :=
  ⟨(hb.cell (World.block_lt_of_cell? W _ h.box)).trans h.box, h.row.kept hb, fun x hx => (h.good x hx).turned (.of_below hb), h.ne⟩
theorem Held.kept {W W' : World} {f : Foot} {l : List (Slot (List Bk))} (h : Held W f l) (hb : Below W.heap.size W W') : Held W' f l := by
  obtain ⟨m, e, hm⟩ := h
  exact ⟨m, e, hm.kept hb⟩
/-- Another thing's doings. -/
theorem Held.beside {W W' : World} {f : Foot} {l : List (Slot (List Bk))} {S : Nat → Prop} (h : Held W f l) (ht : Turned S W W') (hs : ∀ k, k < W.heap.size → ¬ S k) : Held W' f l :=
  h.kept ⟨ht.os, ht.tape, ht.output, ht.size, fun k hk => ht.rest k hk (hs k hk)⟩
/-- The slot at a place, as it lies. -/
def atM (m : List SlM) (i : Int) : SlM := if 0 ≤ i ∧ i < m.length then m.getD i.toNat .spoilt else .spoilt
theorem abs_is (m : List SlM) (i : Int) : Is (m.map SlM.abs) i ↔ 0 ≤ i ∧ i < m.length := by unfold Is; rw [List.length_map]
theorem abs_at (m : List SlM) (i : Int) : at' (m.map SlM.abs) i = (atM m i).abs := by
  unfold at' atM
  by_cases h : 0 ≤ i ∧ i < m.length
  · rw [if_pos ((abs_is m i).2 h), if_pos h, List.getD_eq_getElem?_getD, List.getElem?_map, List.getD_eq_getElem?_getD]
    cases m[i.toNat]? <;> rfl
  · rw [if_neg fun e => h ((abs_is m i).1 e), if_neg h]; rfl
theorem Lay.at_good {W : World} {f : Foot} {m : List SlM} (h : Lay W f m) (i : Int) : (atM m i).good W f.g := by
  unfold atM
  split
  · rename_i hi
    rw [List.getD_eq_getElem?_getD, List.getElem?_eq_getElem (by omega)]
    exact h.good _ (List.getElem_mem _)
  · trivial
/-- What holds no slots lies elsewhere. -/
theorem Lay.iface {W : World} {f : Foot} {m : List SlM} (h : Lay W f m) {k : Nat} {v : Value} (hc : W.cell? ⟨f.g, k, none⟩ = some v) : ∃ T u, v = .iface T u := by
  obtain ⟨cur, hg, h1, h2, h3, h4⟩ := h.row
  have hk : cur[k]? = some v := by simpa [World.cell?, hg] using hc
  have hkl : k < m.length := by
    have := (Array.getElem?_eq_some_iff.1 hk).1
    rw [h3, show m.length * slK.c = m.length from Nat.mul_one _] at this
    exact this
  have e := (h.row.cell hkl (j := 0) (u := m[k].v) rfl)
  rw [show k * slK.c + 0 = k from Nat.mul_one k, hc] at e
  injection e with e
  rw [e]
  generalize m[k] = x
  cases x <;> exact ⟨_, _, rfl⟩
theorem Lay.ready {W : World} {f : Foot} {m : List SlM} (h : Lay W f m) {pa : Option Addr} {pc : Nat} {z : List Bk} {ca : Option Addr} {cc : Nat} (h1 : Pol.Lies W pa pc z) (h2 : Pts.Lies W ca cc (ofL hsh z)) (h3 : z.length ≤ 32) : (SlM.ready pa pc z ca cc).good W f.g := by
  refine ⟨⟨h1, h2, h3⟩, fun hn b off e hb => ?_, fun hn b off e hb => ?_⟩
  · obtain ⟨b', off', e', hc⟩ := h1.cell hn
    rw [e] at e'; cases e'
    subst hb
    cases z with
    | nil => exact hn rfl
    | cons x z =>
      obtain ⟨T, u, hv⟩ := h.iface (hc 0 x rfl).1
      cases hv
  · obtain ⟨b', off', e', hc⟩ := h2.cell hn
    rw [e] at e'; cases e'
    subst hb
    generalize ofL hsh z = L at *
    cases L with
    | nil => exact hn rfl
    | cons x L =>
      obtain ⟨T, u, hv⟩ := h.iface (hc 0 x rfl).1
      cases hv
/-- Another slot at a place. -/
theorem Lay.put {W : World} {f : Foot} {m : List SlM} (h : Lay W f m) {k : Nat} (hk : k < m.length) {x : SlM} (hx : x.good W f.g) : Lay (W.setCell ⟨f.g, k, none⟩ x.v) f (m.set k x) ∧ Turned f.has W (W.setCell ⟨f.g, k, none⟩ x.v) := by
  have ht : Turned f.has W (W.setCell ⟨f.g, k, none⟩ x.v) := (Turned.refl f.has W).setCell (show f.has f.g from rfl) _
  refine ⟨⟨?_, ?_, ?_, h.ne⟩, ht⟩
  · rw [List.length_set]; exact ht.cell h.box h.ne
  · have := h.row.put hk x
    rw [show k * slK.c = k from Nat.mul_one k] at this
    rw [List.length_set]; exact this
  · intro y hy
    rcases List.mem_or_eq_of_mem_set hy with hy | rfl
    · exact (h.good y hy).turned ht
    · exact hx.turned ht
theorem Lay.slot {W : World} {f : Foot} {m : List SlM} (h : Lay W f m) {k : Nat} (hk : k < m.length) : W.cell? ⟨f.g, k, none⟩ = some m[k].v ∧ W.frozen? ⟨f.g, k, none⟩ = false := by
  refine ⟨?_, h.row.free _⟩
  have := h.row.cell hk (j := 0) (u := m[k].v) rfl
  rwa [show k * slK.c + 0 = k from Nat.mul_one k] at this

/-- Whether there is such a slot. -/
abbrev isM (m : List SlM) (i : Int) : Bool := decide (0 ≤ i ∧ i < m.length)
set_option maxHeartbeats 400000 in
theorem there_told (f : Foot) (m : List SlM) (i : Int) (w : World) (h : Lay w f m) :
    Calls Tryz.prog 40 #[f.v, .int .i64 i] w fun e W' => e = .returned (.bool (isM m i)) ∧ W' = w := by
  have c0 := h.box
  clear h
  by_cases h0 : 0 ≤ i
  · have d0 : decide (0 ≤ i) = true := decide_eq_true h0
    have HB := Lib.hid (show decide (i < (m.length : Int)) = isM m i by unfold isM; rw [Bool.decide_and, d0, Bool.true_and])
    generalize isM m i = b at *
    have d1 := HB.out
    clear h0
    go_enter Tryz.func40, Tryz.ntmps40
    go_wp2_with fail
    go_ret
    exact ⟨rfl, rfl⟩
  · have d0 : decide (0 ≤ i) = false := decide_eq_false h0
    have HB := Lib.hid (show isM m i = false by unfold isM; rw [Bool.decide_and, d0, Bool.false_and])
    clear h0
    go_enter Tryz.func40, Tryz.ntmps40
    go_wp2_with fail
    go_ret
    exact ⟨by rw [HB.out]; rfl, rfl⟩
set_option maxHeartbeats 400000 in
theorem at_told (f : Foot) (m : List SlM) (i : Int) (w : World) (h : Lay w f m) :
    Calls Tryz.prog 24 #[f.v, .int .i64 i] w fun e W' => e = .returned (atM m i).v ∧ W' = w := by
  have C := Lib.hid (there_told f m i w h)
  by_cases hi : 0 ≤ i ∧ i < m.length
  · have hb : isM m i = true := decide_eq_true hi
    obtain ⟨k, rfl⟩ := Int.eq_ofNat_of_zero_le hi.1
    have hk : k < m.length := by omega
    have c0 := h.box
    obtain ⟨c1, -⟩ := h.slot hk
    have hl := h.row.len
    have HV := Lib.hid (show atM m (k : Int) = m[k] by
      unfold atM
      rw [if_pos hi, List.getD_eq_getElem?_getD, Int.toNat_natCast, List.getElem?_eq_getElem hk]; rfl)
    rw [hb] at C
    generalize m[k] = x at *
    generalize atM m (k : Int) = y at *
    obtain rfl := HV.out
    clear hi h HV hb
    generalize y.v = v at *
    go_enter Tryz.func24, Tryz.ntmps24
    go_wp2_with fail
    refine C.out.mono ?_
    rintro e w1 ⟨rfl, rfl⟩
    go_wp2_with fail
    go_ret
    exact ⟨rfl, rfl⟩
  · have hb : isM m i = false := decide_eq_false hi
    have HV := Lib.hid (show atM m i = .spoilt from if_neg hi)
    rw [hb] at C
    clear hi h hb
    go_enter Tryz.func24, Tryz.ntmps24
    go_wp2_with fail
    refine C.out.mono ?_
    rintro e w1 ⟨rfl, rfl⟩
    go_wp2_with fail
    go_ret
    exact ⟨by rw [HV.out]; rfl, rfl⟩
/-- What a call tells, and makes of slots. -/
def Does (f : Foot) (r : List (Slot (List Bk)) × Bool) (w : World) (e : Ending) (W' : World) : Prop := e = .returned (.bool r.2) ∧ Held W' f r.1 ∧ Turned f.has w W'
/-- Another slot at a place, if there is such a one. -/
def putL (l : List (Slot (List Bk))) (i : Int) (s : Slot (List Bk)) : List (Slot (List Bk)) × Bool := if Is l i then (l.set i.toNat s, true) else (l, false)
set_option maxHeartbeats 400000 in
theorem put_told (f : Foot) (m : List SlM) (i : Int) (x : SlM) (w : World) (h : Lay w f m) (hx : x.good w f.g) :
    Calls Tryz.prog 35 #[f.v, .int .i64 i, x.v] w (Does f (putL (m.map SlM.abs) i x.abs) w) := by
  have C := Lib.hid (there_told f m i w h)
  by_cases hi : 0 ≤ i ∧ i < m.length
  · have hb : isM m i = true := decide_eq_true hi
    obtain ⟨k, rfl⟩ := Int.eq_ofNat_of_zero_le hi.1
    have hk : k < m.length := by omega
    have c0 := h.box
    obtain ⟨c1, f1⟩ := h.slot hk
    have hl := h.row.len
    obtain ⟨hp, ht⟩ := h.put hk hx
    have HP := Lib.hid hp
    have HT := Lib.hid ht
    have HV := Lib.hid (show putL (m.map SlM.abs) (k : Int) x.abs = ((m.set k x).map SlM.abs, true) by
      unfold putL
      rw [if_pos ((abs_is m _).2 hi), Int.toNat_natCast, List.map_set])
    rw [hb] at C
    clear hi h hx hb hp ht
    unfold Does
    rw [HV.out]
    clear HV
    obtain ⟨T1, v1, e1⟩ : ∃ T v, x.v = .iface T v := by cases x <;> exact ⟨_, _, rfl⟩
    rw [e1] at HP HT ⊢
    generalize m[k].v = u at *
    clear e1
    go_enter Tryz.func35, Tryz.ntmps35
    go_wp2_with fail
    refine C.out.mono ?_
    rintro e w1 ⟨rfl, rfl⟩
    go_wp2_with fail
    go_ret
    exact ⟨rfl, ⟨_, rfl, HP.out⟩, HT.out⟩
  · have hb : isM m i = false := decide_eq_false hi
    have HV := Lib.hid (show putL (m.map SlM.abs) i x.abs = (m.map SlM.abs, false) from if_neg fun e => hi ((abs_is m i).1 e))
    have H := Lib.hid h
    rw [hb] at C
    clear hi h hx hb
    unfold Does
    rw [HV.out]
    clear HV
    generalize x.v = v at *
    go_enter Tryz.func35, Tryz.ntmps35
    go_wp2_with fail
    refine C.out.mono ?_
    rintro e w1 ⟨rfl, rfl⟩
    go_wp2_with fail
    go_ret
    exact ⟨rfl, ⟨_, rfl, H.out⟩, Turned.refl _ _⟩
set_option maxHeartbeats 400000 in
theorem Begin_told (f : Foot) (l : List (Slot (List Bk))) (i : Int) (w : World) (h : Held w f l) :
    Calls Tryz.prog 17 #[f.v, .int .i64 i] w (Does f (Slo.begin l i) w) := by
  obtain ⟨m, rfl, hm⟩ := h
  have C := Lib.hid (put_told f m i .built w hm trivial)
  rw [show putL (m.map SlM.abs) i SlM.built.abs = Slo.begin (m.map SlM.abs) i from rfl, show SlM.built.v = builtV from rfl] at C
  clear hm
  go_enter Tryz.func17, Tryz.ntmps17
  go_wp2_with fail
  refine C.out.mono ?_
  rintro e w1 ⟨rfl, h1, h2⟩
  have H1 := Lib.hid h1
  have H2 := Lib.hid h2
  clear h1 h2 C
  go_wp2_with fail
  go_ret
  exact ⟨rfl, H1.out, H2.out⟩
set_option maxHeartbeats 400000 in
theorem Spoil_told (f : Foot) (l : List (Slot (List Bk))) (i : Int) (w : World) (h : Held w f l) :
    Calls Tryz.prog 18 #[f.v, .int .i64 i] w (Does f (spoil l i) w) := by
  obtain ⟨m, rfl, hm⟩ := h
  have C := Lib.hid (put_told f m i .spoilt w hm trivial)
  rw [show putL (m.map SlM.abs) i SlM.spoilt.abs = spoil (m.map SlM.abs) i from rfl, show SlM.spoilt.v = spoiltV from rfl] at C
  clear hm
  go_enter Tryz.func18, Tryz.ntmps18
  go_wp2_with fail
  refine C.out.mono ?_
  rintro e w1 ⟨rfl, h1, h2⟩
  have H1 := Lib.hid h1
  have H2 := Lib.hid h2
  clear h1 h2 C
  go_wp2_with fail
  go_ret
  exact ⟨rfl, H1.out, H2.out⟩
end Go.Proofs.YtefdnnmgmdaapaaGreat.Sls
