/-
  Package flows: how a tomb is laid in a table's own copy, as contracts.
-/
import Derived.Test.YtbamodkgagcmnaaGreatBFloM
set_option maxRecDepth 100000
namespace Go.Proofs.YtbamodkgagcmnaaGreat.Flo
open Go.RowKit Go.Shelf RowG Tab Prb

set_option maxHeartbeats 1000000 in
theorem bury1_told (Bc Be : Nat) (a : Option Addr) (cap : Nat) (T : List Ent) (k : ByteArray) (w : World) (hc : w.cell? ⟨Bc, 0, none⟩ = some (rowV a cap T)) (he : w.cell? ⟨Be, 0, none⟩ = some (.string k)) (hT : Lies entK w a cap T) (hk : k.size ≤ 4611686018427387904) :
    Calls Tryz.prog 143 #[ptr Bc, ptr Be] w fun e W' => e = .returned (.tuple #[.int .i64 (zOf (find home T k)), .bool (find home T k).isSome]) ∧ Below w.heap.size w W' := by
  have F := Lib.hid (Find_told a cap T k w hT hk)
  clear hT
  go_enter Tryz.func143, Tryz.ntmps143
  go_wp2_with fail
  refine F.out.mono ?_
  rintro e w1 ⟨rfl, hb⟩
  have HB := Lib.hid hb
  clear hb F
  cases hf : find home T k with
  | some q =>
    rw [show zOf (some q) = (q : Int) from rfl]
    have d1 : decide (0 ≤ (q : Int)) = true := decide_eq_true (by omega)
    have HF := Lib.hid hf
    clear hf
    go_wp2_with fail
    refine bodyPost_ret (v := .tuple #[.int .i64 (q : Int), .bool true]) (by simp [results, Tryz.results143, go_sem]) rfl ?_
    exact ⟨by rw [HF.out]; rfl, HB.out⟩
  | none =>
    rw [show zOf none = -1 from rfl]
    have HF := Lib.hid hf
    clear hf
    go_wp2_with fail
    refine bodyPost_ret (v := .tuple #[.int .i64 (-1), .bool false]) (by simp [results, Tryz.results143, go_sem]) rfl ?_
    exact ⟨by rw [HF.out]; rfl, HB.out⟩

set_option maxRecDepth 100000 in
set_option maxHeartbeats 400000 in
theorem lay_bury (B Bc Be : Nat) (v : Value) (T : List Ent) (k : ByteArray) (x : Ent) (w : World) (hO : RowG.Own entK 66 B w v T) (hc : w.cell? ⟨Bc, 0, none⟩ = some v) (he : w.cell? ⟨Be, 0, none⟩ = some (.string k)) (hk : k.size ≤ 4611686018427387904) :
    Calls Tryz.prog 142 #[v, entV x, .func (.func 143) #[] #[ptr Bc, ptr Be]] w fun e W' => e = .returned (.bool (find home T k).isSome) ∧ RowG.Own entK 66 B W' v (laid T x (find home T k)) ∧ w.grownBy W' v.ownBlock := by
  have al : Below w.heap.size w (w.alloc (.cells #[.int .i64 x.st, .string x.key, .int .i64 x.be, .int .i64 x.dl] 66)) := (Below.refl _ w).alloc (Nat.le_refl _) _
  have x4 := four_cells w x
  have hc1 := (al.cell (p := ⟨Bc, 0, none⟩) (World.block_lt_of_cell? w _ hc)).trans hc
  have he1 := (al.cell (p := ⟨Be, 0, none⟩) (World.block_lt_of_cell? w _ he)).trans he
  have O1 := Lib.hid (hO.kept al)
  have hsz := World.size_alloc w (.cells #[.int .i64 x.st, .string x.key, .int .i64 x.be, .int .i64 x.dl] 66)
  obtain ⟨a, cap, rfl, hl⟩ := O1.out.lies
  have C := Lib.hid (bury1_told Bc Be a cap T k _ hc1 he1 hl hk)
  have AL := Lib.hid al
  have HO := Lib.hid hO
  have HP := Lib.hid (show ∀ q, find home T k = some q → q < T.length from fun q h => find_lt h)
  clear hl hc he hc1 he1 al hO
  go_enter Tryz.func142, Tryz.ntmps142
  go_wp2_with fail
  generalize w.alloc (.cells #[.int .i64 x.st, .string x.key, .int .i64 x.be, .int .i64 x.dl] 66) = w1 at *
  refine C.out.mono ?_
  rintro e w2 ⟨rfl, hb⟩
  obtain ⟨x0, x1, x2, x3⟩ := x4
  have y0 := (hb.cell (p := ⟨w.heap.size, 0, none⟩) (by show w.heap.size < w1.heap.size; omega)).trans x0
  have y1 := (hb.cell (p := ⟨w.heap.size, 1, none⟩) (by show w.heap.size < w1.heap.size; omega)).trans x1
  have y2 := (hb.cell (p := ⟨w.heap.size, 2, none⟩) (by show w.heap.size < w1.heap.size; omega)).trans x2
  have y3 := (hb.cell (p := ⟨w.heap.size, 3, none⟩) (by show w.heap.size < w1.heap.size; omega)).trans x3
  have O2 := Lib.hid (O1.out.kept hb)
  have G2 := Lib.hid (grown_none (below2 AL.out hb))
  have hz2 := hb.size
  clear hb x0 x1 x2 x3 O1 C AL
  cases hp : find home T k with
  | none =>
    rw [show zOf none = -1 from rfl, show (none : Option Nat).isSome = false from rfl]
    have HH := Lib.hid hp
    clear hp HP
    go_wp2_with fail
    go_ret
    exact ⟨by rw [HH.out]; rfl, by rw [HH.out]; exact O2.out, grown_wide G2.out _⟩
  | some q =>
    rw [show zOf (some q) = (q : Int) from rfl, show (some q).isSome = true from rfl]
    have hq := HP.out q hp
    have HH := Lib.hid hp
    clear hp HP
    obtain ⟨g, cap', hv, hg, R⟩ := O2.out.row (fun e => by rw [e] at hq; exact absurd hq (by simp))
    have hv' : a = some ⟨g, 0, none⟩ ∧ cap = cap' := by cases hv; exact ⟨rfl, rfl⟩
    obtain ⟨rfl, rfl⟩ := hv'
    clear hv
    have hln := R.len
    unfold maxLen at hln
    have hgw : g < w.heap.size := by
      have := World.ownsRow.lt HO.out g rfl
      omega
    obtain ⟨z0, z1, z2, z3⟩ := R.ent hq
    have f0 := R.free (q * 4)
    have f1 := R.free (q * 4 + 1)
    have f2 := R.free (q * 4 + 2)
    have f3 := R.free (q * 4 + 3)
    have RR := Lib.hid (R.put4 hq x)
    have GG := Lib.hid (grown_trans (grown_wide G2.out _) (put4_grown w2 g q x))
    have hlen : rowV (some ⟨g, 0, none⟩) cap (T.set q x) = rowV (some ⟨g, 0, none⟩) cap T := by simp [rowV]
    have HL := Lib.hid hlen
    clear hlen R O2 G2 HO
    generalize T[q] = y at *
    have hne : g ≠ w.heap.size := by omega
    go_wp2_with fail
    go_ret
    refine ⟨by rw [HH.out]; rfl, ?_, GG.out⟩
    rw [HH.out]
    have := RR.out.own (B := B) hg
    rw [HL.out] at this
    exact this

set_option maxHeartbeats 200000 in
theorem bury_told (B : Nat) (v : Value) (T : List Ent) (k : ByteArray) (w : World) (hO : RowG.Own entK 66 B w v T) (hk : k.size ≤ 4611686018427387904) :
    Calls Tryz.prog 94 #[v, .string k] w fun e W' => e = .returned (.bool (find home T k).isSome) ∧ RowG.Own entK 66 B W' v (laid T tomb (find home T k)) ∧ w.grownBy W' v.ownBlock := by
  obtain ⟨a, cap, rfl, -⟩ := hO.lies
  have b1 : Below w.heap.size w (w.alloc (.cells #[rowV a cap T] 153)) := (Below.refl _ w).alloc (Nat.le_refl _) _
  have hs1 := World.size_alloc w (.cells #[rowV a cap T] 153)
  have c0 := (Fnv.cell_new_o w (rowV a cap T) 153).1
  have x4 := (Fnv.cell_new_o (w.alloc (.cells #[rowV a cap T] 153)) (.string k) 9).1
  have b2 : Below (w.alloc (.cells #[rowV a cap T] 153)).heap.size (w.alloc (.cells #[rowV a cap T] 153)) ((w.alloc (.cells #[rowV a cap T] 153)).alloc (.cells #[.string k] 9)) := (Below.refl _ _).alloc (Nat.le_refl _) _
  have c1 := (b2.cell (p := ⟨w.heap.size, 0, none⟩) (by show w.heap.size < (w.alloc _).heap.size; omega)).trans c0
  have O2 := (hO.kept b1).kept b2
  rw [hs1] at x4
  have C := Lib.hid (lay_bury B w.heap.size (w.heap.size + 1) (rowV a cap T) T k tomb _ O2 c1 x4 hk)
  have G := Lib.hid (grown_wide (grown_none (below2 b1 b2)) (rowV a cap T).ownBlock)
  clear c0 b1 b2 O2 hO
  go_enter Tryz.func94, Tryz.ntmps94
  go_wp2_with fail
  refine C.out.mono ?_
  rintro e w2 ⟨rfl, hO2, hg⟩
  have HO := Lib.hid hO2
  have HG := Lib.hid (grown_trans G.out hg)
  clear hO2 hg
  go_wp2_with fail
  go_ret
  exact ⟨rfl, HO.out, HG.out⟩
end Go.Proofs.YtbamodkgagcmnaaGreat.Flo

namespace Go.Proofs.YtbamodkgagcmnaaGreat.Flo
open Go.RowKit Go.Shelf RowG Tab Prb

attribute [local go_sem] Oper.semAt_some

set_option maxHeartbeats 400000 in
/-- A flow less. -/
theorem Delete_told (a : Option Addr) (cap : Nat) (T : List Ent) (k : ByteArray) (w : World) (hT : Lies entK w a cap T) (hk : k.size ≤ 4611686018427387904) (hTk : ∀ x ∈ T, x.key.size ≤ 4611686018427387904) (hl : T.length ≤ 3518437208883) :
    Calls Tryz.prog 57 #[rowV a cap T, .string k] w fun e W' => ∃ v, e = .returned (.tuple #[v, .bool (find home T k).isSome]) ∧ Gives W' v (delT T k) ∧ Below w.heap.size w W' := by
  have C := Lib.hid (Clone_any a cap T w hT hl)
  clear hT
  go_enter Tryz.func57, Tryz.ntmps57
  go_wp2_with fail
  refine C.out.mono ?_
  rintro e w1 ⟨v, rfl, hO, hb⟩
  have P := Lib.hid (bury_told w.heap.size v T k w1 hO hk)
  have HB := Lib.hid hb
  have HS := Lib.hid hb.size
  have HR := Lib.hid (fun k e => (World.ownsRow.lt hO k e).1)
  obtain ⟨a', cap', rfl, -⟩ := hO.lies
  clear hb hO C
  go_wp2_with fail
  refine P.out.mono ?_
  rintro e w2 ⟨rfl, hO2, hg⟩
  have HG := Lib.hid (HB.out.grown hg HS.out HR.out)
  have HO := Lib.hid hO2
  clear hO2 hg P HB HS HR
  cases hf : find home T k with
  | none =>
    rw [hf] at HO
    obtain ⟨a2, cap2, hv, hl2⟩ := HO.out.lies
    have HL := Lib.hid (show Gives w2 (rowV a' cap' T) T from ⟨a2, cap2, hv, hl2⟩)
    have HD := Lib.hid (show delT T k = T by unfold delT; rw [hf])
    have HF := Lib.hid hf
    clear hv hl2 HO hf
    rw [show (none : Option Nat).isSome = false from rfl]
    go_wp2_with fail
    refine bodyPost_ret (v := .tuple #[rowV a' cap' T, .bool false]) (by simp [results, Tryz.results57, go_sem]) rfl ?_
    exact ⟨_, by rw [HF.out]; rfl, by rw [HD.out]; exact HL.out, HG.out⟩
  | some q =>
    rw [hf] at HO
    have HD := Lib.hid (show delT T k = settleC (laid T tomb (some q)) by unfold delT; rw [hf]; rfl)
    have HF := Lib.hid hf
    have hlen := laid_length T tomb (some q)
    have hUk := Lib.hid (laid_keys (x := tomb) (o := some q) hTk (by show 0 ≤ _; omega))
    have hV : rowV a' cap' T = rowV a' cap' (laid T tomb (some q)) := by simp [rowV, hlen]
    rw [hV] at HO ⊢
    rw [show (some q).isSome = true from rfl]
    clear hf hV
    generalize laid T tomb (some q) = U at *
    obtain ⟨a2, cap2, hv, hl2⟩ := HO.out.lies
    have hv' : a' = a2 ∧ cap' = cap2 := by cases hv; exact ⟨rfl, rfl⟩
    obtain ⟨rfl, rfl⟩ := hv'
    have HL := Lib.hid hl2
    clear hv hl2 HO
    have hcl := count_le 2 U
    have hUl : U.length ≤ 3518437208883 := by omega
    clear hlen
    go_wp2_with fail
    refine (Count_told a' cap' U 2 w2 HL.out).mono ?_
    rintro e w3 ⟨rfl, hb3⟩
    have HL3 := Lib.hid (HL.out.kept hb3)
    have HB3 := Lib.hid (HG.out.trans (hb3.mono HG.out.size))
    clear hb3 HL HG
    have TT := Lib.hid (Tidy_told a' cap' U w3 HL3.out hUk.out)
    have HSt := Lib.hid (show settleC U = if U.length < 2 * count 2 U then tidyC U else U from rfl)
    generalize count 2 U = n at *
    by_cases hn : U.length < 2 * n
    · rw [if_pos hn] at HSt
      have d0 : decide ((U.length : Int) < 2 * (n : Int)) = true := decide_eq_true (by omega)
      go_wp2_with fail
      refine TT.out.mono ?_
      rintro e w4 ⟨v4, rfl, hgv, hb4⟩
      have G4 := Lib.hid hgv
      have B4 := Lib.hid (HB3.out.trans (hb4.mono HB3.out.size))
      obtain ⟨a4, cap4, rfl, -⟩ := hgv
      clear hb4
      go_wp2_with fail
      refine bodyPost_ret (v := .tuple #[rowV a4 cap4 (tidyC U), .bool true]) (by simp [results, Tryz.results57, go_sem]) rfl ?_
      exact ⟨_, by rw [HF.out]; rfl, by rw [HD.out, HSt.out]; exact G4.out, B4.out⟩
    · rw [if_neg hn] at HSt
      have d0 : decide ((U.length : Int) < 2 * (n : Int)) = false := decide_eq_false (by omega)
      go_wp2_with fail
      refine bodyPost_ret (v := .tuple #[rowV a' cap' U, .bool true]) (by simp [results, Tryz.results57, go_sem]) rfl ?_
      exact ⟨_, by rw [HF.out]; rfl, by rw [HD.out, HSt.out]; exact ⟨_, _, rfl, HL3.out⟩, HB3.out⟩
end Go.Proofs.YtbamodkgagcmnaaGreat.Flo

namespace Go.Proofs.YtbamodkgagcmnaaGreat.Flo
open Go.RowKit Go.Shelf RowG Tab Prb

attribute [local go_sem] Oper.semAt_some

/-- A text's cell. -/
def txtK : Kind ByteArray := ⟨1, fun s => [.string s], by decide, fun _ => rfl, fun x u hu => by simp at hu; subst hu; rfl⟩
/-- A value that is a row of texts. -/
def Texts (W : World) (v : Value) (ks : List ByteArray) : Prop := ∃ a cap, v = rowV a cap ks ∧ Lies txtK W a cap ks
theorem Texts.kept {W W' : World} {v : Value} {ks : List ByteArray} (h : Texts W v ks) (hb : Below W.heap.size W W') : Texts W' v ks := by
  obtain ⟨a, cap, e, hl⟩ := h
  exact ⟨a, cap, e, hl.kept hb⟩
/-- The keys of some places. -/
def keysOf (T : List Ent) (pre : List (Fin T.length)) : List ByteArray := pre.map fun i => (ent T i.1).key
/-- The keys of all flows. -/
def keys (T : List Ent) : List ByteArray := (T.filter fun e => e.st == 1).map (·.key)
/-- Between two rounds: the box holds a row of what has come. -/
structure Sk (n1 p : Nat) (w : World) (ks : List ByteArray) (V : World) : Prop where
  box : ∃ v, V.heap[p]? = some (.cells #[v] 68 (0, 0)) ∧ RowG.Own txtK 9 n1 V v ks
  below : Below w.heap.size w V
  size : n1 ≤ V.heap.size
theorem Sk.own {β : Type} {n1 p B : Nat} {w : World} (f : β → List ByteArray) (hB : n1 ≤ B) (h0 : w.heap.size ≤ n1) : OwnFrom B (fun s V => Sk n1 p w (f s) V) := fun bs X Y row h hg hr => by
  obtain ⟨v, hv, ho⟩ := h.box
  refine ⟨⟨v, (hg.block p (Array.getElem?_eq_some_iff.1 hv).1 (fun e => ?_)).trans hv, ?_⟩, h.below.grown hg (Nat.le_trans h0 h.size) (fun k e => by have := (hr k e).1; omega), Nat.le_trans h.size hg.size⟩
  · obtain ⟨_, o, hob, hc⟩ := hr p e.symm
    rw [hv] at hob; cases hob; cases hc
  · refine World.ownsRow.kept ho hg ?_
    cases row with
    | none => cases v.ownBlock <;> simp
    | some r =>
      obtain ⟨_, o, hob, hc⟩ := hr r rfl
      exact own_ne ho hob (fun cur e => by subst e; cases hc)

end Go.Proofs.YtbamodkgagcmnaaGreat.Flo
