/-
  The document's model as a value (package gangplankref17): what lies in its boxes; withTable.
-/
import Derived.Test.YtbamodkgagcmnaaGreatModF
import Derived.Test.YtbamodkgagcmnaaGreatModG
set_option maxRecDepth 100000
namespace Go.Proofs.YtbamodkgagcmnaaGreat.Mod
open Go.RowKit Go.Shelf Go.WideShapes RowG Trn

attribute [local go_sem] Oper.semAt_some

/-- A table as it lies. -/
structure TabM where
  p : Option Addr
  c : Nat
  T : List Tab.Ent
instance : Inhabited TabM := ⟨⟨none, 0, []⟩⟩
abbrev tabV (x : TabM) : Value := rowV x.p x.c x.T
def tabK : Kind TabM := ⟨1, fun x => [tabV x], by decide, fun _ => rfl, fun x u hu => by
  simp at hu; subst hu; rfl⟩
theorem info_tab : (Tryz.prog.info? 50).map (fun i => (i.zero, i.size, i.bytes)) = some (some (.slice none 0 0), tabK.c, 24) := by kernel_rfl
/-- A model: its configuration, its pool, its tables, its places. -/
abbrev modC (c : Cfg) (pv tv lv : Value) : Array Value := #[.int .i64 c.W, .int .i64 c.S, .int .i64 c.cap, .int .i64 c.idle, .int .i64 c.K, pv, tv, lv]
abbrev modV (c : Cfg) (pv tv lv : Value) : Value := .agg (modC c pv tv lv)
abbrev sl (a : Option Addr) (n c : Nat) : Value := .slice a n c
def ModBox (W : World) (g : Nat) (c : Cfg) (pv tv lv : Value) : Prop := W.heap[g]? = some (.cells (modC c pv tv lv) 36 (0, 0))
theorem ModBox.cells {W : World} {g : Nat} {c : Cfg} {pv tv lv : Value} (h : ModBox W g c pv tv lv) : (W.cell? ⟨g, 0, none⟩ = some (.int .i64 c.W) ∧ W.cell? ⟨g, 1, none⟩ = some (.int .i64 c.S) ∧ W.cell? ⟨g, 2, none⟩ = some (.int .i64 c.cap) ∧ W.cell? ⟨g, 3, none⟩ = some (.int .i64 c.idle) ∧ W.cell? ⟨g, 4, none⟩ = some (.int .i64 c.K) ∧ W.cell? ⟨g, 5, none⟩ = some (pv) ∧ W.cell? ⟨g, 6, none⟩ = some (tv) ∧ W.cell? ⟨g, 7, none⟩ = some (lv)) ∧ (∀ o, W.frozen? ⟨g, o, none⟩ = false) := by
  unfold ModBox at h
  refine ⟨⟨?_, ?_, ?_, ?_, ?_, ?_, ?_, ?_⟩, fun o => ?_⟩ <;> simp [World.cell?, World.frozen?, h]
theorem ModBox.kept {W W' : World} {g : Nat} {c : Cfg} {pv tv lv : Value} (h : ModBox W g c pv tv lv) {n : Nat} (hb : Below n W W') (hg : g < n) : ModBox W' g c pv tv lv := (hb.block g hg).trans h
theorem ModBox.tables {W : World} {g : Nat} {c : Cfg} {pv tv lv : Value} (h : ModBox W g c pv tv lv) (v : Value) : ModBox (W.setCell ⟨g, 6, none⟩ v) g c pv v lv := heap_setCell_same _ g 6 _ _ v h
theorem ModBox.beside {W : World} {g g' o : Nat} {c : Cfg} {pv tv lv : Value} (h : ModBox W g c pv tv lv) (hg : g' ≠ g) (v : Value) : ModBox (W.setCell ⟨g', o, none⟩ v) g c pv tv lv := (Below.heap_setCell _ _ _ _ fun e => hg e.symm).trans h
def putMod (W : World) (g : Nat) (c : Cfg) (pv tv lv : Value) : World := ((((((((W.setCell ⟨g, 0, none⟩ (.int .i64 c.W)).setCell ⟨g, 1, none⟩ (.int .i64 c.S)).setCell ⟨g, 2, none⟩ (.int .i64 c.cap)).setCell ⟨g, 3, none⟩ (.int .i64 c.idle)).setCell ⟨g, 4, none⟩ (.int .i64 c.K)).setCell ⟨g, 5, none⟩ (pv)).setCell ⟨g, 6, none⟩ (tv)).setCell ⟨g, 7, none⟩ (lv))
theorem ModBox.put {W : World} {g : Nat} {c c' : Cfg} {pv tv lv pv' tv' lv' : Value} (h : ModBox W g c' pv' tv' lv') : ModBox (putMod W g c pv tv lv) g c pv tv lv := by
  have h0 := heap_setCell_same _ g 0 _ _ (.int .i64 c.W) h
  have h1 := heap_setCell_same _ g 1 _ _ (.int .i64 c.S) h0
  have h2 := heap_setCell_same _ g 2 _ _ (.int .i64 c.cap) h1
  have h3 := heap_setCell_same _ g 3 _ _ (.int .i64 c.idle) h2
  have h4 := heap_setCell_same _ g 4 _ _ (.int .i64 c.K) h3
  have h5 := heap_setCell_same _ g 5 _ _ pv h4
  have h6 := heap_setCell_same _ g 6 _ _ tv h5
  have h7 := heap_setCell_same _ g 7 _ _ lv h6
  unfold ModBox putMod
  rw [h7]
  simp
theorem putMod_below {n : Nat} {w W : World} (hb : Below n w W) {g : Nat} (hg : n ≤ g) (c : Cfg) (pv tv lv : Value) : Below n w (putMod W g c pv tv lv) :=
  (((((((hb.setCell (p := ⟨g, 0, none⟩) hg _).setCell (p := ⟨g, 1, none⟩) hg _).setCell (p := ⟨g, 2, none⟩) hg _).setCell (p := ⟨g, 3, none⟩) hg _).setCell (p := ⟨g, 4, none⟩) hg _).setCell (p := ⟨g, 5, none⟩) hg _).setCell (p := ⟨g, 6, none⟩) hg _).setCell (p := ⟨g, 7, none⟩) hg _
theorem mod_rest (W : World) (g : Nat) (c : Cfg) (pv tv lv : Value) (k : Nat) (hk : k ≠ g) : (putMod W g c pv tv lv).heap[k]? = W.heap[k]? := by
  have h : Turned (fun k => k = g) W (putMod W g c pv tv lv) := ((((((((Turned.refl (fun k => k = g) W).setCell (a := ⟨g, 0, none⟩) rfl _).setCell (a := ⟨g, 1, none⟩) rfl _).setCell (a := ⟨g, 2, none⟩) rfl _).setCell (a := ⟨g, 3, none⟩) rfl _).setCell (a := ⟨g, 4, none⟩) rfl _).setCell (a := ⟨g, 5, none⟩) rfl _).setCell (a := ⟨g, 6, none⟩) rfl _).setCell (a := ⟨g, 7, none⟩) rfl _
  by_cases hl : k < W.heap.size
  · exact h.rest k hl hk
  · have e : (putMod W g c pv tv lv).heap.size = W.heap.size := by simp [putMod, World.setCell]
    rw [Array.getElem?_eq_none (by omega), Array.getElem?_eq_none (by omega)]
/-- Two boxes of models, one behind the other. -/
theorem new_mods (w : World) (c : Cfg) (pv tv lv : Value) {W : World} (hW : (w.alloc (.cells (modC c pv tv lv) 36)).alloc (.cells (modC ⟨0, 0, 0, 0, 0⟩ (sl none 0 0) (sl none 0 0) (sl none 0 0)) 36) = W) :
    ModBox W w.heap.size c pv tv lv ∧ ModBox W (w.heap.size + 1) ⟨0, 0, 0, 0, 0⟩ (sl none 0 0) (sl none 0 0) (sl none 0 0) ∧ Below w.heap.size w W ∧ W.heap.size = w.heap.size + 2 := by
  have h1 := World.alloc_heap_new w (.cells (modC c pv tv lv) 36)
  have s1 := World.size_alloc w (.cells (modC c pv tv lv) 36)
  have b1 : Below w.heap.size w (w.alloc (.cells (modC c pv tv lv) 36)) := (Below.refl _ w).alloc (Nat.le_refl _) _
  generalize w.alloc (.cells (modC c pv tv lv) 36) = W1 at *
  have h2 := World.alloc_heap_new W1 (.cells (modC ⟨0, 0, 0, 0, 0⟩ (sl none 0 0) (sl none 0 0) (sl none 0 0)) 36)
  have s2 := World.size_alloc W1 (.cells (modC ⟨0, 0, 0, 0, 0⟩ (sl none 0 0) (sl none 0 0) (sl none 0 0)) 36)
  have b2 : Below W1.heap.size W1 (W1.alloc (.cells (modC ⟨0, 0, 0, 0, 0⟩ (sl none 0 0) (sl none 0 0) (sl none 0 0)) 36)) := (Below.refl _ W1).alloc (Nat.le_refl _) _
  generalize W1.alloc (.cells (modC ⟨0, 0, 0, 0, 0⟩ (sl none 0 0) (sl none 0 0) (sl none 0 0)) 36) = W2 at *
  subst hW
  rw [s1] at h2
  exact ⟨(b2.block _ (by omega)).trans h1, h2, below2 b1 b2, by omega⟩
/-- Another table at a place, if there is such a one. -/
def setZ (ts : List TabM) (i : Int) (x : TabM) : List TabM := if 0 ≤ i then ts.set i.toNat x else ts
theorem setZ_length (ts : List TabM) (i : Int) (x : TabM) : (setZ ts i x).length = ts.length := by unfold setZ; split <;> simp
theorem setZ_at {ts : List TabM} {i : Int} {x : TabM} {k : Nat} (hk : k < ts.length) : (setZ ts i x)[k]? = some (if (k : Int) = i then x else ts[k]) := by
  unfold setZ
  by_cases h : (k : Int) = i
  · subst h
    rw [if_pos (by omega), if_pos rfl, Int.toNat_natCast, List.getElem?_set_self hk]
  · rw [if_neg h]
    split
    · rw [List.getElem?_set_ne (by omega), List.getElem?_eq_getElem hk]
    · rw [List.getElem?_eq_getElem hk]
theorem take_more {α : Type} {T : List α} {k : Nat} {x : α} (h : T[k]? = some x) : T.take (k + 1) = T.take k ++ [x] := by rw [List.take_add_one, h]; rfl
theorem tab_cell {W : World} {a : Option Addr} {cap : Nat} {ts : List TabM} (h : Lies tabK W a cap ts) {k : Nat} (hk : k < ts.length) : ∃ b off, a = some ⟨b, off, none⟩ ∧ W.cell? ⟨b, off + k, none⟩ = some (tabV ts[k]) := by
  obtain ⟨b, off, e, hc⟩ := h.at hk
  refine ⟨b, off, e, ?_⟩
  have := hc 0 _ rfl
  rwa [show off + k * tabK.c + 0 = off + k by rw [show k * tabK.c = k from Nat.mul_one k]; rfl] at this
set_option maxRecDepth 100000 in
set_option maxHeartbeats 2000000 in
theorem refwithTable_any (c : Cfg) (pa : Option Addr) (pn pc : Nat) (ta : Option Addr) (tc : Nat) (ts : List TabM) (la : Option Addr) (ln lc : Nat) (i : Int) (x : TabM) (w : World) (hT : Lies tabK w ta tc ts) (hl : ts.length ≤ 1000000) :
    Calls Tryz.prog 48 #[modV c (sl pa pn pc) (rowV ta tc ts) (sl la ln lc), .int .i64 i, tabV x] w fun e W' => ∃ v, e = .returned (modV c (sl pa pn pc) v (sl la ln lc)) ∧ RowG.Own tabK 50 w.heap.size W' v (setZ ts i x) ∧ Below w.heap.size w W' := by
  obtain ⟨m1, m2, b0, hz⟩ := new_mods w c (sl pa pn pc) (rowV ta tc ts) (sl la ln lc) rfl
  have hTk := hT.kept b0
  have SL := Lib.hid (setZ_length ts i x)
  have SA := Lib.hid (fun k (hk : k < ts.length) => setZ_at (i := i) (x := x) hk)
  have hm := hT.max
  have hn := hT.len
  unfold maxLen at hm
  generalize setZ ts i x = us at *
  have M1 := Lib.hid m1
  have M2 := Lib.hid m2
  have B0 := Lib.hid b0
  have HT := Lib.hid hTk
  have HZ := Lib.hid hz
  clear m1 m2 b0 hTk hT hz
  go_enter Tryz.func48, Tryz.ntmps48
  go_wp2
  generalize hW0 : (w.alloc (.cells (modC c (sl pa pn pc) (rowV ta tc ts) (sl la ln lc)) 36)).alloc (.cells (modC ⟨0, 0, 0, 0, 0⟩ (sl none 0 0) (sl none 0 0) (sl none 0 0)) 36) = W0 at *
  clear hW0
  go_loopw [7, 8] (fun o q W => ∃ k : Nat, k ≤ ts.length ∧ q = .int .i64 k ∧ RowG.Own tabK 50 (w.heap.size + 2) W o (us.take k) ∧ Below (w.heap.size + 2) W0 W) (fun _ q _ => ts.length - (intOf q).toNat)
  case atStart => exact ⟨0, Nat.zero_le _, rfl, own_nil _ _, Below.refl _ _⟩
  case round =>
    obtain ⟨k, hk, rfl, ho, hB⟩ := hrel
    have HO := Lib.hid ho
    have HB := Lib.hid hB
    have hs := Lib.hid (show w.heap.size + 2 ≤ wr.heap.size by have := hB.size; rw [HZ.out] at this; exact this)
    obtain ⟨⟨x0, x1, x2, x3, x4, x5, x6, x7⟩, fr⟩ := (M1.out.kept hB (by omega)).cells
    clear ho
    by_cases hlt : k < ts.length
    · clear hB
      have HL := Lib.hid (show (us.take k).length = k by rw [List.length_take, SL.out]; omega)
      have HN := Lib.hid (take_more (SA.out k hlt))
      generalize us.take k = os at *
      by_cases hi : (k : Int) = i
      · have HS := Lib.hid (show us.take (k + 1) = os ++ [x] by rw [HN.out, if_pos hi])
        have e0 : ((k : Int) == i) = true := beq_iff_eq.2 hi
        have al := Lib.hid (show Below wr.heap.size wr (wr.alloc (.cells #[tabV x] 50)) from (Below.refl _ wr).alloc (Nat.le_refl _) _)
        clear hi HN
        go_wp2_with (at_builtin; refine wpList_more Tryz.underlying33 info_tab rfl rfl _ _ rfl (w.heap.size + 2) wr.heap.size os x _ rfl rfl (HO.out.kept al.out) ?c0 ?c1 ?c2 ?c3 ?_)
        case c0 =>
          intro j u hj
          match j, hj with
          | 0, hj => simp [tabK] at hj; subst hj; simp
        case c1 => rw [HL.out]; unfold maxLen; omega
        case c2 => rw [HL.out]; omega
        case c3 => have := hs.out; simp; omega
        intro v' w1 ho hb
        have HB1 := Lib.hid ((HB.out.alloc hs.out (.cells #[tabV x] 50)).trans hb.out)
        have HO1 := Lib.hid ho.out
        clear hb ho
        go_wp2
        refine ⟨⟨k + 1, hlt, by go_num, by rw [HS.out]; exact HO1.out, HB1.out⟩, by simp [intOf]; omega⟩
      · have HS := Lib.hid (show us.take (k + 1) = os ++ [ts[k]] by rw [HN.out, if_neg hi])
        have e0 : ((k : Int) == i) = false := beq_false_of_ne hi
        obtain ⟨b, off, rfl, c0⟩ := tab_cell (HT.out.kept (HB.out.mono (by rw [HZ.out]; exact Nat.le_refl _))) hlt
        have al := Lib.hid (show Below wr.heap.size wr (wr.alloc (.cells #[tabV ts[k]] 50)) from (Below.refl _ wr).alloc (Nat.le_refl _) _)
        clear hi HN
        generalize ts[k] = y at *
        go_wp2_with (at_builtin; refine wpList_more Tryz.underlying33 info_tab rfl rfl _ _ rfl (w.heap.size + 2) wr.heap.size os y _ rfl rfl (HO.out.kept al.out) ?c0 ?c1 ?c2 ?c3 ?_)
        case c0 =>
          intro j u hj
          match j, hj with
          | 0, hj => simp [tabK] at hj; subst hj; simp
        case c1 => rw [HL.out]; unfold maxLen; omega
        case c2 => rw [HL.out]; omega
        case c3 => have := hs.out; simp; omega
        intro v' w1 ho hb
        have HB1 := Lib.hid ((HB.out.alloc hs.out (.cells #[tabV y] 50)).trans hb.out)
        have HO1 := Lib.hid ho.out
        clear hb ho
        go_wp2
        refine ⟨⟨k + 1, hlt, by go_num, by rw [HS.out]; exact HO1.out, HB1.out⟩, by simp [intOf]; omega⟩
    · obtain rfl : k = ts.length := by omega
      have HU := Lib.hid (show us.take ts.length = us by rw [← SL.out]; exact List.take_length)
      rw [HU.out] at HO
      have M1' := M1.out.kept hB (by omega)
      have M2' := M2.out.kept hB (by omega)
      obtain ⟨⟨y0, y1, y2, y3, y4, y5, y6, y7⟩, fs⟩ := M2'.cells
      have f6 := fr 6
      have g0 := fs 0
      have g1 := fs 1
      have g2 := fs 2
      have g3 := fs 3
      have g4 := fs 4
      have g5 := fs 5
      have g6 := fs 6
      have g7 := fs 7
      clear hB fr fs
      obtain ⟨oa, oc, rfl, -⟩ := HO.out.lies
      have HM := Lib.hid (((M2'.beside (g' := w.heap.size) (o := 6) (by omega) (rowV oa oc us))).put (c := c) (pv := sl pa pn pc) (tv := rowV oa oc us) (lv := sl la ln lc))
      have HBB := Lib.hid (putMod_below ((B0.out.trans (HB.out.mono (by omega))).setCell (p := ⟨w.heap.size, 6, none⟩) (Nat.le_refl _) (rowV oa oc us)) (Nat.le_succ _) c (sl pa pn pc) (rowV oa oc us) (sl la ln lc))
      have OW := Lib.hid (show RowG.Own tabK 50 w.heap.size (putMod (wr.setCell ⟨w.heap.size, 6, none⟩ (rowV oa oc us)) (w.heap.size + 1) c (sl pa pn pc) (rowV oa oc us) (sl la ln lc)) (rowV oa oc us) us from
        own_less (Nat.le_add_right _ 2) (own_same HO.out fun g hg => by
          have hge : w.heap.size + 2 ≤ g := by
            rcases HO.out.2 with ⟨e, _⟩ | ⟨g', cap', cur, e, hb', _⟩
            · rw [e] at hg; cases hg
            · rw [e] at hg
              obtain rfl : g' = g := by simpa [Value.ownBlock] using hg
              exact hb'
          exact mod_rest (wr.setCell ⟨w.heap.size, 6, none⟩ (rowV oa oc us)) (w.heap.size + 1) c _ _ _ g (by omega) |>.trans (Below.heap_setCell _ _ _ _ (by show g ≠ w.heap.size; omega))))
      clear M1' M2' HO HB B0 HT SL SA HU M1 M2
      go_wp2
      obtain ⟨⟨z0, z1, z2, z3, z4, z5, z6, z7⟩, -⟩ := HM.out.cells
      unfold putMod at z0 z1 z2 z3 z4 z5 z6 z7
      clear x0 x1 x2 x3 x4 x5 x6 x7 y0 y1 y2 y3 y4 y5 y6 y7 f6 g0 g1 g2 g3 g4 g5 g6 g7
      refine bodyPost_ret (v := modV c (sl pa pn pc) (rowV oa oc us) (sl la ln lc)) ?q1 rfl ?q2
      case q1 =>
        simp only [results, Tryz.results48]
        simp [go_sem, z0, z1, z2, z3, z4, z5, z6, z7]
      case q2 => exact ⟨_, rfl, OW.out, HBB.out⟩
end Go.Proofs.YtbamodkgagcmnaaGreat.Mod
