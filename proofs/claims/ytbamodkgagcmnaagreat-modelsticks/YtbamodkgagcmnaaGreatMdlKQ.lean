/-
  Package model: Table, Copy.
-/
import Derived.Test.YtbamodkgagcmnaaGreatMdlJQ
import Derived.ArgAppend
import Derived.Deep.RegionHeld3
set_option maxRecDepth 100000
namespace Go.Proofs.YtbamodkgagcmnaaGreat.Mdl
open Go.RowKit Go.Shelf Go.WideShapes RowG Trn
open Pol (polV)
open Flo (Gives)
open Tab (Ent)
open Go.Proofs.YtbamodkgagcmnaaGreat.Mod (Bk Mo)

attribute [local go_sem] Oper.semAt_some

/-! ### Table -/
theorem eql_tab (a : Option Addr) (n c n' c' : Nat) (w : World) : (binOp .eql 90 (.slice a n c) (.slice none n' c')).run Tryz.prog w = .ok (.bool a.isNone) w := Lib.run_eql_slice_nil w _ _ a n c n' c' Tryz.underlying90
set_option maxHeartbeats 1000000 in
theorem CloneT_any (a : Option Addr) (cap : Nat) (T : List Ent) (w : World) (h : Lies entK w a cap T) (hl : T.length ≤ 3518437208883) :
    Calls Tryz.prog 53 #[rowV a cap T] w fun e W' => ∃ v, e = .returned v ∧ RowG.Own entK 66 w.heap.size W' v T ∧ Below w.heap.size w W' := by
  have H := Lib.hid h
  clear h
  have q22 := eql_tab
  cases a with
  | none =>
    have e : T = [] := by
      cases T with
      | nil => rfl
      | cons x T => obtain ⟨b, off, e, _⟩ := H.out.cell (by simp); cases e
    subst e
    go_enter Tryz.func53, Tryz.ntmps53
    go_wp2
    go_ret
    exact ⟨_, rfl, own_nil _ _, Below.refl _ _⟩
  | some p =>
    obtain ⟨i0, hi, hz0, hz1, hz2⟩ := info_parts Ste.info_ent
    have HC := Lib.hid (show ∀ j u, (flat entK T)[j]? = some u → w.cell? (p.add j) = some u from fun j u hj => by
      have hn : T ≠ [] := fun e => by subst e; simp [flat] at hj
      obtain ⟨b, off, rfl⟩ := Flo.Lies.addr H.out hn
      rw [Addr.add_lit]
      exact flat_lies H.out j u hj)
    go_enter Tryz.func53, Tryz.ntmps53
    go_wp2_with (at_builtin; refine wpList_append_own _ rfl _ _ 90 rfl w.heap.size 66 i0 (.agg Ste.zeroC) 4 40 Tryz.underlying90 hi hz0 hz1 hz2 rfl (by decide) _ _ _ rfl (World.ownsRow_made w #[] 0 (Nat.le_refl _) (Nat.zero_le _) (by simp)) p T.length cap (flat entK T) rfl ?qc1 ?qc2 ?qc3 ?qc4 ?qc5 ?qc6 ?_)
    case qc1 => exact flat_length T
    case qc2 => intro j u hj; exact Lib.cell?_alloc_some _ (HC.out j u hj)
    case qc3 => exact flat_one T
    case qc4 => unfold maxLen; omega
    case qc5 => omega
    case qc6 => simp
    intro v' w1 hown hgrow hnil
    have HO := Lib.hid hown
    have HG := Lib.hid hgrow
    clear hown hgrow hnil
    go_wp2
    go_ret
    refine ⟨_, rfl, ?_, ?_⟩
    · have := HO.out
      show w1.ownsRow w.heap.size 66 4 v' T.length (flat entK T)
      simpa using this
    · exact ((Below.refl _ w).alloc (Nat.le_refl _) _).grown HG.out (by simp) (by intro k hk; simp [Value.ownBlock] at hk; omega)


set_option maxHeartbeats 400000 in
theorem Table_told (f : Foot) (idle : Int) (mo : Mo) (i : Int) (w : World) (h : Held w f idle mo) : Calls Tryz.prog 22 #[f.v, .int .i64 i] w fun e W' => ∃ v, e = .returned v ∧ Gives W' v (tabAt mo i) ∧ Below w.heap.size w W' := by
  obtain ⟨pa, pc, P, sc, m, rfl, hl⟩ := h
  rw [tab_atM]
  have C := Lib.hid (at_told i w hl)
  have G := Lib.hid (atM_good hl i)
  generalize atM m i = x at *
  have F := fun W => (show (Instr.field 92 (shV x) 0).run Tryz.prog W = .ok (rowV x.p x.c x.T) W by kernel_rfl)
  clear hl
  go_enter Tryz.func22, Tryz.ntmps22
  go_wp2_with fail
  refine C.out.mono ?_
  rintro e w1 ⟨rfl, hb⟩
  have D := Lib.hid (CloneT_any x.p x.c x.T w1 (G.out.lies.kept hb) (by have := G.out.len; omega))
  have B1 := Lib.hid hb
  clear hb C
  go_wp2_with fail
  refine D.out.mono ?_
  rintro e w2 ⟨v, rfl, ho, hb⟩
  obtain ⟨a, c, rfl, hl⟩ := ho.lies
  have B2 := Lib.hid (below2 B1.out hb)
  have L2 := Lib.hid hl
  clear hb ho hl D
  go_wp2_with fail
  go_ret
  exact ⟨_, rfl, ⟨a, c, rfl, L2.out⟩, B2.out⟩

/-! ### Copy -/
theorem wpList_append_run {P : Program} {w : World} {ops : Array Oper} {rest : List Oper} {o : Oper} {a : Act} {Q : Exit → Act → World → Prop} {t : TypeId} {s x : Operand} {sv xv v : Value} {w' : World} (hgd : o.guard = none) (ho : o.op = .call { callee := .builtin .append, args := #[s, x], argTypes := #[t, t] }) (hs : a.eval s = sv) (hx : a.eval x = xv)
    (hr : (Builtin.append_ #[t, t] o.type #[sv, xv]).run P w = .ok v w') (H : wpList P ops Q rest (a.put o.dst v) w') : wpList P ops Q (o :: rest) a w := by
  refine wpList_plain hgd fun K hK' => ?_
  unfold Oper.wp
  simp [execOp, ho, resolve, invoke, builtin, hs, hx, hr, Result.andThen]
  exact hK' _ _ H
theorem eql_shards (a : Option Addr) (n c n' c' : Nat) (w : World) : (binOp .eql 87 (.slice a n c) (.slice none n' c')).run Tryz.prog w = .ok (.bool a.isNone) w := Lib.run_eql_slice_nil w _ _ a n c n' c' Tryz.underlying87
/-- The cells of a row of shards: tables and numbers by turns. -/
theorem flat_kind (m : List ShM) : ∀ (j : Nat) (v : Value), (flat shK m)[j]? = some v → if j % 2 = 0 then ∃ a n c, v = .slice a n c else ∃ n, v = .int .i64 n := by
  induction m with
  | nil => intro j v h; simp [flat] at h
  | cons x m ih =>
    intro j v h
    rw [flat_cons, show shK.enc x = [rowV x.p x.c x.T, .int .i64 (x.n : Nat)] from rfl] at h
    match j, h with
    | 0, h => simp at h; subst h; exact ⟨_, _, _, rfl⟩
    | 1, h => simp at h; subst h; exact ⟨_, rfl⟩
    | (j + 2), h =>
      have := ih j v (by simpa using h)
      rw [show (j + 2) % 2 = j % 2 by omega]; exact this
theorem zero_kind (k j : Nat) (v : Value) (h : (Builtin.zeroCells zeroS k)[j]? = some v) : if j % 2 = 0 then ∃ a n c, v = .slice a n c else ∃ n, v = .int .i64 n := by
  unfold Builtin.zeroCells at h
  rw [Array.getElem?_map] at h
  cases hr : (Array.range (k * zeroS.size))[j]? with
  | none => rw [hr] at h; cases h
  | some q =>
    rw [hr] at h
    obtain ⟨hl, hk⟩ := Array.getElem?_eq_some_iff.1 hr
    rw [Array.getElem_range] at hk
    subst hk
    rcases Nat.mod_two_eq_zero_or_one j with e | e
    · simp [e] at h ⊢; exact ⟨_, _, _, h.symm⟩
    · simp [e] at h ⊢; exact ⟨_, h.symm⟩
section
variable {f : Foot} {idle : Int} {pa : Option Addr} {pc : Nat} {P : List Bk} {sc : Nat} {m : List ShM}
/-- A row of shards that lies at g. -/
structure ShRow (W : World) (g c : Nat) (m : List ShM) : Prop where
  row : Row shK 92 W g c m
  even : ∀ k v, W.cell? ⟨g, 2 * k, none⟩ = some v → ∃ a n c, v = .slice a n c
  odd : ∀ k v, W.cell? ⟨g, 2 * k + 1, none⟩ = some v → ∃ n, v = .int .i64 n
theorem ShRow.kept {W W' : World} {g c : Nat} (h : ShRow W g c m) (hb : Below W.heap.size W W') : ShRow W' g c m := by
  have e : W'.heap[g]? = W.heap[g]? := hb.block g h.row.lt
  have cell : ∀ k, W'.cell? ⟨g, k, none⟩ = W.cell? ⟨g, k, none⟩ := fun k => World.cell?_of_block (w := W) e
  exact ⟨h.row.kept hb, fun k v hv => h.even k v (by rwa [cell] at hv), fun k v hv => h.odd k v (by rwa [cell] at hv)⟩
theorem grown_row (W : World) (n c : Nat) (hn : m.length = n) (hc : n ≤ c) (hm : c ≤ maxLen) : ShRow (W.alloc (.cells (((#[] : Array Value) ++ (flat shK m).toArray) ++ Builtin.zeroCells zeroS (c - n)) 92)) W.heap.size c m := by
  have hg := World.alloc_heap_new W (.cells (((#[] : Array Value) ++ (flat shK m).toArray) ++ Builtin.zeroCells zeroS (c - n)) 92)
  have hfl := flat_length (K := shK) m
  have kind : ∀ j v, (((#[] : Array Value) ++ (flat shK m).toArray) ++ Builtin.zeroCells zeroS (c - n))[j]? = some v → if j % 2 = 0 then ∃ a n c, v = .slice a n c else ∃ n, v = .int .i64 n := by
    intro j v hv
    rw [Array.empty_append] at hv
    by_cases hj : j < (flat shK m).length
    · rw [Array.getElem?_append_left (by simpa using hj)] at hv
      exact flat_kind m j v (by simpa using hv)
    · rw [Array.getElem?_append_right (by simpa using hj)] at hv
      have := zero_kind (c - n) _ v hv
      have h2 : shK.c = 2 := rfl
      rw [h2] at hfl
      rw [show (j - (flat shK m).toArray.size) % 2 = j % 2 by simp; omega] at this
      exact this
  refine ⟨⟨_, hg, by omega, hm, ?_, ?_⟩, fun k v hv => ?_, fun k v hv => ?_⟩
  · have h2 : shK.c = 2 := rfl
    simp only [Array.size_append, List.size_toArray, size_zeroCells, hfl, h2, hn]
    show #[].size + n * 2 + (c - n) * 2 = c * 2
    simp; omega
  · rw [← hfl]
    simp
  · have hv' := kind (2 * k) v (by unfold World.cell? at hv; rw [hg] at hv; exact hv)
    rw [if_pos (by omega)] at hv'; exact hv'
  · have hv' := kind (2 * k + 1) v (by unfold World.cell? at hv; rw [hg] at hv; exact hv)
    rw [if_neg (by omega)] at hv'; exact hv'
set_option maxHeartbeats 1000000 in
theorem CloneS_told (w : World) (h : Lay w f idle pa pc P sc m) (hn : 0 < m.length) :
    Calls Tryz.prog 76 #[.slice (some ⟨f.g, 0, none⟩) m.length sc] w fun e W' => ∃ g c, e = .returned (.slice (some ⟨g, 0, none⟩) m.length c) ∧ w.heap.size ≤ g ∧ ShRow W' g c m ∧ Below w.heap.size w W' := by
  have q22 := eql_shards
  have hmany := h.many
  obtain ⟨i0, hi, hz0, hz1, hz2⟩ := info_parts info_shard
  have b1 : Below w.heap.size w (w.alloc (.cells #[] 92)) := (Below.refl _ w).alloc (Nat.le_refl _) _
  have hl := h.row.lies.kept b1
  have hfl := flat_length (K := shK) m
  have hr := fun ty => run_append_grow (P := Tryz.prog) (w.alloc (.cells #[] 92)) 87 ty 92 i0 (.agg zeroS) Tryz.underlying87 hi hz0 ⟨w.heap.size, 0, none⟩ 0 0 [] (by simp) (by intro j v h; simp at h) ⟨f.g, 0, none⟩ m.length sc (flat shK m) (by rw [hz1]; exact hfl) (by intro j v hj; rw [Addr.add_lit]; exact flat_lies hl j v hj) (by omega) (by omega) (growslice_fits (by omega) (by rw [hz2]; omega))
  have hge := grownCap_ge (w.alloc (.cells #[] 92)) (0 + m.length) 0 92
  have hcm := grownCap_le_maxLen (w.alloc (.cells #[] 92)) (0 + m.length) 0 92 (by unfold maxLen; omega)
  generalize grownCap (w.alloc (.cells #[] 92)) (0 + m.length) 0 92 = c at *
  have hG := (grown_row (m := m) (w.alloc (.cells #[] 92)) m.length c rfl (by omega) hcm).kept (Below.refl _ _).drew
  rw [World.size_alloc, Array.empty_append] at hG
  have HG := Lib.hid hG
  have HB := Lib.hid (below2 b1 ((Below.refl _ (w.alloc (.cells #[] 92))).alloc (Nat.le_refl _) (.cells ((flat shK m).toArray ++ Builtin.zeroCells zeroS (c - m.length)) 92)).drew)
  rw [Nat.zero_add] at hr
  rw [show ([] : List Value).toArray = #[] from rfl, show (Value.agg zeroS).cells = zeroS from rfl] at hr
  clear h hl b1 hi hz0 hz1 hz2 hge hcm hG
  go_enter Tryz.func76, Tryz.ntmps76
  go_wp2_with (at_builtin; refine wpList_append_run (t := 87) rfl rfl rfl rfl (hr _) ?_)
  go_wp2
  go_ret
  exact ⟨_, c, rfl, Nat.le_succ _, HG.out, HB.out⟩
theorem copy_keep {w W W' : World} {x y z : Value} (s : Below w.heap.size w W ∧ W.cell? ⟨f.p, 0, none⟩ = some x ∧ W.cell? ⟨f.p, 1, none⟩ = some y ∧ W.cell? ⟨f.p, 2, none⟩ = some z) (hb : Below W.heap.size W W') : Below w.heap.size w W' ∧ W'.cell? ⟨f.p, 0, none⟩ = some x ∧ W'.cell? ⟨f.p, 1, none⟩ = some y ∧ W'.cell? ⟨f.p, 2, none⟩ = some z := by
  obtain ⟨h0, h1, h2, h3⟩ := s
  exact ⟨below2 h0 hb, (hb.cell (World.block_lt_of_cell? _ _ h1)).trans h1, (hb.cell (World.block_lt_of_cell? _ _ h2)).trans h2, (hb.cell (World.block_lt_of_cell? _ _ h3)).trans h3⟩
set_option maxHeartbeats 2000000 in
theorem Copy_lay (w : World) (h : Lay w f idle pa pc P sc m) (hn : 0 < m.length) :
    Calls Tryz.prog 37 #[f.v] w fun e W' => ∃ f2 : Foot, e = .returned f2.v ∧ (∃ c, Lay W' f2 idle pa pc P c m) ∧ f2.from' w.heap.size ∧ Below w.heap.size w W' := by
  obtain ⟨⟨c0, c1, c2⟩, -⟩ := h.cells
  have HL := Lib.hid h
  have CC := Lib.hid (fun W (hb : Below w.heap.size w W) => CloneS_told W (h.kept hb) hn)
  have SH : Below w.heap.size w w.drew ∧ w.drew.cell? ⟨f.p, 0, none⟩ = some (.int .i64 idle) ∧ w.drew.cell? ⟨f.p, 1, none⟩ = some (polV pa pc P) ∧ w.drew.cell? ⟨f.p, 2, none⟩ = some (.slice (some ⟨f.g, 0, none⟩) m.length sc) := ⟨(Below.refl _ _).drew, c0, c1, c2⟩
  have C2 := Lib.hid (CC.out w.drew SH.1)
  clear h CC
  go_enter Tryz.func37, Tryz.ntmps37
  go_wp2_with fail
  go_region_held3 (fun W => Below w.heap.size w W ∧ W.cell? ⟨f.p, 0, none⟩ = some (.int .i64 idle) ∧ W.cell? ⟨f.p, 1, none⟩ = some (polV pa pc P) ∧ W.cell? ⟨f.p, 2, none⟩ = some (.slice (some ⟨f.g, 0, none⟩) m.length sc)) (first | exact SH | exact copy_keep (by assumption) hb | exact copy_keep (by assumption) (Below.refl _ _) | exact copy_keep (by assumption) ((Below.refl _ _).alloc (Nat.le_refl _) _))
    (first | (go_at_call 76; (refine C2.out.mono ?_); rintro e w5 ⟨g, c, rfl, hg, hrow, hb⟩))
  rename_i hHeld
  have hlt := hrow.row.lt
  have al := (Below.refl w5.heap.size w5).alloc (Nat.le_refl _) (.cells #[.int .i64 idle, polV pa pc P, .slice (some ⟨g, 0, none⟩) m.length c] 89)
  have hbx := World.alloc_heap_new w5 (.cells #[.int .i64 idle, polV pa pc P, .slice (some ⟨g, 0, none⟩) m.length c] 89)
  have hb5 : Below w.heap.size w w5 := (Below.refl w.heap.size w).drew.trans (hb.mono (Nat.le_refl _))
  have hr6 := hrow.kept al
  have HL6 := Lib.hid (show Lay (w5.alloc (.cells #[.int .i64 idle, polV pa pc P, .slice (some ⟨g, 0, none⟩) m.length c] 89)) ⟨w5.heap.size, g⟩ idle pa pc P c m from
    ⟨hbx, hr6.row, hr6.even, hr6.odd, (HL.out.kept (below2 hb5 al)).pool, HL.out.few, (HL.out.kept (below2 hb5 al)).good, HL.out.many, by show w5.heap.size ≠ g; omega⟩)
  have HB6 := Lib.hid (below2 hb5 al)
  have hge5 : w.heap.size ≤ w5.heap.size := hb5.size
  have hg5 : w.heap.size ≤ g := hg
  clear hHeld SH C2 c0 c1 c2 hbx hr6 al hb5 hb hrow
  go_wp2_with fail
  go_ret
  exact ⟨⟨w5.heap.size, g⟩, rfl, ⟨c, HL6.out⟩, ⟨hge5, hg5⟩, HB6.out⟩
theorem Copy_told (f : Foot) (idle : Int) (mo : Mo) (hn : 0 < mo.tables.length) (w : World) (h : Held w f idle mo) : Calls Tryz.prog 37 #[f.v] w fun e W' => ∃ f2 : Foot, e = .returned f2.v ∧ Held W' f2 idle mo ∧ f2.from' w.heap.size ∧ Below w.heap.size w W' := by
  obtain ⟨pa, pc, P, sc, m, rfl, hl⟩ := h
  rw [plain_len] at hn
  exact (Copy_lay w hl hn).mono fun e W' ⟨f2, h1, ⟨c, h2⟩, h3, h4⟩ => ⟨f2, h1, ⟨pa, pc, P, c, m, rfl, h2⟩, h3, h4⟩
end
end Go.Proofs.YtbamodkgagcmnaaGreat.Mdl
