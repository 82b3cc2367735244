/-
  Package model: expire, stats.
-/
import Derived.Test.YtbamodkgagcmnaaGreatMdlDM
set_option maxRecDepth 100000
namespace Go.Proofs.YtbamodkgagcmnaaGreat.Mdl
open Go.RowKit Go.Shelf RowG Trn
open Pol (polV)
open Prb (home)
open Go.Proofs.YtbamodkgagcmnaaGreat.Mod (Bk Mo Ans ansV ansC AnsBox putAns TabIs opV opC)

attribute [local go_sem] Oper.semAt_some

/-- What puts handed back, in other words: another table and another place of a shard. -/
def PutsIs (i : Nat) (T : List Tab.Ent) (n : Nat) (W : World) (v : Value) : Prop := ∃ b x, v = putsV b ∧ Handed W b (i : Nat) x ∧ x.Good W ∧ x.T = T ∧ x.n = n
/-- How many flows the first shards have. -/
def sums (m : List ShM) : Nat := ((m.map (·.T)).map (Tab.count 1)).sum
theorem sums_snoc (m : List ShM) {k : Nat} (hk : k < m.length) : sums (m.take (k + 1)) = sums (m.take k) + Tab.count 1 m[k].T := by
  unfold sums
  rw [List.take_succ_eq_append_getElem hk]
  simp only [List.map_append, List.sum_append, List.map_cons, List.map_nil, List.sum_cons, List.sum_nil]
  omega
theorem sums_le (W : World) (m : List ShM) (h : ∀ x ∈ m, x.Good W) : sums m ≤ 64 * m.length := by
  unfold sums
  induction m with
  | nil => simp
  | cons x m ih =>
    have h1 := ih fun y hy => h y (List.mem_cons_of_mem _ hy)
    have h2 := Tab.count_le 1 x.T
    have h3 := (h x (List.mem_cons_self ..)).len
    simp only [List.map_cons, List.sum_cons, List.length_cons]
    omega
/-- A box of a shard. -/
theorem shard_box (w : World) (x : ShM) : let W := w.alloc (.cells #[rowV x.p x.c x.T, .int .i64 (x.n : Nat)] 92)
    Below w.heap.size w W ∧ W.cell? ⟨w.heap.size, 0, none⟩ = some (rowV x.p x.c x.T) ∧ W.cell? ⟨w.heap.size, 1, none⟩ = some (.int .i64 (x.n : Nat)) := by
  have := box2_cells (World.alloc_heap_new w (.cells #[rowV x.p x.c x.T, .int .i64 (x.n : Nat)] 92))
  exact ⟨(Below.refl _ w).alloc (Nat.le_refl _) _, this.1, this.2.1⟩
section
variable {f : Foot} {idle : Int} {pa : Option Addr} {pc : Nat} {P : List Bk} {sc : Nat} {m : List ShM}
set_option maxHeartbeats 1000000 in
/-- A shard that there is not. -/
theorem expire_bad (w : World) (h : Lay w f idle pa pc P sc m) (kd : Int) (pkt : ByteArray) (oa : Option Addr) (on oc : Nat) (sh now : Int) (hi : ¬ (0 ≤ sh ∧ sh < m.length)) :
    Calls Tryz.prog 85 #[f.v, opV kd pkt oa on oc sh, .int .i64 now] w (Told ⟨1, 0, false, 0⟩ (fun _ _ => True) w) := by
  obtain ⟨⟨-, -, -, c3⟩, a0, b0, s0⟩ := op_boxes w kd pkt oa on oc sh
  have CP := Lib.hid (has_told sh _ (h.kept b0))
  rw [show isB m.length sh = false from decide_eq_false hi] at CP
  have A0 := Lib.hid a0
  have B0 := Lib.hid b0
  clear h hi a0 b0
  go_enter Tryz.func85, Tryz.ntmps85
  go_wp2_with fail
  refine CP.out.mono ?_
  rintro r w1 ⟨rfl, rfl⟩
  have CF := Lib.hid (fails_told 1 ((w.alloc (.cells (opC kd pkt oa on oc sh) 42)).alloc (.cells (ansC ⟨0, 0, false, 0⟩) 39)))
  clear CP c3
  go_wp2_with fail
  refine CF.out.mono ?_
  rintro r w2 ⟨rfl, hb⟩
  have A2 := Lib.hid (A0.out.kept hb)
  have B2 := Lib.hid (below2 B0.out hb)
  clear hb CF A0 B0
  obtain ⟨⟨x0, x1, x2, x3⟩, fr⟩ := A2.out.cells
  have f0 := fr 0
  have f1 := fr 1
  have f2 := fr 2
  have f3 := fr 3
  clear fr
  go_wp2_with fail
  obtain ⟨⟨z0, z1, z2, z3⟩, -⟩ := (A2.out.put ⟨1, 0, false, 0⟩).cells
  unfold putAns at z0 z1 z2 z3
  clear x0 x1 x2 x3 f0 f1 f2 f3
  refine bodyPost_ret (v := .tuple #[ansV ⟨1, 0, false, 0⟩, .nilFunc]) ?q1 rfl ?q2
  case q1 =>
    simp only [results, Tryz.results85]
    simp [go_sem, z0, z1, z2, z3]
  case q2 => exact ⟨_, rfl, trivial, ans_below w2 B2.out (show w.heap.size ≤ w.heap.size + 1 by omega) ⟨1, 0, false, 0⟩⟩
set_option maxHeartbeats 1000000 in
/-- A shard that there is. -/
theorem expire_good (w : World) (h : Lay w f idle pa pc P sc m) (kd : Int) (pkt : ByteArray) (oa : Option Addr) (on oc : Nat) (now : Int) {k : Nat} (hk : k < m.length) :
    Calls Tryz.prog 85 #[f.v, opV kd pkt oa on oc (k : Nat), .int .i64 now] w
      (Told ⟨0, 0, false, (Tab.dueN now (Tab.places m[k].T.length (Tab.norm m[k].T.length (m[k].n : Int)) (Tab.span 4 m[k].T.length)) m[k].T : Nat)⟩ (PutsIs k (Swp.stepC now (Tab.places m[k].T.length (Tab.norm m[k].T.length (m[k].n : Int)) (Tab.span 4 m[k].T.length)) m[k].T) (Tab.nextP m[k].T.length (Tab.norm m[k].T.length (m[k].n : Int)) (Tab.span 4 m[k].T.length))) w) := by
  obtain ⟨⟨-, -, -, c3⟩, a0, b0, s0⟩ := op_boxes w kd pkt oa on oc (k : Nat)
  have CP := Lib.hid (has_told (k : Nat) _ (h.kept b0))
  rw [show isB m.length (k : Nat) = true from decide_eq_true (by omega)] at CP
  have CA := Lib.hid (at_told (k : Nat) _ (h.kept b0))
  rw [atM_in hk] at CA
  have A0 := Lib.hid a0
  have B0 := Lib.hid b0
  have G := h.good _ (List.getElem_mem hk)
  have G0 := Lib.hid G
  have hlen := G.len
  have hsh := G.keys
  have hst := Swp.step_len (now := now) hlen (Tab.places m[k].T.length (Tab.norm m[k].T.length (m[k].n : Int)) (Tab.span 4 m[k].T.length))
  have hss := Swp.step_short (now := now) hsh (Tab.places m[k].T.length (Tab.norm m[k].T.length (m[k].n : Int)) (Tab.span 4 m[k].T.length))
  have hnp := Swp.np_le m[k].T.length (Tab.norm m[k].T.length (m[k].n : Int)) (Tab.span 4 m[k].T.length)
  clear h a0 b0 G
  generalize m[k] = x at *
  go_enter Tryz.func85, Tryz.ntmps85
  go_wp2_with fail
  refine CP.out.mono ?_
  rintro r w1 ⟨rfl, rfl⟩
  clear CP
  go_wp2_with fail
  refine CA.out.mono ?_
  rintro r w2 ⟨rfl, hb⟩
  obtain ⟨bs, s1, s2⟩ := shard_box w2 x
  have A2 := Lib.hid ((A0.out.kept hb).kept bs)
  have B2 := Lib.hid (below2 (below2 B0.out hb) bs)
  have c3' := (below2 hb bs).cell (World.block_lt_of_cell? _ _ c3)
  rw [c3] at c3'
  have CS := Lib.hid (Swp.Step_told x.p x.c x.T (x.n : Int) 4 now (w2.alloc (.cells #[rowV x.p x.c x.T, .int .i64 (x.n : Nat)] 92)) (G0.out.lies.kept B2.out) (fun y hy => by have := hsh y hy; omega) (by omega))
  have hlt2 : w.heap.size + 1 < w2.heap.size := Nat.lt_of_lt_of_le (by omega) hb.size
  have c3'' := (hb.cell (World.block_lt_of_cell? _ _ c3)).trans c3
  generalize Swp.stepC now (Tab.places x.T.length (Tab.norm x.T.length (x.n : Int)) (Tab.span 4 x.T.length)) x.T = T' at *
  generalize Tab.dueN now (Tab.places x.T.length (Tab.norm x.T.length (x.n : Int)) (Tab.span 4 x.T.length)) x.T = du at *
  generalize Tab.nextP x.T.length (Tab.norm x.T.length (x.n : Int)) (Tab.span 4 x.T.length) = np at *
  clear hb bs CA A0 B0 c3
  go_wp2_with fail
  refine CS.out.mono ?_
  rintro r w3 ⟨v, rfl, hv, hb⟩
  obtain ⟨ta, tc, rfl, hl⟩ := hv
  have A3 := Lib.hid (A2.out.kept hb)
  have B3 := Lib.hid (below2 B2.out hb)
  have c4 := (hb.cell (World.block_lt_of_cell? _ _ c3')).trans c3'
  have L3 := Lib.hid hl
  have CU := Lib.hid (puts_told (k : Nat) ⟨ta, tc, T', np⟩ w3)
  clear hb hl CS A2 B2 c3' c3'' s1 s2
  go_wp2_with fail
  refine CU.out.mono ?_
  rintro r w4 ⟨rfl, hh, hb⟩
  have A4 := Lib.hid (A3.out.kept hb)
  have B4 := Lib.hid (below2 B3.out hb)
  have L4 := Lib.hid (L3.out.kept hb)
  have H4 := Lib.hid hh
  have hlt4 := heap_lt A3.out
  clear hb hh CU A3 B3 L3 c4
  obtain ⟨⟨x0, x1, x2, x3⟩, fr⟩ := A4.out.cells
  have f0 := fr 0
  have f1 := fr 1
  have f2 := fr 2
  have f3 := fr 3
  clear fr
  go_wp2_with fail
  obtain ⟨⟨z0, z1, z2, z3⟩, -⟩ := (A4.out.put ⟨0, 0, false, (du : Nat)⟩).cells
  have ht := Mod.putAns_turned w4 (w.heap.size + 1) ⟨0, 0, false, (du : Nat)⟩
  have HT := Lib.hid (H4.out.turned ht (by omega) (by omega))
  have LT := Lib.hid (ht.lies L4.out fun hn b off e => Mod.tab_apart A4.out L4.out hn b off e)
  unfold putAns at z0 z1 z2 z3
  clear x0 x1 x2 x3 f0 f1 f2 f3 ht
  refine bodyPost_ret (v := .tuple #[ansV ⟨0, 0, false, (du : Nat)⟩, putsV w3.heap.size]) ?q1 rfl ?q2
  case q1 =>
    simp only [results, Tryz.results85]
    simp [go_sem, z0, z1, z2, z3]
  case q2 => exact ⟨_, rfl, ⟨w3.heap.size, ⟨ta, tc, T', np⟩, rfl, HT.out, ⟨LT.out, by show T'.length ≤ 64; omega, hss, by show np ≤ 64; omega⟩, rfl, rfl⟩, ans_below w4 B4.out (show w.heap.size ≤ w.heap.size + 1 by omega) ⟨0, 0, false, (du : Nat)⟩⟩
set_option maxHeartbeats 1000000 in
theorem stats_told (w : World) (h : Lay w f idle pa pc P sc m) (kd : Int) (pkt : ByteArray) (oa : Option Addr) (on oc : Nat) (sh now : Int) :
    Calls Tryz.prog 86 #[f.v, opV kd pkt oa on oc sh, .int .i64 now] w (Told ⟨0, 0, false, (sums m : Nat)⟩ (fun _ v => v = fnV 135) w) := by
  obtain ⟨-, a0, b0, s0⟩ := op_boxes w kd pkt oa on oc sh
  have H0 := Lib.hid (h.kept b0)
  obtain ⟨⟨-, -, c2⟩, -⟩ := H0.out.cells
  have A0 := Lib.hid a0
  have B0 := Lib.hid b0
  have hsum := sums_le w m h.good
  have hmany := h.many
  have hl := h.row.len
  have hmx := hl.2
  unfold maxLen at hmx
  clear h a0 b0
  go_enter Tryz.func86, Tryz.ntmps86
  go_wp2_with fail
  go_loopw [8, 16] (fun n i W => ∃ k : Nat, k ≤ m.length ∧ i = .int .i64 k ∧ n = .int .i64 (sums (m.take k) : Nat) ∧ Lay W f idle pa pc P sc m ∧ AnsBox W (w.heap.size + 1) ⟨0, 0, false, 0⟩ ∧ Below w.heap.size w W) (fun _ i _ => m.length - (intOf i).toNat)
  case atStart => exact ⟨0, Nat.zero_le _, rfl, rfl, H0.out, A0.out, B0.out⟩
  case round =>
    clear H0 A0 B0 c2 s0
    obtain ⟨k, hk, rfl, rfl, H, A, B⟩ := hrel
    have HH := Lib.hid H
    have HA := Lib.hid A
    have HB := Lib.hid B
    by_cases hlt : k < m.length
    · obtain ⟨⟨c3, c4⟩, -⟩ := H.shard hlt
      have HS := Lib.hid (sums_snoc m hlt)
      have hb1 := sums_le wr (m.take (k + 1)) fun x hx => H.good x (List.mem_of_mem_take hx)
      rw [sums_snoc m hlt, List.length_take] at hb1
      have G := Lib.hid (H.good _ (List.getElem_mem hlt)).lies
      generalize m[k] = x at *
      obtain ⟨bs, s1, s2⟩ := shard_box wr x
      have CL := Lib.hid (live_told x.p x.c x.T (wr.alloc (.cells #[rowV x.p x.c x.T, .int .i64 (x.n : Nat)] 92)) (G.out.kept bs))
      generalize hsn : sums (m.take (k + 1)) = sn at *
      generalize sums (m.take k) = so at *
      generalize Tab.count 1 x.T = ct at *
      have BS := Lib.hid bs
      have e1 : IntKind.i64.wrap ((so : Int) + (ct : Int)) = (sn : Int) := by have := HS.out; rw [IntKind.wrap_i64]; omega
      have HSN := Lib.hid hsn
      clear H A B bs hsn
      go_wp2_with fail
      refine CL.out.mono ?_
      rintro e w4 ⟨rfl, hb⟩
      have HH4 := Lib.hid ((HH.out.kept BS.out).kept hb)
      have HA4 := Lib.hid ((HA.out.kept BS.out).kept hb)
      have HB4 := Lib.hid (below2 (below2 HB.out BS.out) hb)
      clear hb CL HH HA HB BS c3 c4 s1 s2
      go_wp2_with fail
      refine ⟨⟨k + 1, hlt, by go_num, by rw [HSN.out], HH4.out, HA4.out, HB4.out⟩, by simp [intOf]; omega⟩
    · obtain rfl : k = m.length := by omega
      rw [List.take_length]
      generalize hsm : sums m = sn at *
      have HSM := Lib.hid hsm
      clear H A B hsm
      obtain ⟨⟨x0, x1, x2, x3⟩, fr⟩ := HA.out.cells
      have f0 := fr 0
      have f1 := fr 1
      have f2 := fr 2
      have f3 := fr 3
      clear fr
      go_wp2_with fail
      obtain ⟨⟨z0, z1, z2, z3⟩, -⟩ := (HA.out.put ⟨0, 0, false, (sn : Nat)⟩).cells
      unfold putAns at z0 z1 z2 z3
      clear x0 x1 x2 x3 f0 f1 f2 f3
      refine bodyPost_ret (v := .tuple #[ansV ⟨0, 0, false, (sn : Nat)⟩, fnV 135]) ?q1 rfl ?q2
      case q1 =>
        simp only [results, Tryz.results86]
        simp [go_sem, z0, z1, z2, z3]
      case q2 => exact ⟨_, by rw [HSM.out], rfl, ans_below wr HB.out (show w.heap.size ≤ w.heap.size + 1 by omega) ⟨0, 0, false, (sn : Nat)⟩⟩
end
end Go.Proofs.YtbamodkgagcmnaaGreat.Mdl
