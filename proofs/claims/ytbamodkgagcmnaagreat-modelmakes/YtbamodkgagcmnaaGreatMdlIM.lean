/-
  Package model: Do as the plain model does; Pool, Table.
-/
import Derived.Test.YtbamodkgagcmnaaGreatMdlHM
set_option maxRecDepth 100000
namespace Go.Proofs.YtbamodkgagcmnaaGreat.Mdl
open Go.RowKit Go.Shelf RowG Trn Rgn
open Pol (polV)
open Prb (home)
open Go.Proofs.YtbamodkgagcmnaaGreat.Mod (Bk Mo Ans ansV ansC AnsBox putAns TabIs opV opC deals known doOp)

attribute [local go_sem] Oper.semAt_some

/-- The plain model's step, by this program's hash and ring. -/
noncomputable abbrev step (mo : Mo) (o : Mod.Op) : Mo × Ans := doOp home pickK shardN goodB mo o
theorem deals_err (T : List Tab.Ent) (P : List Bk) (k : ByteArray) (c : Bool) (now dl : Int) (h : (deals home pickK T P k c now dl).2.err ≠ 0) : (deals home pickK T P k c now dl).1 = T := by
  by_cases hn : known home T P k now = none ∧ P = []
  · rw [Mod.deals_none hn.1 hn.2]
  · cases c with
    | true => rw [Mod.deals_closes hn] at h; exact absurd rfl h
    | false =>
      rcases put_is T k ((known home T P k now).getD (pickK P k)) dl with ⟨U, h1, h2, _⟩ | ⟨h1, _, _⟩
      · rw [Mod.deals_put hn h1] at h; exact absurd rfl h
      · rw [Mod.deals_full hn h1]
theorem plain_same {P : List Bk} {m : List ShM} {ii : Nat} (hi : ii < m.length) : (⟨P, (m.map (·.T)).set ii m[ii].T, m.map (·.n)⟩ : Mo) = plain P m := by
  unfold plain
  congr 1
  have : (m.map (·.T))[ii]'(by simpa using hi) = m[ii].T := by simp
  rw [← this, List.set_getElem_self]
theorem plain_put {P : List Bk} {m : List ShM} {ii : Nat} (hi : ii < m.length) (x : ShM) (hx : x.n = m[ii].n) : plain P (m.set ii x) = ⟨P, (m.map (·.T)).set ii x.T, m.map (·.n)⟩ := by
  unfold plain
  rw [List.map_set, List.map_set, hx]
  congr 1
  have : (m.map (·.n))[ii]'(by simpa using hi) = m[ii].n := by simp
  rw [← this, List.set_getElem_self]
theorem plain_put2 {P : List Bk} {m : List ShM} {ii : Nat} (x : ShM) : plain P (m.set ii x) = ⟨P, (m.map (·.T)).set ii x.T, (m.map (·.n)).set ii x.n⟩ := by
  unfold plain
  rw [List.map_set, List.map_set]
theorem plain_at {P : List Bk} {m : List ShM} {ii : Nat} (hi : ii < m.length) : (plain P m).tables.getD ii [] = m[ii].T := by
  unfold plain
  rw [List.getD_eq_getElem?_getD, List.getElem?_map, List.getElem?_eq_getElem hi]; rfl
theorem plain_place {P : List Bk} {m : List ShM} {ii : Nat} (hi : ii < m.length) : (plain P m).places.getD ii 0 = m[ii].n := by
  unfold plain
  rw [List.getD_eq_getElem?_getD, List.getElem?_map, List.getElem?_eq_getElem hi]; rfl
theorem plain_len (P : List Bk) (m : List ShM) : (plain P m).tables.length = m.length := by simp [plain]
/-- What a call tells, and makes of a model. -/
def Does (f : Foot) (idle : Int) (r : Mo × Ans) (w : World) (e : Ending) (W' : World) : Prop := e = .returned (ansV r.2) ∧ Held W' f idle r.1 ∧ Turned f.has w W'
/-- An operation, what time it is; idle: how long a flow may be. -/
abbrev opOf (kd : Int) (fl : Option (ByteArray × Bool)) (z : List Bk) (sh now idle : Int) : Mod.Op := ⟨kd, fl, z, sh, now, IntKind.i64.wrap (now + idle)⟩
theorem Do_told (f : Foot) (idle : Int) (mo : Mo) (w : World) (h : Held w f idle mo) (hn : 0 < mo.tables.length) (kd : Int) (pkt : ByteArray) (oa : Option Addr) (z : List Bk) (oc : Nat) (sh now : Int) (hz : Pol.Lies w oa oc z) (fl : Option (ByteArray × Bool)) (hF : FlowIs pkt fl) :
    Calls Tryz.prog 17 #[f.v, opV kd pkt oa z.length oc sh, .int .i64 now] w (Does f idle (step mo (opOf kd fl z sh now idle)) w) := by
  obtain ⟨pa, pc, P, sc, m, rfl, hl⟩ := h
  rw [plain_len] at hn
  have same : ∀ {y : Ans} {e : Ending} {W' : World}, e = .returned (ansV y) ∧ Below w.heap.size w W' → Does f idle (plain P m, y) w e W' := fun ⟨he, hb⟩ => ⟨he, ⟨pa, pc, P, sc, m, rfl, hl.kept hb⟩, .of_below hb⟩
  unfold step doOp
  by_cases k0 : kd = 0
  · subst k0
    rw [if_pos rfl]
    cases fl with
    | none =>
      exact (do_fail0 w hl pkt oa z.length oc sh now (y := ⟨9, 0, false, 0⟩) (by decide) (fun W hb => dispatch_bad W 0 pkt oa z.length oc sh now hF)).mono fun _ _ => same
    | some kc =>
      obtain ⟨k, c⟩ := kc
      have hii : shardN k m.length < m.length := shardN_lt k hn
      show Calls _ _ _ _ (Does f idle (⟨P, (plain P m).tables.set (shardN k (plain P m).tables.length) (deals home pickK ((plain P m).tables.getD (shardN k (plain P m).tables.length) []) P k c now (IntKind.i64.wrap (now + idle))).1, (plain P m).places⟩, (deals home pickK ((plain P m).tables.getD (shardN k (plain P m).tables.length) []) P k c now (IntKind.i64.wrap (now + idle))).2) w)
      rw [plain_len, plain_at hii]
      have hD := fun W (hb : Below w.heap.size w W) => dispatch_good W (hl.kept hb) 0 pkt oa z.length oc sh now k c hF hii rfl rfl
      have hE := deals_err m[shardN k m.length].T P k c now (IntKind.i64.wrap (now + idle))
      generalize hr : deals home pickK m[shardN k m.length].T P k c now (IntKind.i64.wrap (now + idle)) = r at *
      by_cases he : r.2.err = 0
      · refine (do_puts0 w hl pkt oa z.length oc sh now hii he hD).mono fun e W' ⟨h1, ⟨x, h2, h3, h4⟩, h5⟩ => ⟨h1, ⟨pa, pc, P, sc, _, ?_, h4⟩, h5⟩
        rw [plain_put hii x h3, h2]; rfl
      · have hs : (⟨P, (plain P m).tables.set (shardN k m.length) r.1, (plain P m).places⟩ : Mo) = plain P m := by
          rw [hE he]; exact plain_same hii
        rw [hs]
        exact (do_fail0 w hl pkt oa z.length oc sh now he (fun W hb => (hD W hb).mono fun e W' ⟨v, h1, _, h3⟩ => ⟨v, h1, trivial, h3⟩)).mono fun _ _ => same
  rw [if_neg k0]
  by_cases k1 : kd = 1
  · subst k1
    rw [if_pos rfl]
    cases hg : goodB z with
    | true =>
      rw [if_pos rfl]
      exact (do_updt w hl pkt oa z.length oc sh now (y := ⟨0, 0, false, 0⟩) (good_few hg) rfl (fun W hb => update_good W 1 pkt oa z oc sh now (hz.kept hb) hg |>.mono fun e W' ⟨v, h1, ⟨b, u, h2, h3, h4⟩, h5⟩ => ⟨v, h1, ⟨b, u, h2, h3, Pol.own_less hb.size h4⟩, h5⟩)).mono fun e W' ⟨h1, ⟨pa', pc', h2⟩, h3⟩ => ⟨h1, ⟨pa', pc', z, sc, m, rfl, h2⟩, h3⟩
    | false =>
      rw [if_neg (by decide)]
      exact (do_fail1 w hl pkt oa z.length oc sh now (y := ⟨10, 0, false, 0⟩) (by decide) (fun W hb => update_bad W 1 pkt oa z oc sh now (hz.kept hb) hg)).mono fun _ _ => same
  rw [if_neg k1]
  by_cases k2 : kd = 2
  · subst k2
    rw [if_pos rfl]
    by_cases hi : 0 ≤ sh ∧ sh < (m.length : Int)
    · rw [if_pos (by rw [plain_len]; exact hi)]
      obtain ⟨k, rfl⟩ := Int.eq_ofNat_of_zero_le hi.1
      have hk : k < m.length := by omega
      simp only [Int.toNat_natCast]
      rw [plain_at hk, plain_place hk]
      have hlen := (hl.good _ (List.getElem_mem hk)).len
      refine (do_puts2 w hl pkt oa z.length oc (k : Nat) now hk (y := ⟨0, 0, false, _⟩) rfl (fun W hb => expire_good W (hl.kept hb) 2 pkt oa z.length oc now hk)).mono fun e W' ⟨h1, ⟨x, h2, h3, h4⟩, h5⟩ => ⟨h1, ⟨pa, pc, P, sc, _, ?_, h4⟩, h5⟩
      rw [plain_put2, h2, h3, Swp.stepC_stepT hlen]; rfl
    · rw [if_neg (by rw [plain_len]; exact hi)]
      exact (do_fail2 w hl pkt oa z.length oc sh now (y := ⟨1, 0, false, 0⟩) (by decide) (fun W hb => expire_bad W (hl.kept hb) 2 pkt oa z.length oc sh now hi)).mono fun _ _ => same
  rw [if_neg k2]
  by_cases k3 : kd = 3
  · subst k3
    rw [if_pos rfl]
    exact (do_stats w hl pkt oa z.length oc sh now (y := ⟨0, 0, false, _⟩) rfl (fun W hb => stats_told W (hl.kept hb) 3 pkt oa z.length oc sh now)).mono fun _ _ => same
  rw [if_neg k3]
  exact (do_other w kd pkt oa z.length oc sh now (by omega)).mono fun _ _ => same
/-! ### Pool, Table -/
section
variable {f : Foot} {idle : Int} {pa : Option Addr} {pc : Nat} {P : List Bk} {sc : Nat} {m : List ShM}
set_option maxHeartbeats 400000 in
theorem Pool_lay (w : World) (h : Lay w f idle pa pc P sc m) : Calls Tryz.prog 20 #[f.v] w fun e W' => ∃ v, e = .returned v ∧ Pol.Gives W' v P ∧ Below w.heap.size w W' := by
  have hf := h.few
  have C := Lib.hid (Pol.Clone_any pa pc P w h.pool (by omega))
  obtain ⟨⟨-, c1, -⟩, -⟩ := h.cells
  clear h
  go_enter Tryz.func20, Tryz.ntmps20
  go_wp2_with fail
  refine C.out.mono ?_
  rintro e w1 ⟨v, rfl, ho, hb⟩
  obtain ⟨a, c, rfl, hl⟩ := ho.lies
  have B := Lib.hid hb
  have L := Lib.hid hl
  clear hb ho hl C
  go_wp2_with fail
  go_ret
  exact ⟨_, rfl, ⟨a, c, rfl, L.out⟩, B.out⟩
end
theorem Pool_told (f : Foot) (idle : Int) (mo : Mo) (w : World) (h : Held w f idle mo) : Calls Tryz.prog 20 #[f.v] w fun e W' => ∃ v, e = .returned v ∧ Pol.Gives W' v mo.pool ∧ Below w.heap.size w W' := by
  obtain ⟨pa, pc, P, sc, m, rfl, hl⟩ := h
  exact Pool_lay w hl
/-- The table at a place; none, if there is no such shard. -/
def tabAt (mo : Mo) (i : Int) : List Tab.Ent := if 0 ≤ i ∧ i < (mo.tables.length : Int) then mo.tables.getD i.toNat [] else []
theorem tab_atM (P : List Bk) (m : List ShM) (i : Int) : tabAt (plain P m) i = (atM m i).T := by
  unfold tabAt atM
  rw [plain_len]
  split
  · rename_i hi
    obtain ⟨k, rfl⟩ := Int.eq_ofNat_of_zero_le hi.1
    have hk : k < m.length := by omega
    rw [Int.toNat_natCast, plain_at hk, List.getD_eq_getElem?_getD, List.getElem?_eq_getElem hk]; rfl
  · rfl
end Go.Proofs.YtbamodkgagcmnaaGreat.Mdl
