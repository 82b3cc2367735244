/-
  Package epoch: turn, State, Retire, Free, New as contracts.
-/
import Derived.Test.YthokjkllmflgkaaKepA
import Derived.Deep.RegionHeld3
import Derived.Shelf.RegionOpen
import Derived.BigRegion
namespace Go.Proofs.Ythokjkllmflgkaa.Kep
open Go.RowKit Go.Shelf RowG Trn Epo

attribute [local go_sem] Oper.semAt_some

/-- How two slots are compared. -/
theorem slot_cmp (x y : Slot) (c : Bool) (h : x = y ↔ c = true) (W : World) : (Op.equalIn 10000 47 (slotV x) (slotV y)).run Try.prog W = .ok c W := by
  rw [Slot.mk.injEq] at h
  go_simp
  cases c <;> (repeat' split) <;> simp_all
theorem four_boxes (w : World) (s t : Slot) : (((w.alloc (.cells #[.int .i64 s.st, .int .i64 s.at'] 47)).alloc (.cells #[.int .i64 t.st, .int .i64 t.at'] 47)).cell? ⟨w.heap.size, 0, none⟩ = some (.int .i64 s.st) ∧
    ((w.alloc (.cells #[.int .i64 s.st, .int .i64 s.at'] 47)).alloc (.cells #[.int .i64 t.st, .int .i64 t.at'] 47)).cell? ⟨w.heap.size, 1, none⟩ = some (.int .i64 s.at')) ∧
    ((w.alloc (.cells #[.int .i64 s.st, .int .i64 s.at'] 47)).alloc (.cells #[.int .i64 t.st, .int .i64 t.at'] 47)).cell? ⟨w.heap.size + 1, 0, none⟩ = some (.int .i64 t.st) ∧
    ((w.alloc (.cells #[.int .i64 s.st, .int .i64 s.at'] 47)).alloc (.cells #[.int .i64 t.st, .int .i64 t.at'] 47)).cell? ⟨w.heap.size + 1, 1, none⟩ = some (.int .i64 t.at') := by
  have h0 := World.alloc_heap_new w (.cells #[.int .i64 s.st, .int .i64 s.at'] 47)
  have h1 := World.alloc_heap_new (w.alloc (.cells #[.int .i64 s.st, .int .i64 s.at'] 47)) (.cells #[.int .i64 t.st, .int .i64 t.at'] 47)
  have h2 := ((Below.refl _ (w.alloc (.cells #[.int .i64 s.st, .int .i64 s.at'] 47))).alloc (Nat.le_refl _) (.cells #[.int .i64 t.st, .int .i64 t.at'] 47)).block w.heap.size (by simp)
  rw [World.size_alloc] at h1
  rw [h0] at h2
  exact ⟨⟨(box2_cells h2).1, (box2_cells h2).2.1⟩, (box2_cells h1).1, (box2_cells h1).2.1⟩
/-- What stays while turn looks: the keeper, and the boxes of what it is to be and of what it is made. -/
def Kept (w0 : World) (p : Nat) (l : List Slot) (b c : Nat) (s t : Slot) (W : World) : Prop :=
  Below w0.heap.size w0 W ∧ Held W p l ∧ (W.cell? ⟨b, 0, none⟩ = some (.int .i64 s.st) ∧ W.cell? ⟨b, 1, none⟩ = some (.int .i64 s.at')) ∧ W.cell? ⟨c, 0, none⟩ = some (.int .i64 t.st) ∧ W.cell? ⟨c, 1, none⟩ = some (.int .i64 t.at')
theorem keep_b {W W' : World} {a : Addr} {v : Value} (h : W.cell? a = some v) (hb : Below W.heap.size W W') : W'.cell? a = some v := (hb.cell (World.block_lt_of_cell? W _ h)).trans h
theorem kept_b {w0 : World} {p : Nat} {l : List Slot} {b c : Nat} {s t : Slot} {W W' : World}
    (h : Below w0.heap.size w0 W ∧ Held W p l ∧ W.cell? ⟨b, 0, none⟩ = some (.int .i64 s.st) ∧ W.cell? ⟨b, 1, none⟩ = some (.int .i64 s.at') ∧ W.cell? ⟨c, 0, none⟩ = some (.int .i64 t.st) ∧ W.cell? ⟨c, 1, none⟩ = some (.int .i64 t.at')) (hb : Below W.heap.size W W') :
    Below w0.heap.size w0 W' ∧ Held W' p l ∧ W'.cell? ⟨b, 0, none⟩ = some (.int .i64 s.st) ∧ W'.cell? ⟨b, 1, none⟩ = some (.int .i64 s.at') ∧ W'.cell? ⟨c, 0, none⟩ = some (.int .i64 t.st) ∧ W'.cell? ⟨c, 1, none⟩ = some (.int .i64 t.at') :=
  ⟨below2 h.1 hb, h.2.1.kept hb, keep_b h.2.2.1 hb, keep_b h.2.2.2.1 hb, keep_b h.2.2.2.2.1 hb, keep_b h.2.2.2.2.2 hb⟩

set_option maxRecDepth 100000 in
set_option maxHeartbeats 2000000 in
/-- A slot that is not what it has to be. -/
theorem turn_no {w : World} {p : Nat} {l : List Slot} (h : Held w p l) (i : Int) (s t : Slot) (hs : at1 l i ≠ s) :
    Calls Try.prog 27 #[.pointer (some ⟨p, 0, none⟩), .int .i64 i, slotV s, slotV t] w fun e W' => e = .returned (.bool false) ∧ Below w.heap.size w W' := by
  have cmp := slot_cmp (at1 l i) s false (by simp [hs])
  have bel : Below w.heap.size w ((w.alloc (.cells #[.int .i64 s.st, .int .i64 s.at'] 47)).alloc (.cells #[.int .i64 t.st, .int .i64 t.at'] 47)) := ((Below.refl _ w).alloc (Nat.le_refl _) _).alloc (by simp) _
  obtain ⟨⟨x0, x1⟩, y0, y1⟩ := four_boxes w s t
  have h1 := h.kept bel
  have C := fun W (H : Held W p l) => at_told H i
  clear hs h
  go_enter Try.func27, Try.ntmps27
  go_wp2_with fail
  generalize (w.alloc (.cells #[.int .i64 s.st, .int .i64 s.at'] 47)).alloc (.cells #[.int .i64 t.st, .int .i64 t.at'] 47) = wr at *
  generalize at1 l i = u at *
  go_region_held3 (fun W => Below w.heap.size w W ∧ Held W p l ∧ W.cell? ⟨w.heap.size, 0, none⟩ = some (.int .i64 s.st) ∧ W.cell? ⟨w.heap.size, 1, none⟩ = some (.int .i64 s.at') ∧ W.cell? ⟨w.heap.size + 1, 0, none⟩ = some (.int .i64 t.st) ∧ W.cell? ⟨w.heap.size + 1, 1, none⟩ = some (.int .i64 t.at'))
    (first | exact ⟨bel.drew, h1.kept ((Below.refl _ wr).drew), x0, x1, y0, y1⟩ | exact kept_b (by assumption) hb)
    (first | (go_at_call 25; (with_reducible refine (C _ ?_).mono ?_); (exact h1.kept ((Below.refl _ wr).drew)); rintro e w3 ⟨rfl, hb⟩))
  rename_i hHeld
  go_wp2_with fail
  go_ret
  exact ⟨rfl, hHeld.1⟩

set_option maxRecDepth 100000 in
set_option maxHeartbeats 2000000 in
/-- A slot that is what it has to be. -/
theorem turn_yes {w : World} {p : Nat} {l : List Slot} (h : Held w p l) (k : Nat) (hk : k < l.length) (s t : Slot) (hs : l[k] = s) :
    Calls Try.prog 27 #[.pointer (some ⟨p, 0, none⟩), .int .i64 (k : Nat), slotV s, slotV t] w fun e W' => e = .returned (.bool true) ∧ Held W' p (l.set k t) ∧ Turned (fun j => j = p) w W' := by
  have cmp := slot_cmp (at1 l k) s true (by rw [at1_nat hk]; simp [hs])
  have bel : Below w.heap.size w ((w.alloc (.cells #[.int .i64 s.st, .int .i64 s.at'] 47)).alloc (.cells #[.int .i64 t.st, .int .i64 t.at'] 47)) := ((Below.refl _ w).alloc (Nat.le_refl _) _).alloc (by simp) _
  obtain ⟨⟨x0, x1⟩, y0, y1⟩ := four_boxes w s t
  have h1 := h.kept bel
  have hlt := h.lt
  have hk8 : k < 8 := Nat.lt_of_lt_of_le hk h.le
  have HK := Lib.hid hk
  have C := fun W (H : Held W p l) => at_told H (k : Int)
  clear hs h hk
  go_enter Try.func27, Try.ntmps27
  go_wp2_with fail
  generalize (w.alloc (.cells #[.int .i64 s.st, .int .i64 s.at'] 47)).alloc (.cells #[.int .i64 t.st, .int .i64 t.at'] 47) = wr at *
  generalize at1 l k = u at *
  go_region_held3 (fun W => Below w.heap.size w W ∧ Held W p l ∧ W.cell? ⟨w.heap.size, 0, none⟩ = some (.int .i64 s.st) ∧ W.cell? ⟨w.heap.size, 1, none⟩ = some (.int .i64 s.at') ∧ W.cell? ⟨w.heap.size + 1, 0, none⟩ = some (.int .i64 t.st) ∧ W.cell? ⟨w.heap.size + 1, 1, none⟩ = some (.int .i64 t.at'))
    (first | exact ⟨bel.drew, h1.kept ((Below.refl _ wr).drew), x0, x1, y0, y1⟩ | exact kept_b (by assumption) hb)
    (first | (go_at_call 25; (with_reducible refine (C _ ?_).mono ?_); (exact h1.kept ((Below.refl _ wr).drew)); rintro e w3 ⟨rfl, hb⟩))
  rename_i hHeld
  clear x0 x1 y0 y1 bel h1
  obtain ⟨b0, h3, x0, x1, y0, y1⟩ := hHeld
  have B0 := Lib.hid b0
  have c0 := h3.st HK.out
  have c1 := h3.at' HK.out
  have f0 := h3.free (k * 2)
  have f1 := h3.free (k * 2 + 1)
  have HP := Lib.hid (h3.put HK.out t)
  have ne : w.heap.size + 1 ≠ p := by omega
  clear b0 h3
  go_wp2_with fail
  go_region
  go_wp2
  go_ret
  exact ⟨rfl, HP.out.same rfl, ((Turned.of_below B0.out).trans turned_put).trans (Turned.of_below (Below.refl _ _).drew)⟩

/-- What a method of a keeper does: its slots are now these, and all else lies as it lay. -/
def Does (p : Nat) (l' : List Slot) (v : Value) (w : World) (e : Ending) (W' : World) : Prop := e = .returned v ∧ Held W' p l' ∧ Turned (fun j => j = p) w W'
theorem Does.same {w : World} {p : Nat} {l : List Slot} {v : Value} {e : Ending} {W' : World} (h : Held w p l) (he : e = .returned v) (hb : Below w.heap.size w W') : Does p l v w e W' := ⟨he, h.kept hb, (Turned.of_below hb)⟩
theorem run_st (u : Slot) (W : World) : (Instr.field 47 (.agg #[.int .i64 u.st, .int .i64 u.at']) 0).run Try.prog W = .ok (.int .i64 u.st) W := by kernel_rfl
theorem run_at (u : Slot) (W : World) : (Instr.field 47 (.agg #[.int .i64 u.st, .int .i64 u.at']) 1).run Try.prog W = .ok (.int .i64 u.at') W := by kernel_rfl
section
variable {w : World} {p : Nat} {l : List Slot} (h : Held w p l)
include h
set_option maxHeartbeats 400000 in
theorem State_told (i : Int) : Calls Try.prog 14 #[.pointer (some ⟨p, 0, none⟩), .int .i64 i] w fun e W' => e = .returned (.int .i64 (state l i)) ∧ Below w.heap.size w W' := by
  have C := Lib.hid (at_told h i)
  have HE := Lib.hid (at1_st l i)
  clear h
  generalize at1 l i = u at *
  dsimp only [slotV] at C
  have F := run_st u
  go_enter Try.func14, Try.ntmps14
  go_wp2_with fail
  refine C.out.mono ?_
  rintro e w1 ⟨rfl, hb⟩
  go_wp2_with fail
  go_ret
  exact ⟨by rw [← HE.out]; rfl, hb⟩
theorem turn_told (i : Int) (s t : Slot) (hs : s.st ≠ -1) : Calls Try.prog 27 #[.pointer (some ⟨p, 0, none⟩), .int .i64 i, .agg #[.int .i64 s.st, .int .i64 s.at'], .agg #[.int .i64 t.st, .int .i64 t.at']] w
    (Does p (if at1 l i = s then l.set i.toNat t else l) (.bool (decide (at1 l i = s))) w) := by
  by_cases e : at1 l i = s
  · obtain ⟨k, rfl, hk, ha⟩ := at1_in (l := l) (i := i) (by rw [e]; exact hs)
    rw [if_pos e, decide_eq_true e, Int.toNat_natCast]
    refine (turn_yes h k hk s t (ha.symm.trans e)).mono ?_
    rintro e w1 ⟨rfl, h1, h2⟩
    exact ⟨rfl, h1, h2⟩
  · rw [if_neg e, decide_eq_false e]
    refine (turn_no h i s t e).mono ?_
    rintro e w1 ⟨rfl, hb⟩
    exact .same h rfl hb
end
/-- All slots that are not retired have the epoch 0, and each is one of the three. -/
def Plain (l : List Slot) : Prop := ∀ s ∈ l, s.st = 2 ∨ (s.st = 0 ∧ s.at' = 0) ∨ (s.st = 1 ∧ s.at' = 0)
theorem Plain.set {l : List Slot} (h : Plain l) (i : Nat) {s : Slot} (hs : s.st = 2 ∨ (s.st = 0 ∧ s.at' = 0) ∨ (s.st = 1 ∧ s.at' = 0)) : Plain (l.set i s) := fun y hy => by
  rcases List.mem_or_eq_of_mem_set hy with hy | rfl
  · exact h y hy
  · exact hs
theorem Plain.is {l : List Slot} (h : Plain l) (i : Int) {n : Int} (hn : n = 0 ∨ n = 1) : at1 l i = ⟨n, 0⟩ ↔ state l i = n := by
  rw [← at1_st]
  constructor
  · intro e; rw [e]
  · intro e
    obtain ⟨k, rfl, hk, ha⟩ := at1_in (l := l) (i := i) (by omega)
    rw [ha] at e ⊢
    rcases h _ (List.getElem_mem hk) with h2 | ⟨_, h0⟩ | ⟨_, h0⟩
    · omega
    · rw [← e, ← h0]
    · rw [← e, ← h0]
theorem plain_new (n : Int) : Plain (new n) := fun s hs => by rw [List.eq_of_mem_replicate hs]; exact .inr (.inl ⟨rfl, rfl⟩)
/-- A keeper, as the methods keep it. -/
def Keeps (W : World) (p : Nat) (l : List Slot) : Prop := Held W p l ∧ Plain l
/-- What a method of a keeper does: its slots are now these, and all else lies as it lay. -/
def Acts (p : Nat) (l' : List Slot) (v : Value) (w : World) (e : Ending) (W' : World) : Prop := e = .returned v ∧ Keeps W' p l' ∧ Turned (fun j => j = p) w W'
section
variable {w : World} {p : Nat} {l : List Slot} (h : Keeps w p l)
include h
set_option maxHeartbeats 400000 in
theorem Retire_told (i a : Int) : Calls Try.prog 18 #[.pointer (some ⟨p, 0, none⟩), .int .i64 i, .int .i64 a] w (Acts p (retire l i a).1 (.bool (retire l i a).2) w) := by
  have C := Lib.hid (turn_told h.1 i ⟨1, 0⟩ ⟨2, a⟩ (by decide))
  have HE := Lib.hid (h.2.is i (n := 1) (.inr rfl))
  have HP := Lib.hid h.2
  clear h
  dsimp only at C
  go_enter Try.func18, Try.ntmps18
  go_wp2_with fail
  refine C.out.mono ?_
  rintro e w1 ⟨rfl, h1, hb⟩
  go_wp2_with fail
  go_ret
  have he := HE.out
  unfold retire
  by_cases hs : state l i = 1
  · rw [if_pos (he.2 hs)] at h1
    rw [if_pos hs]
    exact ⟨by rw [decide_eq_true (he.2 hs)]; rfl, ⟨h1, HP.out.set _ (.inl rfl)⟩, hb⟩
  · rw [if_neg fun e => hs (he.1 e)] at h1
    rw [if_neg hs]
    exact ⟨by rw [decide_eq_false fun e => hs (he.1 e)]; rfl, ⟨h1, HP.out⟩, hb⟩
set_option maxHeartbeats 400000 in
theorem Free_told (i : Int) : Calls Try.prog 19 #[.pointer (some ⟨p, 0, none⟩), .int .i64 i] w (Acts p (free l i).1 (.bool (free l i).2) w) := by
  have A := Lib.hid (at_told h.1 i)
  have HP := Lib.hid h.2
  have HE := Lib.hid (show at1 l i = ⟨2, (at1 l i).at'⟩ ↔ state l i = 2 by
    rw [← at1_st]
    constructor
    · intro e; rw [e]
    · intro e; rw [← e])
  have C := Lib.hid (fun W (H : Held W p l) => turn_told H i ⟨2, (at1 l i).at'⟩ ⟨0, 0⟩ (by simp))
  have H := Lib.hid h.1
  clear h
  dsimp only [slotV] at A C
  have F := run_at (at1 l i)
  generalize hu : (at1 l i).at' = u at *
  generalize (at1 l i).st = u' at *
  go_enter Try.func19, Try.ntmps19
  go_wp2_with fail
  refine A.out.mono ?_
  rintro e w1 ⟨rfl, hb1⟩
  go_wp2_with fail
  refine (C.out w1 (H.out.kept hb1)).mono ?_
  rintro e w2 ⟨rfl, h1, hb⟩
  go_wp2_with fail
  go_ret
  have he := HE.out
  have hb2 := (Turned.of_below (S := fun j => j = p) hb1).trans hb
  unfold free
  by_cases hs : state l i = 2
  · rw [if_pos (he.2 hs)] at h1
    rw [if_pos hs]
    exact ⟨by rw [decide_eq_true (he.2 hs)]; rfl, ⟨h1, HP.out.set _ (.inr (.inl ⟨rfl, rfl⟩))⟩, hb2⟩
  · rw [if_neg fun e => hs (he.1 e)] at h1
    rw [if_neg hs]
    exact ⟨by rw [decide_eq_false fun e => hs (he.1 e)]; rfl, ⟨h1, HP.out⟩, hb2⟩
end
theorem held_new (w : World) (n : Nat) (hn : n ≤ 8) : Held (w.alloc (.cells #[.int .i64 0, .int .i64 0, .int .i64 0, .int .i64 0, .int .i64 0, .int .i64 0, .int .i64 0, .int .i64 0, .int .i64 0, .int .i64 0, .int .i64 0, .int .i64 0, .int .i64 0, .int .i64 0, .int .i64 0, .int .i64 0, .int .i64 (n : Nat)] 50)) w.heap.size (List.replicate n slot0) := by
  refine ⟨by simpa using hn, _, World.alloc_heap_new w _, rfl, by simp, fun i hi => ?_⟩
  have hi' : i < 8 := by simp at hi; omega
  rw [List.getElem_replicate]
  rcases i with _ | _ | _ | _ | _ | _ | _ | _ | i <;> first | exact ⟨rfl, rfl⟩ | omega
set_option maxHeartbeats 400000 in
theorem New_told (n : Int) (w : World) : Calls Try.prog 10 #[.int .i64 n] w fun e W' => e = .returned (.pointer (some ⟨w.heap.size, 0, none⟩)) ∧ Keeps W' w.heap.size (new n) ∧ Below w.heap.size w W' := by
  have HP := Lib.hid (plain_new n)
  go_enter Try.func10, Try.ntmps10
  by_cases h1 : n < 0
  · have HN := Lib.hid (held_new w 0 (by omega))
    have HS := Lib.hid (show new n = List.replicate 0 slot0 by unfold new size; rw [show (max 0 (min n 8)).toNat = 0 by omega])
    go_wp2_with fail
    all_goals first
      | omega
      | (go_ret; exact ⟨rfl, ⟨HS.out ▸ HN.out, HP.out⟩, (Below.refl _ w).alloc (Nat.le_refl _) _⟩)
  by_cases h2 : 8 < n
  · have HN := Lib.hid (held_new w 8 (by omega))
    have HS := Lib.hid (show new n = List.replicate 8 slot0 by unfold new size; rw [show (max 0 (min n 8)).toNat = 8 by omega])
    go_wp2_with fail
    all_goals first
      | omega
      | (go_ret; exact ⟨rfl, ⟨HS.out ▸ HN.out, HP.out⟩, (Below.refl _ w).alloc (Nat.le_refl _) _⟩)
  · obtain ⟨m, rfl⟩ := Int.eq_ofNat_of_zero_le (show 0 ≤ n by omega)
    have HN := Lib.hid (held_new w m (by omega))
    have HS := Lib.hid (show new (m : Int) = List.replicate m slot0 by unfold new; rw [size_in (by omega)])
    go_wp2_with fail
    all_goals first
      | omega
      | (go_ret; exact ⟨rfl, ⟨HS.out ▸ HN.out, HP.out⟩, (Below.refl _ w).alloc (Nat.le_refl _) _⟩)
end Go.Proofs.Ythokjkllmflgkaa.Kep
