/-
  Points: what is told of a pool (package points: places).
-/
import Derived.Test.YtfjpdoamalbpjaaPtsL
namespace Go.Proofs.Ytfjpdoamalbpjaa.Pts
open Go.RowKit Go.Shelf Rgn
open Pol (below2 below_alloc Bk polV)

attribute [local go_sem] Oper.semAt_some

set_option maxHeartbeats 400000 in
theorem places_told (v : Value) (w : World) (hv : v.oneCell' = true) :
    Calls Try.prog 25 #[v] w fun e w' => e = .returned (.func (.func 45) #[] #[.pointer (some ⟨w.heap.size, 0, none⟩)]) ∧ w' = w.alloc (.cells #[v] 22) := by
  go_enter Try.func25, Try.ntmps25
  go_wp2
  go_ret
  exact ⟨rfl, rfl⟩

/-- What a round that collects places leaves alone: what lay there before, and all that is no place and no row of places. -/
def spO (n0 : Nat) (k : Nat) (o : Obj) : Bool := decide (k < n0) || match o with
  | .cells _ t _ => t != 46 && t != 48
  | _ => true
/-- What a round that tells one backend's places leaves alone. -/
def spI (N : Nat) (k : Nat) (o : Obj) : Bool := decide (N ≤ k) && match o with
  | .cells _ t _ => t == 35
  | _ => true
theorem spI_spO {n0 N k : Nat} {o : Obj} (h : spI N k o = true) : N ≤ k ∧ spO n0 k o = true := by
  unfold spI at h
  rw [Bool.and_eq_true, decide_eq_true_eq] at h
  refine ⟨h.1, ?_⟩
  unfold spO
  rw [Bool.or_eq_true]
  refine .inr ?_
  cases o <;> simp_all
/-- What lay in A lies in V as it lay. -/
def Old (A V : World) : Prop := ∀ (k : Nat) (o : Obj), A.heap[k]? = some o → V.heap[k]? = some o
theorem Old.lies {A V : World} (h : Old A V) {a : Option Addr} {cap : Nat} {z : List Bk} (hl : Pol.Lies A a cap z) : Pol.Lies V a cap z :=
  ⟨hl.max, hl.len, fun hn => by
    obtain ⟨b, off, e, hc⟩ := hl.cell hn
    have key : ∀ o v, A.cell? ⟨b, o, none⟩ = some v → V.cell? ⟨b, o, none⟩ = some v := fun o v hv => by
      have hlt := World.block_lt_of_cell? A _ hv
      have := h b _ (Array.getElem?_eq_getElem hlt)
      rw [World.cell?_of_block (w := A) (a := ⟨b, o, none⟩) (this.trans (Array.getElem?_eq_getElem hlt).symm)]; exact hv
    exact ⟨b, off, e, fun i x hi => ⟨key _ _ (hc i x hi).1, key _ _ (hc i x hi).2⟩⟩⟩
theorem Old.keeps {A V V' : World} {l : Nat} (h : Old A V) (hl : A.heap.size ≤ l) (k : Keeps (spO A.heap.size) (some l) V V') : Old A V' := fun i o hi => by
  have hlt := (Array.getElem?_eq_some_iff.1 hi).1
  exact k.same i o (h i o hi) (fun e => by cases e; omega) (by unfold spO; rw [decide_eq_true hlt]; rfl)
theorem Old.own {A : World} {B : Nat} (hB : A.heap.size ≤ B) {β : Type} : OwnFrom B (fun (_ : β) V => Old A V) := fun _ X Y row hs hg hr i o hi => by
  have hlt := (Array.getElem?_eq_some_iff.1 hi).1
  have hX := hs i o hi
  exact (hg.block i (Array.getElem?_eq_some_iff.1 hX).1 (fun e => by have := (hr i e.symm).1; omega)).trans hX
/-- The marks that loops have left, each with no call. -/
def Marks (N : Nat) (ds : List Nat) (V : World) : Prop := ds.Nodup ∧ ∀ D ∈ ds, N ≤ D ∧ V.heap[D]? = some (.deferred (some []))
abbrev mk (D : Nat) : Deferred := { target := .collected D, args := #[] }
/-- Out of a function with marks. -/
theorem leaves_marks {P : Program} {n : Nat} {fn : Func} {tmps : Array Value} {R : Ending → World → Prop} {N : Nat} (J : World → Prop) (hJ : ∀ V D o, N ≤ D → V.heap[D]? = some o → o.isCells = false → J V → J (V.putObj D (.deferred none)))
    (hR : ∀ V, J V → LeavesIn Fence.wide n P fn tmps R [] .returning V) : ∀ (ds : List Nat) (V : World), Marks N ds V → J V → LeavesInM Fence.wide n P fn tmps R (ds.map mk) .returning V
  | [], V, _, hj => hR V hj
  | D :: ds, V, hm, hj => by
    obtain ⟨hD, hd⟩ := hm.2 D (by simp)
    refine ⟨by simp, .inl ⟨D, _, rfl, run_takeDeferred hd, leaves_marks J hJ hR ds _ ⟨(List.nodup_cons.1 hm.1).2, fun D' h' => ?_⟩ (hJ V D _ hD hd rfl hj)⟩⟩
    obtain ⟨h1, h2⟩ := hm.2 D' (by simp [h'])
    exact ⟨h1, (World.putObj_heap_other (fun e => (List.nodup_cons.1 hm.1).1 (by first | exact e ▸ h' | (rw [e]; exact h') | (rw [← e]; exact h')))).trans h2⟩
theorem pts_take_succ (z : List Bk) (k : Nat) (h : k < z.length) : pts hsh (z.take (k + 1)) = pts hsh (z.take k) ++ own hsh z[k] := by
  unfold pts
  rw [List.take_succ_eq_append_getElem h, List.flatMap_append]
  simp
theorem pts_take_le (z : List Bk) (k : Nat) (h : k < z.length) : (pts hsh (z.take k)).length + (own hsh z[k]).length ≤ (pts hsh z).length := by
  have e : pts hsh z = pts hsh (z.take (k + 1)) ++ pts hsh (z.drop (k + 1)) := by
    unfold pts; rw [← List.flatMap_append, List.take_append_drop]
  rw [e, pts_take_succ z k h]; simp

/-- Between two rounds: what has come, the box of the function that is told, what lay there before, the marks. -/
structure St (J : List Pt → World → Prop) (l N : Nat) (A : World) (xs : List Pt) (ds : List Nat) (V : World) : Prop where
  j : J xs V
  box : V.heap[N]? = some (.cells #[.func (.yield l) #[] #[]] 69 (0, 0))
  old : Old A V
  marks : Marks N ds V
  size : N < V.heap.size
theorem St.grown {J : List Pt → World → Prop} {l N M : Nat} {A : World} {xs : List Pt} {ds : List Nat} {V V' : World} {row : Option Nat} (hJ : OwnFrom N J) (hA : A.heap.size ≤ M) (hN : N ≤ M) (hd : ∀ D ∈ ds, D < M) (h : St J l N A xs ds V) (hg : V.grownBy V' row)
    (hr : ∀ r, row = some r → M ≤ r ∧ ∃ o : Obj, V.heap[r]? = some o ∧ o.isCells = false) : St J l N A xs ds V' where
  j := hJ _ V V' row h.j hg fun r e => ⟨Nat.le_trans hN (hr r e).1, (hr r e).2⟩
  box := by
    refine (hg.block _ (Array.getElem?_eq_some_iff.1 h.box).1 (fun e => ?_)).trans h.box
    obtain ⟨_, o, ho, hc⟩ := hr _ e.symm
    rw [h.box] at ho; cases ho; cases hc
  old := Old.own hA () V V' row h.old hg hr
  marks := ⟨h.marks.1, fun D hD => ⟨(h.marks.2 D hD).1, (hg.block _ (Array.getElem?_eq_some_iff.1 (h.marks.2 D hD).2).1 (fun e => by have := (hr _ e.symm).1; have := hd D hD; omega)).trans (h.marks.2 D hD).2⟩⟩
  size := Nat.lt_of_lt_of_le h.size hg.size
theorem St.below {J : List Pt → World → Prop} {l N : Nat} {A : World} {xs : List Pt} {ds : List Nat} {V V' : World} (hJ : OwnFrom N J) (h : St J l N A xs ds V) (hb : Below V.heap.size V V') : St J l N A xs ds V' where
  j := hJ _ V V' none h.j (Pol.grown_none hb) (fun r e => by cases e)
  box := (hb.block _ (Array.getElem?_eq_some_iff.1 h.box).1).trans h.box
  old := fun i o hi => (hb.block _ (Array.getElem?_eq_some_iff.1 (h.old i o hi)).1).trans (h.old i o hi)
  marks := ⟨h.marks.1, fun D hD => ⟨(h.marks.2 D hD).1, (hb.block _ (Array.getElem?_eq_some_iff.1 (h.marks.2 D hD).2).1).trans (h.marks.2 D hD).2⟩⟩
  size := Nat.lt_of_lt_of_le h.size hb.size
/-- One more has been told on. -/
theorem St.told {J : List Pt → World → Prop} {l N : Nat} {A : World} {xs ys : List Pt} {ds : List Nat} {V V' : World} (hl : A.heap.size ≤ l) (hN : l < N) (h : St J l N A xs ds V) (hj : J ys V') (k : Keeps (spO A.heap.size) (some l) V V') : St J l N A ys ds V' where
  j := hj
  box := k.same _ _ h.box (fun e => by cases e; omega) (by unfold spO; rw [Bool.or_eq_true]; exact .inr rfl)
  old := h.old.keeps hl k
  marks := ⟨h.marks.1, fun D hD => ⟨(h.marks.2 D hD).1, k.same _ _ (h.marks.2 D hD).2 (fun e => by cases e; have := (h.marks.2 l hD).1; omega) (by unfold spO; rw [Bool.or_eq_true]; exact .inr rfl)⟩⟩
  size := Nat.lt_of_lt_of_le h.size k.size
theorem keeps_inner {A : World} {l N : Nat} {V V' : World} (hN : l < N) (k : Keeps (spO A.heap.size) (some l) V V') : Keeps (spI N) none V V' :=
  ⟨k.size, fun i o hi _ hs => by
    obtain ⟨h1, h2⟩ := spI_spO (n0 := A.heap.size) hs
    exact k.same i o hi (fun e => by cases e; omega) h2⟩
/-- places$1's frame. -/
abbrev frP (l Bp N : Nat) (v : Value) (n k : Nat) (u4 u9 u10 u11 u12 u13 u19 : Value) (ds : List Nat) : Act := { tmps := #[.func (.yield l) #[] #[], .pointer (some ⟨Bp, 0, none⟩), .pointer (some ⟨N, 0, none⟩), undef, u4, undef, v, .int .i64 (n : Nat), .int .i64 (k : Nat), u9, u10, u11, u12, u13, undef, undef, undef, undef, undef, u19], defers := ds.map mk }
/-- Its frame in a round. -/
abbrev frQ (l Bp N : Nat) (v : Value) (n k : Nat) (u4 u9 u10 u11 u12 u13 u19 : Value) (Bx : Nat) (x : Pt) : Act := { tmps := #[.func (.yield l) #[] #[], .pointer (some ⟨Bp, 0, none⟩), .pointer (some ⟨N, 0, none⟩), undef, u4, .pointer (some ⟨Bx, 0, none⟩), v, .int .i64 (n : Nat), .int .i64 (k : Nat), u9, u10, u11, u12, u13, ptV x, undef, undef, undef, undef, u19], defers := [] }
abbrev ptO (x : Pt) : Obj := .cells #[.int .u64 x.1, .int .i64 x.2] 48 (0, 0)
theorem cells_pt {W : World} {B : Nat} {x : Pt} (h : W.heap[B]? = some (ptO x)) : W.cell? ⟨B, 0, none⟩ = some (.int .u64 x.1) ∧ W.cell? ⟨B, 1, none⟩ = some (.int .i64 x.2) := by
  constructor <;> simp [World.cell?, h]

set_option maxRecDepth 100000 in
set_option maxHeartbeats 1000000 in
theorem places1_in (m : Nat) (hm : 10 ≤ m) (l Bp : Nat) (A : World) (a : Option Addr) (cap : Nat) (z : List Bk) (hp : Pol.Lies A a cap z) (J : List Pt → World → Prop) (W : World) (hA : Old A W) (hAl : A.heap.size ≤ l) (hlW : l < W.heap.size) (hJ : OwnFrom W.heap.size J)
    (hY : ∀ (k : Nat) (pre : List Pt) (x' : Pt) (W1 : World), J pre W1 → pre.length < (pts hsh z).length → YieldAt Fence.wide k Try.prog l #[ptV x'] W1 fun e W' => e = .returned (.bool true) ∧ J (pre ++ [x']) W' ∧ Keeps (spO A.heap.size) (some l) W1 W')
    (hB : W.cell? ⟨Bp, 0, none⟩ = some (polV a cap z)) (h0 : J [] W) :
    CallsIn Fence.wide m Try.prog 45 #[.func (.yield l) #[] #[], .pointer (some ⟨Bp, 0, none⟩)] W fun e W' => (∃ v, e = .returned v) ∧ J (pts hsh z) W' := by
  have h1 : 1 ≤ m := by omega
  have HY := Lib.hid hY
  have HP := Lib.hid hp
  have hlen := hp.len
  have hmax := hp.max
  unfold maxLen at hmax
  clear hY hp
  obtain ⟨N, hN⟩ : ∃ N, N = W.heap.size := ⟨_, rfl⟩
  rw [← hN] at hJ hlW
  refine callsIn_of_wp_marks Try.func45 rfl trivial ?_ rfl
  simp only [Try.ntmps45, List.size_toArray, List.length_cons, List.length_nil, Nat.reduceAdd, Nat.reduceSub, Array.replicate_succ, Array.replicate_zero, List.push_toArray, List.append_toArray, List.nil_append, List.cons_append]
  have hB2 : (W.alloc (.cells #[.func (.yield l) #[] #[]] 69)).cell? ⟨Bp, 0, none⟩ = some (polV a cap z) := Fnv.cell_alloc_o _ hB
  gi_wp2
  rw [← hN]
  have hst0 : St J l N A (pts hsh (z.take 0)) [] (W.alloc (.cells #[.func (.yield l) #[] #[]] 69)) := by
    refine ⟨?_, ?_, fun i o hi => ?_, ⟨List.nodup_nil, fun D hD => by cases hD⟩, by rw [hN]; simp⟩
    · simpa [pts] using hJ _ W _ none h0 (World.grownBy_alloc W _ none) (fun r e => by cases e)
    · rw [hN]; exact World.alloc_heap_new W _
    · exact (Below.heap_alloc W _ i (Array.getElem?_eq_some_iff.1 (hA i o hi)).1).trans (hA i o hi)
  have HJ := Lib.hid hJ
  generalize hW0 : (W.alloc (.cells #[.func (.yield l) #[] #[]] 69)) = W0 at *
  clear hW0 hB2 hB h0 hA hJ hN
  refine wpIn_loop (fun act V => ∃ (k : Nat) (u4 u9 u10 u11 u12 u13 u19 : Value) (ds : List Nat), k ≤ z.length ∧ act = frP l Bp N (polV a cap z) z.length k u4 u9 u10 u11 u12 u13 u19 ds ∧ St J l N A (pts hsh (z.take k)) ds V) (fun act _ => z.length - (intOf (act.tmps.getD 8 undef)).toNat) ⟨0, undef, undef, undef, undef, undef, undef, undef, [], Nat.zero_le _, rfl, hst0⟩ ?_
  clear hst0
  rintro act V ⟨k, u4, u9, u10, u11, u12, u13, u19, ds, hk, rfl, hS⟩
  have HS := Lib.hid hS
  clear hS
  by_cases hlt : k < z.length
  · obtain ⟨b, off, rfl, c0, c1⟩ := (HS.out.old.lies HP.out).at hlt
    have HX := Lib.hid (pts_take_succ z k hlt)
    have HL := Lib.hid (pts_take_le z k hlt)
    generalize z[k] = x at *
    gi_wp2_with (refine ⟨trivial, ?_⟩; gi_at_call 46; refine (callsIn_wide.2 (placesOf_told x _)).mono ?_; rintro e w' ⟨rfl, rfl⟩)
    have hbelow : Below V.heap.size V ((V.alloc (.cells #[.int .i64 x.1, .int .i64 x.2] 35)).alloc (bkO x)) := ((Below.refl _ V).alloc (Nat.le_refl _) _).alloc (by simp) _
    have HV := Lib.hid (HS.out.below HJ.out hbelow)
    have hbx : ((V.alloc (.cells #[.int .i64 x.1, .int .i64 x.2] 35)).alloc (bkO x)).heap[V.heap.size + 1]? = some (bkO x) := by
      have := World.alloc_heap_new (V.alloc (.cells #[.int .i64 x.1, .int .i64 x.2] 35)) (bkO x); rwa [World.size_alloc] at this
    have hN1 := HS.out.size
    have hN2 : N ≤ V.heap.size + 1 := by omega
    clear hbelow c0 c1
    generalize hV2 : ((V.alloc (.cells #[.int .i64 x.1, .int .i64 x.2] 35)).alloc (bkO x)) = V2 at *
    have hz2 : V2.heap.size = V.heap.size + 2 := by rw [← hV2]; simp
    clear hV2
    generalize V.heap.size + 1 = Bb at *
    generalize hu4 : Value.pointer (some ⟨V.heap.size, 0, none⟩) = w4
    clear hu4
    have hNV : N ≤ V2.heap.size := Nat.le_of_lt HV.out.size
    have hAV : A.heap.size ≤ V2.heap.size := by omega
    have hdV : ∀ D ∈ ds, D < V2.heap.size := fun D hD => (Array.getElem?_eq_some_iff.1 (HV.out.marks.2 D hD).2).1
    have HD := Lib.hid hdV
    clear hdV
    refine wpIn_range_through (gf := 61) (lb := #[.pointer (some ⟨Bb, 0, none⟩)]) rfl (enters_of Try.func61 (by kernel_rfl) rfl)
      (placesOf_through x Bb (spI N) (by unfold spI; rw [decide_eq_true hN2]; rfl) V2 hbx) (fun _ => rfl) (fun i o hi ho => ?hsp)
      (fun pre U => St J l N A (pts hsh (z.take k) ++ pre) ds U) (fun pre X Y row hs hg hr => St.grown HJ.out hAV hNV HD.out hs hg hr) (by rw [List.append_nil]; exact HV.out)
      (fun y act U => ∃ Bx, U.heap[Bx]? = some (ptO y) ∧ act = frQ l Bp N (polV (some ⟨b, off, none⟩) cap z) z.length k w4 (.bool true) (.pointer (some ⟨b, off + k * 2, none⟩)) (.agg #[.int .i64 x.1, .int .i64 x.2]) (.agg #[.int .i64 x.1, .int .i64 x.2]) (.func (.func 61) #[] #[.pointer (some ⟨Bb, 0, none⟩)]) u19 Bx y) ?hAx ?hassign ?hbody ?hdone
    case hsp =>
      unfold spI
      rw [decide_eq_true (show N ≤ i by omega)]
      cases o <;> first | rfl | cases ho
    case hAx =>
      rintro y act u X Y row ⟨Bx, hx, rfl⟩ hg hr
      refine ⟨Bx, (hg.block Bx (Array.getElem?_eq_some_iff.1 hx).1 (fun e => ?_)).trans hx, rfl⟩
      obtain ⟨_, o, ho, hc⟩ := hr Bx e.symm
      rw [hx] at ho; cases ho; cases hc
    case hassign =>
      intro kk pre y U K hi hlen' hK
      have HI := Lib.hid hi
      have HK := Lib.hid hK
      clear hi hK
      gi_wp2
      exact HK.out _ _ (Keeps.below (below_alloc U _)) (HI.out.below HJ.out (below_alloc U _)) ⟨U.heap.size, World.alloc_heap_new U _, rfl⟩
    case hbody =>
      rintro kk pre y act U hi ⟨Bx, hx, rfl⟩ hlen'
      have HI := Lib.hid hi
      have HX2 := Lib.hid hx
      obtain ⟨x0, x1⟩ := cells_pt hx
      have f0 : U.cell? ⟨N, 0, none⟩ = some (.func (.yield l) #[] #[]) := by simp [World.cell?, hi.box]
      obtain ⟨fn, tmps, assign, body, hy, hR⟩ := HY.out (kk - 1) _ y U hi.j (by have := HL.out; simp; omega)
      clear hi hx
      gi_wp2
      refine ⟨fun h => absurd h Bool.false_ne_true, ?_⟩
      refine (show RoundIn (Fence.wide.inRound _) _ _ _ _ _ _ _ _ _ from hR).mono ?_
      rintro e U2 ⟨rfl, hj2, hk2⟩
      have HJ2 := Lib.hid hj2
      have HK2 := Lib.hid hk2
      clear hj2 hk2 hy hR x0 x1 f0
      gi_wp2
      exact ⟨keeps_inner hlW HK2.out, HI.out.told hAl hlW (by rw [← List.append_assoc]; exact HJ2.out) HK2.out⟩
    case hdone =>
      intro U hi hd
      have HI := Lib.hid hi
      have HE := Lib.hid hd
      clear hi hd
      gi_wp2
      refine ⟨⟨k + 1, _, _, _, _, _, _, _, V2.heap.size :: ds, by omega, rfl, ?_⟩, ?_⟩
      · rw [HX.out]
        exact ⟨HI.out.j, HI.out.box, HI.out.old, ⟨List.nodup_cons.2 ⟨fun h => absurd (HD.out _ h) (by omega), HI.out.marks.1⟩, fun D hD => by
          rcases List.mem_cons.1 hD with rfl | hD
          · exact ⟨hNV, HE.out⟩
          · exact HI.out.marks.2 D hD⟩, HI.out.size⟩
      · simp [intOf]; omega
  · obtain rfl : k = z.length := by omega
    have HS2 := HS.out
    rw [List.take_length] at HS2
    have HS3 := Lib.hid HS2
    clear HS2 HS
    gi_wp2
    exact leaves_marks (N := N) (J (pts hsh z)) (fun U D o hD hU hc hj => HJ.out.putObj _ hj hD hU hc) (fun U hj => ⟨_, results_none rfl _ _ _, ⟨_, rfl⟩, hj⟩) ds V HS3.out.marks HS3.out.j

/-- What is told of a pool. -/
theorem places_through (A w : World) (Bp : Nat) (a : Option Addr) (cap : Nat) (z : List Bk) (hp : Pol.Lies A a cap z) (hA : Below A.heap.size A w) (hB : w.cell? ⟨Bp, 0, none⟩ = some (polV a cap z)) :
    Through Try.prog 45 #[.pointer (some ⟨Bp, 0, none⟩)] (fun p : Pt => #[ptV p]) (pts hsh z) (spO A.heap.size) w := by
  intro m l J W hb hl hl2 hJ hY h0
  have hlt := World.block_lt_of_cell? w _ hB
  refine callsIn_wide.2 (callsIn_wide.1 (places1_in 10 (Nat.le_refl _) l Bp A a cap z hp J W (fun i o hi => ?_) (Nat.le_trans hA.size hl) hl2 hJ hY ((hb.cell hlt).trans hB) h0))
  have h1 := (Array.getElem?_eq_some_iff.1 hi).1
  exact (hb.block i (Nat.lt_of_lt_of_le h1 hA.size)).trans ((hA.block i h1).trans hi)
end Go.Proofs.Ytfjpdoamalbpjaa.Pts
