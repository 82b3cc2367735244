/-
  Rings: which hashes go elsewhere, as the program tells it (package ring: Moved).
-/
import Derived.Test.YtppbbhijlkfioaaRinE
import Derived.Test.YtppbbhijlkfioaaBPts
import Derived.Maps.AppendAt
namespace Go.Proofs.Ytppbbhijlkfioaa.Rin
open Go.RowKit Go.Shelf Rgn
open Pts (Pt ptV ptsV Lies Rise ofL hsh ofL_rise)
open Pol (below2 below_alloc Bk polV OwnI ownI_nil intsV)
open Num (LiesN numsV)

attribute [local go_sem] Oper.semAt_some

/-- One number more: the walk's step at 's = append(s, v)', in a round. -/
theorem wpListIn_moreI {F : Fence} {n : Nat} {w : World} {ops : Array Oper} {rest : List Oper} {o : Oper} {a : Act} {Q : Exit → Act → World → Prop} (hgd : o.guard = none) (s x : Operand)
    (ho : o.op = .call { callee := .builtin .append, args := #[s, x], argTypes := #[33, 33] }) (B g : Nat) (zs : List Int) (y : Int) (v : Value) (hs : a.eval s = v) (hx : a.eval x = .slice (some ⟨g, 0, none⟩) 1 1)
    (hown : OwnI B w v zs) (c0 : w.cell? ⟨g, 0, none⟩ = some (.int .i64 y)) (hl : zs.length ≤ 1099511627776) (hB : B ≤ w.heap.size)
    (h : ∀ g' cap' w', Hid (OwnI B w' (.slice (some ⟨g', 0, none⟩) (zs.length + 1) cap') (zs ++ [y])) → Hid (w.grownBy w' v.ownBlock) → wpListIn F n Try.prog ops Q rest (a.put o.dst (.slice (some ⟨g', 0, none⟩) (zs.length + 1) cap')) w') : wpListIn F n Try.prog ops Q (o :: rest) a w := by
  obtain ⟨i0, hi, hz0, hz1, hz2⟩ := info_parts Pol.info_int
  refine wpListIn_append_own _ hgd s x 33 ho B 3 i0 (.int .i64 0) 1 8 Try.underlying33 hi hz0 hz1 hz2 rfl (by decide) v zs.length (zs.map fun z => .int .i64 z) hs hown ⟨g, 0, none⟩ 1 1 [.int .i64 y] hx rfl ?c1 ?c2 ?c3 ?c4 hB ?_
  case c1 =>
    intro j u hj
    match j, hj with
    | 0, hj => simp at hj; subst hj; simpa [Addr.add] using c0
  case c2 => intro u hu; simp at hu; subst hu; rfl
  case c3 => unfold maxLen; omega
  case c4 => omega
  intro v' w' h1 h2 _
  obtain ⟨g', cap', rfl⟩ := ownsRow_succ h1
  refine h g' cap' w' ?_ h2
  show OwnI B w' _ (zs ++ [y])
  unfold OwnI
  rw [List.map_append, List.length_append]
  exact h1
theorem ownI_ne {B : Nat} {W : World} {v : Value} {bs : List Int} (h : OwnI B W v bs) {j : Nat} {o : Obj} (hj : W.heap[j]? = some o) (hno : ∀ cur, o ≠ .cells cur 3 (0, 0)) : v.ownBlock = none ∨ v.ownBlock ≠ some j := by
  rcases h.2 with ⟨rfl, _⟩ | ⟨g, cap, cur, rfl, _, hg, _⟩
  · exact .inl rfl
  · refine .inr fun e => ?_
    have e' : g = j := by simpa [Value.ownBlock] using e
    subst e'; rw [hg] at hj; cases hj; exact hno cur rfl

theorem OldBut.cell {p b o : Nat} {A V : World} {v : Value} (h : OldBut p A V) (hc : A.cell? ⟨b, o, none⟩ = some v) (hp : b ≠ p) : V.cell? ⟨b, o, none⟩ = some v := by
  have hlt := World.block_lt_of_cell? A _ hc
  have := h b _ (Array.getElem?_eq_getElem hlt) hp
  rw [World.cell?_of_block (w := A) (a := ⟨b, o, none⟩) (this.trans (Array.getElem?_eq_getElem hlt).symm)]; exact hc
theorem OldBut.nums {w A V : World} {k : IntKind} {a : Option Addr} {cap : Nat} {zs : List Int} (h : OldBut w.heap.size A V) (hl : LiesN k w a cap zs) (hb : Below w.heap.size w A) : LiesN k V a cap zs :=
  ⟨hl.max, hl.len, fun hn => by
    obtain ⟨b, off, e, hc⟩ := hl.cell hn
    refine ⟨b, off, e, fun i x hi => ?_⟩
    have hlt := World.block_lt_of_cell? w _ (hc i x hi)
    have hlt' : b < w.heap.size := hlt
    exact h.cell ((hb.cell hlt).trans (hc i x hi)) (by omega)⟩
theorem OldBut.pts {p : Nat} {A V : World} {a : Option Addr} {cap : Nat} {L : List Pt} {t : TypeId} {s : Option Addr} {m n : Nat} (h : OldBut p A V) (hl : Lies A a cap L) (hp : A.heap[p]? = some (.cells #[.slice s m n] t (0, 0))) : Lies V a cap L :=
  ⟨hl.max, hl.len, fun hn => by
    obtain ⟨b, off, e, hc⟩ := hl.cell hn
    have hbp : b ≠ p := by
      rintro rfl
      cases L with
      | nil => exact hn rfl
      | cons x L =>
        have := (hc 0 x rfl).1
        simp only [World.cell?, hp] at this
        rcases Nat.eq_zero_or_pos off with h0 | h0
        · subst h0; simp at this
        · simp [Array.getElem?_eq_none (show (#[Value.slice s m n]).size ≤ off by simp; omega)] at this
    exact ⟨b, off, e, fun i x hi => ⟨h.cell (hc i x hi).1 hbp, h.cell (hc i x hi).2 hbp⟩⟩⟩

theorem cell_new (w : World) (v : Value) (t : TypeId) (n : Nat) (h : n = w.heap.size) : (w.alloc (.cells #[v] t)).cell? ⟨n, 0, none⟩ = some v := by subst h; simp
theorem three_cells (w : World) (v f g : Value) (t t' t'' : TypeId) :
    (((w.alloc (.cells #[v] t)).alloc (.cells #[f] t')).alloc (.cells #[g] t'')).cell? ⟨w.heap.size, 0, none⟩ = some v ∧ (((w.alloc (.cells #[v] t)).alloc (.cells #[f] t')).alloc (.cells #[g] t'')).cell? ⟨w.heap.size + 1, 0, none⟩ = some f ∧ (((w.alloc (.cells #[v] t)).alloc (.cells #[f] t')).alloc (.cells #[g] t'')).cell? ⟨w.heap.size + 2, 0, none⟩ = some g :=
  ⟨Fnv.cell_alloc_o _ (Fnv.cell_alloc_o _ (cell_new w v t _ rfl)), Fnv.cell_alloc_o _ (cell_new _ f t' _ (by rw [World.size_alloc])), cell_new _ g t'' _ (by rw [World.size_alloc, World.size_alloc])⟩

/-- Between two rounds: the box holds a row of what has come. -/
structure Sb (n1 p : Nat) (w : World) (bs : List Mv) (V : World) : Prop where
  box : ∃ v, V.heap[p]? = some (.cells #[v] 33 (0, 0)) ∧ OwnI n1 V v (bs.map fun x => (x.1 : Int))
  below : Below w.heap.size w V
  size : n1 ≤ V.heap.size
theorem Sb.own {n1 p B : Nat} {w : World} (hB : n1 ≤ B) (h0 : w.heap.size ≤ n1) : OwnFrom B (fun bs V => Sb n1 p w bs V) := fun bs X Y row h hg hr => by
  obtain ⟨v, hv, ho⟩ := h.box
  refine ⟨⟨v, (hg.block p (Array.getElem?_eq_some_iff.1 hv).1 (fun e => ?_)).trans hv, ?_⟩, h.below.grown hg (Nat.le_trans h0 h.size) (fun k e => by have := (hr k e).1; omega), Nat.le_trans h.size hg.size⟩
  · obtain ⟨_, o, hob, hc⟩ := hr p e.symm
    rw [hv] at hob; cases hob; cases hc
  · refine World.ownsRow.kept ho hg ?_
    cases row with
    | none => cases v.ownBlock <;> simp
    | some r =>
      obtain ⟨_, o, hob, hc⟩ := hr r rfl
      exact ownI_ne ho hob (fun cur e => by subst e; cases hc)
/-- Moved's frame in a round. -/
abbrev frN (v0 v1 v2 : Value) (p : Nat) (f g it : Value) (x : Mv) : Act := { tmps := #[v0, v1, v2, undef, undef, undef, .slice none 0 0, .pointer (some ⟨p, 0, none⟩), .int .i64 (x.1 : Nat), v2, v0, f, v1, g, it, .int .i64 (x.1 : Nat), .int .u64 x.2, undef, undef, undef, undef, undef], defers := [] }

set_option maxRecDepth 100000 in
set_option maxHeartbeats 400000 in
theorem Moved_in (m : Nat) (hm : 10 ≤ m) (a : Option Addr) (cap : Nat) (z : List Bk) (a' : Option Addr) (cap' : Nat) (z' : List Bk) (aH : Option Addr) (cH : Nat) (hs : List Int) (w : World) (hz : Pol.Lies w a cap z) (hl : z.length ≤ 1000000000) (hz' : Pol.Lies w a' cap' z') (hl' : z'.length ≤ 1000000000)
    (hH : LiesN .u64 w aH cH hs) (hs20 : hs.length ≤ 1000000000000) :
    CallsIn Fence.wide m Try.prog 14 #[polV a cap z, polV a' cap' z', numsV aH cH hs] w fun e W' => ∃ v, e = .returned v ∧ OwnI w.heap.size W' v (mvK (ofL hsh z) (ofL hsh z') hs hs.length) ∧ Below w.heap.size w W' := by
  have h1 : 1 ≤ m := by omega
  have HH := Lib.hid hH
  have al := below_alloc w (.cells #[.slice none 0 0] 33)
  have C1 := Lib.hid (of_told a cap z (w.alloc (.cells #[.slice none 0 0] 33)) (hz.kept al) hl)
  have C2 := Lib.hid (fun W (hb : Below w.heap.size w W) => of_told a' cap' z' W (hz'.kept hb) hl')
  have RA := Lib.hid (ofL_rise hsh z)
  have RB := Lib.hid (ofL_rise hsh z')
  have AL := Lib.hid al
  have hp0 : (w.alloc (.cells #[.slice none 0 0] 33)).heap[w.heap.size]? = some (.cells #[.slice none 0 0] 33 (0, 0)) := World.alloc_heap_new w _
  have HP0 := Lib.hid hp0
  have hsz : (w.alloc (.cells #[.slice none 0 0] 33)).heap.size = w.heap.size + 1 := by simp
  clear hz hz' hH al hp0
  generalize ofL hsh z = A at *
  generalize ofL hsh z' = B at *
  refine callsIn_of_wp_marks Try.func14 rfl trivial ?_ rfl
  simp only [Try.ntmps14, List.size_toArray, List.length_cons, List.length_nil, Nat.reduceAdd, Nat.reduceSub, Array.replicate_succ, Array.replicate_zero, List.push_toArray, List.append_toArray, List.nil_append, List.cons_append]
  gi_wp2
  refine ⟨trivial, ?_⟩
  gi_at_call 27
  refine (callsIn_wide.2 C1.out).mono ?_
  rintro e w1 ⟨aP, cP, rfl, hP, hb⟩
  have B1 := Lib.hid (below2 AL.out hb)
  have P1 := Lib.hid hP
  have HP1 := Lib.hid ((hb.block _ (by omega)).trans HP0.out)
  have hz1 := hb.size
  rw [hsz] at hz1
  clear hP hb C1 HP0 AL hsz
  gi_wp2
  refine ⟨trivial, ?_⟩
  gi_at_call 27
  refine (callsIn_wide.2 (C2.out w1 B1.out)).mono ?_
  rintro e w2 ⟨aQ, cQ, rfl, hQ, hb⟩
  have B2 := Lib.hid (below2 B1.out hb)
  have P2 := Lib.hid (P1.out.kept hb)
  have Q2 := Lib.hid hQ
  have HP2 := Lib.hid ((hb.block _ (by omega)).trans HP1.out)
  have hz2 := hb.size
  clear hQ hb C2 HP1 P1 B1
  gi_wp2
  refine ⟨trivial, ?_⟩
  gi_at_call 26
  refine (callsIn_wide.2 (moves_told (numsV aH cH hs) (askV aP cP A) (askV aQ cQ B) rfl rfl rfl w2)).mono ?_
  rintro e w3 ⟨rfl, hw3⟩
  have hb3 : Below w2.heap.size w2 w3 := by rw [hw3]; exact (((Below.refl _ w2).alloc (Nat.le_refl _) _).alloc (by simp) _).alloc (by simp; omega) _
  have B3 := Lib.hid (below2 B2.out hb3)
  have P3 := Lib.hid (P2.out.kept hb3)
  have Q3 := Lib.hid (Q2.out.kept hb3)
  have HP3 := Lib.hid ((hb3.block _ (by omega)).trans HP2.out)
  obtain ⟨c0, c1, c2⟩ : w3.cell? ⟨w2.heap.size, 0, none⟩ = some (numsV aH cH hs) ∧ w3.cell? ⟨w2.heap.size + 1, 0, none⟩ = some (askV aP cP A) ∧ w3.cell? ⟨w2.heap.size + 2, 0, none⟩ = some (askV aQ cQ B) := by
    rw [hw3]; exact three_cells _ _ _ _ _ _ _
  have hz3 : w3.heap.size = w2.heap.size + 3 := by rw [hw3]; simp
  have HA := Lib.hid (show ∀ V, OldBut w.heap.size w3 V → LiesN .u64 V aH cH hs ∧ Lies V aP cP A ∧ Lies V aQ cQ B ∧ V.cell? ⟨w2.heap.size, 0, none⟩ = some (numsV aH cH hs) ∧ V.cell? ⟨w2.heap.size + 1, 0, none⟩ = some (askV aP cP A) ∧ V.cell? ⟨w2.heap.size + 2, 0, none⟩ = some (askV aQ cQ B) from
    fun V hV => ⟨hV.nums HH.out B3.out, hV.pts P3.out HP3.out, hV.pts Q3.out HP3.out, hV.cell c0 (by omega), hV.cell c1 (by omega), hV.cell c2 (by omega)⟩)
  have HT := Lib.hid (moves_through w3 w3 w2.heap.size (w2.heap.size + 1) (w2.heap.size + 2) w.heap.size aH cH hs aP cP A aQ cQ B RA.out RB.out HA.out (Below.refl _ _))
  have hS0 : Sb w3.heap.size w.heap.size w [] w3 := ⟨⟨_, HP3.out, ownI_nil _ _⟩, B3.out, Nat.le_refl _⟩
  clear hw3 hb3 c0 c1 c2 HA P2 Q2 HP2 B2 P3 Q3 HP3 HH
  gi_wp2
  refine wpIn_range_through (gf := 43) rfl (enters_of Try.func43 (by kernel_rfl) rfl) HT.out (fun _ => rfl) (fun i o hi ho => ?hsp) (fun bs V => Sb w3.heap.size w.heap.size w bs V) (Sb.own (Nat.le_refl _) (by omega)) hS0
    (fun y act _ => act = frN (polV a cap z) (polV a' cap' z') (numsV aH cH hs) w.heap.size (askV aP cP A) (askV aQ cQ B) (.func (.func 43) #[] #[.pointer (some ⟨w2.heap.size, 0, none⟩), .pointer (some ⟨w2.heap.size + 1, 0, none⟩), .pointer (some ⟨w2.heap.size + 2, 0, none⟩)]) y) ?hAx ?hassign ?hbody ?hdone
  case hsp =>
    unfold spM
    rw [ho]; simp
  case hAx =>
    rintro y act u X Y row h _ _
    exact h
  case hassign =>
    intro kk pre y U K hi hlen' hK
    have HI := Lib.hid hi
    have HK := Lib.hid hK
    clear hi hK
    gi_wp2
    exact HK.out _ _ (Keeps.refl _) HI.out rfl
  case hbody =>
    rintro kk pre y act U hi rfl hlen'
    obtain ⟨v, hv, ho⟩ := hi.box
    have hU := hi.size
    have HV := Lib.hid hv
    have HO := Lib.hid ho
    have HB := Lib.hid hi.below
    have hpl : pre.length ≤ 1000000000000 := by
      have h2 : (mvP A B hs hs.length).length ≤ hs.length := by rw [← List.length_map (f := fun x : Mv => (x.1 : Int)), mvP_fst]; exact mvK_length _ _ _ _
      omega
    have b0 : U.cell? ⟨w.heap.size, 0, none⟩ = some v := by simp [World.cell?, hv]
    clear hi hv ho
    gi_wp2_with (gi_at_builtin; refine wpListIn_moreI rfl _ _ rfl w3.heap.size U.heap.size (pre.map fun x : Mv => (x.1 : Int)) (y.1 : Int) v rfl rfl (World.ownsRow.kept HO.out (World.grownBy_alloc U _ none) (by cases v.ownBlock <;> simp)) ?c0 ?c1 ?c2 ?_)
    case c0 => simp
    case c1 => simp; omega
    case c2 => simp; omega
    intro g' cap2 w4 ho4 hg4
    have hlt : w.heap.size < U.heap.size := (Array.getElem?_eq_some_iff.1 HV.out).1
    have hv1 : (U.alloc (.cells #[.int .i64 (y.1 : Nat)] 3)).heap[w.heap.size]? = some (.cells #[v] 33 (0, 0)) := (Below.heap_alloc U _ _ hlt).trans HV.out
    have ho1 : OwnI w3.heap.size (U.alloc (.cells #[.int .i64 (y.1 : Nat)] 3)) v (pre.map fun x : Mv => (x.1 : Int)) := World.ownsRow.kept HO.out (World.grownBy_alloc U _ none) (by cases v.ownBlock <;> simp)
    have hv3 : w4.heap[w.heap.size]? = some (.cells #[v] 33 (0, 0)) := by
      refine (hg4.out.block _ (by simp; omega) (fun e => ?_)).trans hv1
      rcases ownI_ne ho1 hv1 (fun cur e => by cases e) with h | h
      · rw [h] at e; cases e
      · exact h e.symm
    have hb3 : w4.cell? ⟨w.heap.size, 0, none⟩ = some v := by simp [World.cell?, hv3]
    have hf3 : w4.frozen? ⟨w.heap.size, 0, none⟩ = false := by simp [World.frozen?, hv3]
    have HV3 := Lib.hid hv3
    have HO1 := Lib.hid ho1
    clear hv1 hv3 ho1
    gi_wp2
    refine ⟨?_, ⟨⟨_, Boxed.set _ HV3.out, ?_⟩, ?_, ?_⟩⟩
    · refine Keeps.trans (Keeps.trans (Keeps.below (below_alloc U _)) (Keeps.grown hg4.out fun r o e hr => ?_)) (Keeps.setCell _ _ _ fun o ho => ?_)
      · rcases HO1.out.2 with ⟨rfl, _⟩ | ⟨g, cap, cur, rfl, hgb, hg, _⟩
        · cases e
        · have e' : g = r := by simpa [Value.ownBlock] using e
          subst e'
          rw [hg] at hr; cases hr
          unfold spM
          rw [decide_eq_false (by omega)]; rfl
      · rw [HV3.out] at ho; cases ho
        unfold spM
        simp [Obj.isCells]
    · rw [List.map_append]
      refine (World.ownsRow.kept ho4.out (grownBy_setCell' w4 w.heap.size _) ?_)
      exact ownI_ne ho4.out HV3.out (fun cur e => by cases e)
    · exact ((HB.out.alloc HB.out.size _).grown hg4.out (by simp; omega) (fun r e => by have := (World.ownsRow.lt HO1.out r e).1; omega)).setCell (p := ⟨w.heap.size, 0, none⟩) (Nat.le_refl _) _
    · have := hg4.out.size
      simp [World.setCell] at this ⊢; omega
  case hdone =>
    intro V hi hd
    obtain ⟨v, hv, ho⟩ := hi.box
    have b0 : V.cell? ⟨w.heap.size, 0, none⟩ = some v := by simp [World.cell?, hv]
    rw [mvP_fst] at ho
    have HO := Lib.hid ho
    have HB := Lib.hid hi.below
    have HD := Lib.hid hd
    clear hi hv ho hd
    gi_wp2
    refine ⟨by simp, .inl ⟨_, _, rfl, run_takeDeferred HD.out, ?_⟩⟩
    refine ⟨_, results_tmp rfl _ _ _, v, rfl, ?_, ?_⟩
    · exact Pol.ownI_less (by omega) (World.ownsRow.kept HO.out (grownBy_putObj' V w3.heap.size _) (ownI_ne HO.out HD.out (fun cur e => by cases e)))
    · exact HB.out.grown (grownBy_putObj' V w3.heap.size _) HB.out.size (fun k e => by cases e; omega)

theorem Moved_told (a : Option Addr) (cap : Nat) (z : List Bk) (a' : Option Addr) (cap' : Nat) (z' : List Bk) (aH : Option Addr) (cH : Nat) (hs : List Int) (w : World) (hz : Pol.Lies w a cap z) (hl : z.length ≤ 1000000000) (hz' : Pol.Lies w a' cap' z') (hl' : z'.length ≤ 1000000000)
    (hH : LiesN .u64 w aH cH hs) (hs20 : hs.length ≤ 1000000000000) :
    Calls Try.prog 14 #[polV a cap z, polV a' cap' z', numsV aH cH hs] w fun e W' => ∃ v, e = .returned v ∧ OwnI w.heap.size W' v (mvK (ofL hsh z) (ofL hsh z') hs hs.length) ∧ Below w.heap.size w W' :=
  callsIn_wide.1 (Moved_in 10 (Nat.le_refl _) a cap z a' cap' z' aH cH hs w hz hl hz' hl' hH hs20)
end Go.Proofs.Ytppbbhijlkfioaa.Rin
