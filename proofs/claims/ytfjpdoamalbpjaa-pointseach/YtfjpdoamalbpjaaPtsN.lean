/-
  Points: what is told is collected (package slices: AppendSeq, Collect).
-/
import Derived.Test.YtfjpdoamalbpjaaPtsM
import Derived.Maps.AppendAt
namespace Go.Proofs.Ytfjpdoamalbpjaa.Pts
open Go.RowKit Go.Shelf Rgn
open Pol (below2 below_alloc Bk polV)

attribute [local go_sem] Oper.semAt_some

/-- A row of places that the call has made. -/
def OwnP (B : Nat) (W : World) (v : Value) (bs : List Pt) : Prop := W.ownsRow B 48 2 v bs.length (flat bs)
theorem ownP_nil (B : Nat) (W : World) : OwnP B W (.slice none 0 0) [] := World.ownsRow_nil W B _ 2
theorem OwnP.lies {B : Nat} {W : World} {v : Value} {bs : List Pt} (h : OwnP B W v bs) : ∃ a cap, v = ptsV a cap bs ∧ Lies W a cap bs := by
  rcases h.2 with ⟨rfl, h0⟩ | ⟨g, cap, cur, rfl, hb, hg, hn, hm, hs, htake⟩
  · have : bs = [] := List.eq_nil_of_length_eq_zero h0
    subst this
    exact ⟨none, 0, rfl, lies_nil W⟩
  · refine ⟨some ⟨g, 0, none⟩, cap, rfl, hm, hn, fun _ => ⟨g, 0, rfl, fun i x hi => ?_⟩⟩
    have hc := World.ownsRow.cells h (g := g) rfl
    obtain ⟨h0, h1⟩ := flat_get bs i x hi
    have c0 := hc _ _ h0
    have c1 := hc _ _ h1
    rw [Pol.add_at] at c0 c1
    exact ⟨c0, c1⟩
theorem info_pl : (Try.prog.info? 48).map (fun i => (i.zero, i.size, i.bytes)) = some (some (.agg #[.int .u64 0, .int .i64 0]), 2, 16) := by kernel_rfl
/-- One place more: the walk's step at 's = append(s, v)', in a round. -/
theorem wpListIn_moreP {F : Fence} {n : Nat} {w : World} {ops : Array Oper} {rest : List Oper} {o : Oper} {a : Act} {Q : Exit → Act → World → Prop} (hgd : o.guard = none) (s x : Operand)
    (ho : o.op = .call { callee := .builtin .append, args := #[s, x], argTypes := #[46, 46] }) (B g : Nat) (bs : List Pt) (y : Pt) (v : Value) (hs : a.eval s = v) (hx : a.eval x = .slice (some ⟨g, 0, none⟩) 1 1)
    (hown : OwnP B w v bs) (c0 : w.cell? ⟨g, 0, none⟩ = some (.int .u64 y.1)) (c1 : w.cell? ⟨g, 1, none⟩ = some (.int .i64 y.2)) (hl : bs.length ≤ 1099511627776) (hB : B ≤ w.heap.size)
    (h : ∀ g' cap' w', Hid (OwnP B w' (.slice (some ⟨g', 0, none⟩) (bs.length + 1) cap') (bs ++ [y])) → Hid (w.grownBy w' v.ownBlock) → wpListIn F n Try.prog ops Q rest (a.put o.dst (.slice (some ⟨g', 0, none⟩) (bs.length + 1) cap')) w') : wpListIn F n Try.prog ops Q (o :: rest) a w := by
  obtain ⟨i0, hi, hz0, hz1, hz2⟩ := info_parts info_pl
  refine wpListIn_append_own _ hgd s x 46 ho B 48 i0 (.agg #[.int .u64 0, .int .i64 0]) 2 16 Try.underlying46 hi hz0 hz1 hz2 rfl (by decide) v bs.length (flat bs) hs hown ⟨g, 0, none⟩ 1 1 [.int .u64 y.1, .int .i64 y.2] hx rfl ?c1 ?c2 ?c3 ?c4 hB ?_
  case c1 =>
    intro j u hj
    match j, hj with
    | 0, hj => simp at hj; subst hj; simpa [Addr.add] using c0
    | 1, hj => simp at hj; subst hj; simpa [Addr.add] using c1
  case c2 => intro u hu; simp at hu; rcases hu with rfl | rfl <;> rfl
  case c3 => unfold maxLen; omega
  case c4 => omega
  intro v' w' h1 h2 _
  obtain ⟨g', cap', rfl⟩ := ownsRow_succ h1
  refine h g' cap' w' ?_ h2
  show OwnP B w' _ (bs ++ [y])
  unfold OwnP
  rw [flat_more, List.length_append]
  exact h1

/-- Between two rounds: the box holds a row of what has come. -/
structure Sa (n0 Bs : Nat) (w : World) (bs : List Pt) (V : World) : Prop where
  box : ∃ v, V.heap[Bs]? = some (.cells #[v] 46 (0, 0)) ∧ OwnP n0 V v bs
  below : Below n0 w V
theorem ownP_ne {B : Nat} {W : World} {v : Value} {bs : List Pt} (h : OwnP B W v bs) {j : Nat} {o : Obj} (hj : W.heap[j]? = some o) (hno : ∀ cur, o ≠ .cells cur 48 (0, 0)) : v.ownBlock = none ∨ v.ownBlock ≠ some j := by
  rcases h.2 with ⟨rfl, _⟩ | ⟨g, cap, cur, rfl, _, hg, _⟩
  · exact .inl rfl
  · refine .inr fun e => ?_
    have e' : g = j := by simpa [Value.ownBlock] using e
    subst e'; rw [hg] at hj; cases hj; exact hno cur rfl
theorem Sa.own {n0 Bs B : Nat} {w : World} (h0 : n0 ≤ w.heap.size) (hB : n0 ≤ B) : OwnFrom B (fun bs V => Sa n0 Bs w bs V) := fun bs X Y row h hg hr => by
  obtain ⟨v, hv, ho⟩ := h.box
  refine ⟨⟨v, (hg.block Bs (Array.getElem?_eq_some_iff.1 hv).1 (fun e => ?_)).trans hv, ?_⟩, h.below.grown hg (Nat.le_trans h0 h.below.size) (fun k e => Nat.le_trans hB (hr k e).1)⟩
  · obtain ⟨_, o, hob, hc⟩ := hr Bs e.symm
    rw [hv] at hob; cases hob; cases hc
  · refine World.ownsRow.kept ho hg ?_
    cases row with
    | none => cases v.ownBlock <;> simp
    | some r =>
      obtain ⟨_, o, hob, hc⟩ := hr r rfl
      exact ownP_ne ho hob (fun cur e => by subst e; cases hc)
theorem Sa.below' {n0 Bs : Nat} {w : World} {bs : List Pt} {V V' : World} (h : Sa n0 Bs w bs V) (hb : Below V.heap.size V V') (h0 : n0 ≤ V.heap.size) : Sa n0 Bs w bs V' := by
  obtain ⟨v, hv, ho⟩ := h.box
  exact ⟨⟨v, (hb.block Bs (Array.getElem?_eq_some_iff.1 hv).1).trans hv, World.ownsRow.kept ho (Pol.grown_none hb) (by cases v.ownBlock <;> simp)⟩, h.below.trans (hb.mono h0)⟩
/-- AppendSeq's frame in a round. -/
abbrev frA (sv : Value) (Bs Bx : Nat) (x : Pt) : Act := { tmps := #[.slice none 0 0, sv, .pointer (some ⟨Bs, 0, none⟩), undef, .slice none 0 0, .pointer (some ⟨Bx, 0, none⟩), sv, ptV x, undef, undef, undef, undef, undef], defers := [] }

set_option maxRecDepth 100000 in
set_option maxHeartbeats 1000000 in
theorem AppendSeq_in (A w : World) (gf : Nat) (lb : Array Value) (eg : ∀ args w, (callFunc gf args).run Try.prog w = .ok (.enter gf args) w) (xs : List Pt) (hxs : xs.length ≤ 1099511627776) (hAw : A.heap.size ≤ w.heap.size)
    (hT : ∀ V, Below w.heap.size w V → Through Try.prog gf lb (fun p : Pt => #[ptV p]) xs (spO A.heap.size) V) (m : Nat) (hm : 10 ≤ m) :
    CallsIn Fence.wide m Try.prog 58 #[.slice none 0 0, .func (.func gf) #[] lb] w fun e W' => ∃ v, e = .returned v ∧ OwnP w.heap.size W' v xs ∧ Below w.heap.size w W' := by
  have h1 : 1 ≤ m := by omega
  have HT := Lib.hid hT
  clear hT
  refine callsIn_of_wp_marks Try.func58 rfl trivial ?_ rfl
  simp only [Try.ntmps58, List.size_toArray, List.length_cons, List.length_nil, Nat.reduceAdd, Nat.reduceSub, Array.replicate_succ, Array.replicate_zero, List.push_toArray, List.append_toArray, List.nil_append, List.cons_append]
  gi_wp2
  have hB0 := below_alloc w (.cells #[.slice none 0 0] 46)
  have hS0 : Sa w.heap.size w.heap.size w [] (w.alloc (.cells #[.slice none 0 0] 46)) := ⟨⟨_, World.alloc_heap_new w _, ownP_nil _ _⟩, hB0⟩
  have hz : (w.alloc (.cells #[.slice none 0 0] 46)).heap.size = w.heap.size + 1 := by simp
  have HT2 := Lib.hid (HT.out _ hB0)
  generalize hW0 : (w.alloc (.cells #[.slice none 0 0] 46)) = W0 at *
  clear hW0 hB0 HT
  refine wpIn_range_through (gf := gf) (lb := lb) rfl eg HT2.out (fun _ => rfl) (fun i o hi ho => ?hsp) (fun bs V => Sa w.heap.size w.heap.size w bs V) (Sa.own (Nat.le_refl _) (by omega)) hS0
    (fun y act U => ∃ Bx, U.heap[Bx]? = some (ptO y) ∧ act = frA (.func (.func gf) #[] lb) w.heap.size Bx y) ?hAx ?hassign ?hbody ?hdone
  case hsp =>
    unfold spO
    rw [Bool.or_eq_true]
    refine .inr ?_
    cases o <;> first | rfl | cases ho
  case hAx =>
    rintro y act u X Y row ⟨Bx, hx, rfl⟩ hg hr
    refine ⟨Bx, (hg.block Bx (Array.getElem?_eq_some_iff.1 hx).1 (fun e => ?_)).trans hx, rfl⟩
    obtain ⟨_, o, ho, hc⟩ := hr Bx e.symm
    rw [hx] at ho; cases ho; cases hc
  case hassign =>
    intro kk pre y U K hi hlen' hK
    have HI := Lib.hid hi
    have HK := Lib.hid hK
    clear hi hK
    gi_wp2
    exact HK.out _ _ (Keeps.below (below_alloc U _)) (HI.out.below' (below_alloc U _) HI.out.below.size) ⟨U.heap.size, World.alloc_heap_new U _, rfl⟩
  case hbody =>
    rintro kk pre y act U hi ⟨Bx, hx, rfl⟩ hlen'
    obtain ⟨x0, x1⟩ := cells_pt hx
    obtain ⟨v, hv, ho⟩ := hi.box
    have hU := hi.below.size
    have HV := Lib.hid hv
    have HO := Lib.hid ho
    have HB := Lib.hid hi.below
    have b0 : U.cell? ⟨w.heap.size, 0, none⟩ = some v := by simp [World.cell?, hv]
    clear hi hx hv ho
    gi_wp2_with (gi_at_builtin; refine wpListIn_moreP rfl _ _ rfl w.heap.size U.heap.size pre y v rfl rfl (World.ownsRow.kept HO.out (World.grownBy_alloc U _ none) (by cases v.ownBlock <;> simp)) ?c0 ?c1 ?c2 ?c3 ?_)
    case c0 => simp
    case c1 => simp
    case c2 => omega
    case c3 => simp; omega
    intro g' cap' w3 ho3 hg3
    have hlt : w.heap.size < U.heap.size := (Array.getElem?_eq_some_iff.1 HV.out).1
    have hv1 : (U.alloc (.cells #[.int .u64 y.1, .int .i64 y.2] 48)).heap[w.heap.size]? = some (.cells #[v] 46 (0, 0)) := (Below.heap_alloc U _ _ hlt).trans HV.out
    have ho1 : OwnP w.heap.size (U.alloc (.cells #[.int .u64 y.1, .int .i64 y.2] 48)) v pre := World.ownsRow.kept HO.out (World.grownBy_alloc U _ none) (by cases v.ownBlock <;> simp)
    have hv3 : w3.heap[w.heap.size]? = some (.cells #[v] 46 (0, 0)) := by
      refine (hg3.out.block _ (by simp; omega) (fun e => ?_)).trans hv1
      rcases ownP_ne ho1 hv1 (fun cur e => by cases e) with h | h
      · rw [h] at e; cases e
      · exact h e.symm
    have hb3 : w3.cell? ⟨w.heap.size, 0, none⟩ = some v := by simp [World.cell?, hv3]
    have hf3 : w3.frozen? ⟨w.heap.size, 0, none⟩ = false := by simp [World.frozen?, hv3]
    have HV3 := Lib.hid hv3
    have HO1 := Lib.hid ho1
    clear hv1 hv3 ho1
    gi_wp2
    refine ⟨?_, ⟨⟨_, Boxed.set _ HV3.out, ?_⟩, ?_⟩⟩
    · refine Keeps.trans (Keeps.trans (Keeps.below (below_alloc U _)) (Keeps.grown hg3.out fun r o e hr => ?_)) (Keeps.setCell _ _ _ fun o ho => ?_)
      · rcases HO1.out.2 with ⟨rfl, _⟩ | ⟨g, cap, cur, rfl, hgb, hg, _⟩
        · cases e
        · have e' : g = r := by simpa [Value.ownBlock] using e
          subst e'
          rw [hg] at hr; cases hr
          unfold spO
          rw [decide_eq_false (by omega)]; rfl
      · rw [HV3.out] at ho; cases ho
        unfold spO
        rw [decide_eq_false (show ¬ w.heap.size < A.heap.size by omega)]; rfl
    · refine (World.ownsRow.kept ho3.out (grownBy_setCell' w3 w.heap.size _) ?_)
      exact ownP_ne ho3.out HV3.out (fun cur e => by cases e)
    · exact ((HB.out.alloc HB.out.size _).grown hg3.out (by simp; omega) (fun r e => (World.ownsRow.lt HO1.out r e).1)).setCell (p := ⟨w.heap.size, 0, none⟩) (Nat.le_refl _) _
  case hdone =>
    intro V hi hd
    obtain ⟨v, hv, ho⟩ := hi.box
    have b0 : V.cell? ⟨w.heap.size, 0, none⟩ = some v := by simp [World.cell?, hv]
    have HO := Lib.hid ho
    have HB := Lib.hid hi.below
    have HD := Lib.hid hd
    clear hi hv ho hd
    gi_wp2
    refine ⟨by simp, .inl ⟨_, _, rfl, run_takeDeferred HD.out, ?_⟩⟩
    refine ⟨_, results_tmp rfl _ _ _, v, rfl, ?_, ?_⟩
    · exact World.ownsRow.kept HO.out (grownBy_putObj' V W0.heap.size _) (ownP_ne HO.out HD.out (fun cur e => by cases e))
    · exact HB.out.grown (grownBy_putObj' V W0.heap.size _) HB.out.size (fun k e => by cases e; omega)

set_option maxHeartbeats 400000 in
/-- What is told of a pool, as a row of places. -/
theorem Collect_told (A w : World) (Bp : Nat) (a : Option Addr) (cap : Nat) (z : List Bk) (hp : Pol.Lies A a cap z) (hA : Below A.heap.size A w) (hB : w.cell? ⟨Bp, 0, none⟩ = some (polV a cap z)) (hz : z.length ≤ 1000000000) :
    Calls Try.prog 43 #[.func (.func 45) #[] #[.pointer (some ⟨Bp, 0, none⟩)]] w fun e W' => ∃ v, e = .returned v ∧ OwnP w.heap.size W' v (pts hsh z) ∧ Below w.heap.size w W' := by
  have hlen : (pts hsh z).length ≤ 1099511627776 := by
    have : ∀ l : List Bk, (pts hsh l).length ≤ l.length * 128 := by
      intro l
      induction l with
      | nil => simp [pts]
      | cons x l ih =>
        have e1 : pts hsh (x :: l) = own hsh x ++ pts hsh l := by simp [pts]
        rw [e1, List.length_append, own_length, List.length_cons]
        have := cnt_le x.2
        omega
    have := this z
    omega
  have C := Lib.hid (callsIn_wide.1 (AppendSeq_in A w 45 #[.pointer (some ⟨Bp, 0, none⟩)] (enters_of Try.func45 (by kernel_rfl) rfl) (pts hsh z) hlen hA.size (fun V hV => places_through A V Bp a cap z hp (hA.trans (hV.mono hA.size)) ((hV.cell (World.block_lt_of_cell? w _ hB)).trans hB)) 10 (Nat.le_refl _)))
  clear hp hB
  go_enter Try.func43, Try.ntmps43
  go_wp2_with fail
  refine C.out.mono ?_
  rintro e w1 ⟨v, rfl, ho, hb⟩
  go_wp2_with fail
  go_ret
  exact ⟨v, rfl, ho, hb⟩
end Go.Proofs.Ytfjpdoamalbpjaa.Pts
