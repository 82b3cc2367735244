/-
  Rows of numbers, and the document's Ints and Gone (package gangplankref08).
-/
import Derived.Test.YtbejhkodfkcbpaaPolF
namespace Go.Proofs.Ytbejhkodfkcbpaa.Pol
open Go.RowKit Go.Shelf Rgn

/-- The value of a slice of so many numbers. -/
abbrev intsV (a : Option Addr) (cap : Nat) (zs : List Int) : Value := .slice a zs.length cap
/-- These numbers lie there. -/
structure LiesI (W : World) (a : Option Addr) (cap : Nat) (zs : List Int) : Prop where
  max : cap ≤ maxLen
  len : zs.length ≤ cap
  cell : zs ≠ [] → ∃ b off, a = some ⟨b, off, none⟩ ∧ ∀ i x, zs[i]? = some x → W.cell? ⟨b, off + i, none⟩ = some (.int .i64 x)
theorem LiesI.kept {W W' : World} {a : Option Addr} {cap : Nat} {zs : List Int} (h : LiesI W a cap zs) (hb : Below W.heap.size W W') : LiesI W' a cap zs :=
  ⟨h.max, h.len, fun hn => by
    obtain ⟨b, off, e, hc⟩ := h.cell hn
    refine ⟨b, off, e, fun i x hi => ?_⟩
    have c0 := hc i x hi
    exact (hb.cell (p := ⟨b, off + i, none⟩) (World.block_lt_of_cell? W _ c0)).trans c0⟩
theorem LiesI.at {W : World} {a : Option Addr} {cap : Nat} {zs : List Int} (h : LiesI W a cap zs) {k : Nat} (hk : k < zs.length) : ∃ b off, a = some ⟨b, off, none⟩ ∧ W.cell? ⟨b, off + k, none⟩ = some (.int .i64 zs[k]) := by
  obtain ⟨b, off, e, hc⟩ := h.cell (fun e => by rw [e] at hk; exact absurd hk (by simp))
  exact ⟨b, off, e, hc k _ (List.getElem?_eq_getElem hk)⟩
/-- Numbers that the call has laid. -/
def OwnI (B : Nat) (W : World) (v : Value) (zs : List Int) : Prop := W.ownsRow B 3 1 v zs.length (zs.map fun z => .int .i64 z)
theorem ownI_nil (B : Nat) (W : World) : OwnI B W (.slice none 0 0) [] := World.ownsRow_nil W B _ 1
theorem OwnI.kept {B : Nat} {W W' : World} {v : Value} {zs : List Int} (h : OwnI B W v zs) (hb : Below W.heap.size W W') : OwnI B W' v zs :=
  World.ownsRow.kept h (grown_none hb) (by cases v.ownBlock <;> simp)
theorem ownI_less {B B' : Nat} {W : World} {v : Value} {zs : List Int} (hB : B ≤ B') (h : OwnI B' W v zs) : OwnI B W v zs := by
  refine ⟨h.1, ?_⟩
  rcases h.2 with h0 | ⟨g, cap, cur, hv, hb, r⟩
  · exact .inl h0
  · exact .inr ⟨g, cap, cur, hv, Nat.le_trans hB hb, r⟩
theorem OwnI.lies {B : Nat} {W : World} {v : Value} {zs : List Int} (h : OwnI B W v zs) : ∃ a cap, v = intsV a cap zs ∧ LiesI W a cap zs := by
  rcases h.2 with ⟨rfl, h0⟩ | ⟨g, cap, cur, rfl, hb, hg, hn, hm, hs, htake⟩
  · have : zs = [] := List.eq_nil_of_length_eq_zero h0
    subst this
    exact ⟨none, 0, rfl, by unfold maxLen; omega, Nat.le_refl _, fun h => absurd rfl h⟩
  · refine ⟨some ⟨g, 0, none⟩, cap, rfl, hm, hn, fun _ => ⟨g, 0, rfl, fun i x hi => ?_⟩⟩
    have c0 := World.ownsRow.cells h (g := g) rfl i (.int .i64 x) (by rw [List.getElem?_map, hi]; rfl)
    rw [add_at] at c0
    exact c0
theorem info_int : (Try.prog.info? 3).map (fun i => (i.zero, i.size, i.bytes)) = some (some (.int .i64 0), 1, 8) := by kernel_rfl
/-- One number more. -/
theorem wpList_moreI {w : World} {ops : Array Oper} {rest : List Oper} {o : Oper} {a : Act} {Q : Exit → Act → World → Prop} (hgd : o.guard = none) (s x : Operand)
    (ho : o.op = .call { callee := .builtin .append, args := #[s, x], argTypes := #[31, 31] }) (B g : Nat) (zs : List Int) (y : Int) (v : Value) (hs : a.eval s = v) (hx : a.eval x = .slice (some ⟨g, 0, none⟩) 1 1)
    (hown : OwnI B w v zs) (c0 : w.cell? ⟨g, 0, none⟩ = some (.int .i64 y)) (hl : zs.length ≤ 1099511627776) (hB : B ≤ w.heap.size)
    (h : ∀ v' w', Hid (OwnI B w' v' (zs ++ [y])) → Hid (Below B w w') → wpList Try.prog ops Q rest (a.put o.dst v') w') : wpList Try.prog ops Q (o :: rest) a w := by
  obtain ⟨i0, hi, hz0, hz1, hz2⟩ := info_parts info_int
  refine wpList_append_own _ hgd s x 31 ho B 3 i0 (.int .i64 0) 1 8 Try.underlying31 hi hz0 hz1 hz2 rfl (by decide) v zs.length (zs.map fun z => .int .i64 z) hs hown ⟨g, 0, none⟩ 1 1 [.int .i64 y] hx rfl ?c1 ?c2 ?c3 ?c4 hB ?_
  case c1 =>
    intro j u hj
    match j, hj with
    | 0, hj => simp at hj; subst hj; simpa [Addr.add] using c0
  case c2 => intro u hu; simp at hu; subst hu; rfl
  case c3 => unfold maxLen; omega
  case c4 => omega
  intro v' w' h1 h2 _
  refine h v' w' ?_ ?_
  · show OwnI B w' v' (zs ++ [y])
    unfold OwnI
    rw [List.map_append, List.length_append]
    exact h1
  · exact (Below.refl B w).grown h2 hB (fun k hk => (World.ownsRow.lt hown k hk).1)

set_option maxRecDepth 100000 in
set_option maxHeartbeats 4000000 in
theorem refInts_any (a : Option Addr) (cap : Nat) (bs : List Int) (a' : Option Addr) (cap' : Nat) (bs' : List Int) (c : Bool) (hc : bs = bs' ↔ c = true) (w : World) (h : LiesI w a cap bs) (h' : LiesI w a' cap' bs') :
    Calls Try.prog 17 #[intsV a cap bs, intsV a' cap' bs'] w fun e W' => e = .returned (.bool c) ∧ Below w.heap.size w W' := by
  have H := Lib.hid h
  have H' := Lib.hid h'
  have HC := Lib.hid hc
  have hlen := h.len
  have hmax := h.max
  have hlen' := h'.len
  have hmax' := h'.max
  unfold maxLen at hmax hmax'
  clear h h' hc
  by_cases hL : bs.length = bs'.length
  · have e0 : ((bs.length : Int) != (bs'.length : Int)) = false := by simp [hL]
    have HL := Lib.hid hL
    clear hL
    go_enter Try.func17, Try.ntmps17
    go_wp2
    go_loopw [5] (fun i W => ∃ k : Nat, k ≤ bs.length ∧ i = .int .i64 k ∧ (∀ j, j < k → bs[j]? = bs'[j]?) ∧ Below w.heap.size w W) (fun i _ => bs.length - (intOf i).toNat)
    case atStart => exact ⟨0, Nat.zero_le _, rfl, fun j hj => absurd hj (by omega), Below.refl _ _⟩
    case round =>
      obtain ⟨k, hk, rfl, hno, hB⟩ := hrel
      have HN := Lib.hid hno
      have HB := Lib.hid hB
      clear hno hB
      by_cases hlt : k < bs.length
      · obtain ⟨b, off, rfl, c0⟩ := (H.out.kept HB.out).at hlt
        have hlt' : k < bs'.length := HL.out ▸ hlt
        obtain ⟨b', off', rfl, c0'⟩ := (H'.out.kept HB.out).at hlt'
        have HI := Lib.hid (show bs[k]? = some bs[k] from List.getElem?_eq_getElem hlt)
        have HI' := Lib.hid (show bs'[k]? = some bs'[k] from List.getElem?_eq_getElem hlt')
        generalize bs[k] = x at *
        generalize bs'[k] = y at *
        by_cases hx : x = y
        · have CC : (x != y) = false := by simp [hx]
          have HE := Lib.hid (show bs[k]? = bs'[k]? by rw [HI.out, HI'.out, hx])
          clear hx
          go_wp2_with fail
          go_quiet (fail)
          have HB2 := Lib.hid (below_drewN HB.out nq)
          go_wp2
          refine ⟨⟨k + 1, by omega, by go_num, fun j hj => ?_, HB2.out⟩, by simp [intOf]; omega⟩
          by_cases e : j = k
          · subst e; exact HE.out
          · exact HN.out j (by omega)
        · have CC : (x != y) = true := bne_iff_ne.2 hx
          have HF := Lib.hid (show c = false by
            cases c with
            | false => rfl
            | true =>
              have e := HC.out.2 rfl
              have h1 := HI.out
              rw [e, HI'.out] at h1
              cases h1; exact absurd rfl hx)
          clear hx
          go_wp2_with fail
          go_quiet (fail)
          have HB2 := Lib.hid (below_drewN HB.out nq)
          go_wp2
          go_ret
          exact ⟨by rw [HF.out]; rfl, HB2.out⟩
      · have HF := Lib.hid (HC.out.1 (by
          apply List.ext_getElem?
          intro j
          by_cases hj : j < bs.length
          · exact HN.out j (by omega)
          · rw [List.getElem?_eq_none (by omega), List.getElem?_eq_none (by rw [← HL.out]; omega)]))
        go_wp2
        go_ret
        exact ⟨by rw [HF.out]; rfl, HB.out⟩
  · have e0 : ((bs.length : Int) != (bs'.length : Int)) = true := bne_iff_ne.2 (by omega)
    have HF := Lib.hid (show c = false by
      cases c with
      | false => rfl
      | true => exact absurd (congrArg List.length (HC.out.2 rfl)) hL)
    clear hL
    go_enter Try.func17, Try.ntmps17
    go_wp2
    go_ret
    exact ⟨by rw [HF.out]; rfl, Below.refl _ _⟩
end Go.Proofs.Ytbejhkodfkcbpaa.Pol
