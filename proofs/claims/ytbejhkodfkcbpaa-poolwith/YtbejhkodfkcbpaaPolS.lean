/-
  Pools: package pool's Gone (a map's keys, sorted).
-/
import Derived.Test.YtbejhkodfkcbpaaPolQ
import Derived.Test.YtbejhkodfkcbpaaPolT
namespace Go.Proofs.Ytbejhkodfkcbpaa.Pol
open Go.RowKit Go.Shelf Go.Sort Rgn

theorem sortsA (m : Nat) : AnyZI.SortsIn Try.prog Try.sortedA_ren Fence.wide m :=
  ⟨fun blk off cap ss W hH hblk hsz => callsIn_wide.2 (AnyM.slices_Sort_int Try.sortA blk off cap ss W hH hblk hsz),
   fun p cap W => callsIn_wide.2 (AnyM.slices_Sort_int_none Try.sortA p cap W)⟩
theorem Keys_any (mb : Option Nat) (W : World) :
    Calls Try.prog 34 #[.map mb] W fun e w' => e = .returned (.func (.func 45) #[] #[.pointer (some ⟨W.heap.size, 0, none⟩)]) ∧ w' = W.alloc (.cells #[.map mb] 49) :=
  (callsIn_wide (n := 5)).1 (AnyZI.keys_in Try.keysA Fence.wide 5 trivial rfl mb W)
set_option maxHeartbeats 1000000 in
theorem SortedKeys_any (b nn : Nat) (D0 : DataW Unit) (R : Value → Option (DataW Unit × List MemPlace)) (w : World) (hown : w.ownsMap Try.prog 3 R b nn D0) (hmax : Maps.size D0 ≤ maxLen) (hbytes : Maps.size D0 * 8 ≤ 140737488355328) :
    Calls Try.prog 33 #[.func (.func 45) #[] #[.pointer (some ⟨w.heap.size, 0, none⟩)]] (w.alloc (.cells #[.map (some b)] 49)) fun e w' => ∃ (v : Value) (ss : List Int), e = .returned v ∧ ss.Perm (intKeys D0) ∧
      w'.ownsRow w.heap.size 3 1 v ss.length ((ss.mergeSort (fun x y => decide (x ≤ y))).map encZ) ∧ Below w.heap.size w w' := by
  have hbl := hown.lt
  have hseq : SeqGives Fence.wide 2 Try.prog 45 #[.pointer (some ⟨w.heap.size, 0, none⟩)] encZ (fun ss => ss.Perm (intKeys D0)) (Maps.size D0) (w.alloc (.cells #[.map (some b)] 49)) :=
    AnyZI.keys_gives (ρ := Try.keysA_ren) { Try.keysA with } Fence.wide _ trivial rfl (by omega) w.heap.size b nn D0 _ (by simp) (by simp) (by
      obtain ⟨es, clock, hb, Ft, hs, hD⟩ := hown
      exact ⟨es, clock, (Below.heap_alloc _ _ b hbl).trans hb, Ft, hs, hD⟩)
  have cS := AnyZI.sorted_in Try.sortedA Fence.wide 5 trivial trivial trivial trivial rfl (by omega) (sortsA _) (enters_of Try.func44 (by kernel_rfl) rfl) 45 #[.pointer (some ⟨w.heap.size, 0, none⟩)] trivial (enters_of Try.func45 (by kernel_rfl) rfl) _ _ hmax hbytes _ hseq
  change CallsIn _ _ Try.prog 33 _ _ _ at cS
  refine ((callsIn_wide (n := 5)).1 cS).mono ?_
  rintro e w' ⟨v, ss, rfl, hS, hrow, _, hb⟩
  exact ⟨v, ss, rfl, hS, ownsRow_base_a hrow (by simp), ((Below.refl _ w).alloc (Nat.le_refl _) _).trans (hb.mono (by simp))⟩

/-- What is left in a map of Ids, those of others taken out. -/
structure Stays (D : DataW Unit) (bs bs' : List Bk) : Prop where
  tidy : Maps.Tidy D
  has : ∀ z, Maps.has D (.int .i64 z) = true ↔ (∃ x ∈ bs, x.1 = z) ∧ ∀ y ∈ bs', y.1 ≠ z
  le : Maps.size D ≤ bs.length
theorem Stays.start {D : DataW Unit} {bs : List Bk} (h : Keyd D (bs.map (·.1))) : Stays D bs [] :=
  ⟨h.tidy, fun z => by rw [h.has z]; simp, by have := h.le; rwa [List.length_map] at this⟩
theorem Stays.less {D : DataW Unit} {bs bs' : List Bk} (h : Stays D bs bs') (y : Bk) (ht : Maps.Tidy (D.del (.int .i64 y.1))) : Stays (D.del (.int .i64 y.1)) bs (bs' ++ [y]) := by
  refine ⟨ht, fun z => ?_, ?_⟩
  · by_cases e : z = y.1
    · subst e
      rw [Maps.has_del_same]
      constructor
      · intro h; cases h
      · rintro ⟨_, h2⟩; exact absurd rfl (h2 y (by simp))
    · rw [Maps.has_del_other (fun e' => e (by cases e'; rfl)), h.has z]
      constructor
      · rintro ⟨h1, h2⟩
        refine ⟨h1, fun y' hy' => ?_⟩
        rcases List.mem_append.1 hy' with hy' | hy'
        · exact h2 y' hy'
        · simp at hy'; subst hy'; exact fun e' => e e'.symm
      · rintro ⟨h1, h2⟩; exact ⟨h1, fun y' hy' => h2 y' (by simp [hy'])⟩
  · have := Maps.size_del (k := .int .i64 y.1) h.tidy
    have hle := h.le
    split at this <;> omega
theorem Stays.told {D : DataW Unit} {bs bs' : List Bk} (h : Stays D bs bs') {w : World} {R : Value → Option (DataW Unit × List MemPlace)} {b n : Nat} (hown : w.ownsMap Try.prog 3 R b n D) (ss : List Int) (hs : ss.Perm (intKeys D)) :
    ss.mergeSort (fun x y => decide (x ≤ y)) = gone bs bs' := by
  have hr := gone_rises bs bs'
  have hp : (gone bs bs').Perm (intKeys D) := by
    obtain ⟨es, hD, hpw, _⟩ := hown.entries law3
    obtain ⟨es', hD', hko⟩ := hown.keysOf
    obtain rfl : es = es' := by rw [hD] at hD'; simpa using hD'
    subst hD
    refine perm_intKeys hpw (fun p hp => by obtain ⟨v, hv⟩ := hko p hp; obtain ⟨x, _, hx, _⟩ := Maps.keyOf_i64 Try.underlying3 hv; exact ⟨x, hx⟩) (hr.imp fun h => Int.ne_of_lt h) fun z => ?_
    rw [gone_mem, find_pos, find_neg, h.has z]
  have e1 : ss.mergeSort leI = (gone bs bs').mergeSort leI := mergeSort_of_perm_i (hs.trans hp.symm)
  show ss.mergeSort leI = _
  rw [e1]
  exact List.mergeSort_of_pairwise (hr.imp fun {x y} h => decide_eq_true (Int.le_of_lt h))

set_option maxRecDepth 100000 in
set_option maxHeartbeats 4000000 in
theorem Gone_told (a : Option Addr) (cap : Nat) (bs : List Bk) (a' : Option Addr) (cap' : Nat) (bs' : List Bk) (w : World) (h : Lies w a cap bs) (h' : Lies w a' cap' bs') (hl : bs.length ≤ 1000000000) (hok : ∀ x ∈ bs, (Lit.int .i64 x.1).wf = true) (hok' : ∀ x ∈ bs', (Lit.int .i64 x.1).wf = true) :
    Calls Try.prog 18 #[polV a cap bs, polV a' cap' bs'] w fun e W' => ∃ v, e = .returned v ∧ GivesI W' v (gone bs bs') ∧ Below w.heap.size w W' := by
  have I := Lib.hid (ids_any a cap bs w h hok)
  have H' := Lib.hid h'
  have HK' := Lib.hid hok'
  have hC := h'.len
  have hM := h'.max
  unfold maxLen at hM
  clear h h' hok hok'
  go_enter Try.func18, Try.ntmps18
  go_wp2_with fail
  refine I.out.mono ?_
  rintro e w1 ⟨D, rfl, hown, hK, hb1⟩
  have HO := Lib.hid hown
  have HS := Lib.hid (Stays.start hK)
  have HB := Lib.hid hb1
  have hlt1 := hown.lt
  clear hown hK hb1 I
  go_wp2_with fail
  go_loopw [12] (fun i W => ∃ (m : Nat) (D : DataW Unit), m ≤ bs'.length ∧ i = .int .i64 m ∧ W.ownsMap Try.prog 3 elB w.heap.size bs.length D ∧ Stays D bs (bs'.take m) ∧ Below w.heap.size w W) (fun i _ => bs'.length - iN i)
  case atStart => exact ⟨0, D, Nat.zero_le _, rfl, HO.out, HS.out, HB.out⟩
  case round =>
    obtain ⟨m, D2, hm, rfl, hown, hS, hB⟩ := hrel
    have HB2 := Lib.hid hB
    have HS2 := Lib.hid hS
    have HO2 := Lib.hid hown
    clear hB hS hown HO HS HB
    by_cases hlt : m < bs'.length
    · obtain ⟨b, off, rfl, c0, c1⟩ := (H'.out.kept HB2.out).at hlt
      have hwf := HK'.out bs'[m] (List.getElem_mem hlt)
      have HT := Lib.hid (take_more bs' m hlt)
      generalize bs'[m] = x at *
      go_wp2_with (at_delete; refine wpList_delete_own _ rfl _ _ 49 3 rfl 4 law3 Try.underlying49 elB w.heap.size bs.length D2 rfl (HO2.out.alloc _) _ (.int .i64 x.1) rfl (Maps.keyOf_int_mk Try.underlying3 hwf) ?_)
      intro w2 hown2 hturn2
      have HO3 := Lib.hid hown2
      have HS3 := Lib.hid (HS2.out.less x (hown2.tidy law3))
      have HB3 := Lib.hid ((HB2.out.alloc HB2.out.size (.cells #[.int .i64 x.1, .int .i64 x.2] 24)).grown hturn2.grown (by have := HB2.out.size; simp; omega) (fun k hk => by cases hk; exact Nat.le_refl _))
      clear hown2 hturn2
      go_wp2
      refine ⟨⟨m + 1, _, by omega, by go_num, HO3.out, by rw [HT.out]; exact HS3.out, HB3.out⟩, by simp [iN]; omega⟩
    · obtain rfl : m = bs'.length := by omega
      have HS4 := Lib.hid (show Stays D2 bs bs' by have := HS2.out; rwa [List.take_length] at this)
      have hsz := HS4.out.le
      have SK := Lib.hid (SortedKeys_any w.heap.size bs.length D2 elB wr HO2.out (by unfold maxLen; omega) (by omega))
      go_wp2_with fail
      refine (Keys_any _ _).mono ?_
      rintro e w3 ⟨rfl, rfl⟩
      go_wp2_with fail
      refine SK.out.mono ?_
      rintro e w4 ⟨v, ss, rfl, hS, hrow, hb4⟩
      have hss := HS4.out.told HO2.out ss hS
      have hlen : ss.length = (gone bs bs').length := by rw [← hss, List.length_mergeSort]
      rw [hss, hlen] at hrow
      have HG := Lib.hid (OwnI.lies hrow)
      have HB4 := Lib.hid (below2 HB2.out hb4)
      clear hS hrow hb4 hss hlen
      go_wp2_with fail
      go_ret
      exact ⟨_, rfl, HG.out, HB4.out⟩
end Go.Proofs.Ytbejhkodfkcbpaa.Pol
