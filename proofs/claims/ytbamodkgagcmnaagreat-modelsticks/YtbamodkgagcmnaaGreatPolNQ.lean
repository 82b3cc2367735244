/-
  Package model: plain facts for the laws: a key has at most one live entry, in its own shard.
-/
import Derived.Test.YtbamodkgagcmnaaGreatMdlPQ
import Derived.Test.YtbamodkgagcmnaaGreatBFloQ
import Derived.Test.YtbamodkgagcmnaaGreatBPlmQ
set_option maxRecDepth 100000
namespace Go.Proofs.YtbamodkgagcmnaaGreat.Mdl
open Go.RowKit Go.Shelf RowG
open Prb (home)
open Tab (Ent Right)
open Flo (keys)
open Go.Proofs.YtbamodkgagcmnaaGreat.Mod (Bk Mo Inv)

/-- How often a key stands in a row. -/
def occ (key : ByteArray) (l : List ByteArray) : Nat := (l.filter fun k => decide (k = key)).length
theorem occ_next {key : ByteArray} {l : List ByteArray} {i : Nat} (hi : i < l.length) : occ key (l.take (i + 1)) = occ key (l.take i) + if l[i] = key then 1 else 0 := by
  unfold occ
  rw [List.take_succ_eq_append_getElem hi, List.filter_append, List.length_append]
  by_cases h : l[i] = key
  · rw [if_pos h]; simp [h]
  · rw [if_neg h]; simp [h]
theorem occ_none {key : ByteArray} {l : List ByteArray} (h : key ∉ l) : occ key l = 0 := by
  unfold occ
  rw [List.length_eq_zero_iff, List.filter_eq_nil_iff]
  intro x hx e
  rw [decide_eq_true_eq] at e
  exact h (e ▸ hx)
theorem occ_one {key : ByteArray} : ∀ {l : List ByteArray}, l.Nodup → occ key l ≤ 1
  | [], _ => Nat.zero_le _
  | x :: l, h => by
    obtain ⟨h1, h2⟩ := List.nodup_cons.1 h
    have ih := occ_one (key := key) h2
    by_cases e : x = key
    · have := occ_none (key := key) (l := l) (by rw [← e]; exact h1)
      unfold occ at this ⊢
      rw [List.filter_cons, if_pos (by simpa using e), List.length_cons, this]; omega
    · unfold occ at ih ⊢
      rw [List.filter_cons, if_neg (by simpa using e)]; exact ih
section
variable {n cap : Nat} {mo : Mo}
theorem one_keys (h : Inv home shardN goodB n cap mo) {j : Nat} (hj : j < n) : (keys (tabAt mo (j : Int))).Nodup ∧ ∀ k ∈ keys (tabAt mo (j : Int)), shardN k n = j := by
  obtain ⟨h1, e, hr, _⟩ := tab_at h hj
  rw [e]
  refine ⟨hr.keys, fun k hk => ?_⟩
  unfold keys at hk
  rw [List.mem_map] at hk
  obtain ⟨x, hx, rfl⟩ := hk
  rw [List.mem_filter] at hx
  obtain ⟨q, hq, rfl⟩ := List.getElem_of_mem hx.1
  have := h.shard j h1 q hq (by rw [Tab.ent_at hq]; simpa using hx.2)
  rwa [Tab.ent_at hq] at this
theorem occ_step (h : Inv home shardN goodB n cap mo) {j : Nat} (hj : j < n) {key : ByteArray} {nn : Nat} (q1 : nn ≤ 1) (q2 : j ≤ shardN key n → nn = 0) :
    nn + occ key (keys (tabAt mo (j : Int))) ≤ 1 ∧ (j + 1 ≤ shardN key n → nn + occ key (keys (tabAt mo (j : Int))) = 0) := by
  obtain ⟨h1, h2⟩ := one_keys h hj
  have h3 := occ_one (key := key) h1
  by_cases e : j = shardN key n
  · have := q2 (by omega)
    exact ⟨by omega, fun h => by omega⟩
  · have := occ_none (key := key) (l := keys (tabAt mo (j : Int))) fun hk => e (h2 key hk).symm
    exact ⟨by omega, fun h => by have := q2 (by omega); omega⟩
theorem keys_small {T : List Ent} {N : Nat} (h : ∀ x ∈ T, x.key.size ≤ N) : ∀ k ∈ keys T, k.size ≤ N := by
  intro k hk
  unfold keys at hk
  rw [List.mem_map] at hk
  obtain ⟨x, hx, rfl⟩ := hk
  exact h x (List.mem_filter.1 hx).1
theorem shard_told (k : ByteArray) {n : Nat} (hn : 0 < n) (h16 : n ≤ 16) (w : World) (hk : k.size ≤ 4611686018427387904) : Calls Tryz.prog 26 #[.string k, .int .i64 (n : Int)] w fun e W' => e = .returned (.int .i64 (shardN k n : Nat)) ∧ Below w.heap.size w W' := by
  have := Shard_told k (n : Int) (wf_small n (by omega)) w hk
  rwa [shard_n k hn] at this
theorem lies_txt {W : World} {a : Option Addr} {c : Nat} {ks : List ByteArray} (h : Lies Flo.txtK W a c ks) {k : Nat} (hk : k < ks.length) : ∃ b off, a = some ⟨b, off, none⟩ ∧ W.cell? ⟨b, off + k, none⟩ = some (.string ks[k]) := by
  obtain ⟨b, off, e, hc⟩ := h.at hk
  exact ⟨b, off, e, by have := hc 0 _ rfl; simpa [Flo.txtK] using this⟩
end
end Go.Proofs.YtbamodkgagcmnaaGreat.Mdl

set_option maxRecDepth 100000
namespace Go.Proofs.YtbamodkgagcmnaaGreat.Pol
open Go.RowKit Go.Shelf Rgn

set_option maxRecDepth 100000 in
set_option maxHeartbeats 4000000 in
theorem Equal_any (a : Option Addr) (cap : Nat) (bs : List Bk) (a' : Option Addr) (cap' : Nat) (bs' : List Bk) (c : Bool) (hc : bs = bs' ↔ c = true) (w : World) (h : Lies w a cap bs) (h' : Lies w a' cap' bs') :
    Calls Tryz.prog 77 #[polV a cap bs, polV a' cap' bs'] w fun e W' => e = .returned (.bool c) ∧ Below w.heap.size w W' := by
  have H := Lib.hid h
  have H' := Lib.hid h'
  have HC := Lib.hid hc
  have hlen := h.len
  have hmax := h.max
  have hlen' := h'.len
  have hmax' := h'.max
  unfold maxLen at hmax hmax'
  clear h h' hc
  by_cases hL : bs.length = bs'.length
  · have e0 : ((bs.length : Int) != (bs'.length : Int)) = false := by simp [hL]
    have HL := Lib.hid hL
    clear hL
    go_enter Tryz.func77, Tryz.ntmps77
    go_wp2
    go_loopw [13] (fun i W => ∃ k : Nat, k ≤ bs.length ∧ i = .int .i64 k ∧ (∀ j, j < k → bs[j]? = bs'[j]?) ∧ Below w.heap.size w W) (fun i _ => bs.length - (intOf i).toNat)
    case atStart => exact ⟨0, Nat.zero_le _, rfl, fun j hj => absurd hj (by omega), Below.refl _ _⟩
    case round =>
      obtain ⟨k, hk, rfl, hno, hB⟩ := hrel
      have HN := Lib.hid hno
      have HB := Lib.hid hB
      clear hno hB
      by_cases hlt : k < bs.length
      · obtain ⟨b, off, rfl, c0, c1⟩ := (H.out.kept HB.out).at hlt
        have hlt' : k < bs'.length := HL.out ▸ hlt
        obtain ⟨b', off', rfl, c0', c1'⟩ := (H'.out.kept HB.out).at hlt'
        have HI := Lib.hid (show bs[k]? = some bs[k] from List.getElem?_eq_getElem hlt)
        have HI' := Lib.hid (show bs'[k]? = some bs'[k] from List.getElem?_eq_getElem hlt')
        generalize bs[k] = x at *
        generalize bs'[k] = y at *
        by_cases hx : x = y
        · have CC := bk_cmp x y true (by simp [hx])
          have HE := Lib.hid (show bs[k]? = bs'[k]? by rw [HI.out, HI'.out, hx])
          clear hx
          go_wp2_with fail
          go_quiet (fail)
          have HB2 := Lib.hid (below_drewN HB.out nq)
          go_wp2
          refine ⟨⟨k + 1, by omega, by go_num, fun j hj => ?_, HB2.out⟩, by simp [intOf]; omega⟩
          by_cases e : j = k
          · subst e; exact HE.out
          · exact HN.out j (by omega)
        · have CC := bk_cmp x y false (by simp [hx])
          have HF := Lib.hid (show c = false by
            cases c with
            | false => rfl
            | true =>
              have e := HC.out.2 rfl
              have h1 := HI.out
              rw [e, HI'.out] at h1
              cases h1; exact absurd rfl hx)
          clear hx
          go_wp2_with fail
          go_quiet (fail)
          have HB2 := Lib.hid (below_drewN HB.out nq)
          go_wp2
          go_ret
          exact ⟨by rw [HF.out]; rfl, HB2.out⟩
      · have HF := Lib.hid (HC.out.1 (by
          apply List.ext_getElem?
          intro j
          by_cases hj : j < bs.length
          · exact HN.out j (by omega)
          · rw [List.getElem?_eq_none (by omega), List.getElem?_eq_none (by rw [← HL.out]; omega)]))
        go_wp2
        go_ret
        exact ⟨by rw [HF.out]; rfl, HB.out⟩
  · have e0 : ((bs.length : Int) != (bs'.length : Int)) = true := bne_iff_ne.2 (by omega)
    have HF := Lib.hid (show c = false by
      cases c with
      | false => rfl
      | true => exact absurd (congrArg List.length (HC.out.2 rfl)) hL)
    clear hL
    go_enter Tryz.func77, Tryz.ntmps77
    go_wp2
    go_ret
    exact ⟨by rw [HF.out]; rfl, Below.refl _ _⟩

set_option maxHeartbeats 2000000 in
theorem Same_told (a : Option Addr) (cap : Nat) (bs : List Bk) (a' : Option Addr) (cap' : Nat) (bs' : List Bk) (c : Bool) (hc : bs = bs' ↔ c = true) (w : World) (h : Lies w a cap bs) (h' : Lies w a' cap' bs') :
    Calls Tryz.prog 38 #[polV a cap bs, polV a' cap' bs'] w fun e W' => e = .returned (.bool c) ∧ Below w.heap.size w W' := by
  have C := Lib.hid (Equal_any a cap bs a' cap' bs' c hc w h h')
  clear h h' hc
  go_enter Tryz.func38, Tryz.ntmps38
  go_wp2_with fail
  refine C.out.mono ?_
  rintro e w1 ⟨rfl, hb⟩
  go_wp2_with fail
  go_ret
  exact ⟨rfl, hb⟩
end Go.Proofs.YtbamodkgagcmnaaGreat.Pol
