/-
  Package ip4: its calls as the laws meet them.
-/
import Derived.Test.YtcdgcjpdlhknoaaIp4D
namespace Go.Proofs.Ytcdgcjpdlhknoaa.Ip4
open Go.RowKit Go.Shelf

/-- Of the faults of a text some one is the first, or none is so. -/
theorem first_fault (s : ByteArray) : ∃ c, c ≤ 6 ∧ (∀ i, i < c → so s i = false) ∧ (c < 6 → so s c = true) := by
  have step : ∀ n, n ≤ 6 → (∀ i, i < n → so s i = false) ∨ ∃ c, c ≤ 6 ∧ (∀ i, i < c → so s i = false) ∧ (c < 6 → so s c = true) := by
    intro n
    induction n with
    | zero => exact fun _ => .inl (fun i hi => absurd hi (by omega))
    | succ n ih =>
      intro hn
      rcases ih (by omega) with h | h
      · cases hb : so s n with
        | true => exact .inr ⟨n, by omega, h, fun _ => hb⟩
        | false =>
          refine .inl fun i hi => ?_
          by_cases e : i = n
          · rw [e]; exact hb
          · exact h i (by omega)
      · exact .inr h
  rcases step 6 (by omega) with h | h
  · exact ⟨6, by omega, h, fun h => absurd h (by omega)⟩
  · exact h

/-- The zero head, no text, and an error. -/
abbrev badV (e : Int) : Value := .tuple #[.agg #[.string ⟨#[]⟩, .string ⟨#[]⟩, .int .i64 0], .string ⟨#[]⟩, .int .i64 e]
theorem Parse_bad (s : ByteArray) (hs : s.size ≤ 1099511627776) (c : Nat) (hc : c < 6) (hno : ∀ i, i < c → so s i = false) (hyes : so s c = true) (w : World) :
    Calls Try.prog 24 #[.string s] w fun e W' => e = .returned (badV (code c)) ∧ Below w.heap.size w W' := by
  have h := Parse_any s hs c (by omega) hno (fun _ => hyes) w
  rwa [show parseV s c = badV (code c) from if_pos hc] at h
theorem Parse_good (s : ByteArray) (hs : s.size ≤ 1099511627776) (hno : ∀ i, i < 6 → so s i = false) (w : World) :
    Calls Try.prog 24 #[.string s] w fun e W' => e = .returned (parseV s 6) ∧ Below w.heap.size w W' :=
  Parse_any s hs 6 (by omega) hno (fun h => absurd h (by omega)) w

/-- What is put is parsed, whatever stands behind it. -/
theorem Parse_put (S b x y : ByteArray) (p : Int) (r : ByteArray) (hx : x.size = 4) (hy : y.size = 4) (hp : 0 ≤ p ∧ p ≤ 255) (hr : r.size ≤ 65515) (hb : b.size ≤ 1000000) (hS : Hid (S = putS x y p.toNat r)) (w : World) :
    Calls Try.prog 24 #[.string (S ++ b)] w fun e W' => e = .returned (.tuple #[.agg #[.string x, .string y, .int .i64 p], .string r, .int .i64 0]) ∧ Below w.heap.size w W' := by
  obtain ⟨P, rfl⟩ := Int.eq_ofNat_of_zero_le hp.1
  rw [hS.out]
  have hz := putS_size x y P r hx hy
  have h1 := putS_parsed x y P r hx hy (by omega) hr
  have h2 := so_app (putS x y P r) b h1.1
  have h := Parse_good (putS x y P r ++ b) (by rw [ByteArray.size_append, hz]; omega) h2.1 w
  rw [h2.2, h1.2] at h
  exact h
theorem app_nil (S : ByteArray) : S ++ (⟨#[]⟩ : ByteArray) = S := ba_ext (by rw [app_list]; exact List.append_nil _)
theorem Parse_put0 (S x y : ByteArray) (p : Int) (r : ByteArray) (hx : x.size = 4) (hy : y.size = 4) (hp : 0 ≤ p ∧ p ≤ 255) (hr : r.size ≤ 65515) (hS : Hid (S = putS x y p.toNat r)) (w : World) :
    Calls Try.prog 24 #[.string S] w fun e W' => e = .returned (.tuple #[.agg #[.string x, .string y, .int .i64 p], .string r, .int .i64 0]) ∧ Below w.heap.size w W' := by
  have h := Parse_put S ⟨#[]⟩ x y p r hx hy hp hr (by decide) hS w
  rwa [app_nil] at h

/-- What Put answers of a head that is well, under a name of its own. -/
theorem Put_named (x y : ByteArray) (p : Int) (r : ByteArray) (hx : x.size = 4) (hy : y.size = 4) (hp : 0 ≤ p ∧ p ≤ 255) (hr : r.size ≤ 65515) (w : World) :
    Calls Try.prog 30 #[.agg #[.string x, .string y, .int .i64 p], .string r] w fun e W' => ∃ S : ByteArray, e = .returned (.tuple #[.string S, .int .i64 0]) ∧ S.size = 20 + r.size ∧ Hid (S = putS x y p.toNat r) ∧ Below w.heap.size w W' := by
  have h := Put_any x y p r (by omega) 3 (by omega) (fun i hi => by
    obtain rfl | rfl | rfl : i = 0 ∨ i = 1 ∨ i = 2 := by omega
    · exact decide_eq_false (by omega)
    · exact decide_eq_false (by omega)
    · exact decide_eq_false (by omega)) (fun h => absurd h (by omega)) w
  exact h.mono fun _ _ ⟨he, hb⟩ => ⟨_, he.trans (congrArg _ (if_neg (by omega))), putS_size x y p.toNat r hx hy, Lib.hid rfl, hb⟩
theorem Put_arg (x y : ByteArray) (p : Int) (r : ByteArray) (h : x.size ≠ 4 ∨ y.size ≠ 4 ∨ p < 0 ∨ 255 < p) (hr : r.size ≤ 65515) (w : World) :
    Calls Try.prog 30 #[.agg #[.string x, .string y, .int .i64 p], .string r] w fun e W' => e = .returned (.tuple #[.string ⟨#[]⟩, .int .i64 1]) ∧ Below w.heap.size w W' := by
  by_cases h0 : x.size ≠ 4 ∨ y.size ≠ 4
  · have h1 := Put_any x y p r (by omega) 0 (by omega) (fun i hi => absurd hi (by omega)) (fun _ => decide_eq_true h0) w
    rwa [show putV x y p r 0 = .tuple #[.string ⟨#[]⟩, .int .i64 1] from if_pos (by omega)] at h1
  · have hn : ∀ i, i < 1 → soP x y p r i = false := by
      intro i hi
      obtain rfl : i = 0 := by omega
      exact decide_eq_false h0
    have h1 := Put_any x y p r (by omega) 1 (by omega) hn (fun _ => decide_eq_true (show p < 0 ∨ 255 < p by omega)) w
    rwa [show putV x y p r 1 = .tuple #[.string ⟨#[]⟩, .int .i64 1] from if_pos (by omega)] at h1

/-- A variable that holds a head. -/
def Headed (W : World) (b : Nat) (x y : ByteArray) (p : Int) : Prop := W.heap[b]? = some (.cells #[.string x, .string y, .int .i64 p] 49 (0, 0))
theorem headed_new (W : World) (x y : ByteArray) (p : Int) : Headed (W.alloc (.cells #[.string x, .string y, .int .i64 p] 49)) W.heap.size x y p := World.alloc_heap_new W _
theorem Headed.kept {W W' : World} {b : Nat} {x y : ByteArray} {p : Int} (h : Headed W b x y p) (hb : Below W.heap.size W W') : Headed W' b x y p := (hb.block b (Array.getElem?_eq_some_iff.1 h).1).trans h
theorem below_alloc (W : World) (o : Obj) : Below W.heap.size W (W.alloc o) := (Below.refl _ W).alloc (Nat.le_refl _) o
theorem Headed.alloc {W : World} {b : Nat} {x y : ByteArray} {p : Int} (h : Headed W b x y p) (o : Obj) : Headed (W.alloc o) b x y p := h.kept (below_alloc W o)
theorem Headed.cells {W : World} {b : Nat} {x y : ByteArray} {p : Int} (h : Headed W b x y p) : W.cell? ⟨b, 0, none⟩ = some (.string x) ∧ W.cell? ⟨b, 1, none⟩ = some (.string y) ∧ W.cell? ⟨b, 2, none⟩ = some (.int .i64 p) := ⟨head_cell0 h, head_cell1 h, head_cell2 h⟩
end Go.Proofs.Ytcdgcjpdlhknoaa.Ip4
