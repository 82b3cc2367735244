/-
  Package ip4: which fault of a text is the first that is so.
-/
import Derived.Test.YtcdgcjpdlhknoaaIp4A
import Derived.Test.YtcdgcjpdlhknoaaRgn
namespace Go.Proofs.Ytcdgcjpdlhknoaa.Ip4
open Go.RowKit Go.Shelf Rgn

/-- What the fields of a head are, by their names. -/
def ver (s : ByteArray) : Nat := gv s 0 1 / 16
def siz (s : ByteArray) : Nat := gv s 0 1 % 16 * 4
def len (s : ByteArray) : Nat := gv s 2 2

/-- The function that gets numbers, as it is handed about. -/
abbrev numF (B : Nat) : Value := .func (.func 76) #[] #[.pointer (some ⟨B, 0, none⟩)]

/-- Whether a fault is so. -/
def so (s : ByteArray) : Nat → Bool
  | 0 => decide (s.size < 20)
  | 1 => decide (ver s ≠ 4)
  | 2 => decide (siz s < 20 ∨ s.size < siz s)
  | 3 => decide (len s < siz s ∨ s.size < len s)
  | 4 => decide (Cks.fc (Cks.tot (s.extract 0 (siz s)).data.toList) ≠ 65535)
  | _ => decide (gv s 6 2 % 16384 ≠ 0)
/-- Its error. -/
def code : Nat → Int
  | 0 => 2
  | 1 => 3
  | 2 => 4
  | 3 => 4
  | 4 => 5
  | _ => 6
def kno : Nat → Nat
  | 0 => 47
  | 1 => 48
  | 2 => 49
  | 3 => 50
  | 4 => 51
  | _ => 53
abbrev ptr (b : Nat) : Value := .pointer (some ⟨b, 0, none⟩)
def caps (h B6 B7 B8 : Nat) : Nat → Array Value
  | 0 => #[ptr h]
  | 1 => #[ptr B6]
  | 2 => #[ptr B7, ptr h]
  | 3 => #[ptr B8, ptr B7, ptr h]
  | 4 => #[ptr h, ptr B7]
  | _ => #[ptr (h + 1 + 1 + 1)]

theorem same_below {P : Program} {f : FuncId} {args : Array Value} {w : World} {v : Value} (h : Calls P f args w fun e W' => e = .returned v ∧ w = W') :
    Calls P f args w fun e W' => e = .returned v ∧ Below w.heap.size w W' := h.mono fun _ _ ⟨he, hw⟩ => ⟨he, hw ▸ Below.refl _ _⟩

theorem fault_any (s : ByteArray) (hs : s.size ≤ 1099511627776) (h B6 B7 B8 : Nat) (w : World) (b0 : Boxed w h 9 (.string s)) (b2 : Boxed w (h + 1 + 1) 9 (.string s)) (b3 : Boxed w (h + 1 + 1 + 1) 86 (numF (h + 1 + 1)))
    (r9 : Boxed w B6 3 (.int .i64 (ver s : Nat))) (r10 : Boxed w B7 3 (.int .i64 (siz s : Nat))) (r11 : Boxed w B8 3 (.int .i64 (len s : Nat)))
    (i : Nat) (hi : i < 6) (h2 : i = 4 → so s 2 = false) : Calls Try.prog (kno i) (caps h B6 B7 B8 i) w fun e W' => e = .returned (.bool (so s i)) ∧ Below w.heap.size w W' := by
  obtain rfl | rfl | rfl | rfl | rfl | rfl : i = 0 ∨ i = 1 ∨ i = 2 ∨ i = 3 ∨ i = 4 ∨ i = 5 := by omega
  · exact same_below (parse1 s h w b0.cell)
  · exact same_below (parse2 (ver s) B6 w r9.cell)
  · exact same_below (parse3 s (siz s) B7 h w r10.cell b0.cell)
  · exact same_below (parse4 s (len s) (siz s) B8 B7 h w r11.cell r10.cell b0.cell)
  · have h3 := of_decide_eq_false (h2 rfl)
    exact parse5 s hs (siz s) (by omega) h B7 w b0.cell r10.cell
  · exact parse6 s hs (h + 1 + 1 + 1) (h + 1 + 1) w b3.cell b2.cell

theorem first_parse (s : ByteArray) (hs : s.size ≤ 1099511627776) (h B6 B7 B8 : Nat) (w : World) (b0 : Boxed w h 9 (.string s)) (b2 : Boxed w (h + 1 + 1) 9 (.string s)) (b3 : Boxed w (h + 1 + 1 + 1) 86 (numF (h + 1 + 1)))
    (r9 : Boxed w B6 3 (.int .i64 (ver s : Nat))) (r10 : Boxed w B7 3 (.int .i64 (siz s : Nat))) (r11 : Boxed w B8 3 (.int .i64 (len s : Nat)))
    (c : Nat) (hc : c ≤ 6) (hno : ∀ i, i < c → so s i = false) (hyes : c < 6 → so s c = true) :
    Calls Try.prog 46 #[.slice (some ⟨w.heap.size, 0, none⟩) 6 6] (w.alloc (.cells #[.int .i64 2, .func (.func 47) #[] #[ptr h], .int .i64 3, .func (.func 48) #[] #[ptr B6], .int .i64 4, .func (.func 49) #[] #[ptr B7, ptr h], .int .i64 4, .func (.func 50) #[] #[ptr B8, ptr B7, ptr h], .int .i64 5, .func (.func 51) #[] #[ptr h, ptr B7], .int .i64 6, .func (.func 53) #[] #[ptr (h + 1 + 1 + 1)]] 90)) fun e W' =>
      e = .returned (.int .i64 (if c < 6 then code c else 0)) ∧ Below w.heap.size w W' := by
  have hb : Below w.heap.size w (w.alloc (.cells #[.int .i64 2, .func (.func 47) #[] #[ptr h], .int .i64 3, .func (.func 48) #[] #[ptr B6], .int .i64 4, .func (.func 49) #[] #[ptr B7, ptr h], .int .i64 4, .func (.func 50) #[] #[ptr B8, ptr B7, ptr h], .int .i64 5, .func (.func 51) #[] #[ptr h, ptr B7], .int .i64 6, .func (.func 53) #[] #[ptr (h + 1 + 1 + 1)]] 90)) := (Below.refl _ w).alloc (Nat.le_refl _) _
  have hall : ∀ i, i ≤ c → i < 6 → ∀ W, Below (w.alloc (.cells #[.int .i64 2, .func (.func 47) #[] #[ptr h], .int .i64 3, .func (.func 48) #[] #[ptr B6], .int .i64 4, .func (.func 49) #[] #[ptr B7, ptr h], .int .i64 4, .func (.func 50) #[] #[ptr B8, ptr B7, ptr h], .int .i64 5, .func (.func 51) #[] #[ptr h, ptr B7], .int .i64 6, .func (.func 53) #[] #[ptr (h + 1 + 1 + 1)]] 90)).heap.size (w.alloc (.cells #[.int .i64 2, .func (.func 47) #[] #[ptr h], .int .i64 3, .func (.func 48) #[] #[ptr B6], .int .i64 4, .func (.func 49) #[] #[ptr B7, ptr h], .int .i64 4, .func (.func 50) #[] #[ptr B8, ptr B7, ptr h], .int .i64 5, .func (.func 51) #[] #[ptr h, ptr B7], .int .i64 6, .func (.func 53) #[] #[ptr (h + 1 + 1 + 1)]] 90)) W →
      Calls Try.prog (kno i) (caps h B6 B7 B8 i) W fun e W' => e = .returned (.bool (so s i)) ∧ Below W.heap.size W W' := fun i hic hi W hW => by
    have hW2 := below2 hb hW
    exact fault_any s hs h B6 B7 B8 W (boxed_below b0 hW2) (boxed_below b2 hW2) (boxed_below b3 hW2) (boxed_below r9 hW2) (boxed_below r10 hW2) (boxed_below r11 hW2) i hi (fun e => hno 2 (by omega))
  refine (first_any w.heap.size 6 c (by omega) hc code kno (caps h B6 B7 B8) _ (by simp) (fun i hi => ?_) (fun i hi => ?_) (fun i hi W hW => ?_) (fun hc6 W hW => ?_)).mono fun _ _ ⟨he, hB⟩ => ⟨he, below2 hb hB⟩
  · obtain rfl | rfl | rfl | rfl | rfl | rfl : i = 0 ∨ i = 1 ∨ i = 2 ∨ i = 3 ∨ i = 4 ∨ i = 5 := by omega
    all_goals exact ⟨by go_simp <;> rfl, by go_simp <;> exact ⟨rfl, rfl⟩⟩
  · obtain rfl | rfl | rfl | rfl | rfl | rfl : i = 0 ∨ i = 1 ∨ i = 2 ∨ i = 3 ∨ i = 4 ∨ i = 5 := by omega
    · exact enters_of Try.func47 (by kernel_rfl) rfl
    · exact enters_of Try.func48 (by kernel_rfl) rfl
    · exact enters_of Try.func49 (by kernel_rfl) rfl
    · exact enters_of Try.func50 (by kernel_rfl) rfl
    · exact enters_of Try.func51 (by kernel_rfl) rfl
    · exact enters_of Try.func53 (by kernel_rfl) rfl
  · have h1 := hall i (by omega) (by omega) W hW
    rw [hno i hi] at h1
    exact h1
  · have h1 := hall c (by omega) hc6 W hW
    rw [hyes hc6] at h1
    exact h1

theorem head_cell0 {W : World} {b t : Nat} {x y z : Value} (h : W.heap[b]? = some (.cells #[x, y, z] t (0, 0))) : W.cell? ⟨b, 0, none⟩ = some x := by simp [World.cell?, h]
theorem head_cell1 {W : World} {b t : Nat} {x y z : Value} (h : W.heap[b]? = some (.cells #[x, y, z] t (0, 0))) : W.cell? ⟨b, 1, none⟩ = some y := by simp [World.cell?, h]
theorem head_cell2 {W : World} {b t : Nat} {x y z : Value} (h : W.heap[b]? = some (.cells #[x, y, z] t (0, 0))) : W.cell? ⟨b, 2, none⟩ = some z := by simp [World.cell?, h]
theorem head_free {W : World} {b t : Nat} {x y z : Value} (h : W.heap[b]? = some (.cells #[x, y, z] t (0, 0))) (i : Nat) : W.frozen? ⟨b, i, none⟩ = false := by simp [World.frozen?, h]


/-! The faults of Put's arguments. -/
def soP (x y : ByteArray) (p : Int) (r : ByteArray) : Nat → Bool
  | 0 => decide (x.size ≠ 4 ∨ y.size ≠ 4)
  | 1 => decide (p < 0 ∨ 255 < p)
  | _ => decide (65515 < r.size)
def codeP : Nat → Int
  | 0 => 1
  | 1 => 1
  | _ => 4
def knoP : Nat → Nat
  | 0 => 59
  | 1 => 60
  | _ => 61
def capsP (h : Nat) : Nat → Array Value
  | 0 => #[ptr h]
  | 1 => #[ptr h]
  | _ => #[ptr (h + 1)]

theorem first_put (x y : ByteArray) (p : Int) (r : ByteArray) (h : Nat) (w : World) (bh : w.heap[h]? = some (.cells #[.string x, .string y, .int .i64 p] 49 (0, 0))) (b1 : Boxed w (h + 1) 9 (.string r))
    (c : Nat) (hc : c ≤ 3) (hno : ∀ i, i < c → soP x y p r i = false) (hyes : c < 3 → soP x y p r c = true) :
    Calls Try.prog 46 #[.slice (some ⟨w.heap.size, 0, none⟩) 3 3] (w.alloc (.cells #[.int .i64 1, .func (.func 59) #[] #[ptr h], .int .i64 1, .func (.func 60) #[] #[ptr h], .int .i64 4, .func (.func 61) #[] #[ptr (h + 1)]] 90)) fun e W' =>
      e = .returned (.int .i64 (if c < 3 then codeP c else 0)) ∧ Below w.heap.size w W' := by
  have hb : Below w.heap.size w (w.alloc (.cells #[.int .i64 1, .func (.func 59) #[] #[ptr h], .int .i64 1, .func (.func 60) #[] #[ptr h], .int .i64 4, .func (.func 61) #[] #[ptr (h + 1)]] 90)) := (Below.refl _ w).alloc (Nat.le_refl _) _
  have hlt : h < w.heap.size := (Array.getElem?_eq_some_iff.1 bh).1
  have hall : ∀ i, i < 3 → ∀ W, Below (w.alloc (.cells #[.int .i64 1, .func (.func 59) #[] #[ptr h], .int .i64 1, .func (.func 60) #[] #[ptr h], .int .i64 4, .func (.func 61) #[] #[ptr (h + 1)]] 90)).heap.size (w.alloc (.cells #[.int .i64 1, .func (.func 59) #[] #[ptr h], .int .i64 1, .func (.func 60) #[] #[ptr h], .int .i64 4, .func (.func 61) #[] #[ptr (h + 1)]] 90)) W →
      Calls Try.prog (knoP i) (capsP h i) W fun e W' => e = .returned (.bool (soP x y p r i)) ∧ Below W.heap.size W W' := fun i hi W hW => by
    have hW2 := below2 hb hW
    have bW := (hW2.block h hlt).trans bh
    obtain rfl | rfl | rfl : i = 0 ∨ i = 1 ∨ i = 2 := by omega
    · exact same_below (put1 x y h W (head_cell0 bW) (head_cell1 bW))
    · exact same_below (put2 p h W (head_cell2 bW))
    · exact same_below (put3 r (h + 1) W (boxed_below b1 hW2).cell)
  refine (first_any w.heap.size 3 c (by omega) hc codeP knoP (capsP h) _ (by simp) (fun i hi => ?_) (fun i hi => ?_) (fun i hi W hW => ?_) (fun hc3 W hW => ?_)).mono fun _ _ ⟨he, hB⟩ => ⟨he, below2 hb hB⟩
  · obtain rfl | rfl | rfl : i = 0 ∨ i = 1 ∨ i = 2 := by omega
    all_goals exact ⟨by go_simp <;> rfl, by go_simp <;> exact ⟨rfl, rfl⟩⟩
  · obtain rfl | rfl | rfl : i = 0 ∨ i = 1 ∨ i = 2 := by omega
    · exact enters_of Try.func59 (by kernel_rfl) rfl
    · exact enters_of Try.func60 (by kernel_rfl) rfl
    · exact enters_of Try.func61 (by kernel_rfl) rfl
  · have h1 := hall i (by omega) W hW
    rw [hno i hi] at h1
    exact h1
  · have h1 := hall c hc3 W hW
    rw [hyes hc3] at h1
    exact h1

end Go.Proofs.Ytcdgcjpdlhknoaa.Ip4
