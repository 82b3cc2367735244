/-
  Package packet: Bytes, Of.
-/
import Derived.Test.YtcdgcjpdlhknoaaPktE
namespace Go.Proofs.Ytcdgcjpdlhknoaa.Pkt
open Go.RowKit Go.Shelf Txt Rgn
open Lib (byteCells)

theorem grown_below {w W : World} {b B : Nat} (h : w.grownBy W (some b)) (hB : B ≤ b) (hB2 : B ≤ w.heap.size) : Below B w W :=
  ⟨h.os, h.tape, h.output, h.size, fun k hk => h.block k (by omega) (fun e => by cases e; omega)⟩
theorem Keyed.grown {W W' : World} {b k : Nat} {V : Int} {x y : ByteArray} {F T p : Int} (h : Keyed W k V x y F T p) (hg : W.grownBy W' (some b)) (hn : k ≠ b) : Keyed W' k V x y F T p :=
  (hg.block k (Array.getElem?_eq_some_iff.1 h).1 (fun e => hn (by cases e; rfl))).trans h
/-- An empty record. -/
theorem rec_new (W : World) : Rec (W.alloc (.cells (byteCells (List.replicate 38 0)).toArray 71)) W.heap.size (List.replicate 38 0) := World.alloc_heap_new W _

/-- What key tells of a key's own bytes. -/
theorem key_right (b : Nat) (V : Int) (x y : ByteArray) (F T p : Int) (h : right V x y F T p) (W : World) (hR : Rec W b (recL V x y F T p)) :
    Calls Try.prog 37 #[.pointer (some ⟨b, 0, none⟩)] W fun e W' => e = .returned (.tuple #[keyV V x y F T p, .bool true]) ∧ Below W.heap.size W W' := by
  obtain ⟨hok, t0, t1, t2, t3⟩ := right_told h
  have sz := right_size h
  have es := recS_src V x y F T p (by omega)
  have ed := recS_dst V x y F T p (by omega)
  rw [sz.1] at es
  rw [sz.2.1] at ed
  have := key_good b (recL V x y F T p) (recL_length ..) hok (addr V) (show addr ((gv (recS V x y F T p) 0 1 : Nat) : Int) = addr V by rw [t0]) sz.2.2.1 sz.2.2.2 W hR
  change Calls _ _ _ _ fun e W' => e = .returned (.tuple #[keyV (gv (recS V x y F T p) 0 1 : Nat) ((recS V x y F T p).extract 6 (6 + addr V)) ((recS V x y F T p).extract 22 (22 + addr V)) (gv (recS V x y F T p) 2 2 : Nat) (gv (recS V x y F T p) 4 2 : Nat) (gv (recS V x y F T p) 1 1 : Nat), .bool true]) ∧ _ at this
  rwa [t0, t1, t2, t3, es, ed] at this
/-- What it tells of any record that may be a key's. -/
theorem key_some (b : Nat) (L : List UInt8) (hL : L.length = 38) (h : okR (Oct.str L)) : ∃ (V : Int) (x y : ByteArray) (F T p : Int), right V x y F T p ∧ ∀ W, Rec W b L →
    Calls Try.prog 37 #[.pointer (some ⟨b, 0, none⟩)] W fun e W' => e = .returned (.tuple #[keyV V x y F T p, .bool true]) ∧ Below W.heap.size W W' :=
  ⟨_, _, _, _, _, _, okR_right _ (by rw [str_size, hL]) h _ rfl, key_good b L hL h _ rfl (okR_addr _ h).1 (okR_addr _ h).2⟩

/-- A text, and true; or none, and false. -/
def bytesV (ok : Bool) (s : ByteArray) : Value := match ok with
  | true => .tuple #[.string s, .bool true]
  | false => .tuple #[.string ⟨#[]⟩, .bool false]
set_option maxRecDepth 100000 in
set_option maxHeartbeats 2000000 in
theorem Bytes_gen (V : Int) (x y : ByteArray) (F T p V' : Int) (x' y' : ByteArray) (F' T' p' : Int) (ok : Bool)
    (hk : ∀ b W, Rec W b (recL V x y F T p) → Calls Try.prog 37 #[.pointer (some ⟨b, 0, none⟩)] W fun e W' => e = .returned (.tuple #[keyV V' x' y' F' T' p', .bool ok]) ∧ Below W.heap.size W W')
    (same : Bool) (hs : (V' = V ∧ x' = x ∧ y' = y ∧ F' = F ∧ T' = T ∧ p' = p) ↔ same = true) (w : World) :
    Calls Try.prog 18 #[keyV V x y F T p] w fun e W' => e = .returned (bytesV (ok && same) (recS V x y F T p)) ∧ Below w.heap.size w W' := by
  have K1 := (keyed_new w V x y F T p).alloc (.cells (byteCells (List.replicate 38 0)).toArray 71)
  have R1 := rec_new (w.alloc (.cells (keyC V x y F T p) 24))
  rw [World.size_alloc] at R1
  have B1 := (below_alloc w (.cells (keyC V x y F T p) 24)).alloc (by simp) (.cells (byteCells (List.replicate 38 0)).toArray 71)
  have P1 := Lib.hid (put_any (w.heap.size + 1) (List.replicate 38 0) (by simp) V x y F T p _ R1)
  have HK1 := Lib.hid K1
  have HB1 := Lib.hid B1
  have HK := Lib.hid (hk (w.heap.size + 1))
  clear K1 R1 B1 hk
  have CC := key_cmp V' x' y' F' T' p' V x y F T p same hs
  clear hs
  go_enter Try.func18, Try.ntmps18
  go_wp2_with fail
  refine P1.out.mono ?_
  rintro e w3 ⟨rfl, hR3, hG3⟩
  have B3 := Lib.hid (HB1.out.trans (grown_below hG3 (by omega) (by simp; omega)))
  have K3 := Lib.hid (HK1.out.grown hG3 (by omega))
  have R3 := Lib.hid hR3
  clear hR3 hG3 P1 HK1 HB1
  go_wp2_with fail
  refine (HK.out _ R3.out).mono ?_
  rintro e w4 ⟨rfl, hb4⟩
  have B4 := Lib.hid (below2 B3.out hb4)
  obtain ⟨k0, k1, k2, k3, k4, k5⟩ := (K3.out.kept hb4).alloc (.cells (keyC V' x' y' F' T' p') 24) |>.cells
  have hR4 := (R3.out.kept hb4).kept (below_alloc w4 (.cells (keyC V' x' y' F' T' p') 24))
  have e4 := run_text _ _ _ hR4 (recL_length ..)
  clear hb4 B3 K3 R3 HK hR4
  have BL := Lib.hid (below2 B4.out (below_alloc w4 (.cells (keyC V' x' y' F' T' p') 24)))
  clear B4
  cases ok with
  | false =>
    go_wp2_with fail
    exact bodyPost_ret (v := .tuple #[.string ⟨#[]⟩, .bool false]) (by simp [results, Try.results18, go_sem]) rfl ⟨rfl, BL.out⟩
  | true =>
    cases same with
    | false =>
      go_wp2_with fail
      exact bodyPost_ret (v := .tuple #[.string ⟨#[]⟩, .bool false]) (by simp [results, Try.results18, go_sem]) rfl ⟨rfl, BL.out⟩
    | true =>
      go_wp2_with fail
      exact bodyPost_ret (v := .tuple #[.string (Oct.str (recL V x y F T p)), .bool true]) (by simp [results, Try.results18, go_sem]) rfl ⟨rfl, BL.out⟩

theorem Bytes_yes (V : Int) (x y : ByteArray) (F T p : Int) (h : right V x y F T p) (w : World) :
    Calls Try.prog 18 #[keyV V x y F T p] w fun e W' => e = .returned (.tuple #[.string (recS V x y F T p), .bool true]) ∧ Below w.heap.size w W' :=
  Bytes_gen V x y F T p V x y F T p true (fun b W hR => key_right b V x y F T p h W hR) true (by simp) w
theorem Bytes_no (V : Int) (x y : ByteArray) (F T p : Int) (h : ¬ right V x y F T p) (w : World) :
    Calls Try.prog 18 #[keyV V x y F T p] w fun e W' => e = .returned (.tuple #[.string ⟨#[]⟩, .bool false]) ∧ Below w.heap.size w W' := by
  by_cases hok : okR (recS V x y F T p)
  · have hn := okR_right (recS V x y F T p) (recS_size ..) hok _ rfl
    refine Bytes_gen V x y F T p _ _ _ _ _ _ true (fun b W hR => key_good b (recL V x y F T p) (recL_length ..) hok _ rfl (okR_addr _ hok).1 (okR_addr _ hok).2 W hR) false ?_ w
    constructor
    · rintro ⟨e1, e2, e3, e4, e5, e6⟩
      change right (gv (recS V x y F T p) 0 1 : Nat) ((recS V x y F T p).extract 6 _) ((recS V x y F T p).extract 22 _) (gv (recS V x y F T p) 2 2 : Nat) (gv (recS V x y F T p) 4 2 : Nat) (gv (recS V x y F T p) 1 1 : Nat) at hn
      change ((gv (recS V x y F T p) 0 1 : Nat) : Int) = V at e1
      change (recS V x y F T p).extract 6 (6 + addr ((gv (recS V x y F T p) 0 1 : Nat) : Int)) = x at e2
      change (recS V x y F T p).extract 22 (22 + addr ((gv (recS V x y F T p) 0 1 : Nat) : Int)) = y at e3
      change ((gv (recS V x y F T p) 2 2 : Nat) : Int) = F at e4
      change ((gv (recS V x y F T p) 4 2 : Nat) : Int) = T at e5
      change ((gv (recS V x y F T p) 1 1 : Nat) : Int) = p at e6
      rw [e2, e3, e1, e4, e5, e6] at hn
      exact absurd hn h
    · intro h; cases h
  · refine Bytes_gen V x y F T p _ _ _ _ _ _ false (fun b W hR => key_bad b (recL V x y F T p) (recL_length ..) hok W hR) (decide (0 = V ∧ (⟨#[]⟩ : ByteArray) = x ∧ (⟨#[]⟩ : ByteArray) = y ∧ 0 = F ∧ 0 = T ∧ 0 = p)) ?_ w
    rw [decide_eq_true_iff]
end Go.Proofs.Ytcdgcjpdlhknoaa.Pkt
