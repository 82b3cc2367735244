/-
  The document's Decide (package gangplankref17), given what its callees tell: what becomes of a packet is 'deals'.
-/
import Derived.Test.YtbamodkgagcmnaaGreatModGaD
import Derived.Test.YtbamodkgagcmnaaGreatBPolD
import Derived.BigQuiet
import Derived.WalkSmall
set_option maxRecDepth 100000
namespace Go.Proofs.YtbamodkgagcmnaaGreat.Mod
open Go.RowKit Go.Shelf Go.WideShapes RowG Trn
variable {home : ByteArray → Nat → Nat} {a : Option Addr} {cap : Nat} {T : List Tab.Ent} {pa : Option Addr} {pc : Nat} {P : List (Int × Int)} {k : ByteArray} {w : World} {s : Nat} {fd : Int → Int} {pk : Int}
theorem known_at {home : ByteArray → Nat → Nat} {T : List Tab.Ent} {P : List (Int × Int)} {k : ByteArray} {now : Int} (hf : Tab.find home T k = none) : known home T P k now = none := by unfold known; rw [hf]
theorem refDecide_any (h : Asked home a cap T pa pc P k w s fd pk) (c : Bool) (now idle : Int) :
    Calls Tryz.prog 25 #[rowV a cap T, .slice pa P.length pc, .string k, .bool c, .int .i64 now, .int .i64 idle] w (Deals (deals home (fun _ _ => pk) T P k c now (IntKind.i64.wrap (now + idle))) w) := by
  have key : ∀ o, known home T P k now = o →
      (P = [] → o = none → Calls Tryz.prog 25 #[rowV a cap T, .slice pa P.length pc, .string k, .bool c, .int .i64 now, .int .i64 idle] w (Deals (T, ⟨11, 0, false, 0⟩) w)) →
      ((o = none → P ≠ []) → c = true → Calls Tryz.prog 25 #[rowV a cap T, .slice pa P.length pc, .string k, .bool true, .int .i64 now, .int .i64 idle] w (Deals (del home T k, ⟨0, o.getD pk, false, 0⟩) w)) →
      ((o = none → P ≠ []) → c = false → ∀ U, Tab.put home T k (o.getD pk) (IntKind.i64.wrap (now + idle)) = some U → Calls Tryz.prog 25 #[rowV a cap T, .slice pa P.length pc, .string k, .bool false, .int .i64 now, .int .i64 idle] w (Deals (U, ⟨0, o.getD pk, o.isNone, 0⟩) w)) →
      ((o = none → P ≠ []) → c = false → Tab.put home T k (o.getD pk) (IntKind.i64.wrap (now + idle)) = none → Calls Tryz.prog 25 #[rowV a cap T, .slice pa P.length pc, .string k, .bool false, .int .i64 now, .int .i64 idle] w (Deals (T, ⟨12, 0, false, 0⟩) w)) →
      Calls Tryz.prog 25 #[rowV a cap T, .slice pa P.length pc, .string k, .bool c, .int .i64 now, .int .i64 idle] w (Deals (deals home (fun _ _ => pk) T P k c now (IntKind.i64.wrap (now + idle))) w) := by
    intro o ho h1 h2 h3 h4
    subst ho
    by_cases hn : known home T P k now = none ∧ P = []
    · rw [deals_none hn.1 hn.2]; exact h1 hn.2 hn.1
    · have hn' : known home T P k now = none → P ≠ [] := fun e e' => hn ⟨e, e'⟩
      cases c with
      | true => rw [deals_closes hn]; exact h2 hn' rfl
      | false =>
        cases hu : Tab.put home T k ((known home T P k now).getD pk) (IntKind.i64.wrap (now + idle)) with
        | some U => rw [deals_put hn hu]; exact h3 hn' rfl U hu
        | none => rw [deals_full hn hu]; exact h4 hn' rfl hu
  cases hf : Tab.find home T k with
  | none =>
    exact key none (known_at hf) (fun hp _ => dec_none_empty h now idle c hf hp rfl) (fun hp _ => dec_none_close h now idle hf (hp rfl) rfl) (fun hp _ U hu => dec_none_put h now idle hf (hp rfl) U hu rfl) (fun hp _ hu => dec_none_full h now idle hf (hp rfl) hu rfl)
  | some q =>
    by_cases ht : now ≤ (Tab.ent T q).dl
    · cases hh : hasId P (Tab.ent T q).be with
      | true =>
        exact key _ (known_yes hf ht hh) (fun _ e => by cases e) (fun _ _ => dec_yes_close h now idle q hf ht hh rfl) (fun _ _ U hu => dec_yes_put h now idle q hf ht hh U hu rfl) (fun _ _ hu => dec_yes_full h now idle q hf ht hh hu rfl)
      | false =>
        exact key none (known_no hf fun e => by rw [hh] at e; cases e.2) (fun hp _ => dec_gone_empty h now idle c q hf ht hh hp rfl) (fun hp _ => dec_gone_close h now idle q hf ht hh (hp rfl) rfl) (fun hp _ U hu => dec_gone_put h now idle q hf ht hh (hp rfl) U hu rfl) (fun hp _ hu => dec_gone_full h now idle q hf ht hh (hp rfl) hu rfl)
    · exact key none (known_no hf fun e => ht e.1) (fun hp _ => dec_old_empty h now idle c q hf ht hp rfl) (fun hp _ => dec_old_close h now idle q hf ht (hp rfl) rfl) (fun hp _ U hu => dec_old_put h now idle q hf ht (hp rfl) U hu rfl) (fun hp _ hu => dec_old_full h now idle q hf ht (hp rfl) hu rfl)
end Go.Proofs.YtbamodkgagcmnaaGreat.Mod

set_option maxRecDepth 100000
namespace Go.Proofs.YtbamodkgagcmnaaGreat.Pol
open Go.RowKit Go.Shelf Rgn

set_option maxRecDepth 100000 in
set_option maxHeartbeats 2000000 in
theorem refFind_any (a : Option Addr) (cap : Nat) (bs : List Bk) (id : Int) (w : World) (h : Lies w a cap bs) :
    Calls Tryz.prog 60 #[polV a cap bs, .int .i64 id] w fun e W' => e = .returned (.int .i64 (find bs id 0)) ∧ w = W' := by
  have H := Lib.hid h
  clear h
  go_enter Tryz.func60, Tryz.ntmps60
  go_wp2
  go_loop [5] (fun i => ∃ k : Nat, k ≤ bs.length ∧ i = .int .i64 k ∧ ∀ j x, j < k → bs[j]? = some x → x.1 ≠ id) (fun i => bs.length - (intOf i).toNat)
  case atStart => exact ⟨0, Nat.zero_le _, rfl, fun j x hj => absurd hj (by omega)⟩
  case round =>
    obtain ⟨k, hk, rfl, hno⟩ := hrel
    have HN := Lib.hid hno
    clear hno
    by_cases hlt : k < bs.length
    · obtain ⟨b, off, rfl, c0, c1⟩ := H.out.at hlt
      have hC := H.out.len
      have hM := H.out.max
      unfold maxLen at hM
      have HH := Lib.hid (find_hit bs id k hlt HN.out)
      have HI := Lib.hid (show bs[k]? = some bs[k] from List.getElem?_eq_getElem hlt)
      generalize bs[k] = x at *
      by_cases he : x.1 = id
      · have e1 : (x.1 == id) = true := beq_iff_eq.2 he
        go_wp2
        go_ret
        exact ⟨by rw [HH.out he]; rfl, rfl⟩
      · have e1 : (x.1 == id) = false := beq_false_of_ne he
        go_wp2
        refine ⟨⟨k + 1, by omega, by go_num, fun j y hj hy => ?_⟩, by simp [intOf]; omega⟩
        by_cases e : j = k
        · rw [e, HI.out] at hy
          cases hy; exact he
        · exact HN.out j y (by omega) hy
    · go_wp2
      go_ret
      rw [find_none bs id (fun j x hj => HN.out j x (by omega))]
      exact ⟨rfl, rfl⟩
end Go.Proofs.YtbamodkgagcmnaaGreat.Pol
