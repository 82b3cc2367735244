/-
  The document's Decide (package gangplankref17), way by way, given what its callees tell.
-/
import Derived.Test.YtbamodkgagcmnaaGreatModGD
set_option maxRecDepth 100000
namespace Go.Proofs.YtbamodkgagcmnaaGreat.Mod
open Go.RowKit Go.Shelf Go.WideShapes RowG Trn

attribute [local go_sem] Oper.semAt_some
variable {home : ByteArray → Nat → Nat} {a : Option Addr} {cap : Nat} {T : List Tab.Ent} {pa : Option Addr} {pc : Nat} {P : List (Int × Int)} {k : ByteArray} {w : World} {s : Nat} {fd : Int → Int} {pk : Int}
set_option maxHeartbeats 1000000 in
theorem dec_none_empty (h : Asked home a cap T pa pc P k w s fd pk)  {r : List Tab.Ent × Ans} (now idle : Int) (c : Bool) (hf : Tab.find home T k = none) (hp : P = []) (hr : r = (T, ⟨11, 0, false, 0⟩)) :
    Calls Tryz.prog 25 #[rowV a cap T, .slice pa P.length pc, .string k, .bool c, .int .i64 now, .int .i64 idle] w (Deals r w) := by
  have al := below_ans w
  have HX := Lib.hid al.1
  have B0 := Lib.hid al.2
  have CF := Lib.hid (h.find _ al.2)
  have CS := Lib.hid (h.sum _ al.2)
  have CP := Lib.hid (h.pick _ al.2)
  have HA := Lib.hid h
  have HF := Lib.hid (show Tab.zOf (Tab.find home T k) = -1 by rw [hf]; rfl)
  rw [HF.out] at CF
  have d9 : ((P.length : Int) == 0) = true := by rw [hp]; rfl
  have d9n : (P.length == 0) = true := by rw [hp]; rfl
  clear hp
  have HR := Lib.hid hr
  clear hr
  clear al
  go_enter Tryz.func25, Tryz.ntmps25
  go_wp2_with fail
  refine CF.out.mono ?_
  rintro e w1 ⟨rfl, rfl⟩
  go_wp2_with fail
  refine CS.out.mono ?_
  rintro e w2 ⟨rfl, rfl⟩
  go_wp2_with fail
  refine CP.out.mono ?_
  rintro e w3 ⟨rfl, hb⟩
  have B1 := Lib.hid (below2 B0.out hb)
  have X1 := Lib.hid (HX.out.kept hb)
  clear hb CF CS CP B0 HX
  obtain ⟨⟨x0, x1, x2, x3⟩, fr⟩ := X1.out.cells
  have f0 := fr 0
  have f1 := fr 1
  have f2 := fr 2
  have f3 := fr 3
  clear fr
  go_wp2_with fail
  obtain ⟨⟨z0, z1, z2, z3⟩, -⟩ := (X1.out.put ⟨11, 0, false, 0⟩).cells
  unfold putAns at z0 z1 z2 z3
  clear x0 x1 x2 x3 f0 f1 f2 f3
  refine bodyPost_ret (v := .tuple #[rowV a cap T, ansV ⟨11, 0, false, 0⟩]) ?q1 rfl ?q2
  case q1 =>
    simp only [results, Tryz.results25]
    simp [go_sem, z0, z1, z2, z3]
  case q2 => exact Deals.of HR.out (Nat.le_refl _) B1.out X1.out ⟨_, _, rfl, HA.out.tab.kept B1.out⟩
set_option maxHeartbeats 1000000 in
theorem dec_none_close (h : Asked home a cap T pa pc P k w s fd pk)  {r : List Tab.Ent × Ans} (now idle : Int) (hf : Tab.find home T k = none) (hp : P ≠ []) (hr : r = (del home T k, ⟨0, pk, false, 0⟩)) :
    Calls Tryz.prog 25 #[rowV a cap T, .slice pa P.length pc, .string k, .bool true, .int .i64 now, .int .i64 idle] w (Deals r w) := by
  have al := below_ans w
  have HX := Lib.hid al.1
  have B0 := Lib.hid al.2
  have CF := Lib.hid (h.find _ al.2)
  have CS := Lib.hid (h.sum _ al.2)
  have CP := Lib.hid (h.pick _ al.2)
  have HA := Lib.hid h
  have HF := Lib.hid (show Tab.zOf (Tab.find home T k) = -1 by rw [hf]; rfl)
  rw [HF.out] at CF
  have hpl : P.length ≠ 0 := fun e => hp (List.eq_nil_of_length_eq_zero e)
  have d9 : ((P.length : Int) == 0) = false := beq_false_of_ne (by omega)
  have d9n : (P.length == 0) = false := beq_false_of_ne hpl
  clear hp hpl
  have HR := Lib.hid hr
  clear hr
  clear al
  go_enter Tryz.func25, Tryz.ntmps25
  go_wp2_with fail
  refine CF.out.mono ?_
  rintro e w1 ⟨rfl, rfl⟩
  go_wp2_with fail
  refine CS.out.mono ?_
  rintro e w2 ⟨rfl, rfl⟩
  go_wp2_with fail
  refine CP.out.mono ?_
  rintro e w3 ⟨rfl, hb⟩
  have B1 := Lib.hid (below2 B0.out hb)
  have X1 := Lib.hid (HX.out.kept hb)
  clear hb CF CS CP B0 HX
  have CD := Lib.hid (HA.out.del _ B1.out)
  generalize del home T k = D at *
  go_wp2_with fail
  refine CD.out.mono ?_
  rintro e w4 ⟨v, b', rfl, hv, hb⟩
  have V2 := Lib.hid hv
  have B2 := Lib.hid (below2 B1.out hb)
  have X2 := Lib.hid (X1.out.kept hb)
  clear hv hb CD B1 X1
  obtain ⟨av, cv, rfl, -⟩ := V2.out
  obtain ⟨⟨x0, x1, x2, x3⟩, fr⟩ := X2.out.cells
  have f0 := fr 0
  have f1 := fr 1
  have f2 := fr 2
  have f3 := fr 3
  clear fr
  go_wp2_with fail
  obtain ⟨⟨z0, z1, z2, z3⟩, -⟩ := (X2.out.put ⟨0, pk, false, 0⟩).cells
  unfold putAns at z0 z1 z2 z3
  clear x0 x1 x2 x3 f0 f1 f2 f3
  refine bodyPost_ret (v := .tuple #[rowV av cv D, ansV ⟨0, pk, false, 0⟩]) ?q1 rfl ?q2
  case q1 =>
    simp only [results, Tryz.results25]
    simp [go_sem, z0, z1, z2, z3]
  case q2 => exact Deals.of HR.out (Nat.le_refl _) B2.out X2.out V2.out
set_option maxHeartbeats 1000000 in
theorem dec_none_put (h : Asked home a cap T pa pc P k w s fd pk)  {r : List Tab.Ent × Ans} (now idle : Int) (hf : Tab.find home T k = none) (hp : P ≠ []) (U : List Tab.Ent) (hu : Tab.put home T k pk (IntKind.i64.wrap (now + idle)) = some U) (hr : r = (U, ⟨0, pk, true, 0⟩)) :
    Calls Tryz.prog 25 #[rowV a cap T, .slice pa P.length pc, .string k, .bool false, .int .i64 now, .int .i64 idle] w (Deals r w) := by
  have al := below_ans w
  have HX := Lib.hid al.1
  have B0 := Lib.hid al.2
  have CF := Lib.hid (h.find _ al.2)
  have CS := Lib.hid (h.sum _ al.2)
  have CP := Lib.hid (h.pick _ al.2)
  have HA := Lib.hid h
  obtain ⟨dl, hdl⟩ : ∃ dl, IntKind.i64.wrap (now + idle) = dl := ⟨_, rfl⟩
  rw [hdl] at hu
  have HF := Lib.hid (show Tab.zOf (Tab.find home T k) = -1 by rw [hf]; rfl)
  rw [HF.out] at CF
  have hpl : P.length ≠ 0 := fun e => hp (List.eq_nil_of_length_eq_zero e)
  have d9 : ((P.length : Int) == 0) = false := beq_false_of_ne (by omega)
  have d9n : (P.length == 0) = false := beq_false_of_ne hpl
  clear hp hpl
  have HR := Lib.hid hr
  clear hr
  clear al
  go_enter Tryz.func25, Tryz.ntmps25
  go_wp2_with fail
  refine CF.out.mono ?_
  rintro e w1 ⟨rfl, rfl⟩
  go_wp2_with fail
  refine CS.out.mono ?_
  rintro e w2 ⟨rfl, rfl⟩
  go_wp2_with fail
  refine CP.out.mono ?_
  rintro e w3 ⟨rfl, hb⟩
  have B1 := Lib.hid (below2 B0.out hb)
  have X1 := Lib.hid (HX.out.kept hb)
  clear hb CF CS CP B0 HX
  have CU := Lib.hid (HA.out.put pk dl _ B1.out)
  rw [hu] at CU
  simp only [Option.isSome_some, Option.getD_some, if_true] at CU
  clear hu
  go_wp2_with fail
  refine CU.out.mono ?_
  rintro e w4 ⟨v, rfl, hv, hb⟩
  have V2 := Lib.hid hv
  have B2 := Lib.hid (below2 B1.out hb)
  have X2 := Lib.hid (X1.out.kept hb)
  clear hv hb CU B1 X1
  obtain ⟨av, cv, rfl, -⟩ := V2.out
  obtain ⟨⟨x0, x1, x2, x3⟩, fr⟩ := X2.out.cells
  have f0 := fr 0
  have f1 := fr 1
  have f2 := fr 2
  have f3 := fr 3
  clear fr
  go_wp2_with fail
  obtain ⟨⟨z0, z1, z2, z3⟩, -⟩ := (X2.out.put ⟨0, pk, true, 0⟩).cells
  unfold putAns at z0 z1 z2 z3
  clear x0 x1 x2 x3 f0 f1 f2 f3
  refine bodyPost_ret (v := .tuple #[rowV av cv U, ansV ⟨0, pk, true, 0⟩]) ?q1 rfl ?q2
  case q1 =>
    simp only [results, Tryz.results25]
    simp [go_sem, z0, z1, z2, z3]
  case q2 => exact Deals.of HR.out (Nat.le_refl _) B2.out X2.out V2.out
set_option maxHeartbeats 1000000 in
theorem dec_none_full (h : Asked home a cap T pa pc P k w s fd pk)  {r : List Tab.Ent × Ans} (now idle : Int) (hf : Tab.find home T k = none) (hp : P ≠ []) (hu : Tab.put home T k pk (IntKind.i64.wrap (now + idle)) = none) (hr : r = (T, ⟨12, 0, false, 0⟩)) :
    Calls Tryz.prog 25 #[rowV a cap T, .slice pa P.length pc, .string k, .bool false, .int .i64 now, .int .i64 idle] w (Deals r w) := by
  have al := below_ans w
  have HX := Lib.hid al.1
  have B0 := Lib.hid al.2
  have CF := Lib.hid (h.find _ al.2)
  have CS := Lib.hid (h.sum _ al.2)
  have CP := Lib.hid (h.pick _ al.2)
  have HA := Lib.hid h
  obtain ⟨dl, hdl⟩ : ∃ dl, IntKind.i64.wrap (now + idle) = dl := ⟨_, rfl⟩
  rw [hdl] at hu
  have HF := Lib.hid (show Tab.zOf (Tab.find home T k) = -1 by rw [hf]; rfl)
  rw [HF.out] at CF
  have hpl : P.length ≠ 0 := fun e => hp (List.eq_nil_of_length_eq_zero e)
  have d9 : ((P.length : Int) == 0) = false := beq_false_of_ne (by omega)
  have d9n : (P.length == 0) = false := beq_false_of_ne hpl
  clear hp hpl
  have HR := Lib.hid hr
  clear hr
  clear al
  go_enter Tryz.func25, Tryz.ntmps25
  go_wp2_with fail
  refine CF.out.mono ?_
  rintro e w1 ⟨rfl, rfl⟩
  go_wp2_with fail
  refine CS.out.mono ?_
  rintro e w2 ⟨rfl, rfl⟩
  go_wp2_with fail
  refine CP.out.mono ?_
  rintro e w3 ⟨rfl, hb⟩
  have B1 := Lib.hid (below2 B0.out hb)
  have X1 := Lib.hid (HX.out.kept hb)
  clear hb CF CS CP B0 HX
  have CU := Lib.hid (HA.out.put pk dl _ B1.out)
  rw [hu] at CU
  simp only [Option.isSome_none, Option.getD_none, Bool.false_eq_true, if_false] at CU
  clear hu
  go_wp2_with fail
  refine CU.out.mono ?_
  rintro e w4 ⟨v, rfl, hv, hb⟩
  have V2 := Lib.hid hv
  have B2 := Lib.hid (below2 B1.out hb)
  have X2 := Lib.hid (X1.out.kept hb)
  clear hv hb CU B1 X1
  obtain ⟨av, cv, rfl, -⟩ := V2.out
  obtain ⟨⟨x0, x1, x2, x3⟩, fr⟩ := X2.out.cells
  have f0 := fr 0
  have f1 := fr 1
  have f2 := fr 2
  have f3 := fr 3
  clear fr
  go_wp2_with fail
  obtain ⟨⟨z0, z1, z2, z3⟩, -⟩ := (X2.out.put ⟨12, 0, false, 0⟩).cells
  unfold putAns at z0 z1 z2 z3
  clear x0 x1 x2 x3 f0 f1 f2 f3
  refine bodyPost_ret (v := .tuple #[rowV a cap T, ansV ⟨12, 0, false, 0⟩]) ?q1 rfl ?q2
  case q1 =>
    simp only [results, Tryz.results25]
    simp [go_sem, z0, z1, z2, z3]
  case q2 => exact Deals.of HR.out (Nat.le_refl _) B2.out X2.out ⟨_, _, rfl, HA.out.tab.kept B2.out⟩
set_option maxHeartbeats 1000000 in
theorem dec_old_empty (h : Asked home a cap T pa pc P k w s fd pk)  {r : List Tab.Ent × Ans} (now idle : Int) (c : Bool) (q : Nat) (hf : Tab.find home T k = some q) (ht : ¬ now ≤ (Tab.ent T q).dl) (hp : P = []) (hr : r = (T, ⟨11, 0, false, 0⟩)) :
    Calls Tryz.prog 25 #[rowV a cap T, .slice pa P.length pc, .string k, .bool c, .int .i64 now, .int .i64 idle] w (Deals r w) := by
  have al := below_ans w
  have HX := Lib.hid al.1
  have B0 := Lib.hid al.2
  have CF := Lib.hid (h.find _ al.2)
  have CS := Lib.hid (h.sum _ al.2)
  have CP := Lib.hid (h.pick _ al.2)
  have HA := Lib.hid h
  have HF := Lib.hid (show Tab.zOf (Tab.find home T k) = (q : Int) by rw [hf]; rfl)
  rw [HF.out] at CF
  have hq : q < T.length := (Tab.find_some hf).1
  have hT := (h.tab.kept al.2)
  have hmx := hT.max
  have hln := hT.len
  unfold maxLen at hmx
  obtain ⟨b, off, hab, k0, k1, k2, k3⟩ := hT.ent hq
  have eT : Tab.ent T q = T[q] := Tab.ent_at hq
  rw [eT] at ht
  have mx : max (q : Int) 0 = (q : Int) := by omega
  clear hT hf
  have dt : decide (now ≤ T[q].dl) = false := decide_eq_false ht
  clear ht
  subst hab
  generalize T[q] = x at *

  have d9 : ((P.length : Int) == 0) = true := by rw [hp]; rfl
  have d9n : (P.length == 0) = true := by rw [hp]; rfl
  clear hp
  have HR := Lib.hid hr
  clear hr
  clear al
  go_enter Tryz.func25, Tryz.ntmps25
  go_wp2_with fail
  refine CF.out.mono ?_
  rintro e w1 ⟨rfl, rfl⟩
  go_wp2_with fail
  refine CS.out.mono ?_
  rintro e w2 ⟨rfl, rfl⟩
  go_wp2_with fail
  refine CP.out.mono ?_
  rintro e w3 ⟨rfl, hb⟩
  have B1 := Lib.hid (below2 B0.out hb)
  have X1 := Lib.hid (HX.out.kept hb)
  clear hb CF CS CP B0 HX
  obtain ⟨⟨x0, x1, x2, x3⟩, fr⟩ := X1.out.cells
  have f0 := fr 0
  have f1 := fr 1
  have f2 := fr 2
  have f3 := fr 3
  clear fr
  go_wp2_with fail
  obtain ⟨⟨z0, z1, z2, z3⟩, -⟩ := (X1.out.put ⟨11, 0, false, 0⟩).cells
  unfold putAns at z0 z1 z2 z3
  clear x0 x1 x2 x3 f0 f1 f2 f3
  refine bodyPost_ret (v := .tuple #[rowV (some ⟨b, off, none⟩) cap T, ansV ⟨11, 0, false, 0⟩]) ?q1 rfl ?q2
  case q1 =>
    simp only [results, Tryz.results25]
    simp [go_sem, z0, z1, z2, z3]
  case q2 => exact Deals.of HR.out (Nat.le_refl _) B1.out X1.out ⟨_, _, rfl, HA.out.tab.kept B1.out⟩
set_option maxHeartbeats 1000000 in
theorem dec_old_close (h : Asked home a cap T pa pc P k w s fd pk)  {r : List Tab.Ent × Ans} (now idle : Int) (q : Nat) (hf : Tab.find home T k = some q) (ht : ¬ now ≤ (Tab.ent T q).dl) (hp : P ≠ []) (hr : r = (del home T k, ⟨0, pk, false, 0⟩)) :
    Calls Tryz.prog 25 #[rowV a cap T, .slice pa P.length pc, .string k, .bool true, .int .i64 now, .int .i64 idle] w (Deals r w) := by
  have al := below_ans w
  have HX := Lib.hid al.1
  have B0 := Lib.hid al.2
  have CF := Lib.hid (h.find _ al.2)
  have CS := Lib.hid (h.sum _ al.2)
  have CP := Lib.hid (h.pick _ al.2)
  have HA := Lib.hid h
  have HF := Lib.hid (show Tab.zOf (Tab.find home T k) = (q : Int) by rw [hf]; rfl)
  rw [HF.out] at CF
  have hq : q < T.length := (Tab.find_some hf).1
  have hT := (h.tab.kept al.2)
  have hmx := hT.max
  have hln := hT.len
  unfold maxLen at hmx
  obtain ⟨b, off, hab, k0, k1, k2, k3⟩ := hT.ent hq
  have eT : Tab.ent T q = T[q] := Tab.ent_at hq
  rw [eT] at ht
  have mx : max (q : Int) 0 = (q : Int) := by omega
  clear hT hf
  have dt : decide (now ≤ T[q].dl) = false := decide_eq_false ht
  clear ht
  subst hab
  generalize T[q] = x at *

  have hpl : P.length ≠ 0 := fun e => hp (List.eq_nil_of_length_eq_zero e)
  have d9 : ((P.length : Int) == 0) = false := beq_false_of_ne (by omega)
  have d9n : (P.length == 0) = false := beq_false_of_ne hpl
  clear hp hpl
  have HR := Lib.hid hr
  clear hr
  clear al
  go_enter Tryz.func25, Tryz.ntmps25
  go_wp2_with fail
  refine CF.out.mono ?_
  rintro e w1 ⟨rfl, rfl⟩
  go_wp2_with fail
  refine CS.out.mono ?_
  rintro e w2 ⟨rfl, rfl⟩
  go_wp2_with fail
  refine CP.out.mono ?_
  rintro e w3 ⟨rfl, hb⟩
  have B1 := Lib.hid (below2 B0.out hb)
  have X1 := Lib.hid (HX.out.kept hb)
  clear hb CF CS CP B0 HX
  have CD := Lib.hid (HA.out.del _ B1.out)
  generalize del home T k = D at *
  go_wp2_with fail
  refine CD.out.mono ?_
  rintro e w4 ⟨v, b', rfl, hv, hb⟩
  have V2 := Lib.hid hv
  have B2 := Lib.hid (below2 B1.out hb)
  have X2 := Lib.hid (X1.out.kept hb)
  clear hv hb CD B1 X1
  obtain ⟨av, cv, rfl, -⟩ := V2.out
  obtain ⟨⟨x0, x1, x2, x3⟩, fr⟩ := X2.out.cells
  have f0 := fr 0
  have f1 := fr 1
  have f2 := fr 2
  have f3 := fr 3
  clear fr
  go_wp2_with fail
  obtain ⟨⟨z0, z1, z2, z3⟩, -⟩ := (X2.out.put ⟨0, pk, false, 0⟩).cells
  unfold putAns at z0 z1 z2 z3
  clear x0 x1 x2 x3 f0 f1 f2 f3
  refine bodyPost_ret (v := .tuple #[rowV av cv D, ansV ⟨0, pk, false, 0⟩]) ?q1 rfl ?q2
  case q1 =>
    simp only [results, Tryz.results25]
    simp [go_sem, z0, z1, z2, z3]
  case q2 => exact Deals.of HR.out (Nat.le_refl _) B2.out X2.out V2.out
set_option maxHeartbeats 1000000 in
theorem dec_old_put (h : Asked home a cap T pa pc P k w s fd pk)  {r : List Tab.Ent × Ans} (now idle : Int) (q : Nat) (hf : Tab.find home T k = some q) (ht : ¬ now ≤ (Tab.ent T q).dl) (hp : P ≠ []) (U : List Tab.Ent) (hu : Tab.put home T k pk (IntKind.i64.wrap (now + idle)) = some U) (hr : r = (U, ⟨0, pk, true, 0⟩)) :
    Calls Tryz.prog 25 #[rowV a cap T, .slice pa P.length pc, .string k, .bool false, .int .i64 now, .int .i64 idle] w (Deals r w) := by
  have al := below_ans w
  have HX := Lib.hid al.1
  have B0 := Lib.hid al.2
  have CF := Lib.hid (h.find _ al.2)
  have CS := Lib.hid (h.sum _ al.2)
  have CP := Lib.hid (h.pick _ al.2)
  have HA := Lib.hid h
  obtain ⟨dl, hdl⟩ : ∃ dl, IntKind.i64.wrap (now + idle) = dl := ⟨_, rfl⟩
  rw [hdl] at hu
  have HF := Lib.hid (show Tab.zOf (Tab.find home T k) = (q : Int) by rw [hf]; rfl)
  rw [HF.out] at CF
  have hq : q < T.length := (Tab.find_some hf).1
  have hT := (h.tab.kept al.2)
  have hmx := hT.max
  have hln := hT.len
  unfold maxLen at hmx
  obtain ⟨b, off, hab, k0, k1, k2, k3⟩ := hT.ent hq
  have eT : Tab.ent T q = T[q] := Tab.ent_at hq
  rw [eT] at ht
  have mx : max (q : Int) 0 = (q : Int) := by omega
  clear hT hf
  have dt : decide (now ≤ T[q].dl) = false := decide_eq_false ht
  clear ht
  subst hab
  generalize T[q] = x at *

  have hpl : P.length ≠ 0 := fun e => hp (List.eq_nil_of_length_eq_zero e)
  have d9 : ((P.length : Int) == 0) = false := beq_false_of_ne (by omega)
  have d9n : (P.length == 0) = false := beq_false_of_ne hpl
  clear hp hpl
  have HR := Lib.hid hr
  clear hr
  clear al
  go_enter Tryz.func25, Tryz.ntmps25
  go_wp2_with fail
  refine CF.out.mono ?_
  rintro e w1 ⟨rfl, rfl⟩
  go_wp2_with fail
  refine CS.out.mono ?_
  rintro e w2 ⟨rfl, rfl⟩
  go_wp2_with fail
  refine CP.out.mono ?_
  rintro e w3 ⟨rfl, hb⟩
  have B1 := Lib.hid (below2 B0.out hb)
  have X1 := Lib.hid (HX.out.kept hb)
  clear hb CF CS CP B0 HX
  have CU := Lib.hid (HA.out.put pk dl _ B1.out)
  rw [hu] at CU
  simp only [Option.isSome_some, Option.getD_some, if_true] at CU
  clear hu
  go_wp2_with fail
  refine CU.out.mono ?_
  rintro e w4 ⟨v, rfl, hv, hb⟩
  have V2 := Lib.hid hv
  have B2 := Lib.hid (below2 B1.out hb)
  have X2 := Lib.hid (X1.out.kept hb)
  clear hv hb CU B1 X1
  obtain ⟨av, cv, rfl, -⟩ := V2.out
  obtain ⟨⟨x0, x1, x2, x3⟩, fr⟩ := X2.out.cells
  have f0 := fr 0
  have f1 := fr 1
  have f2 := fr 2
  have f3 := fr 3
  clear fr
  go_wp2_with fail
  obtain ⟨⟨z0, z1, z2, z3⟩, -⟩ := (X2.out.put ⟨0, pk, true, 0⟩).cells
  unfold putAns at z0 z1 z2 z3
  clear x0 x1 x2 x3 f0 f1 f2 f3
  refine bodyPost_ret (v := .tuple #[rowV av cv U, ansV ⟨0, pk, true, 0⟩]) ?q1 rfl ?q2
  case q1 =>
    simp only [results, Tryz.results25]
    simp [go_sem, z0, z1, z2, z3]
  case q2 => exact Deals.of HR.out (Nat.le_refl _) B2.out X2.out V2.out
set_option maxHeartbeats 1000000 in
theorem dec_old_full (h : Asked home a cap T pa pc P k w s fd pk)  {r : List Tab.Ent × Ans} (now idle : Int) (q : Nat) (hf : Tab.find home T k = some q) (ht : ¬ now ≤ (Tab.ent T q).dl) (hp : P ≠ []) (hu : Tab.put home T k pk (IntKind.i64.wrap (now + idle)) = none) (hr : r = (T, ⟨12, 0, false, 0⟩)) :
    Calls Tryz.prog 25 #[rowV a cap T, .slice pa P.length pc, .string k, .bool false, .int .i64 now, .int .i64 idle] w (Deals r w) := by
  have al := below_ans w
  have HX := Lib.hid al.1
  have B0 := Lib.hid al.2
  have CF := Lib.hid (h.find _ al.2)
  have CS := Lib.hid (h.sum _ al.2)
  have CP := Lib.hid (h.pick _ al.2)
  have HA := Lib.hid h
  obtain ⟨dl, hdl⟩ : ∃ dl, IntKind.i64.wrap (now + idle) = dl := ⟨_, rfl⟩
  rw [hdl] at hu
  have HF := Lib.hid (show Tab.zOf (Tab.find home T k) = (q : Int) by rw [hf]; rfl)
  rw [HF.out] at CF
  have hq : q < T.length := (Tab.find_some hf).1
  have hT := (h.tab.kept al.2)
  have hmx := hT.max
  have hln := hT.len
  unfold maxLen at hmx
  obtain ⟨b, off, hab, k0, k1, k2, k3⟩ := hT.ent hq
  have eT : Tab.ent T q = T[q] := Tab.ent_at hq
  rw [eT] at ht
  have mx : max (q : Int) 0 = (q : Int) := by omega
  clear hT hf
  have dt : decide (now ≤ T[q].dl) = false := decide_eq_false ht
  clear ht
  subst hab
  generalize T[q] = x at *

  have hpl : P.length ≠ 0 := fun e => hp (List.eq_nil_of_length_eq_zero e)
  have d9 : ((P.length : Int) == 0) = false := beq_false_of_ne (by omega)
  have d9n : (P.length == 0) = false := beq_false_of_ne hpl
  clear hp hpl
  have HR := Lib.hid hr
  clear hr
  clear al
  go_enter Tryz.func25, Tryz.ntmps25
  go_wp2_with fail
  refine CF.out.mono ?_
  rintro e w1 ⟨rfl, rfl⟩
  go_wp2_with fail
  refine CS.out.mono ?_
  rintro e w2 ⟨rfl, rfl⟩
  go_wp2_with fail
  refine CP.out.mono ?_
  rintro e w3 ⟨rfl, hb⟩
  have B1 := Lib.hid (below2 B0.out hb)
  have X1 := Lib.hid (HX.out.kept hb)
  clear hb CF CS CP B0 HX
  have CU := Lib.hid (HA.out.put pk dl _ B1.out)
  rw [hu] at CU
  simp only [Option.isSome_none, Option.getD_none, Bool.false_eq_true, if_false] at CU
  clear hu
  go_wp2_with fail
  refine CU.out.mono ?_
  rintro e w4 ⟨v, rfl, hv, hb⟩
  have V2 := Lib.hid hv
  have B2 := Lib.hid (below2 B1.out hb)
  have X2 := Lib.hid (X1.out.kept hb)
  clear hv hb CU B1 X1
  obtain ⟨av, cv, rfl, -⟩ := V2.out
  obtain ⟨⟨x0, x1, x2, x3⟩, fr⟩ := X2.out.cells
  have f0 := fr 0
  have f1 := fr 1
  have f2 := fr 2
  have f3 := fr 3
  clear fr
  go_wp2_with fail
  obtain ⟨⟨z0, z1, z2, z3⟩, -⟩ := (X2.out.put ⟨12, 0, false, 0⟩).cells
  unfold putAns at z0 z1 z2 z3
  clear x0 x1 x2 x3 f0 f1 f2 f3
  refine bodyPost_ret (v := .tuple #[rowV (some ⟨b, off, none⟩) cap T, ansV ⟨12, 0, false, 0⟩]) ?q1 rfl ?q2
  case q1 =>
    simp only [results, Tryz.results25]
    simp [go_sem, z0, z1, z2, z3]
  case q2 => exact Deals.of HR.out (Nat.le_refl _) B2.out X2.out ⟨_, _, rfl, HA.out.tab.kept B2.out⟩
set_option maxHeartbeats 1000000 in
theorem dec_gone_empty (h : Asked home a cap T pa pc P k w s fd pk)  {r : List Tab.Ent × Ans} (now idle : Int) (c : Bool) (q : Nat) (hf : Tab.find home T k = some q) (ht : now ≤ (Tab.ent T q).dl) (hh : hasId P (Tab.ent T q).be = false) (hp : P = []) (hr : r = (T, ⟨11, 0, false, 0⟩)) :
    Calls Tryz.prog 25 #[rowV a cap T, .slice pa P.length pc, .string k, .bool c, .int .i64 now, .int .i64 idle] w (Deals r w) := by
  have al := below_ans w
  have HX := Lib.hid al.1
  have B0 := Lib.hid al.2
  have CF := Lib.hid (h.find _ al.2)
  have CS := Lib.hid (h.sum _ al.2)
  have CP := Lib.hid (h.pick _ al.2)
  have HA := Lib.hid h
  have HF := Lib.hid (show Tab.zOf (Tab.find home T k) = (q : Int) by rw [hf]; rfl)
  rw [HF.out] at CF
  have hq : q < T.length := (Tab.find_some hf).1
  have hT := (h.tab.kept al.2)
  have hmx := hT.max
  have hln := hT.len
  unfold maxLen at hmx
  obtain ⟨b, off, hab, k0, k1, k2, k3⟩ := hT.ent hq
  have eT : Tab.ent T q = T[q] := Tab.ent_at hq
  rw [eT] at ht hh
  have mx : max (q : Int) 0 = (q : Int) := by omega
  clear hT hf
  have dt : decide (now ≤ T[q].dl) = true := decide_eq_true ht
  have CH := Lib.hid (h.has T[q].be _ al.2)
  have hd : decide (0 ≤ fd T[q].be) = false := by rw [← h.is]; exact hh
  clear ht hh
  subst hab
  generalize T[q] = x at *
  generalize fd x.be = z at *
  have d9 : ((P.length : Int) == 0) = true := by rw [hp]; rfl
  have d9n : (P.length == 0) = true := by rw [hp]; rfl
  clear hp
  have HR := Lib.hid hr
  clear hr
  clear al
  go_enter Tryz.func25, Tryz.ntmps25
  go_wp2_with fail
  refine CF.out.mono ?_
  rintro e w1 ⟨rfl, rfl⟩
  go_wp2_with fail
  refine CH.out.mono ?_
  rintro e w2 ⟨rfl, rfl⟩
  clear CH
  go_wp2_with fail
  refine CS.out.mono ?_
  rintro e w2 ⟨rfl, rfl⟩
  go_wp2_with fail
  refine CP.out.mono ?_
  rintro e w3 ⟨rfl, hb⟩
  have B1 := Lib.hid (below2 B0.out hb)
  have X1 := Lib.hid (HX.out.kept hb)
  clear hb CF CS CP B0 HX
  obtain ⟨⟨x0, x1, x2, x3⟩, fr⟩ := X1.out.cells
  have f0 := fr 0
  have f1 := fr 1
  have f2 := fr 2
  have f3 := fr 3
  clear fr
  go_wp2_with fail
  obtain ⟨⟨z0, z1, z2, z3⟩, -⟩ := (X1.out.put ⟨11, 0, false, 0⟩).cells
  unfold putAns at z0 z1 z2 z3
  clear x0 x1 x2 x3 f0 f1 f2 f3
  refine bodyPost_ret (v := .tuple #[rowV (some ⟨b, off, none⟩) cap T, ansV ⟨11, 0, false, 0⟩]) ?q1 rfl ?q2
  case q1 =>
    simp only [results, Tryz.results25]
    simp [go_sem, z0, z1, z2, z3]
  case q2 => exact Deals.of HR.out (Nat.le_refl _) B1.out X1.out ⟨_, _, rfl, HA.out.tab.kept B1.out⟩
set_option maxHeartbeats 1000000 in
theorem dec_gone_close (h : Asked home a cap T pa pc P k w s fd pk)  {r : List Tab.Ent × Ans} (now idle : Int) (q : Nat) (hf : Tab.find home T k = some q) (ht : now ≤ (Tab.ent T q).dl) (hh : hasId P (Tab.ent T q).be = false) (hp : P ≠ []) (hr : r = (del home T k, ⟨0, pk, false, 0⟩)) :
    Calls Tryz.prog 25 #[rowV a cap T, .slice pa P.length pc, .string k, .bool true, .int .i64 now, .int .i64 idle] w (Deals r w) := by
  have al := below_ans w
  have HX := Lib.hid al.1
  have B0 := Lib.hid al.2
  have CF := Lib.hid (h.find _ al.2)
  have CS := Lib.hid (h.sum _ al.2)
  have CP := Lib.hid (h.pick _ al.2)
  have HA := Lib.hid h
  have HF := Lib.hid (show Tab.zOf (Tab.find home T k) = (q : Int) by rw [hf]; rfl)
  rw [HF.out] at CF
  have hq : q < T.length := (Tab.find_some hf).1
  have hT := (h.tab.kept al.2)
  have hmx := hT.max
  have hln := hT.len
  unfold maxLen at hmx
  obtain ⟨b, off, hab, k0, k1, k2, k3⟩ := hT.ent hq
  have eT : Tab.ent T q = T[q] := Tab.ent_at hq
  rw [eT] at ht hh
  have mx : max (q : Int) 0 = (q : Int) := by omega
  clear hT hf
  have dt : decide (now ≤ T[q].dl) = true := decide_eq_true ht
  have CH := Lib.hid (h.has T[q].be _ al.2)
  have hd : decide (0 ≤ fd T[q].be) = false := by rw [← h.is]; exact hh
  clear ht hh
  subst hab
  generalize T[q] = x at *
  generalize fd x.be = z at *
  have hpl : P.length ≠ 0 := fun e => hp (List.eq_nil_of_length_eq_zero e)
  have d9 : ((P.length : Int) == 0) = false := beq_false_of_ne (by omega)
  have d9n : (P.length == 0) = false := beq_false_of_ne hpl
  clear hp hpl
  have HR := Lib.hid hr
  clear hr
  clear al
  go_enter Tryz.func25, Tryz.ntmps25
  go_wp2_with fail
  refine CF.out.mono ?_
  rintro e w1 ⟨rfl, rfl⟩
  go_wp2_with fail
  refine CH.out.mono ?_
  rintro e w2 ⟨rfl, rfl⟩
  clear CH
  go_wp2_with fail
  refine CS.out.mono ?_
  rintro e w2 ⟨rfl, rfl⟩
  go_wp2_with fail
  refine CP.out.mono ?_
  rintro e w3 ⟨rfl, hb⟩
  have B1 := Lib.hid (below2 B0.out hb)
  have X1 := Lib.hid (HX.out.kept hb)
  clear hb CF CS CP B0 HX
  have CD := Lib.hid (HA.out.del _ B1.out)
  generalize del home T k = D at *
  go_wp2_with fail
  refine CD.out.mono ?_
  rintro e w4 ⟨v, b', rfl, hv, hb⟩
  have V2 := Lib.hid hv
  have B2 := Lib.hid (below2 B1.out hb)
  have X2 := Lib.hid (X1.out.kept hb)
  clear hv hb CD B1 X1
  obtain ⟨av, cv, rfl, -⟩ := V2.out
  obtain ⟨⟨x0, x1, x2, x3⟩, fr⟩ := X2.out.cells
  have f0 := fr 0
  have f1 := fr 1
  have f2 := fr 2
  have f3 := fr 3
  clear fr
  go_wp2_with fail
  obtain ⟨⟨z0, z1, z2, z3⟩, -⟩ := (X2.out.put ⟨0, pk, false, 0⟩).cells
  unfold putAns at z0 z1 z2 z3
  clear x0 x1 x2 x3 f0 f1 f2 f3
  refine bodyPost_ret (v := .tuple #[rowV av cv D, ansV ⟨0, pk, false, 0⟩]) ?q1 rfl ?q2
  case q1 =>
    simp only [results, Tryz.results25]
    simp [go_sem, z0, z1, z2, z3]
  case q2 => exact Deals.of HR.out (Nat.le_refl _) B2.out X2.out V2.out
set_option maxHeartbeats 1000000 in
theorem dec_gone_put (h : Asked home a cap T pa pc P k w s fd pk)  {r : List Tab.Ent × Ans} (now idle : Int) (q : Nat) (hf : Tab.find home T k = some q) (ht : now ≤ (Tab.ent T q).dl) (hh : hasId P (Tab.ent T q).be = false) (hp : P ≠ []) (U : List Tab.Ent) (hu : Tab.put home T k pk (IntKind.i64.wrap (now + idle)) = some U) (hr : r = (U, ⟨0, pk, true, 0⟩)) :
    Calls Tryz.prog 25 #[rowV a cap T, .slice pa P.length pc, .string k, .bool false, .int .i64 now, .int .i64 idle] w (Deals r w) := by
  have al := below_ans w
  have HX := Lib.hid al.1
  have B0 := Lib.hid al.2
  have CF := Lib.hid (h.find _ al.2)
  have CS := Lib.hid (h.sum _ al.2)
  have CP := Lib.hid (h.pick _ al.2)
  have HA := Lib.hid h
  obtain ⟨dl, hdl⟩ : ∃ dl, IntKind.i64.wrap (now + idle) = dl := ⟨_, rfl⟩
  rw [hdl] at hu
  have HF := Lib.hid (show Tab.zOf (Tab.find home T k) = (q : Int) by rw [hf]; rfl)
  rw [HF.out] at CF
  have hq : q < T.length := (Tab.find_some hf).1
  have hT := (h.tab.kept al.2)
  have hmx := hT.max
  have hln := hT.len
  unfold maxLen at hmx
  obtain ⟨b, off, hab, k0, k1, k2, k3⟩ := hT.ent hq
  have eT : Tab.ent T q = T[q] := Tab.ent_at hq
  rw [eT] at ht hh
  have mx : max (q : Int) 0 = (q : Int) := by omega
  clear hT hf
  have dt : decide (now ≤ T[q].dl) = true := decide_eq_true ht
  have CH := Lib.hid (h.has T[q].be _ al.2)
  have hd : decide (0 ≤ fd T[q].be) = false := by rw [← h.is]; exact hh
  clear ht hh
  subst hab
  generalize T[q] = x at *
  generalize fd x.be = z at *
  have hpl : P.length ≠ 0 := fun e => hp (List.eq_nil_of_length_eq_zero e)
  have d9 : ((P.length : Int) == 0) = false := beq_false_of_ne (by omega)
  have d9n : (P.length == 0) = false := beq_false_of_ne hpl
  clear hp hpl
  have HR := Lib.hid hr
  clear hr
  clear al
  go_enter Tryz.func25, Tryz.ntmps25
  go_wp2_with fail
  refine CF.out.mono ?_
  rintro e w1 ⟨rfl, rfl⟩
  go_wp2_with fail
  refine CH.out.mono ?_
  rintro e w2 ⟨rfl, rfl⟩
  clear CH
  go_wp2_with fail
  refine CS.out.mono ?_
  rintro e w2 ⟨rfl, rfl⟩
  go_wp2_with fail
  refine CP.out.mono ?_
  rintro e w3 ⟨rfl, hb⟩
  have B1 := Lib.hid (below2 B0.out hb)
  have X1 := Lib.hid (HX.out.kept hb)
  clear hb CF CS CP B0 HX
  have CU := Lib.hid (HA.out.put pk dl _ B1.out)
  rw [hu] at CU
  simp only [Option.isSome_some, Option.getD_some, if_true] at CU
  clear hu
  go_wp2_with fail
  refine CU.out.mono ?_
  rintro e w4 ⟨v, rfl, hv, hb⟩
  have V2 := Lib.hid hv
  have B2 := Lib.hid (below2 B1.out hb)
  have X2 := Lib.hid (X1.out.kept hb)
  clear hv hb CU B1 X1
  obtain ⟨av, cv, rfl, -⟩ := V2.out
  obtain ⟨⟨x0, x1, x2, x3⟩, fr⟩ := X2.out.cells
  have f0 := fr 0
  have f1 := fr 1
  have f2 := fr 2
  have f3 := fr 3
  clear fr
  go_wp2_with fail
  obtain ⟨⟨z0, z1, z2, z3⟩, -⟩ := (X2.out.put ⟨0, pk, true, 0⟩).cells
  unfold putAns at z0 z1 z2 z3
  clear x0 x1 x2 x3 f0 f1 f2 f3
  refine bodyPost_ret (v := .tuple #[rowV av cv U, ansV ⟨0, pk, true, 0⟩]) ?q1 rfl ?q2
  case q1 =>
    simp only [results, Tryz.results25]
    simp [go_sem, z0, z1, z2, z3]
  case q2 => exact Deals.of HR.out (Nat.le_refl _) B2.out X2.out V2.out
set_option maxHeartbeats 1000000 in
theorem dec_gone_full (h : Asked home a cap T pa pc P k w s fd pk)  {r : List Tab.Ent × Ans} (now idle : Int) (q : Nat) (hf : Tab.find home T k = some q) (ht : now ≤ (Tab.ent T q).dl) (hh : hasId P (Tab.ent T q).be = false) (hp : P ≠ []) (hu : Tab.put home T k pk (IntKind.i64.wrap (now + idle)) = none) (hr : r = (T, ⟨12, 0, false, 0⟩)) :
    Calls Tryz.prog 25 #[rowV a cap T, .slice pa P.length pc, .string k, .bool false, .int .i64 now, .int .i64 idle] w (Deals r w) := by
  have al := below_ans w
  have HX := Lib.hid al.1
  have B0 := Lib.hid al.2
  have CF := Lib.hid (h.find _ al.2)
  have CS := Lib.hid (h.sum _ al.2)
  have CP := Lib.hid (h.pick _ al.2)
  have HA := Lib.hid h
  obtain ⟨dl, hdl⟩ : ∃ dl, IntKind.i64.wrap (now + idle) = dl := ⟨_, rfl⟩
  rw [hdl] at hu
  have HF := Lib.hid (show Tab.zOf (Tab.find home T k) = (q : Int) by rw [hf]; rfl)
  rw [HF.out] at CF
  have hq : q < T.length := (Tab.find_some hf).1
  have hT := (h.tab.kept al.2)
  have hmx := hT.max
  have hln := hT.len
  unfold maxLen at hmx
  obtain ⟨b, off, hab, k0, k1, k2, k3⟩ := hT.ent hq
  have eT : Tab.ent T q = T[q] := Tab.ent_at hq
  rw [eT] at ht hh
  have mx : max (q : Int) 0 = (q : Int) := by omega
  clear hT hf
  have dt : decide (now ≤ T[q].dl) = true := decide_eq_true ht
  have CH := Lib.hid (h.has T[q].be _ al.2)
  have hd : decide (0 ≤ fd T[q].be) = false := by rw [← h.is]; exact hh
  clear ht hh
  subst hab
  generalize T[q] = x at *
  generalize fd x.be = z at *
  have hpl : P.length ≠ 0 := fun e => hp (List.eq_nil_of_length_eq_zero e)
  have d9 : ((P.length : Int) == 0) = false := beq_false_of_ne (by omega)
  have d9n : (P.length == 0) = false := beq_false_of_ne hpl
  clear hp hpl
  have HR := Lib.hid hr
  clear hr
  clear al
  go_enter Tryz.func25, Tryz.ntmps25
  go_wp2_with fail
  refine CF.out.mono ?_
  rintro e w1 ⟨rfl, rfl⟩
  go_wp2_with fail
  refine CH.out.mono ?_
  rintro e w2 ⟨rfl, rfl⟩
  clear CH
  go_wp2_with fail
  refine CS.out.mono ?_
  rintro e w2 ⟨rfl, rfl⟩
  go_wp2_with fail
  refine CP.out.mono ?_
  rintro e w3 ⟨rfl, hb⟩
  have B1 := Lib.hid (below2 B0.out hb)
  have X1 := Lib.hid (HX.out.kept hb)
  clear hb CF CS CP B0 HX
  have CU := Lib.hid (HA.out.put pk dl _ B1.out)
  rw [hu] at CU
  simp only [Option.isSome_none, Option.getD_none, Bool.false_eq_true, if_false] at CU
  clear hu
  go_wp2_with fail
  refine CU.out.mono ?_
  rintro e w4 ⟨v, rfl, hv, hb⟩
  have V2 := Lib.hid hv
  have B2 := Lib.hid (below2 B1.out hb)
  have X2 := Lib.hid (X1.out.kept hb)
  clear hv hb CU B1 X1
  obtain ⟨av, cv, rfl, -⟩ := V2.out
  obtain ⟨⟨x0, x1, x2, x3⟩, fr⟩ := X2.out.cells
  have f0 := fr 0
  have f1 := fr 1
  have f2 := fr 2
  have f3 := fr 3
  clear fr
  go_wp2_with fail
  obtain ⟨⟨z0, z1, z2, z3⟩, -⟩ := (X2.out.put ⟨12, 0, false, 0⟩).cells
  unfold putAns at z0 z1 z2 z3
  clear x0 x1 x2 x3 f0 f1 f2 f3
  refine bodyPost_ret (v := .tuple #[rowV (some ⟨b, off, none⟩) cap T, ansV ⟨12, 0, false, 0⟩]) ?q1 rfl ?q2
  case q1 =>
    simp only [results, Tryz.results25]
    simp [go_sem, z0, z1, z2, z3]
  case q2 => exact Deals.of HR.out (Nat.le_refl _) B2.out X2.out ⟨_, _, rfl, HA.out.tab.kept B2.out⟩
set_option maxHeartbeats 1000000 in
theorem dec_yes_close (h : Asked home a cap T pa pc P k w s fd pk)  {r : List Tab.Ent × Ans} (now idle : Int) (q : Nat) (hf : Tab.find home T k = some q) (ht : now ≤ (Tab.ent T q).dl) (hh : hasId P (Tab.ent T q).be = true) (hr : r = (del home T k, ⟨0, (Tab.ent T q).be, false, 0⟩)) :
    Calls Tryz.prog 25 #[rowV a cap T, .slice pa P.length pc, .string k, .bool true, .int .i64 now, .int .i64 idle] w (Deals r w) := by
  have al := below_ans w
  have HX := Lib.hid al.1
  have B0 := Lib.hid al.2
  have CF := Lib.hid (h.find _ al.2)
  have CS := Lib.hid (h.sum _ al.2)
  have CP := Lib.hid (h.pick _ al.2)
  have HA := Lib.hid h
  have HF := Lib.hid (show Tab.zOf (Tab.find home T k) = (q : Int) by rw [hf]; rfl)
  rw [HF.out] at CF
  have hq : q < T.length := (Tab.find_some hf).1
  have hT := (h.tab.kept al.2)
  have hmx := hT.max
  have hln := hT.len
  unfold maxLen at hmx
  obtain ⟨b, off, hab, k0, k1, k2, k3⟩ := hT.ent hq
  have eT : Tab.ent T q = T[q] := Tab.ent_at hq
  rw [eT] at ht hh
  have mx : max (q : Int) 0 = (q : Int) := by omega
  clear hT hf
  have dt : decide (now ≤ T[q].dl) = true := decide_eq_true ht
  have CH := Lib.hid (h.has T[q].be _ al.2)
  have hd : decide (0 ≤ fd T[q].be) = true := by rw [← h.is]; exact hh
  clear ht hh
  rw [eT] at hr
  subst hab
  generalize T[q] = x at *
  generalize fd x.be = z at *

  have HR := Lib.hid hr
  clear hr
  clear al
  go_enter Tryz.func25, Tryz.ntmps25
  go_wp2_with fail
  refine CF.out.mono ?_
  rintro e w1 ⟨rfl, rfl⟩
  go_wp2_with fail
  refine CH.out.mono ?_
  rintro e w2 ⟨rfl, rfl⟩
  clear CH
  go_wp2_with fail
  refine CS.out.mono ?_
  rintro e w2 ⟨rfl, rfl⟩
  go_wp2_with fail
  refine CP.out.mono ?_
  rintro e w3 ⟨rfl, hb⟩
  have B1 := Lib.hid (below2 B0.out hb)
  have X1 := Lib.hid (HX.out.kept hb)
  have k2w := (hb.cell (World.block_lt_of_cell? _ _ k2)).trans k2
  clear hb CF CS CP B0 HX
  have CD := Lib.hid (HA.out.del _ B1.out)
  generalize del home T k = D at *
  go_wp2_with fail
  refine CD.out.mono ?_
  rintro e w4 ⟨v, b', rfl, hv, hb⟩
  have V2 := Lib.hid hv
  have B2 := Lib.hid (below2 B1.out hb)
  have X2 := Lib.hid (X1.out.kept hb)
  clear hv hb CD B1 X1
  obtain ⟨av, cv, rfl, -⟩ := V2.out
  obtain ⟨⟨x0, x1, x2, x3⟩, fr⟩ := X2.out.cells
  have f0 := fr 0
  have f1 := fr 1
  have f2 := fr 2
  have f3 := fr 3
  clear fr
  go_wp2_with fail
  obtain ⟨⟨z0, z1, z2, z3⟩, -⟩ := (X2.out.put ⟨0, x.be, false, 0⟩).cells
  unfold putAns at z0 z1 z2 z3
  clear x0 x1 x2 x3 f0 f1 f2 f3
  refine bodyPost_ret (v := .tuple #[rowV av cv D, ansV ⟨0, x.be, false, 0⟩]) ?q1 rfl ?q2
  case q1 =>
    simp only [results, Tryz.results25]
    simp [go_sem, z0, z1, z2, z3]
  case q2 => exact Deals.of HR.out (Nat.le_refl _) B2.out X2.out V2.out
set_option maxHeartbeats 1000000 in
theorem dec_yes_put (h : Asked home a cap T pa pc P k w s fd pk)  {r : List Tab.Ent × Ans} (now idle : Int) (q : Nat) (hf : Tab.find home T k = some q) (ht : now ≤ (Tab.ent T q).dl) (hh : hasId P (Tab.ent T q).be = true) (U : List Tab.Ent) (hu : Tab.put home T k (Tab.ent T q).be (IntKind.i64.wrap (now + idle)) = some U) (hr : r = (U, ⟨0, (Tab.ent T q).be, false, 0⟩)) :
    Calls Tryz.prog 25 #[rowV a cap T, .slice pa P.length pc, .string k, .bool false, .int .i64 now, .int .i64 idle] w (Deals r w) := by
  have al := below_ans w
  have HX := Lib.hid al.1
  have B0 := Lib.hid al.2
  have CF := Lib.hid (h.find _ al.2)
  have CS := Lib.hid (h.sum _ al.2)
  have CP := Lib.hid (h.pick _ al.2)
  have HA := Lib.hid h
  obtain ⟨dl, hdl⟩ : ∃ dl, IntKind.i64.wrap (now + idle) = dl := ⟨_, rfl⟩
  rw [hdl] at hu
  have HF := Lib.hid (show Tab.zOf (Tab.find home T k) = (q : Int) by rw [hf]; rfl)
  rw [HF.out] at CF
  have hq : q < T.length := (Tab.find_some hf).1
  have hT := (h.tab.kept al.2)
  have hmx := hT.max
  have hln := hT.len
  unfold maxLen at hmx
  obtain ⟨b, off, hab, k0, k1, k2, k3⟩ := hT.ent hq
  have eT : Tab.ent T q = T[q] := Tab.ent_at hq
  rw [eT] at ht hh
  have mx : max (q : Int) 0 = (q : Int) := by omega
  clear hT hf
  have dt : decide (now ≤ T[q].dl) = true := decide_eq_true ht
  have CH := Lib.hid (h.has T[q].be _ al.2)
  have hd : decide (0 ≤ fd T[q].be) = true := by rw [← h.is]; exact hh
  clear ht hh
  rw [eT] at hr
  rw [eT] at hu
  subst hab
  generalize T[q] = x at *
  generalize fd x.be = z at *

  have HR := Lib.hid hr
  clear hr
  clear al
  go_enter Tryz.func25, Tryz.ntmps25
  go_wp2_with fail
  refine CF.out.mono ?_
  rintro e w1 ⟨rfl, rfl⟩
  go_wp2_with fail
  refine CH.out.mono ?_
  rintro e w2 ⟨rfl, rfl⟩
  clear CH
  go_wp2_with fail
  refine CS.out.mono ?_
  rintro e w2 ⟨rfl, rfl⟩
  go_wp2_with fail
  refine CP.out.mono ?_
  rintro e w3 ⟨rfl, hb⟩
  have B1 := Lib.hid (below2 B0.out hb)
  have X1 := Lib.hid (HX.out.kept hb)
  have k2w := (hb.cell (World.block_lt_of_cell? _ _ k2)).trans k2
  clear hb CF CS CP B0 HX
  have CU := Lib.hid (HA.out.put x.be dl _ B1.out)
  rw [hu] at CU
  simp only [Option.isSome_some, Option.getD_some, if_true] at CU
  clear hu
  go_wp2_with fail
  refine CU.out.mono ?_
  rintro e w4 ⟨v, rfl, hv, hb⟩
  have V2 := Lib.hid hv
  have B2 := Lib.hid (below2 B1.out hb)
  have X2 := Lib.hid (X1.out.kept hb)
  clear hv hb CU B1 X1
  obtain ⟨av, cv, rfl, -⟩ := V2.out
  obtain ⟨⟨x0, x1, x2, x3⟩, fr⟩ := X2.out.cells
  have f0 := fr 0
  have f1 := fr 1
  have f2 := fr 2
  have f3 := fr 3
  clear fr
  go_wp2_with fail
  obtain ⟨⟨z0, z1, z2, z3⟩, -⟩ := (X2.out.put ⟨0, x.be, false, 0⟩).cells
  unfold putAns at z0 z1 z2 z3
  clear x0 x1 x2 x3 f0 f1 f2 f3
  refine bodyPost_ret (v := .tuple #[rowV av cv U, ansV ⟨0, x.be, false, 0⟩]) ?q1 rfl ?q2
  case q1 =>
    simp only [results, Tryz.results25]
    simp [go_sem, z0, z1, z2, z3]
  case q2 => exact Deals.of HR.out (Nat.le_refl _) B2.out X2.out V2.out
set_option maxHeartbeats 1000000 in
theorem dec_yes_full (h : Asked home a cap T pa pc P k w s fd pk)  {r : List Tab.Ent × Ans} (now idle : Int) (q : Nat) (hf : Tab.find home T k = some q) (ht : now ≤ (Tab.ent T q).dl) (hh : hasId P (Tab.ent T q).be = true) (hu : Tab.put home T k (Tab.ent T q).be (IntKind.i64.wrap (now + idle)) = none) (hr : r = (T, ⟨12, 0, false, 0⟩)) :
    Calls Tryz.prog 25 #[rowV a cap T, .slice pa P.length pc, .string k, .bool false, .int .i64 now, .int .i64 idle] w (Deals r w) := by
  have al := below_ans w
  have HX := Lib.hid al.1
  have B0 := Lib.hid al.2
  have CF := Lib.hid (h.find _ al.2)
  have CS := Lib.hid (h.sum _ al.2)
  have CP := Lib.hid (h.pick _ al.2)
  have HA := Lib.hid h
  obtain ⟨dl, hdl⟩ : ∃ dl, IntKind.i64.wrap (now + idle) = dl := ⟨_, rfl⟩
  rw [hdl] at hu
  have HF := Lib.hid (show Tab.zOf (Tab.find home T k) = (q : Int) by rw [hf]; rfl)
  rw [HF.out] at CF
  have hq : q < T.length := (Tab.find_some hf).1
  have hT := (h.tab.kept al.2)
  have hmx := hT.max
  have hln := hT.len
  unfold maxLen at hmx
  obtain ⟨b, off, hab, k0, k1, k2, k3⟩ := hT.ent hq
  have eT : Tab.ent T q = T[q] := Tab.ent_at hq
  rw [eT] at ht hh
  have mx : max (q : Int) 0 = (q : Int) := by omega
  clear hT hf
  have dt : decide (now ≤ T[q].dl) = true := decide_eq_true ht
  have CH := Lib.hid (h.has T[q].be _ al.2)
  have hd : decide (0 ≤ fd T[q].be) = true := by rw [← h.is]; exact hh
  clear ht hh
  rw [eT] at hu
  subst hab
  generalize T[q] = x at *
  generalize fd x.be = z at *

  have HR := Lib.hid hr
  clear hr
  clear al
  go_enter Tryz.func25, Tryz.ntmps25
  go_wp2_with fail
  refine CF.out.mono ?_
  rintro e w1 ⟨rfl, rfl⟩
  go_wp2_with fail
  refine CH.out.mono ?_
  rintro e w2 ⟨rfl, rfl⟩
  clear CH
  go_wp2_with fail
  refine CS.out.mono ?_
  rintro e w2 ⟨rfl, rfl⟩
  go_wp2_with fail
  refine CP.out.mono ?_
  rintro e w3 ⟨rfl, hb⟩
  have B1 := Lib.hid (below2 B0.out hb)
  have X1 := Lib.hid (HX.out.kept hb)
  have k2w := (hb.cell (World.block_lt_of_cell? _ _ k2)).trans k2
  clear hb CF CS CP B0 HX
  have CU := Lib.hid (HA.out.put x.be dl _ B1.out)
  rw [hu] at CU
  simp only [Option.isSome_none, Option.getD_none, Bool.false_eq_true, if_false] at CU
  clear hu
  go_wp2_with fail
  refine CU.out.mono ?_
  rintro e w4 ⟨v, rfl, hv, hb⟩
  have V2 := Lib.hid hv
  have B2 := Lib.hid (below2 B1.out hb)
  have X2 := Lib.hid (X1.out.kept hb)
  clear hv hb CU B1 X1
  obtain ⟨av, cv, rfl, -⟩ := V2.out
  obtain ⟨⟨x0, x1, x2, x3⟩, fr⟩ := X2.out.cells
  have f0 := fr 0
  have f1 := fr 1
  have f2 := fr 2
  have f3 := fr 3
  clear fr
  go_wp2_with fail
  obtain ⟨⟨z0, z1, z2, z3⟩, -⟩ := (X2.out.put ⟨12, 0, false, 0⟩).cells
  unfold putAns at z0 z1 z2 z3
  clear x0 x1 x2 x3 f0 f1 f2 f3
  refine bodyPost_ret (v := .tuple #[rowV (some ⟨b, off, none⟩) cap T, ansV ⟨12, 0, false, 0⟩]) ?q1 rfl ?q2
  case q1 =>
    simp only [results, Tryz.results25]
    simp [go_sem, z0, z1, z2, z3]
  case q2 => exact Deals.of HR.out (Nat.le_refl _) B2.out X2.out ⟨_, _, rfl, HA.out.tab.kept B2.out⟩
end Go.Proofs.YtbamodkgagcmnaaGreat.Mod
