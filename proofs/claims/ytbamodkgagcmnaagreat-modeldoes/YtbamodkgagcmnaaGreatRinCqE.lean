/-
  Points: the document's points of a pool (package gangplankref09: Of).
-/
import Derived.Test.YtbamodkgagcmnaaGreatPtsDE
import Derived.Test.YtbamodkgagcmnaaGreatBPttE
import Derived.Test.YtbamodkgagcmnaaGreatBRgnE
import Derived.BigQuiet
import Derived.WalkSmall
import Derived.Deep.RegionHeld3
set_option maxRecDepth 100000
namespace Go.Proofs.YtbamodkgagcmnaaGreat.Pts
open Go.RowKit Go.Shelf Rgn
open Pol (below2 below_alloc Bk polV)
def refV (v:Value) (b off cap:Nat) (z:List Bk) (k j:Nat) (x:Bk) (i:Nat) (w:World) (u:Value):Prop:=match i with
 | 0=>u=v
 | 1=>u=polV (some ⟨b,off,none⟩) cap z
 | 2=>u=.int .i64 (k:Nat)
 | 3=>u=.pointer (some ⟨b,off+k * 2,none⟩)
 | 4=>u=.pointer (some ⟨b,off+k * 2,none⟩)
 | 5=>u=.int .i64 x.1
 | 6=>u=.int .i64 (j:Nat)
 | 7=>u=.int .u64 (hsh x.1 j)
 | 8=>u=polV (some ⟨b,off,none⟩) cap z
 | 9=>u=.int .i64 (k:Nat)
 | 10=>u=.pointer (some ⟨b,off+k * 2,none⟩)
 | 11=>u=.pointer (some ⟨b,off+k * 2,none⟩)
 | 12=>u=.int .i64 x.1
 | 13=>u=.agg #[.int .u64 (hsh x.1 j),.int .i64 x.1]
 | 14=>∃ g,u=.slice (some ⟨g,0,none⟩) 1 1∧w.cell? ⟨g,0,none⟩=some (.int .u64 (hsh x.1 j))∧w.cell? ⟨g,1,none⟩=some (.int .i64 x.1)
 | _=>True
theorem refV_kept (v:Value) (b off cap:Nat) (z:List Bk) (k j:Nat) (x:Bk):∀ i w w' u,refV v b off cap z k j x i w u→Below w.heap.size w w'→refV v b off cap z k j x i w' u:=by
 intro i w w' u h hb
 match i,h with
 | 0,h=>exact h
 | 1,h=>exact h
 | 2,h=>exact h
 | 3,h=>exact h
 | 4,h=>exact h
 | 5,h=>exact h
 | 6,h=>exact h
 | 7,h=>exact h
 | 8,h=>exact h
 | 9,h=>exact h
 | 10,h=>exact h
 | 11,h=>exact h
 | 12,h=>exact h
 | 13,h=>exact h
 | 14,h=>
   obtain⟨g,e,c0,c1⟩:=h
   exact⟨g,e,(hb.cell (World.block_lt_of_cell? w _ c0)).trans c0,(hb.cell (World.block_lt_of_cell? w _ c1)).trans c1⟩
 | i+15,h=>trivial
theorem own_take (x:Bk) (k:Nat) (h:k<cnt x.2):(own hsh x).take (k+1)=(own hsh x).take k ++ [(hsh x.1 k,x.1)]:=own_take_succ x k h
set_option maxRecDepth 100000 in
set_option maxHeartbeats 1500000 in
theorem refOf_any (a:Option Addr) (cap:Nat) (z:List Bk) (w:World) (h:Pol.Lies w a cap z) (hz:z.length≤1000000):
 Calls Tryz.prog 100 #[polV a cap z] w fun e W'=>∃ v,e=.returned v∧Gives W' v (ofL hsh z)∧Below w.heap.size w W':=by
 have H:=Lib.hid h
 have hlen:=h.len
 have hmax:=h.max
 unfold maxLen at hmax
 clear h
 go_enter Tryz.func100,Tryz.ntmps100
 go_wp2_with fail
 go_loopw [3,4] (fun v i W=>∃ k:Nat,k≤z.length∧i=.int .i64 k∧Own w.heap.size W v (pts hsh (z.take k))∧(pts hsh (z.take k)).length≤k * 128∧Below w.heap.size w W) (fun _ i _=>z.length - (intOf i).toNat)
 case atStart=>exact⟨0,Nat.zero_le _,rfl,by simpa [pts] using own_nil _ _,by simp[pts],Below.refl _ _⟩
 case round=>
  obtain⟨k,hk,rfl,hO,hs,hB⟩:=hrel
  have HO:=Lib.hid hO
  have HB:=Lib.hid hB
  clear hO hB
  by_cases hlt:k<z.length
  ·have dlt:decide (k<z.length)=true:=decide_eq_true hlt
   obtain⟨b,off,rfl,_,_⟩:=H.out.at hlt
   have HX:=Lib.hid (pts_take_succ z k hlt)
   have HC:=Lib.hid (show ∀ W,Below w.heap.size w W→W.cell? ⟨b,off+k * 2,none⟩=some (.int .i64 z[k].1)∧W.cell? ⟨b,off+k * 2+1,none⟩=some (.int .i64 z[k].2) from fun W hW=>by
    obtain⟨b',off',e,c0,c1⟩:=(H.out.kept hW).at hlt
    cases e
    exact⟨c0,c1⟩)
   generalize z[k]=x at *
   generalize pts hsh (z.take k)=L at *
   have hcn:=cnt_le x.2
   have hol:=own_length hsh x
   go_wp2_with fail
   go_loopw [3,5] (fun v n W=>∃ j:Nat,j≤cnt x.2∧n=.int .i64 j∧Own w.heap.size W v (L ++ (own hsh x).take j)∧Below w.heap.size w W) (fun _ n _=>cnt x.2 - (intOf n).toNat)
   case atStart=>exact⟨0,Nat.zero_le _,rfl,by simpa using HO.out,HB.out⟩
   case round=>
    obtain⟨j,hj,rfl,hO2,hB2⟩:=hrel
    have HO2:=Lib.hid hO2
    have HB2:=Lib.hid hB2
    obtain⟨c0,c1⟩:=HC.out _ hB2
    clear hO2 hB2
    obtain⟨mn,hmn⟩:∃ mn,(if 16<x.2 then 16 else x.2)=mn:=⟨_,rfl⟩
    obtain⟨mx,hmx⟩:∃ mx,(if 0<mn then mn else 0)=mx:=⟨_,rfl⟩
    have hml:8 * mx=(cnt x.2:Nat):=by
     rw[← hmx,← hmn]; unfold cnt; split <;> split <;> omega
    have hmb:0≤mx∧mx≤16:=by omega
    have HML:=Lib.hid hml
    by_cases hjl:j<cnt x.2
    ·have djl:decide (j<cnt x.2)=true:=decide_eq_true hjl
     go_wp2_with fail
     refine wp_region_tail 15 (refV u3 b off cap z k j x) (refV_kept u3 b off cap z k j x) (by kernel_rfl) (by kernel_rfl) (by kernel_rfl) (by kernel_rfl) ?step ?done
     case step=>
      intro d a W i hi hno hall hI
      have b0:=hI.below
      obtain⟨k0,k1⟩:=HC.out W (below2 HB2.out b0)
      obtain rfl | rfl | rfl | rfl | rfl | rfl | rfl | rfl | rfl | rfl | rfl | rfl | rfl | rfl | rfl:i=0∨i=1∨i=2∨i=3∨i=4∨i=5∨i=6∨i=7∨i=8∨i=9∨i=10∨i=11∨i=12∨i=13∨i=14:=by omega
      ·have e3:a.tmps[3]?.getD undef=u3:=hI.old 3 (late_of (by kernel_rfl) hno)
       refine StepV.done rfl (wanted_free rfl) fun K hK=>?_
       exact op_move rfl (hK _ _ (Below.refl _ _) e3)
      ·have e0:a.tmps[0]?.getD undef=polV (some ⟨b,off,none⟩) cap z:=hI.old 0 (unwritten_of (by kernel_rfl) d)
       refine StepV.done rfl (wanted_free rfl) fun K hK=>?_
       exact op_move rfl (hK _ _ (Below.refl _ _) e0)
      ·have e4:a.tmps[4]?.getD undef=.int .i64 (k:Nat):=hI.old 4 (unwritten_of (by kernel_rfl) d)
       refine StepV.done rfl (wanted_free rfl) fun K hK=>?_
       exact op_move rfl (hK _ _ (Below.refl _ _) e4)
      ·have e25:a.tmps[25]?.getD undef=polV (some ⟨b,off,none⟩) cap z:=hI.val 1 25 rfl (hall 1 (by kernel_rfl))
       have e26:a.tmps[26]?.getD undef=.int .i64 (k:Nat):=hI.val 2 26 rfl (hall 2 (by kernel_rfl))
       refine StepV.done rfl (wanted_free rfl) fun K hK=>?_
       clear hall hI hno
       refine op_run (.pointer (some ⟨b,off+k * 2,none⟩)) W ?_ (hK _ _ (Below.refl _ _) rfl)
       clear hK
       simp only[List.getElem_toArray,List.getElem_cons_zero,List.getElem_cons_succ,execOp,Act.eval]
       go_simp
      ·have e27:a.tmps[27]?.getD undef=.pointer (some ⟨b,off+k * 2,none⟩):=hI.val 3 27 rfl (hall 3 (by kernel_rfl))
       refine StepV.done rfl (wanted_free rfl) fun K hK=>?_
       clear hall hI hno
       refine op_run (.pointer (some ⟨b,off+k * 2,none⟩)) W ?_ (hK _ _ (Below.refl _ _) rfl)
       clear hK
       simp only[List.getElem_toArray,List.getElem_cons_zero,List.getElem_cons_succ,execOp,Act.eval]
       go_simp
      ·have e28:a.tmps[28]?.getD undef=.pointer (some ⟨b,off+k * 2,none⟩):=hI.val 4 28 rfl (hall 4 (by kernel_rfl))
       refine StepV.done rfl (wanted_free rfl) fun K hK=>?_
       clear hall hI hno
       refine op_run (.int .i64 x.1) W ?_ (hK _ _ (Below.refl _ _) rfl)
       clear hK
       simp only[List.getElem_toArray,List.getElem_cons_zero,List.getElem_cons_succ,execOp,Act.eval]
       go_simp
      ·have e5:a.tmps[5]?.getD undef=.int .i64 (j:Nat):=hI.old 5 (unwritten_of (by kernel_rfl) d)
       refine StepV.done rfl (wanted_free rfl) fun K hK=>?_
       exact op_move rfl (hK _ _ (Below.refl _ _) e5)
      ·have e29:a.tmps[29]?.getD undef=.int .i64 x.1:=hI.val 5 29 rfl (hall 5 (by kernel_rfl))
       have e30:a.tmps[30]?.getD undef=.int .i64 (j:Nat):=hI.val 6 30 rfl (hall 6 (by kernel_rfl))
       have C:=refHash_any x.1 (j:Nat) W
       refine StepV.done rfl (wanted_free rfl) fun K hK=>?_
       refine op_call 148 #[.int .i64 x.1,.int .i64 (j:Nat)] (fun v W2=>v=.int .u64 (hsh x.1 j)∧Below W.heap.size W W2) ?_ (C.mono fun e W2 ⟨he,hb⟩=>⟨_,he,rfl,hb⟩) (fun v W2 ⟨h1,h2⟩=>hK v W2 h2 h1)
       clear hall hI hno hK C
       simp only[List.getElem_toArray,List.getElem_cons_zero,List.getElem_cons_succ,execOp]
       go_simp
      ·have e0:a.tmps[0]?.getD undef=polV (some ⟨b,off,none⟩) cap z:=hI.old 0 (unwritten_of (by kernel_rfl) d)
       refine StepV.done rfl (wanted_free rfl) fun K hK=>?_
       exact op_move rfl (hK _ _ (Below.refl _ _) e0)
      ·have e4:a.tmps[4]?.getD undef=.int .i64 (k:Nat):=hI.old 4 (unwritten_of (by kernel_rfl) d)
       refine StepV.done rfl (wanted_free rfl) fun K hK=>?_
       exact op_move rfl (hK _ _ (Below.refl _ _) e4)
      ·have e32:a.tmps[32]?.getD undef=polV (some ⟨b,off,none⟩) cap z:=hI.val 8 32 rfl (hall 8 (by kernel_rfl))
       have e33:a.tmps[33]?.getD undef=.int .i64 (k:Nat):=hI.val 9 33 rfl (hall 9 (by kernel_rfl))
       refine StepV.done rfl (wanted_free rfl) fun K hK=>?_
       clear hall hI hno
       refine op_run (.pointer (some ⟨b,off+k * 2,none⟩)) W ?_ (hK _ _ (Below.refl _ _) rfl)
       clear hK
       simp only[List.getElem_toArray,List.getElem_cons_zero,List.getElem_cons_succ,execOp,Act.eval]
       go_simp
      ·have e34:a.tmps[34]?.getD undef=.pointer (some ⟨b,off+k * 2,none⟩):=hI.val 10 34 rfl (hall 10 (by kernel_rfl))
       refine StepV.done rfl (wanted_free rfl) fun K hK=>?_
       clear hall hI hno
       refine op_run (.pointer (some ⟨b,off+k * 2,none⟩)) W ?_ (hK _ _ (Below.refl _ _) rfl)
       clear hK
       simp only[List.getElem_toArray,List.getElem_cons_zero,List.getElem_cons_succ,execOp,Act.eval]
       go_simp
      ·have e35:a.tmps[35]?.getD undef=.pointer (some ⟨b,off+k * 2,none⟩):=hI.val 11 35 rfl (hall 11 (by kernel_rfl))
       refine StepV.done rfl (wanted_free rfl) fun K hK=>?_
       clear hall hI hno
       refine op_run (.int .i64 x.1) W ?_ (hK _ _ (Below.refl _ _) rfl)
       clear hK
       simp only[List.getElem_toArray,List.getElem_cons_zero,List.getElem_cons_succ,execOp,Act.eval]
       go_simp
      ·have e31:a.tmps[31]?.getD undef=.int .u64 (hsh x.1 j):=hI.val 7 31 rfl (hall 7 (by kernel_rfl))
       have e36:a.tmps[36]?.getD undef=.int .i64 x.1:=hI.val 12 36 rfl (hall 12 (by kernel_rfl))
       refine StepV.done rfl (wanted_free rfl) fun K hK=>?_
       clear hall hI hno
       refine op_run (.agg #[.int .u64 (hsh x.1 j),.int .i64 x.1]) W ?_ (hK _ _ (Below.refl _ _) rfl)
       clear hK
       simp only[List.getElem_toArray,List.getElem_cons_zero,List.getElem_cons_succ,execOp,Act.eval]
       go_simp
      ·have e37:a.tmps[37]?.getD undef=.agg #[.int .u64 (hsh x.1 j),.int .i64 x.1]:=hI.val 13 37 rfl (hall 13 (by kernel_rfl))
       refine StepV.done rfl (wanted_free rfl) fun K hK=>?_
       clear hall hI hno
       refine op_run (.slice (some ⟨W.heap.size,0,none⟩) 1 1) (W.alloc (.cells #[.int .u64 (hsh x.1 j),.int .i64 x.1] 211)) ?_ (hK _ _ (below_alloc W _) ⟨W.heap.size,rfl,by simp,by simp⟩)
       clear hK
       simp only[List.getElem_toArray,List.getElem_cons_zero,List.getElem_cons_succ,execOp,Act.eval]
       go_simp
     case done=>
      intro d a W hyes hno hI
      obtain⟨t,df⟩:=a
      obtain rfl:df=[]:=hI.defs
      have hz2:t.size=42:=hI.size
      have b0:=hI.below
      obtain⟨g,e38,g0,g1⟩:∃ g,t[38]?.getD undef=.slice (some ⟨g,0,none⟩) 1 1∧W.cell? ⟨g,0,none⟩=some (.int .u64 (hsh x.1 j))∧W.cell? ⟨g,1,none⟩=some (.int .i64 x.1):=hI.val 14 38 rfl (hyes 14 (by omega))
      have e24:t[24]?.getD undef=u3:=hI.val 0 24 rfl (hyes 0 (by omega))
      have e0:t[0]?.getD undef=polV (some ⟨b,off,none⟩) cap z:=hI.old 0 (unwritten_of (by kernel_rfl) d)
      have e1:t[1]?.getD undef=undef:=hI.old 1 (unwritten_of (by kernel_rfl) d)
      have e2:t[2]?.getD undef=.slice none 0 0:=hI.old 2 (unwritten_of (by kernel_rfl) d)
      have e4:t[4]?.getD undef=.int .i64 (k:Nat):=hI.old 4 (unwritten_of (by kernel_rfl) d)
      have e5:t[5]?.getD undef=.int .i64 (j:Nat):=hI.old 5 (unwritten_of (by kernel_rfl) d)
      have e6:t[6]?.getD undef=.int .i64 (k:Nat):=hI.old 6 (unwritten_of (by kernel_rfl) d)
      have e7:t[7]?.getD undef=polV (some ⟨b,off,none⟩) cap z:=hI.old 7 (unwritten_of (by kernel_rfl) d)
      have e8:t[8]?.getD undef=.int .i64 (z.length:Nat):=hI.old 8 (unwritten_of (by kernel_rfl) d)
      have e9:t[9]?.getD undef=.bool true:=hI.old 9 (unwritten_of (by kernel_rfl) d)
      have e10:t[10]?.getD undef=u10:=hI.old 10 (unwritten_of (by kernel_rfl) d)
      have e11:t[11]?.getD undef=u11:=hI.old 11 (unwritten_of (by kernel_rfl) d)
      have e40:t[40]?.getD undef=undef:=hI.old 40 (unwritten_of (by kernel_rfl) d)
      have e41:t[41]?.getD undef=undef:=hI.old 41 (unwritten_of (by kernel_rfl) d)
      have HO3:=Lib.hid (HO2.out.kept b0)
      have HB3:=Lib.hid (below2 HB2.out b0)
      clear hI hyes hno b0
      obtain⟨ys,hy,ht⟩:=arr_slots t 42 hz2
      have hls:(slotsFrom ys 0 42).toArray=#[ys 0,ys 1,ys 2,ys 3,ys 4,ys 5,ys 6,ys 7,ys 8,ys 9,ys 10,ys 11,ys 12,ys 13,ys 14,ys 15,ys 16,ys 17,ys 18,ys 19,ys 20,ys 21,ys 22,ys 23,ys 24,ys 25,ys 26,ys 27,ys 28,ys 29,ys 30,ys 31,ys 32,ys 33,ys 34,ys 35,ys 36,ys 37,ys 38,ys 39,ys 40,ys 41]:=rfl
      rw[hy] at e38 e24 e0 e1 e2 e4 e5 e6 e7 e8 e9 e10 e11 e40 e41
      rw[ht,hls,e38,e24,e0,e1,e2,e4,e5,e6,e7,e8,e9,e10,e11,e40,e41]
      clear ht hls hz2 hy e38 e24 e0 e1 e2 e4 e5 e6 e7 e8 e9 e10 e11 e40 e41
      change wpList _ _ _ [_,_] _ _
      refine wpList_more rfl _ _ rfl w.heap.size g (L ++ (own hsh x).take j) (hsh x.1 j,x.1) u3 rfl rfl HO3.out g0 g1 (by simp; omega) HB3.out.size ?_
      intro v' w4 ho4 hb4
      have hO4:=ho4.out
      rw[List.append_assoc,← own_take x j hjl] at hO4
      have HO4:=Lib.hid hO4
      have HB4:=Lib.hid (HB3.out.trans hb4.out)
      clear hO4 ho4 hb4 g0 g1
      go_wp2_with fail
      go_roundw
      case rel=>exact⟨j+1,by omega,by go_num,HO4.out,HB4.out⟩
      case measure=>simp[intOf]; omega
    ·have djl:decide (j<cnt x.2)=false:=decide_eq_false hjl
     obtain rfl:j=cnt x.2:=by omega
     have hO3:=HO2.out
     rw[List.take_of_length_le (by rw[hol]; exact Nat.le_refl _),← HX.out] at hO3
     have HO3:=Lib.hid hO3
     have hs3:(pts hsh (z.take (k+1))).length≤(k+1) * 128:=by rw[HX.out,List.length_append,hol]; omega
     clear hO3
     go_wp2_with fail
     go_roundw
     case rel=>exact⟨k+1,by omega,by go_num,HO3.out,hs3,HB2.out⟩
     case measure=>simp[intOf]; omega
  ·obtain rfl:k=z.length:=by omega
   have hO3:=HO.out
   rw[List.take_length] at hO3 hs
   obtain⟨a3,cap3,rfl,hl3⟩:=hO3.lies
   have C:=Lib.hid (refSort_any _ a3 cap3 (pts hsh z) wr (Nat.le_refl _) hl3 (by omega))
   clear hO3 hl3
   go_wp2_with fail
   refine C.out.mono ?_
   rintro e w4 ⟨v,rfl,hg,hb4⟩
   go_wp2_with fail
   go_ret
   exact⟨v,rfl,hg,below2 HB.out hb4⟩
end Go.Proofs.YtbamodkgagcmnaaGreat.Pts
set_option maxRecDepth 100000
namespace Go.Proofs.YtbamodkgagcmnaaGreat.Rin
open Go.RowKit Go.Shelf
open Pts (Pt ptV ptsV Lies Rise less ofL hsh refOf_any ofL_rise)
open Pol (below2 below_alloc Bk polV)
set_option maxHeartbeats 400000 in
theorem refPick_any (a:Option Addr) (cap:Nat) (z:List Bk) (h:Int) (w:World) (hz:Pol.Lies w a cap z) (hl:z.length≤1000000):
 Calls Tryz.prog 61 #[polV a cap z,.int .u64 h] w fun e W'=>e=.returned (.int .i64 (succL (ofL hsh z) h))∧Below w.heap.size w W':=by
 have C:=Lib.hid (refOf_any a cap z w hz hl)
 clear hz
 generalize ofL hsh z=L at *
 go_enter Tryz.func61,Tryz.ntmps61
 go_wp2_with fail
 refine C.out.mono ?_
 rintro e w1 ⟨v,rfl,⟨aP,cP,rfl,hP⟩,hb⟩
 have P1:=Lib.hid hP
 have B1:=Lib.hid hb
 clear hP hb C
 go_wp2_with fail
 refine (refSucc_any aP cP L h w1 P1.out).mono ?_
 rintro e w2 ⟨rfl,rfl⟩
 go_wp2_with fail
 go_ret
 exact⟨rfl,B1.out⟩
end Go.Proofs.YtbamodkgagcmnaaGreat.Rin
