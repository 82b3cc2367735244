/-
  Points: how two points are held against one another (package points: compare, Less; package cmp: Compare, Or).
-/
import Derived.Test.YtbamodkgagcmnaaGreatBRinE
import Derived.Test.YtbamodkgagcmnaaGreatBRgnE
import Derived.Sort.Grow
import Derived.Deep.RegionHeld3
import Derived.Test.YtbamodkgagcmnaaGreatBOctGE
import Derived.Test.YtbamodkgagcmnaaGreatBFnvE
import Derived.RangeFuncCalls
import Derived.Shelf.Abstract
import Derived.Shelf.RegionOpen
import Derived.WalkKit
import Derived.OwnWalkIn
import Derived.TacticsInMore
import Derived.LoopNIn
import Derived.LoopIn
import Derived.Maps.AppendAt
set_option maxRecDepth 100000
namespace Go.Proofs.YtbamodkgagcmnaaGreat.Pts
open Go.RowKit Go.Shelf Rgn
open Pol (below2 below_alloc)
def cmpZ (x y:Int):Int:=if x<y then -1 else if y<x then 1 else 0
theorem cmpZ_lt (x y:Int):cmpZ x y<0↔x<y:=by unfold cmpZ; split <;> (try split) <;> omega
theorem cmpZ_eq (x y:Int):cmpZ x y=0↔x=y:=by unfold cmpZ; split <;> (try split) <;> omega
def orZ (a b:Int):Int:=if a=0 then b else a
def cmpP (x y:Pt):Int:=orZ (cmpZ x.1 y.1) (cmpZ x.2 y.2)
theorem cmpP_lt (x y:Pt):cmpP x y<0↔less x y=true:=by
 rw[less_iff]
 have h1:=cmpZ_lt x.1 y.1
 have h2:=cmpZ_eq x.1 y.1
 have h3:=cmpZ_lt x.2 y.2
 unfold cmpP orZ
 split <;> omega
set_option maxHeartbeats 400000 in
theorem CompareU_any (x y:Int) (W:World):Calls Tryz.prog 179 #[.int .u64 x,.int .u64 y] W fun e W'=>e=.returned (.int .i64 (cmpZ x y))∧W'=W:=by
 have e1:(x != x)=false:=by simp
 have e2:(y != y)=false:=by simp
 rcases Int.lt_trichotomy x y with h | h | h
 ·have HV:=Lib.hid (show cmpZ x y= -1 from if_pos h)
  go_enter Tryz.func179,Tryz.ntmps179
  go_wp2
  go_ret
  exact⟨by rw[HV.out]; rfl,rfl⟩
 ·have HV:=Lib.hid (show cmpZ x y=0 by unfold cmpZ; rw[if_neg (by omega),if_neg (by omega)])
  have d1:decide (x<y)=false:=decide_eq_false (by omega)
  have d2:decide (y<x)=false:=decide_eq_false (by omega)
  clear h
  go_enter Tryz.func179,Tryz.ntmps179
  go_wp2
  go_ret
  exact⟨by rw[HV.out]; rfl,rfl⟩
 ·have HV:=Lib.hid (show cmpZ x y=1 by unfold cmpZ; rw[if_neg (by omega),if_pos h])
  have d1:decide (x<y)=false:=decide_eq_false (by omega)
  go_enter Tryz.func179,Tryz.ntmps179
  go_wp2
  go_ret
  exact⟨by rw[HV.out]; rfl,rfl⟩
set_option maxHeartbeats 400000 in
theorem CompareI_any (x y:Int) (W:World):Calls Tryz.prog 180 #[.int .i64 x,.int .i64 y] W fun e W'=>e=.returned (.int .i64 (cmpZ x y))∧W'=W:=by
 have e1:(x != x)=false:=by simp
 have e2:(y != y)=false:=by simp
 rcases Int.lt_trichotomy x y with h | h | h
 ·have HV:=Lib.hid (show cmpZ x y= -1 from if_pos h)
  go_enter Tryz.func180,Tryz.ntmps180
  go_wp2
  go_ret
  exact⟨by rw[HV.out]; rfl,rfl⟩
 ·have HV:=Lib.hid (show cmpZ x y=0 by unfold cmpZ; rw[if_neg (by omega),if_neg (by omega)])
  have d1:decide (x<y)=false:=decide_eq_false (by omega)
  have d2:decide (y<x)=false:=decide_eq_false (by omega)
  clear h
  go_enter Tryz.func180,Tryz.ntmps180
  go_wp2
  go_ret
  exact⟨by rw[HV.out]; rfl,rfl⟩
 ·have HV:=Lib.hid (show cmpZ x y=1 by unfold cmpZ; rw[if_neg (by omega),if_pos h])
  have d1:decide (x<y)=false:=decide_eq_false (by omega)
  go_enter Tryz.func180,Tryz.ntmps180
  go_wp2
  go_ret
  exact⟨by rw[HV.out]; rfl,rfl⟩
set_option maxRecDepth 100000 in
set_option maxHeartbeats 400000 in
theorem Or_any (g:Nat) (a b:Int) (w:World) (c0:w.cell? ⟨g,0,none⟩=some (.int .i64 a)) (c1:w.cell? ⟨g,1,none⟩=some (.int .i64 b)):
 Calls Tryz.prog 178 #[.slice (some ⟨g,0,none⟩) 2 2] w fun e W'=>e=.returned (.int .i64 (orZ a b))∧W'=w:=by
 go_enter Tryz.func178,Tryz.ntmps178
 go_wp2
 go_loopw [8] (fun i W=>∃ k:Nat,k≤2∧i=.int .i64 k∧(1≤k→a=0)∧(2≤k→b=0)∧W=w) (fun i _=>2 - (intOf i).toNat)
 case atStart=>exact⟨0,by omega,rfl,fun h=>absurd h (by omega),fun h=>absurd h (by omega),rfl⟩
 case round=>
  obtain⟨k,hk,rfl,ha,hb,rfl⟩:=hrel
  have HA:=Lib.hid ha
  have HB:=Lib.hid hb
  clear ha hb
  obtain rfl | rfl | rfl:k=0∨k=1∨k=2:=by omega
  ·by_cases h:a=0
   ·have d1:(a != 0)=false:=by simp[h]
    have HZ:=Lib.hid h
    clear h
    go_wp2
    go_roundw
    case rel=>exact⟨1,by simp[HZ.out]⟩
    case measure=>simp[intOf]
   ·have d1:(a != 0)=true:=bne_iff_ne.2 h
    have HZ:=Lib.hid h
    clear h
    go_wp2
    go_ret
    exact⟨by rw[show orZ a b=a from if_neg HZ.out]; rfl,rfl⟩
  ·by_cases h:b=0
   ·have d1:(b != 0)=false:=by simp[h]
    have HZ:=Lib.hid h
    clear h
    go_wp2
    go_roundw
    case rel=>exact⟨2,by simp[HZ.out,HA.out (by omega)]⟩
    case measure=>simp[intOf]
   ·have d1:(b != 0)=true:=bne_iff_ne.2 h
    have HZ:=Lib.hid h
    clear h
    go_wp2
    go_ret
    exact⟨by rw[show orZ a b=b from if_pos (HA.out (by omega))]; rfl,rfl⟩
  ·go_wp2
   go_ret
   exact⟨by rw[show orZ a b=b from if_pos (HA.out (by omega)),HB.out (by omega)]; rfl,rfl⟩
abbrev frC (B:Nat) (x y:Pt) (z:Nat→Value):Act:= { tmps:=#[ptV x,ptV y,.pointer (some ⟨B,0,none⟩),.pointer (some ⟨B+1,0,none⟩),z 12,z 0,z 1,z 2,z 3,z 4,z 5,z 6,z 7,z 8,z 9,z 10,z 11],defers:=[] }
def valC (B:Nat) (x y:Pt):Nat→Value
 | 0=>.pointer (some ⟨B,0,none⟩)
 | 1=>.int .u64 x.1
 | 2=>.pointer (some ⟨B+1,0,none⟩)
 | 3=>.int .u64 y.1
 | 4=>.int .i64 (cmpZ x.1 y.1)
 | 5=>.pointer (some ⟨B,1,none⟩)
 | 6=>.int .i64 x.2
 | 7=>.pointer (some ⟨B+1,1,none⟩)
 | 8=>.int .i64 y.2
 | 9=>.int .i64 (cmpZ x.2 y.2)
 | 10=>.slice (some ⟨B+2,0,none⟩) 2 2
 | 11=>.int .i64 (cmpP x y)
 | _=>.int .i64 (cmpP x y)
def stC (W0:World) (c d':Int) (d:Nat→Bool) (W:World):Prop:=W=if d 10=true then W0.alloc (.cells #[.int .i64 c,.int .i64 d'] 3) else W0
theorem stC_upd {W0 W:World} {c c':Int} {d:Nat→Bool} (h:stC W0 c c' d W) (i:Nat) (hi:i≠10):stC W0 c c' (upd d i) W:=by
 unfold stC; rw[upd_other d (Ne.symm hi)]; exact h
set_option maxRecDepth 100000 in
set_option maxHeartbeats 1000000 in
theorem compare_any (x y:Pt) (w:World):Calls Tryz.prog 153 #[ptV x,ptV y] w fun e W'=>e=.returned (.int .i64 (cmpP x y))∧∃ q os',W'=Sort.grow (w.drewN q) os':=by
 go_enter Tryz.func153,Tryz.ntmps153
 go_wp2_with fail
 generalize hW0:((w.alloc (.cells #[.int .u64 x.1,.int .i64 x.2] 217)).alloc (.cells #[.int .u64 y.1,.int .i64 y.2] 217))=W0
 have HW:=Lib.hid hW0
 have k0:W0.cell? ⟨w.heap.size,0,none⟩=some (.int .u64 x.1):=by rw[← hW0]; simp
 have k1:W0.cell? ⟨w.heap.size,1,none⟩=some (.int .i64 x.2):=by rw[← hW0]; simp
 have k2:W0.cell? ⟨w.heap.size+1,0,none⟩=some (.int .u64 y.1):=by rw[← hW0]; simp
 have k3:W0.cell? ⟨w.heap.size+1,1,none⟩=some (.int .i64 y.2):=by rw[← hW0]; simp
 have hz:W0.heap.size=w.heap.size+2:=by rw[← hW0]; simp
 have HZ:Hid (W0.drew.heap.size=w.heap.size+2):=hz
 clear hW0 hz
 obtain⟨D,hD⟩:∃ D,D=W0.drew:=⟨_,rfl⟩
 have HD:=Lib.hid hD
 rw[← hD] at HZ
 have K:∀ (d:Nat→Bool) (W:World),stC D (cmpZ x.1 y.1) (cmpZ x.2 y.2) d W→W.cell? ⟨w.heap.size,0,none⟩=some (.int .u64 x.1)∧W.cell? ⟨w.heap.size,1,none⟩=some (.int .i64 x.2)∧W.cell? ⟨w.heap.size+1,0,none⟩=some (.int .u64 y.1)∧W.cell? ⟨w.heap.size+1,1,none⟩=some (.int .i64 y.2):=by
  intro d W h
  unfold stC at h
  have hb:Below W0.heap.size W0 W:=by
   rw[h,hD]; split
   ·exact (Below.refl _ W0).drew.alloc (Nat.le_refl _) _
   ·exact (Below.refl _ W0).drew
  exact⟨(hb.cell (World.block_lt_of_cell? W0 _ k0)).trans k0,(hb.cell (World.block_lt_of_cell? W0 _ k1)).trans k1,(hb.cell (World.block_lt_of_cell? W0 _ k2)).trans k2,(hb.cell (World.block_lt_of_cell? W0 _ k3)).trans k3⟩
 have KK:=Lib.hid K
 clear K k0 k1 k2 k3 hD
 refine wp_region_inv (fun d a W=>∃ z:Nat→Value,a=frC w.heap.size x y z∧InvJ 13 (valC w.heap.size x y) (stC D (cmpZ x.1 y.1) (cmpZ x.2 y.2)) d z W) (by kernel_rfl) (by kernel_rfl) ?step ?done ?start
 case start=>exact⟨fun i=>if i=12 then .int .i64 0 else undef,rfl,InvJ.start _ HD.out.symm⟩
 case step=>
  rintro d a W i hi hd hall ⟨z,rfl,hI⟩
  replace hi:i<13:=hi
  have hst:=Lib.hid hI.st
  obtain⟨c0,c1,c2,c3⟩:=KK.out d W hst.out
  obtain rfl | rfl | rfl | rfl | rfl | rfl | rfl | rfl | rfl | rfl | rfl | rfl | rfl:i=0∨i=1∨i=2∨i=3∨i=4∨i=5∨i=6∨i=7∨i=8∨i=9∨i=10∨i=11∨i=12:=by omega
  ·clear hall
   refine wpOp_step rfl (fun K hK=>?_)
   simp only[List.getElem_toArray,List.getElem_cons_zero]
   go_simp
   exact hK _ _ ⟨_,by simp[upv,valC],hI.yields 0 (stC_upd hst.out 0 (by omega))⟩
  ·have h0:z 0=.pointer (some ⟨w.heap.size,0,none⟩):=hI.pure 0 (by omega) (hall 0 (by kernel_rfl))
   clear hall
   refine wpOp_step rfl (fun K hK=>?_)
   simp only[List.getElem_toArray,List.getElem_cons_zero,List.getElem_cons_succ]
   go_simp
   exact hK _ _ ⟨_,by simp[upv,valC,h0],hI.yields 1 (stC_upd hst.out 1 (by omega))⟩
  ·clear hall
   refine wpOp_step rfl (fun K hK=>?_)
   simp only[List.getElem_toArray,List.getElem_cons_zero,List.getElem_cons_succ]
   go_simp
   exact hK _ _ ⟨_,by simp[upv,valC],hI.yields 2 (stC_upd hst.out 2 (by omega))⟩
  ·have h2:z 2=.pointer (some ⟨w.heap.size+1,0,none⟩):=hI.pure 2 (by omega) (hall 2 (by kernel_rfl))
   clear hall
   refine wpOp_step rfl (fun K hK=>?_)
   simp only[List.getElem_toArray,List.getElem_cons_zero,List.getElem_cons_succ]
   go_simp
   exact hK _ _ ⟨_,by simp[upv,valC,h2],hI.yields 3 (stC_upd hst.out 3 (by omega))⟩
  ·have h1:z 1=.int .u64 x.1:=hI.pure 1 (by omega) (hall 1 (by kernel_rfl))
   have h3:z 3=.int .u64 y.1:=hI.pure 3 (by omega) (hall 3 (by kernel_rfl))
   clear hall
   refine wpOp_step rfl (fun K hK=>?_)
   simp only[List.getElem_toArray,List.getElem_cons_zero,List.getElem_cons_succ]
   go_simp
   refine (CompareU_any _ _ W).mono ?_
   rintro e w3 ⟨rfl,rfl⟩
   exact hK _ _ ⟨_,by simp[upv,valC,h1,h3],hI.yields 4 (stC_upd hst.out 4 (by omega))⟩
  ·clear hall
   refine wpOp_step rfl (fun K hK=>?_)
   simp only[List.getElem_toArray,List.getElem_cons_zero,List.getElem_cons_succ]
   go_simp
   exact hK _ _ ⟨_,by simp[upv,valC],hI.yields 5 (stC_upd hst.out 5 (by omega))⟩
  ·have h5:z 5=.pointer (some ⟨w.heap.size,1,none⟩):=hI.pure 5 (by omega) (hall 5 (by kernel_rfl))
   clear hall
   refine wpOp_step rfl (fun K hK=>?_)
   simp only[List.getElem_toArray,List.getElem_cons_zero,List.getElem_cons_succ]
   go_simp
   exact hK _ _ ⟨_,by simp[upv,valC,h5],hI.yields 6 (stC_upd hst.out 6 (by omega))⟩
  ·clear hall
   refine wpOp_step rfl (fun K hK=>?_)
   simp only[List.getElem_toArray,List.getElem_cons_zero,List.getElem_cons_succ]
   go_simp
   exact hK _ _ ⟨_,by simp[upv,valC],hI.yields 7 (stC_upd hst.out 7 (by omega))⟩
  ·have h7:z 7=.pointer (some ⟨w.heap.size+1,1,none⟩):=hI.pure 7 (by omega) (hall 7 (by kernel_rfl))
   clear hall
   refine wpOp_step rfl (fun K hK=>?_)
   simp only[List.getElem_toArray,List.getElem_cons_zero,List.getElem_cons_succ]
   go_simp
   exact hK _ _ ⟨_,by simp[upv,valC,h7],hI.yields 8 (stC_upd hst.out 8 (by omega))⟩
  ·have h6:z 6=.int .i64 x.2:=hI.pure 6 (by omega) (hall 6 (by kernel_rfl))
   have h8:z 8=.int .i64 y.2:=hI.pure 8 (by omega) (hall 8 (by kernel_rfl))
   clear hall
   refine wpOp_step rfl (fun K hK=>?_)
   simp only[List.getElem_toArray,List.getElem_cons_zero,List.getElem_cons_succ]
   go_simp
   refine (CompareI_any _ _ W).mono ?_
   rintro e w3 ⟨rfl,rfl⟩
   exact hK _ _ ⟨_,by simp[upv,valC,h6,h8],hI.yields 9 (stC_upd hst.out 9 (by omega))⟩
  ·have h4:z 4=.int .i64 (cmpZ x.1 y.1):=hI.pure 4 (by omega) (hall 4 (by kernel_rfl))
   have h9:z 9=.int .i64 (cmpZ x.2 y.2):=hI.pure 9 (by omega) (hall 9 (by kernel_rfl))
   have hsz:W=D:=by have h:=hst.out; unfold stC at h; rwa [if_neg (by rw[hd]; simp)] at h
   have hsz2:W.heap.size=w.heap.size+2:=by rw[hsz]; exact HZ.out
   have HX:=Lib.hid hsz
   clear hsz
   clear hall
   refine wpOp_step rfl (fun K hK=>?_)
   simp only[List.getElem_toArray,List.getElem_cons_zero,List.getElem_cons_succ]
   go_simp
   exact hK _ _ ⟨_,by simp[upv,valC,h4,h9],hI.yields 10 (by unfold stC; rw[upd_same,if_pos rfl,HX.out])⟩
  ·have h10:z 10=.slice (some ⟨w.heap.size+2,0,none⟩) 2 2:=hI.pure 10 (by omega) (hall 10 (by kernel_rfl))
   have hsz:W=D.alloc (.cells #[.int .i64 (cmpZ x.1 y.1),.int .i64 (cmpZ x.2 y.2)] 3):=by have h:=hst.out; unfold stC at h; rwa [if_pos (hall 10 (by kernel_rfl))] at h
   have o0:W.cell? ⟨w.heap.size+2,0,none⟩=some (.int .i64 (cmpZ x.1 y.1)):=by rw[hsz,← HZ.out]; simp
   have o1:W.cell? ⟨w.heap.size+2,1,none⟩=some (.int .i64 (cmpZ x.2 y.2)):=by rw[hsz,← HZ.out]; simp
   clear hsz
   clear hall
   refine wpOp_step rfl (fun K hK=>?_)
   simp only[List.getElem_toArray,List.getElem_cons_zero,List.getElem_cons_succ]
   go_simp
   refine (Or_any _ _ _ W o0 o1).mono ?_
   rintro e w3 ⟨rfl,rfl⟩
   exact hK _ _ ⟨_,by simp[upv,valC,h10,cmpP],hI.yields 11 (stC_upd hst.out 11 (by omega))⟩
  ·have h11:z 11=.int .i64 (cmpP x y):=hI.pure 11 (by omega) (hall 11 (by kernel_rfl))
   clear hall
   refine wpOp_step rfl (fun K hK=>?_)
   simp only[List.getElem_toArray,List.getElem_cons_zero,List.getElem_cons_succ]
   go_simp
   exact hK _ _ ⟨_,by simp[upv,valC,h11],hI.yields 12 (stC_upd hst.out 12 (by omega))⟩
 case done=>
  rintro d a W hall ⟨z,rfl,hI⟩
  have h12:z 12=.int .i64 (cmpP x y):=hI.pure 12 (by omega) (hall 12 (by decide))
  have hW:=hI.st
  unfold stC at hW
  rw[if_pos (hall 10 (by decide))] at hW
  have HV:=Lib.hid hW
  simp only[frC,h12]
  clear hI hall hW h12
  go_wp2_with fail
  go_ret
  refine⟨rfl,1,(#[.cells #[.int .u64 x.1,.int .i64 x.2] 217] ++ #[.cells #[.int .u64 y.1,.int .i64 y.2] 217]) ++ #[.cells #[.int .i64 (cmpZ x.1 y.1),.int .i64 (cmpZ x.2 y.2)] 3],?_⟩
  rw[HV.out,HD.out,← HW.out,Sort.alloc_eq_grow,Sort.alloc_eq_grow,Sort.alloc_eq_grow,Sort.grow_grow,Sort.drew_grow,Sort.grow_grow]; rfl
end Go.Proofs.YtbamodkgagcmnaaGreat.Pts
namespace Go.Proofs.YtbamodkgagcmnaaGreat.Pts
open Go.RowKit Go.Shelf
open Pol (below2 below_alloc)
theorem Put_some (v:Int) (k:Nat) (w:World) (hv:0≤v∧v≤18446744073709551615) (h:1≤k∧k≤8):
 Calls Tryz.prog 123 #[.int .u64 v,.int .i64 (k:Int)] w fun e W'=>∃ S:ByteArray,e=.returned (.string S)∧S.size≤8∧Hid (S=Oct.str (Oct.bytes v.toNat k))∧Below w.heap.size w W':=by
 refine (Oct.Put_yes v k w hv.1 hv.2 (by omega)).mono ?_
 rintro e W' ⟨rfl,hb⟩
 refine⟨_,rfl,?_,Lib.hid rfl,hb⟩
 have:(Oct.str (Oct.bytes v.toNat ((k:Int)).toNat)).size=k:=by simp[ByteArray.size,Oct.bytes_length]
 omega
set_option maxRecDepth 100000 in
set_option maxHeartbeats 2000000 in
theorem Hash_told (id n:Int) (w:World):
 Calls Tryz.prog 207 #[.int .i64 id,.int .i64 n] w fun e W'=>e=.returned (.int .u64 (hashV id n))∧Below w.heap.size w W':=by
 have u1:=uw_in id
 have u2:=uw_in n
 have hp1:=Put_some (uw id) 4
 have hp2:=Put_some (uw n) 2
 unfold uw at hp1 hp2 u1 u2
 go_enter Tryz.func207,Tryz.ntmps207
 go_wp2_with fail
 refine (hp1 _ u1 (by omega)).mono ?_
 rintro e w1 ⟨S,rfl,hS,HS,hb1⟩
 go_wp2_with fail
 refine (hp2 _ u2 (by omega)).mono ?_
 rintro e w2 ⟨R,rfl,hR,HR,hb2⟩
 have a1:∀ u:World,(Op.stringOp .add S R).run Tryz.prog u=.ok (.string (S ++ R)) u:=fun u=>run_string_add_sum u S R (by omega)
 have a2:∀ u:World,(Op.stringOp .add (S ++ R) ⟨#[0,0,0,0]⟩).run Tryz.prog u=.ok (.string (S ++ R ++ ⟨#[0,0,0,0]⟩)) u:=fun u=>run_string_add_sum u _ _ (by
  have h4:(⟨#[0,0,0,0]⟩:ByteArray).size=4:=rfl
  rw[ByteArray.size_append,h4]; omega)
 have hz:(S ++ R ++ ⟨#[0,0,0,0]⟩:ByteArray).size≤4611686018427387904:=by
  have h4:(⟨#[0,0,0,0]⟩:ByteArray).size=4:=rfl
  rw[ByteArray.size_append,ByteArray.size_append,h4]; omega
 have HZ:=Lib.hid (show S ++ R ++ ⟨#[0,0,0,0]⟩=hashS id n by rw[HS.out,HR.out]; rfl)
 go_wp2_with fail
 refine (Fnv.Sum_any _ _ hz).mono ?_
 rintro e w3 ⟨he,hb3⟩
 have he:e=.returned (.int .u64 (hashV id n)):=by rw[he,HZ.out]; rfl
 subst he
 go_wp2_with fail
 go_ret
 exact⟨rfl,below2 (below2 hb1 hb2) hb3⟩
theorem cnt_le (g:Int):cnt g≤128:=by unfold cnt; omega
set_option maxHeartbeats 400000 in
theorem count_told (g:Int) (w:World):Calls Tryz.prog 206 #[.int .i64 g] w fun e W'=>e=.returned (.int .i64 (cnt g:Nat))∧W'=w:=by
 by_cases h1:16<g
 ·have HV:=Lib.hid (show ((cnt g:Nat):Int)=128 by unfold cnt; omega)
  go_enter Tryz.func206,Tryz.ntmps206
  go_wp2
  go_ret
  exact⟨by rw[HV.out]; rfl,rfl⟩
 ·by_cases h2:0<g
  ·have HV:=Lib.hid (show ((cnt g:Nat):Int)=8 * g by unfold cnt; omega)
   go_enter Tryz.func206,Tryz.ntmps206
   go_wp2
   go_ret
   exact⟨by rw[HV.out]; rfl,rfl⟩
  ·have HV:=Lib.hid (show ((cnt g:Nat):Int)=0 by unfold cnt; omega)
   go_enter Tryz.func206,Tryz.ntmps206
   go_wp2
   go_ret
   exact⟨by rw[HV.out]; rfl,rfl⟩
end Go.Proofs.YtbamodkgagcmnaaGreat.Pts
namespace Go.Proofs.YtbamodkgagcmnaaGreat.Pts
open Go.RowKit Go.Shelf Rgn
open Pol (below2 below_alloc Bk)
attribute [local go_sem] Oper.semAt_some
def hsh (id:Int) (n:Nat):Int:=hashV id n
abbrev bkO (x:Bk):Obj:=.cells #[.int .i64 x.1,.int .i64 x.2] 83 (0,0)
set_option maxHeartbeats 400000 in
theorem placesOf_told (x:Bk) (w:World):
 Calls Tryz.prog 177 #[.agg #[.int .i64 x.1,.int .i64 x.2]] w fun e w'=>e=.returned (.func (.func 205) #[] #[.pointer (some ⟨w.heap.size,0,none⟩)])∧w'=w.alloc (bkO x):=by
 go_enter Tryz.func177,Tryz.ntmps177
 go_wp2
 go_ret
 exact⟨rfl,rfl⟩
theorem own_take_succ (x:Bk) (k:Nat) (h:k<cnt x.2):(own hsh x).take (k+1)=(own hsh x).take k ++ [(hsh x.1 k,x.1)]:=by
 have hl:k<(own hsh x).length:=by rw[own_length]; exact h
 rw[List.take_succ_eq_append_getElem hl]
 congr 1
 simp[own]
theorem cells_bk {W:World} {B:Nat} {x:Bk} (h:W.heap[B]? =some (bkO x)):W.cell? ⟨B,0,none⟩=some (.int .i64 x.1)∧W.cell? ⟨B,1,none⟩=some (.int .i64 x.2):=by
 constructor <;> simp[World.cell?,h]
abbrev frL (l B k:Nat) (x:Bk) (u:Value) (z:Nat→Value):Act:= { tmps:=#[.func (.yield l) #[] #[],.pointer (some ⟨B,0,none⟩),undef,.int .i64 (k:Nat),.pointer (some ⟨B,1,none⟩),.int .i64 x.2,.int .i64 (cnt x.2:Nat),.int .i64 (k:Nat),.bool true,.int .i64 (k:Nat),z 0,z 1,z 2,z 3,z 4,z 5,z 6,z 7,z 8,z 9,u],defers:=[] }
def valL (l B k:Nat) (x:Bk):Nat→Value
 | 0=>.func (.yield l) #[] #[]
 | 1=>.pointer (some ⟨B,0,none⟩)
 | 2=>.int .i64 x.1
 | 3=>.int .i64 (k:Nat)
 | 4=>.int .u64 (hsh x.1 k)
 | 5=>.pointer (some ⟨B,0,none⟩)
 | 6=>.int .i64 x.1
 | 7=>.agg #[.int .u64 (hsh x.1 k),.int .i64 x.1]
 | 8=>.bool true
 | _=>.bool false
def stL (J:List Pt→World→Prop) (B k:Nat) (x:Bk) (d:Nat→Bool) (W:World):Prop:=J (if d 8=true then (own hsh x).take k ++ [(hsh x.1 k,x.1)] else (own hsh x).take k) W∧W.heap[B]? =some (bkO x)
theorem stL_upd {J:List Pt→World→Prop} {B k:Nat} {x:Bk} {d:Nat→Bool} {W:World} (h:stL J B k x d W) (i:Nat) (hi:i≠8):stL J B k x (upd d i) W:=by
 unfold stL; rw[upd_other d (Ne.symm hi)]; exact h
theorem stL_below {N:Nat} {J:List Pt→World→Prop} (hJ:OwnFrom N J) {B k:Nat} {x:Bk} {d:Nat→Bool} {W W':World} (h:stL J B k x d W) (hb:Below W.heap.size W W'):stL J B k x d W':=
 ⟨hJ _ W W' none h.1 (Pol.grown_none hb) (fun r e=>by cases e),(hb.block B (Array.getElem?_eq_some_iff.1 h.2).1).trans h.2⟩
set_option maxRecDepth 100000 in
set_option maxHeartbeats 1000000 in
theorem placesOf1_in (m:Nat) (hm:10≤m) (l B N:Nat) (x:Bk) (sp:Nat→Obj→Bool) (hsp:sp B (bkO x)=true) (hBl:B≠l) (J:List Pt→World→Prop) (W:World) (hJ:OwnFrom N J)
 (hY:∀ (k:Nat) (pre:List Pt) (x':Pt) (W1:World),J pre W1→pre.length<(own hsh x).length→YieldAt Fence.wide k Tryz.prog l #[ptV x'] W1 fun e W'=>e=.returned (.bool true)∧J (pre ++ [x']) W'∧Keeps sp (some l) W1 W')
 (hB:W.heap[B]? =some (bkO x)) (h0:J [] W):
 CallsIn Fence.wide m Tryz.prog 205 #[.func (.yield l) #[] #[],.pointer (some ⟨B,0,none⟩)] W fun e W'=>(∃ v,e=.returned v)∧J (own hsh x) W':=by
 have h1:1≤m:=by omega
 have hcnt:=cnt_le x.2
 have HY:=Lib.hid hY
 clear hY
 refine callsIn_of_wp Tryz.func205 rfl trivial ?_ rfl
 simp only[Tryz.ntmps205,List.size_toArray,List.length_cons,List.length_nil,Nat.reduceAdd,Nat.reduceSub,Array.replicate_succ,Array.replicate_zero,List.push_toArray,List.append_toArray,List.nil_append,List.cons_append]
 obtain⟨c0,c1⟩:=cells_bk hB
 gi_wp2_with (refine⟨trivial,?_⟩; gi_at_call 206; refine (callsIn_wide.2 (count_told x.2 _)).mono ?_; rintro e w' ⟨rfl,rfl⟩)
 gi_loopw [7] (fun i wr=>∃ k:Nat,k≤cnt x.2∧i=.int .i64 k∧J ((own hsh x).take k) wr∧wr.heap[B]? =some (bkO x))
  (fun i _=>cnt x.2 - (intOf i).toNat)
 case atStart=>exact⟨0,Nat.zero_le _,rfl,h0,hB⟩
 case round=>
  obtain⟨k,hk,rfl,hJs,hcx⟩:=hrel
  clear c0 c1 hB h0
  by_cases hlt:k<cnt x.2
  ·gi_wp2
   have HT:=Lib.hid (own_take_succ x k hlt)
   refine wpIn_region_inv (fun d a V=>∃ z:Nat→Value,a=frL l B k x u20 z∧InvJ 10 (valL l B k x) (stL J B k x) d z V) (by kernel_rfl) (by kernel_rfl) ?step ?done ?start
   case start=>exact⟨fun i=>match i with | 0=>u10 | 1=>u11 | 2=>u12 | 3=>u13 | 4=>u14 | 5=>u15 | 6=>u16 | 7=>u17 | 8=>u18 | _=>u19,rfl,InvJ.start _ ⟨hJ _ wr _ none hJs (Pol.grown_none ((Below.refl _ wr).drew)) (fun r e=>by cases e),hcx⟩⟩
   case step=>
    rintro d a V i hi hd hall ⟨z,rfl,hI⟩
    replace hi:i<10:=hi
    have hst:=Lib.hid hI.st
    have hv:=Lib.hid hst.out.2
    obtain⟨c0,c1⟩:=cells_bk hst.out.2
    clear hcx hJs
    obtain rfl | rfl | rfl | rfl | rfl | rfl | rfl | rfl | rfl | rfl:i=0∨i=1∨i=2∨i=3∨i=4∨i=5∨i=6∨i=7∨i=8∨i=9:=by omega
    ·clear hall
     refine wpOpIn_free rfl rfl (fun K hK=>?_)
     simp only[List.getElem_toArray,List.getElem_cons_zero]
     go_simp
     exact hK _ _ ⟨_,by simp[upv,valL],hI.yields 0 (stL_upd hst.out 0 (by omega))⟩
    ·clear hall
     refine wpOpIn_free rfl rfl (fun K hK=>?_)
     simp only[List.getElem_toArray,List.getElem_cons_zero,List.getElem_cons_succ]
     go_simp
     exact hK _ _ ⟨_,by simp[upv,valL],hI.yields 1 (stL_upd hst.out 1 (by omega))⟩
    ·have h1:z 1=.pointer (some ⟨B,0,none⟩):=hI.pure 1 (by omega) (hall 1 (by kernel_rfl))
     clear hall
     refine wpOpIn_free rfl rfl (fun K hK=>?_)
     simp only[List.getElem_toArray,List.getElem_cons_zero,List.getElem_cons_succ]
     go_simp
     exact hK _ _ ⟨_,by simp[upv,valL,h1],hI.yields 2 (stL_upd hst.out 2 (by omega))⟩
    ·clear hall
     refine wpOpIn_free rfl rfl (fun K hK=>?_)
     simp only[List.getElem_toArray,List.getElem_cons_zero,List.getElem_cons_succ]
     go_simp
     exact hK _ _ ⟨_,by simp[upv,valL],hI.yields 3 (stL_upd hst.out 3 (by omega))⟩
    ·have h2:z 2=.int .i64 x.1:=hI.pure 2 (by omega) (hall 2 (by kernel_rfl))
     have h3:z 3=.int .i64 (k:Nat):=hI.pure 3 (by omega) (hall 3 (by kernel_rfl))
     clear hall
     refine wpOpIn_free rfl rfl (fun K hK=>?_)
     simp only[List.getElem_toArray,List.getElem_cons_zero,List.getElem_cons_succ]
     go_simp
     refine⟨trivial,(callsIn_wide.2 (Hash_told _ _ V)).mono ?_⟩
     rintro e w3 ⟨rfl,hb⟩
     exact hK _ _ ⟨_,by simp[upv,valL,h2,h3,hsh],hI.yields 4 (stL_upd (stL_below hJ hst.out hb) 4 (by omega))⟩
    ·clear hall
     refine wpOpIn_free rfl rfl (fun K hK=>?_)
     simp only[List.getElem_toArray,List.getElem_cons_zero,List.getElem_cons_succ]
     go_simp
     exact hK _ _ ⟨_,by simp[upv,valL],hI.yields 5 (stL_upd hst.out 5 (by omega))⟩
    ·have h5:z 5=.pointer (some ⟨B,0,none⟩):=hI.pure 5 (by omega) (hall 5 (by kernel_rfl))
     clear hall
     refine wpOpIn_free rfl rfl (fun K hK=>?_)
     simp only[List.getElem_toArray,List.getElem_cons_zero,List.getElem_cons_succ]
     go_simp
     exact hK _ _ ⟨_,by simp[upv,valL,h5],hI.yields 6 (stL_upd hst.out 6 (by omega))⟩
    ·have h4:z 4=.int .u64 (hsh x.1 k):=hI.pure 4 (by omega) (hall 4 (by kernel_rfl))
     have h6:z 6=.int .i64 x.1:=hI.pure 6 (by omega) (hall 6 (by kernel_rfl))
     clear hall
     refine wpOpIn_free rfl rfl (fun K hK=>?_)
     simp only[List.getElem_toArray,List.getElem_cons_zero,List.getElem_cons_succ]
     go_simp
     exact hK _ _ ⟨_,by simp[upv,valL,h4,h6],hI.yields 7 (stL_upd hst.out 7 (by omega))⟩
    ·have h0:z 0=.func (.yield l) #[] #[]:=hI.pure 0 (by omega) (hall 0 (by kernel_rfl))
     have h7:z 7=.agg #[.int .u64 (hsh x.1 k),.int .i64 x.1]:=hI.pure 7 (by omega) (hall 7 (by kernel_rfl))
     have hj:J ((own hsh x).take k) V:=by have h:=hst.out.1; rwa [if_neg (by rw[hd]; simp)] at h
     obtain⟨fn,tmps,assign,body,hy,hR⟩:=HY.out (m - 1) _ (hsh x.1 k,x.1) V hj (by rw[List.length_take,own_length]; omega)
     clear hall
     refine wpOpIn_free rfl rfl (fun K hK=>?_)
     simp only[List.getElem_toArray,List.getElem_cons_zero,List.getElem_cons_succ]
     go_simp
     refine hR.mono ?_
     rintro e w3 ⟨rfl,hj3,hk3⟩
     exact hK _ _ ⟨_,by simp[upv,valL,h0,h7],hI.yields 8 ⟨by rw[upd_same,if_pos rfl]; exact hj3,hk3.same _ _ hv.out (fun e=>hBl (by cases e; rfl)) hsp⟩⟩
    ·have h8:z 8=.bool true:=hI.pure 8 (by omega) (hall 8 (by kernel_rfl))
     clear hall
     refine wpOpIn_free rfl rfl (fun K hK=>?_)
     simp only[List.getElem_toArray,List.getElem_cons_zero,List.getElem_cons_succ]
     go_simp
     exact hK _ _ ⟨_,by simp[upv,valL,h8],hI.yields 9 (stL_upd hst.out 9 (by omega))⟩
   case done=>
    rintro d a V hall ⟨z,rfl,hI⟩
    have h9:z 9=.bool false:=hI.pure 9 (by omega) (hall 9 (by decide))
    obtain⟨hj,hb⟩:=hI.st
    rw[if_pos (hall 8 (by decide)),← HT.out] at hj
    have HJ3:=Lib.hid hj
    have HB3:=Lib.hid hb
    clear hall hI hj hb hJs hcx
    simp only[frL,h9]
    gi_wp2
    go_roundw
    case rel=>exact⟨k+1,by omega,by simp,HJ3.out,HB3.out⟩
    case measure=>simp[intOf]; omega
  ·obtain rfl:k=cnt x.2:=by omega
   gi_wp2
   go_end0
   exact⟨⟨_,rfl⟩,by rw[List.take_of_length_le (by rw[own_length]; exact Nat.le_refl _)] at hJs; exact hJs⟩
theorem placesOf_through (x:Bk) (B:Nat) (sp:Nat→Obj→Bool) (hsp:sp B (bkO x)=true) (w:World) (hB:w.heap[B]? =some (bkO x)):
 Through Tryz.prog 205 #[.pointer (some ⟨B,0,none⟩)] (fun p:Pt=>#[ptV p]) (own hsh x) sp w:=by
 intro m l J W hb hl hl2 hJ hY h0
 have hlt:=(Array.getElem?_eq_some_iff.1 hB).1
 exact callsIn_wide.2 (callsIn_wide.1 (placesOf1_in 10 (Nat.le_refl _) l B W.heap.size x sp hsp (by omega) J W hJ hY ((hb.block B hlt).trans hB) h0))
end Go.Proofs.YtbamodkgagcmnaaGreat.Pts
namespace Go.Proofs.YtbamodkgagcmnaaGreat.Pts
open Go.RowKit Go.Shelf Rgn
open Pol (below2 below_alloc Bk polV)
attribute [local go_sem] Oper.semAt_some
set_option maxHeartbeats 400000 in
theorem places_told (v:Value) (w:World) (hv:v.oneCell'=true):
 Calls Tryz.prog 152 #[v] w fun e w'=>e=.returned (.func (.func 176) #[] #[.pointer (some ⟨w.heap.size,0,none⟩)])∧w'=w.alloc (.cells #[v] 32):=by
 go_enter Tryz.func152,Tryz.ntmps152
 go_wp2
 go_ret
 exact⟨rfl,rfl⟩
def spO (n0:Nat) (k:Nat) (o:Obj):Bool:=decide (k<n0) || match o with
 | .cells _ t _=>t != 215 && t != 217
 | _=>true
def spI (N:Nat) (k:Nat) (o:Obj):Bool:=decide (N≤k) && match o with
 | .cells _ t _=>t == 83
 | _=>true
theorem spI_spO {n0 N k:Nat} {o:Obj} (h:spI N k o=true):N≤k∧spO n0 k o=true:=by
 unfold spI at h
 rw[Bool.and_eq_true,decide_eq_true_eq] at h
 refine⟨h.1,?_⟩
 unfold spO
 rw[Bool.or_eq_true]
 refine .inr ?_
 cases o <;> simp_all
def Old (A V:World):Prop:=∀ (k:Nat) (o:Obj),A.heap[k]? =some o→V.heap[k]? =some o
theorem Old.lies {A V:World} (h:Old A V) {a:Option Addr} {cap:Nat} {z:List Bk} (hl:Pol.Lies A a cap z):Pol.Lies V a cap z:=
 ⟨hl.max,hl.len,fun hn=>by
   obtain⟨b,off,e,hc⟩:=hl.cell hn
   have key:∀ o v,A.cell? ⟨b,o,none⟩=some v→V.cell? ⟨b,o,none⟩=some v:=fun o v hv=>by
    have hlt:=World.block_lt_of_cell? A _ hv
    have:=h b _ (Array.getElem?_eq_getElem hlt)
    rw[World.cell?_of_block (w:=A) (a:=⟨b,o,none⟩) (this.trans (Array.getElem?_eq_getElem hlt).symm)]; exact hv
   exact⟨b,off,e,fun i x hi=>⟨key _ _ (hc i x hi).1,key _ _ (hc i x hi).2⟩⟩⟩
theorem Old.keeps {A V V':World} {l:Nat} (h:Old A V) (hl:A.heap.size≤l) (k:Keeps (spO A.heap.size) (some l) V V'):Old A V':=fun i o hi=>by
 have hlt:=(Array.getElem?_eq_some_iff.1 hi).1
 exact k.same i o (h i o hi) (fun e=>by cases e; omega) (by unfold spO; rw[decide_eq_true hlt]; rfl)
theorem Old.own {A:World} {B:Nat} (hB:A.heap.size≤B) {β:Type}:OwnFrom B (fun (_:β) V=>Old A V):=fun _ X Y row hs hg hr i o hi=>by
 have hlt:=(Array.getElem?_eq_some_iff.1 hi).1
 have hX:=hs i o hi
 exact (hg.block i (Array.getElem?_eq_some_iff.1 hX).1 (fun e=>by have:=(hr i e.symm).1; omega)).trans hX
def Marks (N:Nat) (ds:List Nat) (V:World):Prop:=ds.Nodup∧∀ D ∈ ds,N≤D∧V.heap[D]? =some (.deferred (some []))
abbrev mk (D:Nat):Deferred:= { target:=.collected D,args:=#[] }
theorem leaves_marks {P:Program} {n:Nat} {fn:Func} {tmps:Array Value} {R:Ending→World→Prop} {N:Nat} (J:World→Prop) (hJ:∀ V D o,N≤D→V.heap[D]? =some o→o.isCells=false→J V→J (V.putObj D (.deferred none)))
 (hR:∀ V,J V→LeavesIn Fence.wide n P fn tmps R [] .returning V):∀ (ds:List Nat) (V:World),Marks N ds V→J V→LeavesInM Fence.wide n P fn tmps R (ds.map mk) .returning V
 | [],V,_,hj=>hR V hj
 | D :: ds,V,hm,hj=>by
   obtain⟨hD,hd⟩:=hm.2 D (by simp)
   refine⟨by simp,.inl ⟨D,_,rfl,run_takeDeferred hd,leaves_marks J hJ hR ds _ ⟨(List.nodup_cons.1 hm.1).2,fun D' h'=>?_⟩ (hJ V D _ hD hd rfl hj)⟩⟩
   obtain⟨h1,h2⟩:=hm.2 D' (by simp[h'])
   exact⟨h1,(World.putObj_heap_other (fun e=>(List.nodup_cons.1 hm.1).1 (by first | exact e ▸ h' | (rw[e]; exact h') | (rw[← e]; exact h')))).trans h2⟩
theorem pts_take_succ (z:List Bk) (k:Nat) (h:k<z.length):pts hsh (z.take (k+1))=pts hsh (z.take k) ++ own hsh z[k]:=by
 unfold pts
 rw[List.take_succ_eq_append_getElem h,List.flatMap_append]
 simp
theorem pts_take_le (z:List Bk) (k:Nat) (h:k<z.length):(pts hsh (z.take k)).length+(own hsh z[k]).length≤(pts hsh z).length:=by
 have e:pts hsh z=pts hsh (z.take (k+1)) ++ pts hsh (z.drop (k+1)):=by
  unfold pts; rw[← List.flatMap_append,List.take_append_drop]
 rw[e,pts_take_succ z k h]; simp
structure St (J:List Pt→World→Prop) (l N:Nat) (A:World) (xs:List Pt) (ds:List Nat) (V:World):Prop where
 j:J xs V
 box:V.heap[N]? =some (.cells #[.func (.yield l) #[] #[]] 254 (0,0))
 old:Old A V
 marks:Marks N ds V
 size:N<V.heap.size
theorem St.grown {J:List Pt→World→Prop} {l N M:Nat} {A:World} {xs:List Pt} {ds:List Nat} {V V':World} {row:Option Nat} (hJ:OwnFrom N J) (hA:A.heap.size≤M) (hN:N≤M) (hd:∀ D ∈ ds,D<M) (h:St J l N A xs ds V) (hg:V.grownBy V' row)
 (hr:∀ r,row=some r→M≤r∧∃ o:Obj,V.heap[r]? =some o∧o.isCells=false):St J l N A xs ds V' where
 j:=hJ _ V V' row h.j hg fun r e=>⟨Nat.le_trans hN (hr r e).1,(hr r e).2⟩
 box:=by
  refine (hg.block _ (Array.getElem?_eq_some_iff.1 h.box).1 (fun e=>?_)).trans h.box
  obtain⟨_,o,ho,hc⟩:=hr _ e.symm
  rw[h.box] at ho; cases ho; cases hc
 old:=Old.own hA () V V' row h.old hg hr
 marks:=⟨h.marks.1,fun D hD=>⟨(h.marks.2 D hD).1,(hg.block _ (Array.getElem?_eq_some_iff.1 (h.marks.2 D hD).2).1 (fun e=>by have:=(hr _ e.symm).1; have:=hd D hD; omega)).trans (h.marks.2 D hD).2⟩⟩
 size:=Nat.lt_of_lt_of_le h.size hg.size
theorem St.below {J:List Pt→World→Prop} {l N:Nat} {A:World} {xs:List Pt} {ds:List Nat} {V V':World} (hJ:OwnFrom N J) (h:St J l N A xs ds V) (hb:Below V.heap.size V V'):St J l N A xs ds V' where
 j:=hJ _ V V' none h.j (Pol.grown_none hb) (fun r e=>by cases e)
 box:=(hb.block _ (Array.getElem?_eq_some_iff.1 h.box).1).trans h.box
 old:=fun i o hi=>(hb.block _ (Array.getElem?_eq_some_iff.1 (h.old i o hi)).1).trans (h.old i o hi)
 marks:=⟨h.marks.1,fun D hD=>⟨(h.marks.2 D hD).1,(hb.block _ (Array.getElem?_eq_some_iff.1 (h.marks.2 D hD).2).1).trans (h.marks.2 D hD).2⟩⟩
 size:=Nat.lt_of_lt_of_le h.size hb.size
theorem St.told {J:List Pt→World→Prop} {l N:Nat} {A:World} {xs ys:List Pt} {ds:List Nat} {V V':World} (hl:A.heap.size≤l) (hN:l<N) (h:St J l N A xs ds V) (hj:J ys V') (k:Keeps (spO A.heap.size) (some l) V V'):St J l N A ys ds V' where
 j:=hj
 box:=k.same _ _ h.box (fun e=>by cases e; omega) (by unfold spO; rw[Bool.or_eq_true]; exact .inr rfl)
 old:=h.old.keeps hl k
 marks:=⟨h.marks.1,fun D hD=>⟨(h.marks.2 D hD).1,k.same _ _ (h.marks.2 D hD).2 (fun e=>by cases e; have:=(h.marks.2 l hD).1; omega) (by unfold spO; rw[Bool.or_eq_true]; exact .inr rfl)⟩⟩
 size:=Nat.lt_of_lt_of_le h.size k.size
theorem keeps_inner {A:World} {l N:Nat} {V V':World} (hN:l<N) (k:Keeps (spO A.heap.size) (some l) V V'):Keeps (spI N) none V V':=
 ⟨k.size,fun i o hi _ hs=>by
   obtain⟨h1,h2⟩:=spI_spO (n0:=A.heap.size) hs
   exact k.same i o hi (fun e=>by cases e; omega) h2⟩
abbrev frP (l Bp N:Nat) (v:Value) (n k:Nat) (u4 u9 u10 u11 u12 u13 u19:Value) (ds:List Nat):Act:= { tmps:=#[.func (.yield l) #[] #[],.pointer (some ⟨Bp,0,none⟩),.pointer (some ⟨N,0,none⟩),undef,u4,undef,v,.int .i64 (n:Nat),.int .i64 (k:Nat),u9,u10,u11,u12,u13,undef,undef,undef,undef,undef,u19],defers:=ds.map mk }
abbrev frQ (l Bp N:Nat) (v:Value) (n k:Nat) (u4 u9 u10 u11 u12 u13 u19:Value) (Bx:Nat) (x:Pt):Act:= { tmps:=#[.func (.yield l) #[] #[],.pointer (some ⟨Bp,0,none⟩),.pointer (some ⟨N,0,none⟩),undef,u4,.pointer (some ⟨Bx,0,none⟩),v,.int .i64 (n:Nat),.int .i64 (k:Nat),u9,u10,u11,u12,u13,ptV x,undef,undef,undef,undef,u19],defers:=[] }
abbrev ptO (x:Pt):Obj:=.cells #[.int .u64 x.1,.int .i64 x.2] 217 (0,0)
theorem cells_pt {W:World} {B:Nat} {x:Pt} (h:W.heap[B]? =some (ptO x)):W.cell? ⟨B,0,none⟩=some (.int .u64 x.1)∧W.cell? ⟨B,1,none⟩=some (.int .i64 x.2):=by
 constructor <;> simp[World.cell?,h]
set_option maxRecDepth 100000 in
set_option maxHeartbeats 1000000 in
theorem places1_in (m:Nat) (hm:10≤m) (l Bp:Nat) (A:World) (a:Option Addr) (cap:Nat) (z:List Bk) (hp:Pol.Lies A a cap z) (J:List Pt→World→Prop) (W:World) (hA:Old A W) (hAl:A.heap.size≤l) (hlW:l<W.heap.size) (hJ:OwnFrom W.heap.size J)
 (hY:∀ (k:Nat) (pre:List Pt) (x':Pt) (W1:World),J pre W1→pre.length<(pts hsh z).length→YieldAt Fence.wide k Tryz.prog l #[ptV x'] W1 fun e W'=>e=.returned (.bool true)∧J (pre ++ [x']) W'∧Keeps (spO A.heap.size) (some l) W1 W')
 (hB:W.cell? ⟨Bp,0,none⟩=some (polV a cap z)) (h0:J [] W):
 CallsIn Fence.wide m Tryz.prog 176 #[.func (.yield l) #[] #[],.pointer (some ⟨Bp,0,none⟩)] W fun e W'=>(∃ v,e=.returned v)∧J (pts hsh z) W':=by
 have h1:1≤m:=by omega
 have HY:=Lib.hid hY
 have HP:=Lib.hid hp
 have hlen:=hp.len
 have hmax:=hp.max
 unfold maxLen at hmax
 clear hY hp
 obtain⟨N,hN⟩:∃ N,N=W.heap.size:=⟨_,rfl⟩
 rw[← hN] at hJ hlW
 refine callsIn_of_wp_marks Tryz.func176 rfl trivial ?_ rfl
 simp only[Tryz.ntmps176,List.size_toArray,List.length_cons,List.length_nil,Nat.reduceAdd,Nat.reduceSub,Array.replicate_succ,Array.replicate_zero,List.push_toArray,List.append_toArray,List.nil_append,List.cons_append]
 have hB2:(W.alloc (.cells #[.func (.yield l) #[] #[]] 254)).cell? ⟨Bp,0,none⟩=some (polV a cap z):=Fnv.cell_alloc_o _ hB
 gi_wp2
 rw[← hN]
 have hst0:St J l N A (pts hsh (z.take 0)) [] (W.alloc (.cells #[.func (.yield l) #[] #[]] 254)):=by
  refine⟨?_,?_,fun i o hi=>?_,⟨List.nodup_nil,fun D hD=>by cases hD⟩,by rw[hN]; simp⟩
  ·simpa [pts] using hJ _ W _ none h0 (World.grownBy_alloc W _ none) (fun r e=>by cases e)
  ·rw[hN]; exact World.alloc_heap_new W _
  ·exact (Below.heap_alloc W _ i (Array.getElem?_eq_some_iff.1 (hA i o hi)).1).trans (hA i o hi)
 have HJ:=Lib.hid hJ
 generalize hW0:(W.alloc (.cells #[.func (.yield l) #[] #[]] 254))=W0 at *
 clear hW0 hB2 hB h0 hA hJ hN
 refine wpIn_loop (fun act V=>∃ (k:Nat) (u4 u9 u10 u11 u12 u13 u19:Value) (ds:List Nat),k≤z.length∧act=frP l Bp N (polV a cap z) z.length k u4 u9 u10 u11 u12 u13 u19 ds∧St J l N A (pts hsh (z.take k)) ds V) (fun act _=>z.length - (intOf (act.tmps.getD 8 undef)).toNat) ⟨0,undef,undef,undef,undef,undef,undef,undef,[],Nat.zero_le _,rfl,hst0⟩ ?_
 clear hst0
 rintro act V ⟨k,u4,u9,u10,u11,u12,u13,u19,ds,hk,rfl,hS⟩
 have HS:=Lib.hid hS
 clear hS
 by_cases hlt:k<z.length
 ·obtain⟨b,off,rfl,c0,c1⟩:=(HS.out.old.lies HP.out).at hlt
  have HX:=Lib.hid (pts_take_succ z k hlt)
  have HL:=Lib.hid (pts_take_le z k hlt)
  generalize z[k]=x at *
  gi_wp2_with (refine⟨trivial,?_⟩; gi_at_call 177; refine (callsIn_wide.2 (placesOf_told x _)).mono ?_; rintro e w' ⟨rfl,rfl⟩)
  have hbelow:Below V.heap.size V ((V.alloc (.cells #[.int .i64 x.1,.int .i64 x.2] 83)).alloc (bkO x)):=((Below.refl _ V).alloc (Nat.le_refl _) _).alloc (by simp) _
  have HV:=Lib.hid (HS.out.below HJ.out hbelow)
  have hbx:((V.alloc (.cells #[.int .i64 x.1,.int .i64 x.2] 83)).alloc (bkO x)).heap[V.heap.size+1]? =some (bkO x):=by
   have:=World.alloc_heap_new (V.alloc (.cells #[.int .i64 x.1,.int .i64 x.2] 83)) (bkO x); rwa [World.size_alloc] at this
  have hN1:=HS.out.size
  have hN2:N≤V.heap.size+1:=by omega
  clear hbelow c0 c1
  generalize hV2:((V.alloc (.cells #[.int .i64 x.1,.int .i64 x.2] 83)).alloc (bkO x))=V2 at *
  have hz2:V2.heap.size=V.heap.size+2:=by rw[← hV2]; simp
  clear hV2
  generalize V.heap.size+1=Bb at *
  generalize hu4:Value.pointer (some ⟨V.heap.size,0,none⟩)=w4
  clear hu4
  have hNV:N≤V2.heap.size:=Nat.le_of_lt HV.out.size
  have hAV:A.heap.size≤V2.heap.size:=by omega
  have hdV:∀ D ∈ ds,D<V2.heap.size:=fun D hD=>(Array.getElem?_eq_some_iff.1 (HV.out.marks.2 D hD).2).1
  have HD:=Lib.hid hdV
  clear hdV
  refine wpIn_range_through (gf:=205) (lb:=#[.pointer (some ⟨Bb,0,none⟩)]) rfl (enters_of Tryz.func205 (by kernel_rfl) rfl)
   (placesOf_through x Bb (spI N) (by unfold spI; rw[decide_eq_true hN2]; rfl) V2 hbx) (fun _=>rfl) (fun i o hi ho=>?hsp)
   (fun pre U=>St J l N A (pts hsh (z.take k) ++ pre) ds U) (fun pre X Y row hs hg hr=>St.grown HJ.out hAV hNV HD.out hs hg hr) (by rw[List.append_nil]; exact HV.out)
   (fun y act U=>∃ Bx,U.heap[Bx]? =some (ptO y)∧act=frQ l Bp N (polV (some ⟨b,off,none⟩) cap z) z.length k w4 (.bool true) (.pointer (some ⟨b,off+k * 2,none⟩)) (.agg #[.int .i64 x.1,.int .i64 x.2]) (.agg #[.int .i64 x.1,.int .i64 x.2]) (.func (.func 205) #[] #[.pointer (some ⟨Bb,0,none⟩)]) u19 Bx y) ?hAx ?hassign ?hbody ?hdone
  case hsp=>
   unfold spI
   rw[decide_eq_true (show N≤i by omega)]
   cases o <;> first | rfl | cases ho
  case hAx=>
   rintro y act u X Y row ⟨Bx,hx,rfl⟩ hg hr
   refine⟨Bx,(hg.block Bx (Array.getElem?_eq_some_iff.1 hx).1 (fun e=>?_)).trans hx,rfl⟩
   obtain⟨_,o,ho,hc⟩:=hr Bx e.symm
   rw[hx] at ho; cases ho; cases hc
  case hassign=>
   intro kk pre y U K hi hlen' hK
   have HI:=Lib.hid hi
   have HK:=Lib.hid hK
   clear hi hK
   gi_wp2
   exact HK.out _ _ (Keeps.below (below_alloc U _)) (HI.out.below HJ.out (below_alloc U _)) ⟨U.heap.size,World.alloc_heap_new U _,rfl⟩
  case hbody=>
   rintro kk pre y act U hi ⟨Bx,hx,rfl⟩ hlen'
   have HI:=Lib.hid hi
   have HX2:=Lib.hid hx
   obtain⟨x0,x1⟩:=cells_pt hx
   have f0:U.cell? ⟨N,0,none⟩=some (.func (.yield l) #[] #[]):=by simp[World.cell?,hi.box]
   obtain⟨fn,tmps,assign,body,hy,hR⟩:=HY.out (kk - 1) _ y U hi.j (by have:=HL.out; simp; omega)
   clear hi hx
   gi_wp2
   refine⟨fun h=>absurd h Bool.false_ne_true,?_⟩
   refine (show RoundIn (Fence.wide.inRound _) _ _ _ _ _ _ _ _ _ from hR).mono ?_
   rintro e U2 ⟨rfl,hj2,hk2⟩
   have HJ2:=Lib.hid hj2
   have HK2:=Lib.hid hk2
   clear hj2 hk2 hy hR x0 x1 f0
   gi_wp2
   exact⟨keeps_inner hlW HK2.out,HI.out.told hAl hlW (by rw[← List.append_assoc]; exact HJ2.out) HK2.out⟩
  case hdone=>
   intro U hi hd
   have HI:=Lib.hid hi
   have HE:=Lib.hid hd
   clear hi hd
   gi_wp2
   refine⟨⟨k+1,_,_,_,_,_,_,_,V2.heap.size :: ds,by omega,rfl,?_⟩,?_⟩
   ·rw[HX.out]
    exact⟨HI.out.j,HI.out.box,HI.out.old,⟨List.nodup_cons.2 ⟨fun h=>absurd (HD.out _ h) (by omega),HI.out.marks.1⟩,fun D hD=>by
     rcases List.mem_cons.1 hD with rfl | hD
     ·exact⟨hNV,HE.out⟩
     ·exact HI.out.marks.2 D hD⟩,HI.out.size⟩
   ·simp[intOf]; omega
 ·obtain rfl:k=z.length:=by omega
  have HS2:=HS.out
  rw[List.take_length] at HS2
  have HS3:=Lib.hid HS2
  clear HS2 HS
  gi_wp2
  exact leaves_marks (N:=N) (J (pts hsh z)) (fun U D o hD hU hc hj=>HJ.out.putObj _ hj hD hU hc) (fun U hj=>⟨_,results_none rfl _ _ _,⟨_,rfl⟩,hj⟩) ds V HS3.out.marks HS3.out.j
theorem places_through (A w:World) (Bp:Nat) (a:Option Addr) (cap:Nat) (z:List Bk) (hp:Pol.Lies A a cap z) (hA:Below A.heap.size A w) (hB:w.cell? ⟨Bp,0,none⟩=some (polV a cap z)):
 Through Tryz.prog 176 #[.pointer (some ⟨Bp,0,none⟩)] (fun p:Pt=>#[ptV p]) (pts hsh z) (spO A.heap.size) w:=by
 intro m l J W hb hl hl2 hJ hY h0
 have hlt:=World.block_lt_of_cell? w _ hB
 refine callsIn_wide.2 (callsIn_wide.1 (places1_in 10 (Nat.le_refl _) l Bp A a cap z hp J W (fun i o hi=>?_) (Nat.le_trans hA.size hl) hl2 hJ hY ((hb.cell hlt).trans hB) h0))
 have h1:=(Array.getElem?_eq_some_iff.1 hi).1
 exact (hb.block i (Nat.lt_of_lt_of_le h1 hA.size)).trans ((hA.block i h1).trans hi)
end Go.Proofs.YtbamodkgagcmnaaGreat.Pts
namespace Go.Proofs.YtbamodkgagcmnaaGreat.Pts
open Go.RowKit Go.Shelf Rgn
open Pol (below2 below_alloc Bk polV)
attribute [local go_sem] Oper.semAt_some
def OwnP (B:Nat) (W:World) (v:Value) (bs:List Pt):Prop:=W.ownsRow B 217 2 v bs.length (flat bs)
theorem ownP_nil (B:Nat) (W:World):OwnP B W (.slice none 0 0) []:=World.ownsRow_nil W B _ 2
theorem OwnP.lies {B:Nat} {W:World} {v:Value} {bs:List Pt} (h:OwnP B W v bs):∃ a cap,v=ptsV a cap bs∧Lies W a cap bs:=by
 rcases h.2 with⟨rfl,h0⟩ | ⟨g,cap,cur,rfl,hb,hg,hn,hm,hs,htake⟩
 ·have:bs=[]:=List.eq_nil_of_length_eq_zero h0
  subst this
  exact⟨none,0,rfl,lies_nil W⟩
 ·refine⟨some ⟨g,0,none⟩,cap,rfl,hm,hn,fun _=>⟨g,0,rfl,fun i x hi=>?_⟩⟩
  have hc:=World.ownsRow.cells h (g:=g) rfl
  obtain⟨h0,h1⟩:=flat_get bs i x hi
  have c0:=hc _ _ h0
  have c1:=hc _ _ h1
  rw[Pol.add_at] at c0 c1
  exact⟨c0,c1⟩
theorem info_pl:(Tryz.prog.info? 217).map (fun i=>(i.zero,i.size,i.bytes))=some (some (.agg #[.int .u64 0,.int .i64 0]),2,16):=by kernel_rfl
theorem wpListIn_moreP {F:Fence} {n:Nat} {w:World} {ops:Array Oper} {rest:List Oper} {o:Oper} {a:Act} {Q:Exit→Act→World→Prop} (hgd:o.guard=none) (s x:Operand)
 (ho:o.op=.call { callee:=.builtin .append,args:=#[s,x],argTypes:=#[215,215] }) (B g:Nat) (bs:List Pt) (y:Pt) (v:Value) (hs:a.eval s=v) (hx:a.eval x=.slice (some ⟨g,0,none⟩) 1 1)
 (hown:OwnP B w v bs) (c0:w.cell? ⟨g,0,none⟩=some (.int .u64 y.1)) (c1:w.cell? ⟨g,1,none⟩=some (.int .i64 y.2)) (hl:bs.length≤1099511627776) (hB:B≤w.heap.size)
 (h:∀ g' cap' w',Hid (OwnP B w' (.slice (some ⟨g',0,none⟩) (bs.length+1) cap') (bs ++ [y]))→Hid (w.grownBy w' v.ownBlock)→wpListIn F n Tryz.prog ops Q rest (a.put o.dst (.slice (some ⟨g',0,none⟩) (bs.length+1) cap')) w'):wpListIn F n Tryz.prog ops Q (o :: rest) a w:=by
 obtain⟨i0,hi,hz0,hz1,hz2⟩:=info_parts info_pl
 refine wpListIn_append_own _ hgd s x 215 ho B 217 i0 (.agg #[.int .u64 0,.int .i64 0]) 2 16 Tryz.underlying215 hi hz0 hz1 hz2 rfl (by decide) v bs.length (flat bs) hs hown ⟨g,0,none⟩ 1 1 [.int .u64 y.1,.int .i64 y.2] hx rfl ?c1 ?c2 ?c3 ?c4 hB ?_
 case c1=>
  intro j u hj
  match j,hj with
  | 0,hj=>simp at hj; subst hj; simpa [Addr.add] using c0
  | 1,hj=>simp at hj; subst hj; simpa [Addr.add] using c1
 case c2=>intro u hu; simp at hu; rcases hu with rfl | rfl <;> rfl
 case c3=>unfold maxLen; omega
 case c4=>omega
 intro v' w' h1 h2 _
 obtain⟨g',cap',rfl⟩:=ownsRow_succ h1
 refine h g' cap' w' ?_ h2
 show OwnP B w' _ (bs ++ [y])
 unfold OwnP
 rw[flat_more,List.length_append]
 exact h1
structure Sa (n0 Bs:Nat) (w:World) (bs:List Pt) (V:World):Prop where
 box:∃ v,V.heap[Bs]? =some (.cells #[v] 215 (0,0))∧OwnP n0 V v bs
 below:Below n0 w V
theorem ownP_ne {B:Nat} {W:World} {v:Value} {bs:List Pt} (h:OwnP B W v bs) {j:Nat} {o:Obj} (hj:W.heap[j]? =some o) (hno:∀ cur,o≠.cells cur 217 (0,0)):v.ownBlock=none∨v.ownBlock≠some j:=by
 rcases h.2 with⟨rfl,_⟩ | ⟨g,cap,cur,rfl,_,hg,_⟩
 ·exact .inl rfl
 ·refine .inr fun e=>?_
  have e':g=j:=by simpa [Value.ownBlock] using e
  subst e'; rw[hg] at hj; cases hj; exact hno cur rfl
theorem Sa.own {n0 Bs B:Nat} {w:World} (h0:n0≤w.heap.size) (hB:n0≤B):OwnFrom B (fun bs V=>Sa n0 Bs w bs V):=fun bs X Y row h hg hr=>by
 obtain⟨v,hv,ho⟩:=h.box
 refine⟨⟨v,(hg.block Bs (Array.getElem?_eq_some_iff.1 hv).1 (fun e=>?_)).trans hv,?_⟩,h.below.grown hg (Nat.le_trans h0 h.below.size) (fun k e=>Nat.le_trans hB (hr k e).1)⟩
 ·obtain⟨_,o,hob,hc⟩:=hr Bs e.symm
  rw[hv] at hob; cases hob; cases hc
 ·refine World.ownsRow.kept ho hg ?_
  cases row with
  | none=>cases v.ownBlock <;> simp
  | some r=>
    obtain⟨_,o,hob,hc⟩:=hr r rfl
    exact ownP_ne ho hob (fun cur e=>by subst e; cases hc)
theorem Sa.below' {n0 Bs:Nat} {w:World} {bs:List Pt} {V V':World} (h:Sa n0 Bs w bs V) (hb:Below V.heap.size V V') (h0:n0≤V.heap.size):Sa n0 Bs w bs V':=by
 obtain⟨v,hv,ho⟩:=h.box
 exact⟨⟨v,(hb.block Bs (Array.getElem?_eq_some_iff.1 hv).1).trans hv,World.ownsRow.kept ho (Pol.grown_none hb) (by cases v.ownBlock <;> simp)⟩,h.below.trans (hb.mono h0)⟩
abbrev frA (sv:Value) (Bs Bx:Nat) (x:Pt):Act:= { tmps:=#[.slice none 0 0,sv,.pointer (some ⟨Bs,0,none⟩),undef,.slice none 0 0,.pointer (some ⟨Bx,0,none⟩),sv,ptV x,undef,undef,undef,undef,undef],defers:=[] }
set_option maxRecDepth 100000 in
set_option maxHeartbeats 1000000 in
theorem AppendSeq_in (A w:World) (gf:Nat) (lb:Array Value) (eg:∀ args w,(callFunc gf args).run Tryz.prog w=.ok (.enter gf args) w) (xs:List Pt) (hxs:xs.length≤1099511627776) (hAw:A.heap.size≤w.heap.size)
 (hT:∀ V,Below w.heap.size w V→Through Tryz.prog gf lb (fun p:Pt=>#[ptV p]) xs (spO A.heap.size) V) (m:Nat) (hm:10≤m):
 CallsIn Fence.wide m Tryz.prog 202 #[.slice none 0 0,.func (.func gf) #[] lb] w fun e W'=>∃ v,e=.returned v∧OwnP w.heap.size W' v xs∧Below w.heap.size w W':=by
 have h1:1≤m:=by omega
 have HT:=Lib.hid hT
 clear hT
 refine callsIn_of_wp_marks Tryz.func202 rfl trivial ?_ rfl
 simp only[Tryz.ntmps202,List.size_toArray,List.length_cons,List.length_nil,Nat.reduceAdd,Nat.reduceSub,Array.replicate_succ,Array.replicate_zero,List.push_toArray,List.append_toArray,List.nil_append,List.cons_append]
 gi_wp2
 have hB0:=below_alloc w (.cells #[.slice none 0 0] 215)
 have hS0:Sa w.heap.size w.heap.size w [] (w.alloc (.cells #[.slice none 0 0] 215)):=⟨⟨_,World.alloc_heap_new w _,ownP_nil _ _⟩,hB0⟩
 have hz:(w.alloc (.cells #[.slice none 0 0] 215)).heap.size=w.heap.size+1:=by simp
 have HT2:=Lib.hid (HT.out _ hB0)
 generalize hW0:(w.alloc (.cells #[.slice none 0 0] 215))=W0 at *
 clear hW0 hB0 HT
 refine wpIn_range_through (gf:=gf) (lb:=lb) rfl eg HT2.out (fun _=>rfl) (fun i o hi ho=>?hsp) (fun bs V=>Sa w.heap.size w.heap.size w bs V) (Sa.own (Nat.le_refl _) (by omega)) hS0
  (fun y act U=>∃ Bx,U.heap[Bx]? =some (ptO y)∧act=frA (.func (.func gf) #[] lb) w.heap.size Bx y) ?hAx ?hassign ?hbody ?hdone
 case hsp=>
  unfold spO
  rw[Bool.or_eq_true]
  refine .inr ?_
  cases o <;> first | rfl | cases ho
 case hAx=>
  rintro y act u X Y row ⟨Bx,hx,rfl⟩ hg hr
  refine⟨Bx,(hg.block Bx (Array.getElem?_eq_some_iff.1 hx).1 (fun e=>?_)).trans hx,rfl⟩
  obtain⟨_,o,ho,hc⟩:=hr Bx e.symm
  rw[hx] at ho; cases ho; cases hc
 case hassign=>
  intro kk pre y U K hi hlen' hK
  have HI:=Lib.hid hi
  have HK:=Lib.hid hK
  clear hi hK
  gi_wp2
  exact HK.out _ _ (Keeps.below (below_alloc U _)) (HI.out.below' (below_alloc U _) HI.out.below.size) ⟨U.heap.size,World.alloc_heap_new U _,rfl⟩
 case hbody=>
  rintro kk pre y act U hi ⟨Bx,hx,rfl⟩ hlen'
  obtain⟨x0,x1⟩:=cells_pt hx
  obtain⟨v,hv,ho⟩:=hi.box
  have hU:=hi.below.size
  have HV:=Lib.hid hv
  have HO:=Lib.hid ho
  have HB:=Lib.hid hi.below
  have b0:U.cell? ⟨w.heap.size,0,none⟩=some v:=by simp[World.cell?,hv]
  clear hi hx hv ho
  gi_wp2_with (gi_at_builtin; refine wpListIn_moreP rfl _ _ rfl w.heap.size U.heap.size pre y v rfl rfl (World.ownsRow.kept HO.out (World.grownBy_alloc U _ none) (by cases v.ownBlock <;> simp)) ?c0 ?c1 ?c2 ?c3 ?_)
  case c0=>simp
  case c1=>simp
  case c2=>omega
  case c3=>simp; omega
  intro g' cap' w3 ho3 hg3
  have hlt:w.heap.size<U.heap.size:=(Array.getElem?_eq_some_iff.1 HV.out).1
  have hv1:(U.alloc (.cells #[.int .u64 y.1,.int .i64 y.2] 217)).heap[w.heap.size]? =some (.cells #[v] 215 (0,0)):=(Below.heap_alloc U _ _ hlt).trans HV.out
  have ho1:OwnP w.heap.size (U.alloc (.cells #[.int .u64 y.1,.int .i64 y.2] 217)) v pre:=World.ownsRow.kept HO.out (World.grownBy_alloc U _ none) (by cases v.ownBlock <;> simp)
  have hv3:w3.heap[w.heap.size]? =some (.cells #[v] 215 (0,0)):=by
   refine (hg3.out.block _ (by simp; omega) (fun e=>?_)).trans hv1
   rcases ownP_ne ho1 hv1 (fun cur e=>by cases e) with h | h
   ·rw[h] at e; cases e
   ·exact h e.symm
  have hb3:w3.cell? ⟨w.heap.size,0,none⟩=some v:=by simp[World.cell?,hv3]
  have hf3:w3.frozen? ⟨w.heap.size,0,none⟩=false:=by simp[World.frozen?,hv3]
  have HV3:=Lib.hid hv3
  have HO1:=Lib.hid ho1
  clear hv1 hv3 ho1
  gi_wp2
  refine⟨?_,⟨⟨_,Boxed.set _ HV3.out,?_⟩,?_⟩⟩
  ·refine Keeps.trans (Keeps.trans (Keeps.below (below_alloc U _)) (Keeps.grown hg3.out fun r o e hr=>?_)) (Keeps.setCell _ _ _ fun o ho=>?_)
   ·rcases HO1.out.2 with⟨rfl,_⟩ | ⟨g,cap,cur,rfl,hgb,hg,_⟩
    ·cases e
    ·have e':g=r:=by simpa [Value.ownBlock] using e
     subst e'
     rw[hg] at hr; cases hr
     unfold spO
     rw[decide_eq_false (by omega)]; rfl
   ·rw[HV3.out] at ho; cases ho
    unfold spO
    rw[decide_eq_false (show ¬ w.heap.size<A.heap.size by omega)]; rfl
  ·refine (World.ownsRow.kept ho3.out (grownBy_setCell' w3 w.heap.size _) ?_)
   exact ownP_ne ho3.out HV3.out (fun cur e=>by cases e)
  ·exact ((HB.out.alloc HB.out.size _).grown hg3.out (by simp; omega) (fun r e=>(World.ownsRow.lt HO1.out r e).1)).setCell (p:=⟨w.heap.size,0,none⟩) (Nat.le_refl _) _
 case hdone=>
  intro V hi hd
  obtain⟨v,hv,ho⟩:=hi.box
  have b0:V.cell? ⟨w.heap.size,0,none⟩=some v:=by simp[World.cell?,hv]
  have HO:=Lib.hid ho
  have HB:=Lib.hid hi.below
  have HD:=Lib.hid hd
  clear hi hv ho hd
  gi_wp2
  refine⟨by simp,.inl ⟨_,_,rfl,run_takeDeferred HD.out,?_⟩⟩
  refine⟨_,results_tmp rfl _ _ _,v,rfl,?_,?_⟩
  ·exact World.ownsRow.kept HO.out (grownBy_putObj' V W0.heap.size _) (ownP_ne HO.out HD.out (fun cur e=>by cases e))
  ·exact HB.out.grown (grownBy_putObj' V W0.heap.size _) HB.out.size (fun k e=>by cases e; omega)
set_option maxHeartbeats 400000 in
theorem Collect_told (A w:World) (Bp:Nat) (a:Option Addr) (cap:Nat) (z:List Bk) (hp:Pol.Lies A a cap z) (hA:Below A.heap.size A w) (hB:w.cell? ⟨Bp,0,none⟩=some (polV a cap z)) (hz:z.length≤1000000000):
 Calls Tryz.prog 174 #[.func (.func 176) #[] #[.pointer (some ⟨Bp,0,none⟩)]] w fun e W'=>∃ v,e=.returned v∧OwnP w.heap.size W' v (pts hsh z)∧Below w.heap.size w W':=by
 have hlen:(pts hsh z).length≤1099511627776:=by
  have:∀ l:List Bk,(pts hsh l).length≤l.length * 128:=by
   intro l
   induction l with
   | nil=>simp[pts]
   | cons x l ih=>
     have e1:pts hsh (x :: l)=own hsh x ++ pts hsh l:=by simp[pts]
     rw[e1,List.length_append,own_length,List.length_cons]
     have:=cnt_le x.2
     omega
  have:=this z
  omega
 have C:=Lib.hid (callsIn_wide.1 (AppendSeq_in A w 176 #[.pointer (some ⟨Bp,0,none⟩)] (enters_of Tryz.func176 (by kernel_rfl) rfl) (pts hsh z) hlen hA.size (fun V hV=>places_through A V Bp a cap z hp (hA.trans (hV.mono hA.size)) ((hV.cell (World.block_lt_of_cell? w _ hB)).trans hB)) 10 (Nat.le_refl _)))
 clear hp hB
 go_enter Tryz.func174,Tryz.ntmps174
 go_wp2_with fail
 refine C.out.mono ?_
 rintro e w1 ⟨v,rfl,ho,hb⟩
 go_wp2_with fail
 go_ret
 exact⟨v,rfl,ho,hb⟩
end Go.Proofs.YtbamodkgagcmnaaGreat.Pts
