/-
  Points: the document's Less, merge and sort (package gangplankref09).
-/
import Derived.Test.YtbamodkgagcmnaaGreatBRinE
import Derived.Deep.RegionHeld3
import Derived.Shelf.RegionOpen
import Derived.BigQuiet
import Derived.WalkSmall
import Derived.Test.YtbamodkgagcmnaaGreatBOctGE
import Derived.Test.YtbamodkgagcmnaaGreatBFnvE
import Derived.Test.YtbamodkgagcmnaaGreatBRgnE
set_option maxRecDepth 100000
namespace Go.Proofs.YtbamodkgagcmnaaGreat.Pts
open Go.RowKit Go.Shelf Rgn
open Pol (below2 below_alloc)
theorem Lies.take {W:World} {a:Option Addr} {cap:Nat} {bs:List Pt} (h:Lies W a cap bs) (n:Nat):Lies W a cap (bs.take n):=
 ⟨h.max,Nat.le_trans (by simp; omega) h.len,fun hn=>by
   obtain⟨b,off,e,hc⟩:=h.cell (fun e=>hn (by rw[e]; simp))
   refine⟨b,off,e,fun i x hi=>hc i x ?_⟩
   rw[List.getElem?_take] at hi
   split at hi
   ·exact hi
   ·cases hi⟩
theorem Lies.drop {W:World} {b off cap:Nat} {bs:List Pt} (h:Lies W (some ⟨b,off,none⟩) cap bs) (n:Nat):Lies W (some ⟨b,off+n * 2,none⟩) (cap - n) (bs.drop n):=
 ⟨Nat.le_trans (Nat.sub_le _ _) h.max,by have:=h.len; simp; omega,fun hn=>by
   obtain⟨b',off',e,hc⟩:=h.cell (fun e=>hn (by rw[e]; simp))
   cases e
   refine⟨b,off+n * 2,rfl,fun i x hi=>?_⟩
   rw[List.getElem?_drop] at hi
   have:=hc (n+i) x hi
   rwa [show off+(n+i) * 2=off+n * 2+i * 2 by omega] at this⟩
set_option maxHeartbeats 1000000 in
theorem refLess_any (x y:Pt) (w:World):Calls Tryz.prog 201 #[ptV x,ptV y] w fun e W'=>e=.returned (.bool (less x y))∧Below w.heap.size w W':=by
 have al:=Lib.hid (((Below.refl w.heap.size w).alloc (Nat.le_refl _) (.cells #[.int .u64 x.1,.int .i64 x.2] 211)).alloc (by simp) (.cells #[.int .u64 y.1,.int .i64 y.2] 211))
 by_cases h1:x.1<y.1
 ·have d1:decide (x.1<y.1)=true:=decide_eq_true h1
  have HV:=Lib.hid ((less_iff x y).2 (Or.inl h1))
  clear h1
  go_enter Tryz.func201,Tryz.ntmps201
  go_wp2_with fail
  go_ret
  exact⟨by rw[HV.out]; rfl,al.out⟩
 ·have d1:decide (x.1<y.1)=false:=decide_eq_false h1
  by_cases h2:x.1=y.1
  ·have d2:(x.1 == y.1)=true:=beq_iff_eq.2 h2
   by_cases h3:x.2<y.2
   ·have d3:decide (x.2<y.2)=true:=decide_eq_true h3
    have HV:=Lib.hid ((less_iff x y).2 (Or.inr ⟨h2,h3⟩))
    clear h1 h2 h3
    go_enter Tryz.func201,Tryz.ntmps201
    go_wp2_with fail
    go_ret
    exact⟨by rw[HV.out]; rfl,al.out⟩
   ·have d3:decide (x.2<y.2)=false:=decide_eq_false h3
    have HV:=Lib.hid ((less_not x y).2 (by omega))
    clear h1 h2 h3
    go_enter Tryz.func201,Tryz.ntmps201
    go_wp2_with fail
    go_ret
    exact⟨by rw[HV.out]; rfl,al.out⟩
  ·have d2:(x.1 == y.1)=false:=beq_false_of_ne h2
   have HV:=Lib.hid ((less_not x y).2 (by omega))
   clear h1 h2
   go_enter Tryz.func201,Tryz.ntmps201
   go_wp2_with fail
   go_ret
   exact⟨by rw[HV.out]; rfl,al.out⟩
theorem two_keep {W0 W W':World} {g h p q:Nat} {x y:Pt} (s:Below W0.heap.size W0 W∧W.cell? ⟨g,p,none⟩=some (.int .u64 x.1)∧W.cell? ⟨g,p+1,none⟩=some (.int .i64 x.2)∧W.cell? ⟨h,q,none⟩=some (.int .u64 y.1)∧W.cell? ⟨h,q+1,none⟩=some (.int .i64 y.2)) (hb:Below W.heap.size W W'):
 Below W0.heap.size W0 W'∧W'.cell? ⟨g,p,none⟩=some (.int .u64 x.1)∧W'.cell? ⟨g,p+1,none⟩=some (.int .i64 x.2)∧W'.cell? ⟨h,q,none⟩=some (.int .u64 y.1)∧W'.cell? ⟨h,q+1,none⟩=some (.int .i64 y.2):=by
 obtain⟨h0,h1,h2,h3,h4⟩:=s
 exact⟨below2 h0 hb,(hb.cell (World.block_lt_of_cell? W _ h1)).trans h1,(hb.cell (World.block_lt_of_cell? W _ h2)).trans h2,(hb.cell (World.block_lt_of_cell? W _ h3)).trans h3,(hb.cell (World.block_lt_of_cell? W _ h4)).trans h4⟩
theorem drop_cons (l:List Pt) (i:Nat) (h:i<l.length):l.drop i=l[i] :: l.drop (i+1):=List.drop_eq_getElem_cons h
set_option maxRecDepth 100000 in
set_option maxHeartbeats 1500000 in
theorem refMerge_any (a:Option Addr) (cap:Nat) (A:List Pt) (a':Option Addr) (cap':Nat) (B:List Pt) (w:World) (h:Lies w a cap A) (h':Lies w a' cap' B) (hA:A.length≤100000000000) (hB:B.length≤100000000000):
 Calls Tryz.prog 173 #[ptsV a cap A,ptsV a' cap' B] w fun e W'=>∃ v,e=.returned v∧Own w.heap.size W' v (mrg A B)∧Below w.heap.size w W':=by
 have H:=Lib.hid h
 have H':=Lib.hid h'
 have hl:=h.len
 have hm:=h.max
 have hl':=h'.len
 have hm':=h'.max
 unfold maxLen at hm hm'
 clear h h'
 go_enter Tryz.func173,Tryz.ntmps173
 go_wp2_with fail
 go_loopw [5,6,7] (fun v vi vk W=>∃ (i k:Nat) (out:List Pt),i≤A.length∧k≤B.length∧vi=.int .i64 i∧vk=.int .i64 k∧out.length≤300000000000∧out ++ mrg (A.drop i) (B.drop k)=mrg A B∧Own w.heap.size W v out∧Below w.heap.size w W) (fun _ vi vk _=>(A.length - (intOf vi).toNat)+(B.length - (intOf vk).toNat))
 case atStart=>exact⟨0,0,[],Nat.zero_le _,Nat.zero_le _,rfl,rfl,by simp,by simp,own_nil _ _,Below.refl _ _⟩
 case round=>
  obtain⟨i,k,out,hi,hk,rfl,rfl,hol,hout,hO,hBel⟩:=hrel
  have hml:=congrArg List.length hout
  rw[List.length_append,mrg_length,mrg_length] at hml
  have hol2:out.length≤200000000000:=by omega
  have HT:=Lib.hid hout
  have HO:=Lib.hid hO
  have HB:=Lib.hid hBel
  clear hout hO hBel hml hol
  by_cases hiA:i<A.length
  ·have d1:decide ((i:Int)<(A.length:Int))=true:=decide_eq_true (by omega)
   have d1':decide (i<A.length)=true:=decide_eq_true hiA
   obtain⟨b1,o1,rfl,x0,x1⟩:=(H.out.kept HB.out).at hiA
   by_cases hkB:k<B.length
   ·have d2:decide ((B.length:Int)≤(k:Int))=false:=decide_eq_false (by omega)
    have d2':decide (B.length≤k)=false:=decide_eq_false (by omega)
    obtain⟨b2,o2,rfl,y0,y1⟩:=(H'.out.kept HB.out).at hkB
    have eA:=drop_cons A i hiA
    have eB:=drop_cons B k hkB
    have HT2:=Lib.hid (show (le A[i] B[k]=true→out ++ [A[i]] ++ mrg (A.drop (i+1)) (B.drop k)=mrg A B)∧(¬ le A[i] B[k]=true→out ++ [B[k]] ++ mrg (A.drop i) (B.drop (k+1))=mrg A B) by
     have h0:=HT.out
     constructor
     ·intro hle
      rw[eA,eB,mrg_left _ _ _ _ hle,← eB] at h0
      rw[List.append_assoc]; exact h0
     ·intro hle
      rw[eA,eB,mrg_right _ _ _ _ hle,← eA] at h0
      rw[List.append_assoc]; exact h0)
    clear eA eB HT
    generalize A[i]=x at *
    generalize B[k]=y at *
    go_wp2_with fail
    go_region_held3 (fun W=>Below wr.heap.size wr W∧W.cell? ⟨b1,o1+i * 2,none⟩=some (.int .u64 x.1)∧W.cell? ⟨b1,o1+i * 2+1,none⟩=some (.int .i64 x.2)∧W.cell? ⟨b2,o2+k * 2,none⟩=some (.int .u64 y.1)∧W.cell? ⟨b2,o2+k * 2+1,none⟩=some (.int .i64 y.2)) (first | exact⟨(Below.refl _ wr).drew,x0,x1,y0,y1⟩ | exact two_keep (by assumption) hb)
     (first | (go_at_call 201; (with_reducible refine (refLess_any _ _ _).mono ?_); rintro e w3 ⟨rfl,hb⟩))
    rename_i hHeld
    have HO3:=Lib.hid (HO.out.kept hHeld.1)
    have HB3:=Lib.hid (HB.out.trans (hHeld.1.mono HB.out.size))
    have z0:=hHeld.2.1
    have z1:=hHeld.2.2.1
    have t0:=hHeld.2.2.2.1
    have t1:=hHeld.2.2.2.2
    clear hHeld hb x0 x1 y0 y1 HO HB
    cases hless:less y x with
    | false=>
      have HT3:=Lib.hid (HT2.out.1 (by unfold le; rw[hless]; rfl))
      clear HT2 hless
      go_wp2_with (at_builtin; refine wpList_more rfl _ _ rfl w.heap.size w3.heap.size out x _ rfl rfl (HO3.out.kept (below_alloc w3 _)) ?c0 ?c1 ?c2 ?c3 ?_)
      case c0=>simp
      case c1=>simp
      case c2=>omega
      case c3=>have:=HB3.out.size; simp; omega
      intro v' w4 ho4 hb4
      have HB4:=Lib.hid ((HB3.out.alloc HB3.out.size _).trans hb4.out)
      clear hb4
      go_wp2_with fail
      go_roundw
      case rel=>exact⟨i+1,k,_,by omega,hk,by go_num,rfl,by simp; omega,HT3.out,ho4.out,HB4.out⟩
      case measure=>simp[intOf]; omega
    | true=>
      have HT3:=Lib.hid (HT2.out.2 (by unfold le; rw[hless]; simp))
      clear HT2 hless
      go_wp2_with (at_builtin; refine wpList_more rfl _ _ rfl w.heap.size w3.heap.size out y _ rfl rfl (HO3.out.kept (below_alloc w3 _)) ?c0 ?c1 ?c2 ?c3 ?_)
      case c0=>simp
      case c1=>simp
      case c2=>omega
      case c3=>have:=HB3.out.size; simp; omega
      intro v' w4 ho4 hb4
      have HB4:=Lib.hid ((HB3.out.alloc HB3.out.size _).trans hb4.out)
      clear hb4
      go_wp2_with fail
      go_roundw
      case rel=>exact⟨i,k+1,_,hi,by omega,rfl,by go_num,by simp; omega,HT3.out,ho4.out,HB4.out⟩
      case measure=>simp[intOf]; omega
   ·have d2:decide ((B.length:Int)≤(k:Int))=true:=decide_eq_true (by omega)
    have d2':decide (B.length≤k)=true:=decide_eq_true (by omega)
    have HT3:=Lib.hid (show out ++ [A[i]] ++ mrg (A.drop (i+1)) (B.drop k)=mrg A B by
     have h0:=HT.out
     rw[drop_cons A i hiA,List.drop_eq_nil_of_le (show B.length≤k by omega),mrg_nil_right] at h0
     rw[List.append_assoc,List.drop_eq_nil_of_le (show B.length≤k by omega),mrg_nil_right]; exact h0)
    clear HT
    generalize A[i]=x at *
    go_wp2_with fail
    go_quiet (fail)
    have HO3:=Lib.hid (show Own w.heap.size (wr.drewN nq) _ out from HO.out)
    have HB3:=Lib.hid (below_drewN HB.out nq)
    have z0:(wr.drewN nq).cell? ⟨b1,o1+i * 2,none⟩=some (.int .u64 x.1):=x0
    have z1:(wr.drewN nq).cell? ⟨b1,o1+i * 2+1,none⟩=some (.int .i64 x.2):=x1
    clear x0 x1 HO HB
    generalize wr.drewN nq=w3 at *
    go_wp2_with (at_builtin; refine wpList_more rfl _ _ rfl w.heap.size w3.heap.size out x _ rfl rfl (HO3.out.kept (below_alloc w3 _)) ?c0 ?c1 ?c2 ?c3 ?_)
    case c0=>simp
    case c1=>simp
    case c2=>omega
    case c3=>have:=HB3.out.size; simp; omega
    intro v' w4 ho4 hb4
    have HB4:=Lib.hid ((HB3.out.alloc HB3.out.size _).trans hb4.out)
    clear hb4
    go_wp2_with fail
    go_roundw
    case rel=>exact⟨i+1,k,_,by omega,hk,by go_num,rfl,by simp; omega,HT3.out,ho4.out,HB4.out⟩
    case measure=>simp[intOf]; omega
  ·have d1:decide ((i:Int)<(A.length:Int))=false:=decide_eq_false (by omega)
   have d1':decide (i<A.length)=false:=decide_eq_false hiA
   by_cases hkB:k<B.length
   ·have d2:decide ((B.length:Int)≤(k:Int))=false:=decide_eq_false (by omega)
    have d2':decide (B.length≤k)=false:=decide_eq_false (by omega)
    have d3:decide ((k:Int)<(B.length:Int))=true:=decide_eq_true (by omega)
    have d3':decide (k<B.length)=true:=decide_eq_true hkB
    obtain⟨b2,o2,rfl,y0,y1⟩:=(H'.out.kept HB.out).at hkB
    have HT3:=Lib.hid (show out ++ [B[k]] ++ mrg (A.drop i) (B.drop (k+1))=mrg A B by
     have h0:=HT.out
     rw[drop_cons B k hkB,List.drop_eq_nil_of_le (show A.length≤i by omega),mrg_nil_left] at h0
     rw[List.append_assoc,List.drop_eq_nil_of_le (show A.length≤i by omega),mrg_nil_left]; exact h0)
    clear HT
    generalize B[k]=y at *
    go_wp2_with fail
    go_quiet (fail)
    have HO3:=Lib.hid (show Own w.heap.size (wr.drewN nq) _ out from HO.out)
    have HB3:=Lib.hid (below_drewN HB.out nq)
    have z0:(wr.drewN nq).cell? ⟨b2,o2+k * 2,none⟩=some (.int .u64 y.1):=y0
    have z1:(wr.drewN nq).cell? ⟨b2,o2+k * 2+1,none⟩=some (.int .i64 y.2):=y1
    clear y0 y1 HO HB
    generalize wr.drewN nq=w3 at *
    go_wp2_with (at_builtin; refine wpList_more rfl _ _ rfl w.heap.size w3.heap.size out y _ rfl rfl (HO3.out.kept (below_alloc w3 _)) ?c0 ?c1 ?c2 ?c3 ?_)
    case c0=>simp
    case c1=>simp
    case c2=>omega
    case c3=>have:=HB3.out.size; simp; omega
    intro v' w4 ho4 hb4
    have HB4:=Lib.hid ((HB3.out.alloc HB3.out.size _).trans hb4.out)
    clear hb4
    go_wp2_with fail
    go_roundw
    case rel=>exact⟨i,k+1,_,hi,by omega,rfl,by go_num,by simp; omega,HT3.out,ho4.out,HB4.out⟩
    case measure=>simp[intOf]; omega
   ·have d3:decide ((k:Int)<(B.length:Int))=false:=decide_eq_false (by omega)
    have d3':decide (k<B.length)=false:=decide_eq_false hkB
    have HF:=Lib.hid (show out=mrg A B by
     have h0:=HT.out
     rw[List.drop_eq_nil_of_le (show A.length≤i by omega),List.drop_eq_nil_of_le (show B.length≤k by omega),mrg_nil_left,List.append_nil] at h0
     exact h0)
    go_wp2_with fail
    go_ret
    exact⟨_,rfl,by rw[← HF.out]; exact HO.out,HB.out⟩
end Go.Proofs.YtbamodkgagcmnaaGreat.Pts
set_option maxRecDepth 100000
namespace Go.Proofs.YtbamodkgagcmnaaGreat.Rin
open Go.RowKit Go.Shelf
open Pts (Pt ptV ptsV Lies Rise less)
open Pol (below2 below_alloc)
theorem find_skip {L:List Pt} {h:Int} {k:Nat} (hno:∀ j (hj:j<L.length),j<k→¬ h≤L[j].1) (hk:k<L.length) (hx:h≤L[k].1):succL L h=L[k].2:=
 succL_some (List.find?_eq_some_iff_getElem.2 ⟨by simpa using hx,k,hk,rfl,fun j hj=>by simpa using hno j (by omega) hj⟩)
theorem find_end {L:List Pt} {h:Int} (hno:∀ j (hj:j<L.length),j<L.length→¬ h≤L[j].1) (hk:0<L.length):succL L h=L[0].2:=by
 cases L with
 | nil=>simp at hk
 | cons p L=>exact succL_none (List.find?_eq_none.2 fun x hx=>by
    obtain⟨j,hj,rfl⟩:=List.getElem_of_mem hx
    simpa using hno j hj hj)
set_option maxRecDepth 100000 in
set_option maxHeartbeats 1000000 in
theorem refSucc_any (a:Option Addr) (cap:Nat) (L:List Pt) (h:Int) (w:World) (hL:Lies w a cap L):
 Calls Tryz.prog 99 #[ptsV a cap L,.int .u64 h] w fun e W'=>e=.returned (.int .i64 (succL L h))∧W'=w:=by
 have H:=Lib.hid hL
 have hlen:=hL.len
 have hmax:=hL.max
 unfold maxLen at hmax
 clear hL
 go_enter Tryz.func99,Tryz.ntmps99
 go_wp2
 go_loop [5] (fun i=>∃ k:Nat,k≤L.length∧i=.int .i64 k∧∀ j (hj:j<L.length),j<k→¬ h≤L[j].1) (fun i=>L.length - (intOf i).toNat)
 case atStart=>exact⟨0,Nat.zero_le _,rfl,fun j _ h=>absurd h (by omega)⟩
 case round=>
  obtain⟨k,hk,rfl,hno⟩:=hrel
  have HN:=Lib.hid hno
  clear hno
  by_cases hlt:k<L.length
  ·obtain⟨b,off,rfl,c0,c1⟩:=H.out.at hlt
   by_cases hx:h≤L[k].1
   ·have dx:decide (h≤L[k].1)=true:=decide_eq_true hx
    have HV:=Lib.hid (find_skip HN.out hlt hx)
    clear hx
    generalize L[k]=x at *
    go_wp2
    go_ret
    exact⟨by rw[HV.out]; rfl,rfl⟩
   ·have dx:decide (h≤L[k].1)=false:=decide_eq_false hx
    have HV:=Lib.hid (show ∀ j (hj:j<L.length),j<k+1→¬ h≤L[j].1 from fun j hj hjk=>by
     rcases Nat.lt_or_ge j k with h' | h'
     ·exact HN.out j hj h'
     ·have:j=k:=by omega
      subst this; exact hx)
    clear hx
    generalize L[k]=x at *
    go_wp2
    refine⟨⟨k+1,by omega,by go_num,HV.out⟩,by simp[intOf]; omega⟩
  ·obtain rfl:k=L.length:=by omega
   by_cases h0:L.length=0
   ·obtain rfl:L=[]:=List.eq_nil_of_length_eq_zero h0
    go_wp2
    go_ret
    exact⟨rfl,rfl⟩
   ·have d0:((L.length:Int) == 0)=false:=beq_false_of_ne (by omega)
    have hp:0<L.length:=by omega
    obtain⟨b,off,rfl,c0,c1⟩:=H.out.at hp
    have HV:=Lib.hid (find_end HN.out hp)
    generalize L[0]=x at *
    go_wp2
    go_ret
    exact⟨by rw[HV.out]; rfl,rfl⟩
end Go.Proofs.YtbamodkgagcmnaaGreat.Rin
set_option maxRecDepth 100000
namespace Go.Proofs.YtbamodkgagcmnaaGreat.Pts
open Go.RowKit Go.Shelf
open Pol (below2 below_alloc)
theorem refPut_some (v:Int) (k:Nat) (w:World) (hv:0≤v∧v≤18446744073709551615) (h:1≤k∧k≤8):
 Calls Tryz.prog 139 #[.int .u64 v,.int .i64 (k:Int)] w fun e W'=>∃ S:ByteArray,e=.returned (.string S)∧S.size≤8∧Hid (S=Oct.str (Oct.bytes v.toNat k))∧Below w.heap.size w W':=by
 refine (Oct.refPut_yes v k w hv.1 hv.2 (by omega)).mono ?_
 rintro e W' ⟨rfl,hb⟩
 refine⟨_,rfl,?_,Lib.hid rfl,hb⟩
 have:(Oct.str (Oct.bytes v.toNat ((k:Int)).toNat)).size=k:=by simp[ByteArray.size,Oct.bytes_length]
 omega
set_option maxRecDepth 100000 in
set_option maxHeartbeats 2000000 in
theorem refHash_any (id n:Int) (w:World):
 Calls Tryz.prog 148 #[.int .i64 id,.int .i64 n] w fun e W'=>e=.returned (.int .u64 (hashV id n))∧Below w.heap.size w W':=by
 have u1:=uw_in id
 have u2:=uw_in n
 have hp1:=refPut_some (uw id) 4
 have hp2:=refPut_some (uw n) 2
 unfold uw at hp1 hp2 u1 u2
 go_enter Tryz.func148,Tryz.ntmps148
 go_wp2_with fail
 refine (hp1 _ u1 (by omega)).mono ?_
 rintro e w1 ⟨S,rfl,hS,HS,hb1⟩
 go_wp2_with fail
 refine (hp2 _ u2 (by omega)).mono ?_
 rintro e w2 ⟨R,rfl,hR,HR,hb2⟩
 have a1:∀ u:World,(Op.stringOp .add S R).run Tryz.prog u=.ok (.string (S ++ R)) u:=fun u=>run_string_add_sum u S R (by omega)
 have a2:∀ u:World,(Op.stringOp .add (S ++ R) ⟨#[0,0,0,0]⟩).run Tryz.prog u=.ok (.string (S ++ R ++ ⟨#[0,0,0,0]⟩)) u:=fun u=>run_string_add_sum u _ _ (by
  have h4:(⟨#[0,0,0,0]⟩:ByteArray).size=4:=rfl
  rw[ByteArray.size_append,h4]; omega)
 have hz:(S ++ R ++ ⟨#[0,0,0,0]⟩:ByteArray).size≤4611686018427387904:=by
  have h4:(⟨#[0,0,0,0]⟩:ByteArray).size=4:=rfl
  rw[ByteArray.size_append,ByteArray.size_append,h4]; omega
 have HZ:=Lib.hid (show S ++ R ++ ⟨#[0,0,0,0]⟩=hashS id n by rw[HS.out,HR.out]; rfl)
 go_wp2_with fail
 refine (Fnv.refSum_any _ _ hz).mono ?_
 rintro e w3 ⟨he,rfl⟩
 have he:e=.returned (.int .u64 (hashV id n)):=by rw[he,HZ.out]; rfl
 subst he
 go_wp2_with fail
 go_ret
 exact⟨rfl,below2 hb1 hb2⟩
end Go.Proofs.YtbamodkgagcmnaaGreat.Pts
set_option maxRecDepth 100000
namespace Go.Proofs.YtbamodkgagcmnaaGreat.Pts
open Go.RowKit Go.Shelf Rgn
open Pol (below2 below_alloc)
inductive Sp where
  | is (v:Value)
  | pts (bs:List Pt)
  | any
def Sp.holds:Sp→World→Value→Prop
 | .is v,_,u=>u=v
 | .pts bs,w,u=>∃ p c,u=ptsV p c bs∧Lies w p c bs
 | .any,_,_=>True
theorem Sp.kept (s:Sp) (w w':World) (v:Value) (h:s.holds w v) (hb:Below w.heap.size w w'):s.holds w' v:=by
 cases s with
 | is _=>exact h
 | pts _=>obtain⟨p,c,e,hl⟩:=h; exact⟨p,c,e,hl.kept hb⟩
 | any=>trivial
def spV (l:List Sp) (i:Nat) (w:World) (v:Value):Prop:=(l.getD i .any).holds w v
theorem spV_kept (l:List Sp):∀ j w w' v,spV l j w v→Below w.heap.size w w'→spV l j w' v:=fun _ w w' v h hb=>Sp.kept _ w w' v h hb
set_option maxRecDepth 100000 in
set_option maxHeartbeats 1500000 in
theorem refSort_any:∀ (N:Nat) (a:Option Addr) (cap:Nat) (bs:List Pt) (w:World),bs.length≤N→Lies w a cap bs→bs.length≤10000000000→
 Calls Tryz.prog 149 #[ptsV a cap bs] w fun e W'=>∃ v,e=.returned v∧Gives W' v (psort bs)∧Below w.heap.size w W':=by
 intro N
 induction N using Nat.strongRecOn with
 | _ N ih=>
   intro a cap bs w hN h hbig
   have H:=Lib.hid h
   have hl:=h.len
   have hm:=h.max
   unfold maxLen at hm
   have IH:=Lib.hid ih
   clear h ih
   by_cases h2:bs.length<2
   ·have d1:decide ((bs.length:Int)<2)=true:=decide_eq_true (by omega)
    have d1':decide (bs.length<2)=true:=decide_eq_true h2
    have HV:=Lib.hid (psort_short bs h2)
    go_enter Tryz.func149,Tryz.ntmps149
    go_wp2_with fail
    go_ret
    exact⟨_,rfl,by rw[HV.out]; exact⟨a,cap,rfl,H.out⟩,Below.refl _ _⟩
   ·have d1:decide ((bs.length:Int)<2)=false:=decide_eq_false (by omega)
    have d1':decide (bs.length<2)=false:=decide_eq_false h2
    obtain⟨b,off,rfl,_⟩:=H.out.cell (fun e=>by rw[e] at h2; exact h2 (by simp))
    obtain⟨n,hn,hn1,hn2⟩:∃ n:Nat,n=bs.length / 2∧0<n∧n<bs.length:=⟨_,rfl,by omega,by omega⟩
    have q1:(bs.length:Int).tdiv 2=(n:Int):=by rw[hn]; rfl
    have q2:(bs.length:Int) / 2=(n:Int):=by omega
    have l1:(bs.take n).length=n:=by simp; omega
    have l2:(bs.drop n).length=bs.length - n:=by simp
    have HS:=Lib.hid (show mrg (psort (bs.take n)) (psort (bs.drop n))=psort bs by rw[← psort_app,List.take_append_drop])
    have T1:=Lib.hid (show ∀ W,Below w.heap.size w W→Lies W (some ⟨b,off,none⟩) cap (bs.take n) from fun W hb=>(H.out.take n).kept hb)
    have T2:=Lib.hid (show ∀ W,Below w.heap.size w W→Lies W (some ⟨b,off+n * 2,none⟩) (cap - n) (bs.drop n) from fun W hb=>(H.out.drop n).kept hb)
    clear hn
    go_enter Tryz.func149,Tryz.ntmps149
    go_wp2_with fail
    refine wp_region_val (spV [.is (ptsV (some ⟨b,off,none⟩) cap bs),.is (.int .i64 n),.is (.slice (some ⟨b,off,none⟩) n cap),.pts (psort (bs.take n)),.is (ptsV (some ⟨b,off,none⟩) cap bs),.is (.int .i64 n),.is (.slice (some ⟨b,off+n * 2,none⟩) (bs.length - n) (cap - n)),.pts (psort (bs.drop n)),.pts (mrg (psort (bs.take n)) (psort (bs.drop n))),.pts (mrg (psort (bs.take n)) (psort (bs.drop n)))]) (spV_kept _) (by kernel_rfl) (by kernel_rfl) (by kernel_rfl) ?step ?done
    case step=>
     intro d a W i hi hall hI
     replace hi:i<10:=hi
     have b0:=hI.below
     obtain rfl | rfl | rfl | rfl | rfl | rfl | rfl | rfl | rfl | rfl:i=0∨i=1∨i=2∨i=3∨i=4∨i=5∨i=6∨i=7∨i=8∨i=9:=by omega
     ·have e0:a.tmps[0]?.getD undef=ptsV (some ⟨b,off,none⟩) cap bs:=hI.old 0 (unwritten_of (by kernel_rfl) d)
      refine StepV.done rfl (wanted_free rfl) fun K hK=>?_
      exact op_move rfl (hK _ _ (Below.refl _ _) e0)
     ·have e3:a.tmps[3]?.getD undef=.int .i64 n:=hI.old 3 (unwritten_of (by kernel_rfl) d)
      refine StepV.done rfl (wanted_free rfl) fun K hK=>?_
      exact op_move rfl (hK _ _ (Below.refl _ _) e3)
     ·have e11:a.tmps[11]?.getD undef=ptsV (some ⟨b,off,none⟩) cap bs:=hI.val 0 11 rfl (hall 0 (by kernel_rfl))
      have e12:a.tmps[12]?.getD undef=.int .i64 n:=hI.val 1 12 rfl (hall 1 (by kernel_rfl))
      refine StepV.done rfl (wanted_free rfl) fun K hK=>?_
      clear hall hI
      refine op_run (.slice (some ⟨b,off,none⟩) n cap) W ?_ (hK _ _ (Below.refl _ _) rfl)
      clear hK
      simp only[List.getElem_toArray,List.getElem_cons_zero,List.getElem_cons_succ,execOp,Act.eval]
      go_simp
      intro hcon; omega
     ·have e13:a.tmps[13]?.getD undef=.slice (some ⟨b,off,none⟩) n cap:=hI.val 2 13 rfl (hall 2 (by kernel_rfl))
      have C:=IH.out n (by omega) (some ⟨b,off,none⟩) cap (bs.take n) W (by omega) (T1.out W b0) (by omega)
      rw[show ptsV (some ⟨b,off,none⟩) cap (bs.take n)=.slice (some ⟨b,off,none⟩) n cap by show Value.slice _ _ _=_; rw[l1]] at C
      refine StepV.done rfl (wanted_free rfl) fun K hK=>?_
      refine op_call 149 #[.slice (some ⟨b,off,none⟩) n cap] (fun v W2=>Gives W2 v (psort (bs.take n))∧Below W.heap.size W W2) ?_ C (fun v W2 ⟨h1,h2⟩=>hK v W2 h2 h1)
      clear hall hI hK C
      simp only[List.getElem_toArray,List.getElem_cons_zero,List.getElem_cons_succ,execOp]
      go_simp
     ·have e0:a.tmps[0]?.getD undef=ptsV (some ⟨b,off,none⟩) cap bs:=hI.old 0 (unwritten_of (by kernel_rfl) d)
      refine StepV.done rfl (wanted_free rfl) fun K hK=>?_
      exact op_move rfl (hK _ _ (Below.refl _ _) e0)
     ·have e3:a.tmps[3]?.getD undef=.int .i64 n:=hI.old 3 (unwritten_of (by kernel_rfl) d)
      refine StepV.done rfl (wanted_free rfl) fun K hK=>?_
      exact op_move rfl (hK _ _ (Below.refl _ _) e3)
     ·have e15:a.tmps[15]?.getD undef=ptsV (some ⟨b,off,none⟩) cap bs:=hI.val 4 15 rfl (hall 4 (by kernel_rfl))
      have e16:a.tmps[16]?.getD undef=.int .i64 n:=hI.val 5 16 rfl (hall 5 (by kernel_rfl))
      refine StepV.done rfl (wanted_free rfl) fun K hK=>?_
      clear hall hI
      refine op_run (.slice (some ⟨b,off+n * 2,none⟩) (bs.length - n) (cap - n)) W ?_ (hK _ _ (Below.refl _ _) rfl)
      clear hK
      simp only[List.getElem_toArray,List.getElem_cons_zero,List.getElem_cons_succ,execOp,Act.eval]
      go_simp
      rw[if_pos (by omega),if_neg (by omega)]
     ·have e17:a.tmps[17]?.getD undef=.slice (some ⟨b,off+n * 2,none⟩) (bs.length - n) (cap - n):=hI.val 6 17 rfl (hall 6 (by kernel_rfl))
      have C:=IH.out (bs.length - n) (by omega) (some ⟨b,off+n * 2,none⟩) (cap - n) (bs.drop n) W (by omega) (T2.out W b0) (by omega)
      rw[show ptsV (some ⟨b,off+n * 2,none⟩) (cap - n) (bs.drop n)=.slice (some ⟨b,off+n * 2,none⟩) (bs.length - n) (cap - n) by show Value.slice _ _ _=_; rw[l2]] at C
      refine StepV.done rfl (wanted_free rfl) fun K hK=>?_
      refine op_call 149 #[.slice (some ⟨b,off+n * 2,none⟩) (bs.length - n) (cap - n)] (fun v W2=>Gives W2 v (psort (bs.drop n))∧Below W.heap.size W W2) ?_ C (fun v W2 ⟨h1,h2⟩=>hK v W2 h2 h1)
      clear hall hI hK C
      simp only[List.getElem_toArray,List.getElem_cons_zero,List.getElem_cons_succ,execOp]
      go_simp
     ·obtain⟨p14,q14,e14,k14⟩:∃ p c,a.tmps[14]?.getD undef=ptsV p c (psort (bs.take n))∧Lies W p c (psort (bs.take n)):=hI.val 3 14 rfl (hall 3 (by kernel_rfl))
      obtain⟨p18,q18,e18,k18⟩:∃ p c,a.tmps[18]?.getD undef=ptsV p c (psort (bs.drop n))∧Lies W p c (psort (bs.drop n)):=hI.val 7 18 rfl (hall 7 (by kernel_rfl))
      have C:=(refMerge_any p14 q14 (psort (bs.take n)) p18 q18 (psort (bs.drop n)) W k14 k18 (by rw[psort_length]; omega) (by rw[psort_length]; omega)).mono (R':=fun e W2=>∃ v,e=.returned v∧Gives W2 v (mrg (psort (bs.take n)) (psort (bs.drop n)))∧Below W.heap.size W W2) (fun e W2 ⟨v,he,ho,hb⟩=>⟨v,he,ho.lies,hb⟩)
      refine StepV.done rfl (wanted_free rfl) fun K hK=>?_
      refine op_call 173 #[ptsV p14 q14 (psort (bs.take n)),ptsV p18 q18 (psort (bs.drop n))] (fun v W2=>Gives W2 v (mrg (psort (bs.take n)) (psort (bs.drop n)))∧Below W.heap.size W W2) ?_ C (fun v W2 ⟨h1,h2⟩=>hK v W2 h2 h1)
      clear hall hI hK C
      simp only[List.getElem_toArray,List.getElem_cons_zero,List.getElem_cons_succ,execOp]
      go_simp
     ·have f:=hI.val 8 19 rfl (hall 8 (by kernel_rfl))
      refine StepV.done rfl (wanted_free rfl) fun K hK=>?_
      exact op_assign rfl (hK _ _ (Below.refl _ _) f)
    case done=>
     intro a W hv hI
     obtain⟨t,df⟩:=a
     obtain rfl:df=[]:=hI.defs
     have hz:t.size=20:=hI.size
     have b0:=hI.below
     obtain⟨p2,q2',e2,k2⟩:∃ p c,t[2]?.getD undef=ptsV p c (mrg (psort (bs.take n)) (psort (bs.drop n)))∧Lies W p c (mrg (psort (bs.take n)) (psort (bs.drop n))):=hv 9 2 rfl
     clear hv hI
     obtain⟨ys,hy,ht⟩:=arr_slots t 20 hz
     have hls:(slotsFrom ys 0 20).toArray=#[ys 0,ys 1,ys 2,ys 3,ys 4,ys 5,ys 6,ys 7,ys 8,ys 9,ys 10,ys 11,ys 12,ys 13,ys 14,ys 15,ys 16,ys 17,ys 18,ys 19]:=rfl
     rw[hy] at e2
     rw[ht,hls,e2]
     rw[HS.out] at k2 ⊢
     have K2:=Lib.hid k2
     have B0:=Lib.hid b0
     clear ht hls hz hy e2 k2 b0
     go_wp2_with fail
     go_ret
     exact⟨_,rfl,⟨p2,q2',rfl,K2.out⟩,B0.out⟩
end Go.Proofs.YtbamodkgagcmnaaGreat.Pts
