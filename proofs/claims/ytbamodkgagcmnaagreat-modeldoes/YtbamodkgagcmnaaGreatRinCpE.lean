/-
  The library's functions that the program calls stand in it as the library's contracts ask: three layings, no condition.
-/
import Derived.Shelf.SlLaysF0
import Derived.Ground.SlsfProg
import Derived.Test.YtbamodkgagcmnaaGreatProg
import Derived.Test.YtbamodkgagcmnaaGreatBPttE
import Derived.Shelf.SlSortCmp.NoneTotal
import Derived.Test.YtbamodkgagcmnaaGreatBRinE
import Derived.BigQuiet
import Derived.WalkSmall
import Derived.Deep.RegionHeld3
namespace Go.Proofs
open Go.Shelf
def Tryz.sortPl_ren:Go.Shelf.Ren:=⟨fun | 6=>175 | 15=>204 | 14=>203 | 28=>223 | 29=>224 | 20=>215 | 21=>216 | 22=>217 | 23=>218 | 24=>219 | 25=>220 | 26=>221 | 27=>222 | 46=>225 | 47=>226 | 48=>227 | 49=>228 | 50=>229 | 57=>230 | n=>n,fun | 22=>215 | 24=>217 | 25=>221 | 3=>3 | 39=>120 | 0=>0 | 53=>289 | 55=>60 | 4=>4 | 46=>283 | 45=>282 | 50=>113 | 5=>5 | 9=>9 | 66=>290 | 70=>294 | 76=>296 | 77=>297 | n=>n,fun | n=>n⟩
theorem Tryz.sortPl:Go.Proofs.SlLaysF0.n6 Tryz.prog Tryz.sortPl_ren:= {
 mixed:=by kernel_rfl
 f6:=⟨Tryz.f175.name,by decide,Tryz.func175.trans (congrArg some (by kernel_rfl))⟩
 f14:=⟨Tryz.f203.name,by decide,Tryz.func203.trans (congrArg some (by kernel_rfl))⟩
 f15:=Tryz.func204.trans (congrArg some (by kernel_rfl))
 f20:=⟨Tryz.f215.name,by decide,Tryz.func215.trans (congrArg some (by kernel_rfl))⟩
 f21:=⟨Tryz.f216.name,by decide,Tryz.func216.trans (congrArg some (by kernel_rfl))⟩
 f22:=⟨Tryz.f217.name,by decide,Tryz.func217.trans (congrArg some (by kernel_rfl))⟩
 f23:=⟨Tryz.f218.name,by decide,Tryz.func218.trans (congrArg some (by kernel_rfl))⟩
 f24:=⟨Tryz.f219.name,by decide,Tryz.func219.trans (congrArg some (by kernel_rfl))⟩
 f25:=⟨Tryz.f220.name,by decide,Tryz.func220.trans (congrArg some (by kernel_rfl))⟩
 f26:=⟨Tryz.f221.name,by decide,Tryz.func221.trans (congrArg some (by kernel_rfl))⟩
 f27:=⟨Tryz.f222.name,by decide,Tryz.func222.trans (congrArg some (by kernel_rfl))⟩
 f28:=Tryz.func223.trans (congrArg some (by kernel_rfl))
 f29:=Tryz.func224.trans (congrArg some (by kernel_rfl))
 f46:=⟨Tryz.f225.name,by decide,Tryz.func225.trans (congrArg some (by kernel_rfl))⟩
 f47:=Tryz.func226.trans (congrArg some (by kernel_rfl))
 f48:=Tryz.func227.trans (congrArg some (by kernel_rfl))
 f49:=⟨Tryz.f228.name,by decide,Tryz.func228.trans (congrArg some (by kernel_rfl))⟩
 f50:=⟨Tryz.f229.name,by decide,Tryz.func229.trans (congrArg some (by kernel_rfl))⟩
 f57:=⟨Tryz.f230.name,by decide,Tryz.func230.trans (congrArg some (by kernel_rfl))⟩
 t0:=Tryz.underlying0
 a0:=Tryz.isAgg0
 z0:=Tryz.sizeOf0
 v0:=Tryz.zeroValue0
 t3:=Tryz.underlying3
 a3:=Tryz.isAgg3
 z3:=Tryz.sizeOf3
 v3:=Tryz.zeroValue3
 t4:=Tryz.underlying4
 a4:=Tryz.isAgg4
 z4:=Tryz.sizeOf4
 v4:=Tryz.zeroValue4
 t5:=Tryz.underlying5
 a5:=Tryz.isAgg5
 z5:=Tryz.sizeOf5
 v5:=Tryz.zeroValue5
 t9:=Tryz.underlying9
 a9:=Tryz.isAgg9
 z9:=Tryz.sizeOf9
 v9:=Tryz.zeroValue9
 t22:=Tryz.underlying215
 a22:=Tryz.isAgg215
 z22:=Tryz.sizeOf215
 v22:=Tryz.zeroValue215
 t25:=Tryz.underlying221
 a25:=Tryz.isAgg221
 z25:=Tryz.sizeOf221
 v25:=Tryz.zeroValue221
 t39:=Tryz.underlying120
 a39:=Tryz.isAgg120
 z39:=Tryz.sizeOf120
 v39:=Tryz.zeroValue120
 t45:=Tryz.underlying282
 a45:=Tryz.isAgg282
 z45:=Tryz.sizeOf282
 v45:=Tryz.zeroValue282
 t46:=Tryz.underlying283
 a46:=Tryz.isAgg283
 z46:=Tryz.sizeOf283
 v46:=Tryz.zeroValue283
 t50:=Tryz.underlying113
 a50:=Tryz.isAgg113
 z50:=Tryz.sizeOf113
 v50:=Tryz.zeroValue113
 t53:=Tryz.underlying289
 a53:=Tryz.isAgg289
 z53:=Tryz.sizeOf289
 v53:=Tryz.zeroValue289
 t55:=Tryz.underlying60
 a55:=Tryz.isAgg60
 z55:=Tryz.sizeOf60
 v55:=Tryz.zeroValue60
 t66:=Tryz.underlying290
 a66:=Tryz.isAgg290
 z66:=Tryz.sizeOf290
 v66:=Tryz.zeroValue290
 t70:=Tryz.underlying294
 a70:=Tryz.isAgg294
 z70:=Tryz.sizeOf294
 v70:=Tryz.zeroValue294
 t76:=Tryz.underlying296
 a76:=Tryz.isAgg296
 z76:=Tryz.sizeOf296
 v76:=Tryz.zeroValue296
 t77:=Tryz.underlying297
 a77:=Tryz.isAgg297
 z77:=Tryz.sizeOf297
 v77:=Tryz.zeroValue297 }
end Go.Proofs
set_option maxRecDepth 100000
namespace Go.Proofs.YtbamodkgagcmnaaGreat.Pts
open Go.RowKit Go.Shelf Rgn
open Pol (below2 below_alloc Bk polV)
def encP (x:Pt):List Value:=[.int .u64 x.1,.int .i64 x.2]
theorem lt_cmpP (x y:Pt):ltOf cmpP x y=less x y:=by
 unfold ltOf
 cases h:less x y with
 | true=>exact decide_eq_true ((cmpP_lt x y).2 h)
 | false=>exact decide_eq_false (fun h'=>by rw[(cmpP_lt x y).1 h'] at h; cases h)
theorem swo_cmpP:Sort.SWO (ltOf cmpP) where
 irrefl x:=by rw[lt_cmpP,less_not]; omega
 trans x y z h1 h2:=by rw[lt_cmpP,less_iff] at *; omega
 ntrans x y z h1 h2:=by rw[lt_cmpP,less_not] at *; omega
theorem flatP_get (d:Array Pt) (j:Nat) (x:Pt) (h:d.toList[j]? =some x):(Sort.flatK encP 2 d)[j * 2]! =.int .u64 x.1∧(Sort.flatK encP 2 d)[j * 2+1]! =.int .i64 x.2:=by
 have hj:j<d.size:=by
  have:=(List.getElem?_eq_some_iff.1 h).1; simpa using this
 have e:d[j]! =x:=by
  rw[getElem!_pos d j hj]
  have:=(List.getElem?_eq_some_iff.1 h).2; simpa using this
 rw[Sort.get_flatK encP 2 d (j * 2) (by omega),Sort.get_flatK encP 2 d (j * 2+1) (by omega)]
 rw[show j * 2 / 2=j by omega,show (j * 2+1) / 2=j by omega,show j * 2 % 2=0 by omega,show (j * 2+1) % 2=1 by omega,e]
 exact⟨rfl,rfl⟩
theorem holds_of_own {B:Nat} {W:World} {g cap:Nat} {bs:List Pt} (h:OwnP B W (.slice (some ⟨g,0,none⟩) bs.length cap) bs):Sort.HoldsK encP 2 W g 0 bs.toArray:=by
 intro j hj
 rw[Sort.size_flatK] at hj
 have hk:j / 2<bs.length:=by simp at hj; omega
 obtain⟨f0,f1⟩:=flatP_get bs.toArray (j / 2) bs[j / 2] (by simp[hk])
 obtain⟨e0,e1⟩:=flat_get bs (j / 2) bs[j / 2] (List.getElem?_eq_getElem hk)
 have hc:=World.ownsRow.cells h (g:=g) rfl
 have hfr:∀ o,W.frozen? ⟨g,o,none⟩=false:=fun o=>by
  rcases h.2 with⟨e,_⟩ | ⟨g',cap',cur,e,_,hg,_⟩
  ·cases e
  ·cases e; simp[World.frozen?,hg]
 refine⟨?_,hfr _⟩
 rcases Nat.mod_two_eq_zero_or_one j with h0 | h0
 ·have e:j / 2 * 2=j:=by omega
  rw[e] at f0 e0
  rw[f0]
  have:=hc _ _ e0
  rw[Pol.add_at] at this; exact this
 ·have e:j / 2 * 2+1=j:=by omega
  rw[e] at f1 e1
  rw[f1]
  have:=hc _ _ e1
  rw[Pol.add_at] at this; exact this
theorem lies_of_holds {W:World} {g cap:Nat} {bs:List Pt} (h:Sort.HoldsK encP 2 W g 0 bs.toArray) (h1:bs.length≤cap) (h2:cap≤maxLen):Lies W (some ⟨g,0,none⟩) cap bs:=
 ⟨h2,h1,fun _=>⟨g,0,rfl,fun i x hi=>by
   have hl:=(List.getElem?_eq_some_iff.1 hi).1
   obtain⟨f0,f1⟩:=flatP_get bs.toArray i x (by simpa using hi)
   have c0:=(h (i * 2) (by rw[Sort.size_flatK]; simp; omega)).1
   have c1:=(h (i * 2+1) (by rw[Sort.size_flatK]; simp; omega)).1
   rw[f0] at c0
   rw[f1] at c1
   exact⟨c0,c1⟩⟩⟩
theorem below_sort {B:Nat} {w:World} {g n:Nat} {d:Array Pt} {os:Array Obj} (hB:B≤g) (hs:B≤w.heap.size):Below B w (sortWorldK encP 2 w g 0 n d os):=by
 unfold sortWorldK
 refine⟨rfl,rfl,rfl,?_,fun k hk=>?_⟩
 ·rw[Sort.size_grow,Sort.size_putRowK]; exact Nat.le_add_right _ _
 ·show ((Sort.putRowK encP 2 (Sort.ahead w n) g 0 d).heap ++ os)[k]? =_
  have hz:(Sort.putRowK encP 2 (Sort.ahead w n) g 0 d).heap.size=w.heap.size:=by rw[Sort.size_putRowK]; rfl
  rw[Array.getElem?_append_left (by rw[hz]; omega)]
  show (w.heap.modify g _)[k]? =_
  rw[Array.getElem?_modify,if_neg (by omega)]
set_option maxHeartbeats 1000000 in
theorem SortFunc_told (B g cap:Nat) (bs:List Pt) (w:World) (hb:bs.length≤1099511627776) (hB:B≤w.heap.size) (h:OwnP B w (.slice (some ⟨g,0,none⟩) bs.length cap) bs):
 Calls Tryz.prog 175 #[.slice (some ⟨g,0,none⟩) bs.length cap,.func (.func 153) #[] #[]] w fun e W'=>e=.returned (.tuple #[])∧Lies W' (some ⟨g,0,none⟩) cap (psort bs)∧Below B w W':=by
 obtain⟨hgB,hlt⟩:=World.ownsRow.lt h g rfl
 have hcap:bs.length≤cap∧cap≤maxLen:=by
  rcases h.2 with⟨e,_⟩ | ⟨g',cap',cur,e,_,_,h1,h2,_⟩
  ·cases e
  ·cases e; exact⟨h1,h2⟩
 have eg:∀ args w,(callFunc 153 args).run Tryz.prog w=.ok (.enter 153 args) w:=enters_of Tryz.func153 (by kernel_rfl) rfl
 have hH:=holds_of_own h
 have hcon:=AnyQ.slices_SortFunc_total Tryz.sortPl 2 Tryz.isAgg217 Tryz.sizeOf217 encP (fun _=>rfl) (fun x v hv=>by simp[encP] at hv; rcases hv with rfl | rfl <;> rfl) cmpP swo_cmpP 153 #[] g 0 cap bs.toArray w eg (fun _ _ _ _ x y=>compare_any x y _) hH hlt (by simp; omega) (fun x y h1 h2=>by
  rw[lt_cmpP] at h1 h2
  rw[less_not] at h1 h2
  exact Prod.ext (by omega) (by omega))
 refine hcon.mono ?_
 rintro e W' ⟨rfl,n,os,rfl⟩
 have ef:(fun x y=>!(ltOf cmpP) y x)=le:=by funext x y; rw[lt_cmpP]; rfl
 rw[ef]
 refine⟨rfl,?_,below_sort hgB hB⟩
 have hl:(psort bs).length=bs.length:=psort_length bs
 exact lies_of_holds (holdsK_sortWorldK_c encP 2 w g 0 bs.toArray (psort bs).toArray n os hH hlt (by simp[hl])) (by rw[hl]; exact hcap.1) hcap.2
end Go.Proofs.YtbamodkgagcmnaaGreat.Pts
namespace Go.Proofs.YtbamodkgagcmnaaGreat.Pts
open Go.RowKit Go.Shelf Rgn
open Pol (below2 below_alloc Bk polV)
theorem pts_short (z:List Bk):(pts hsh z).length≤z.length * 128:=by
 induction z with
 | nil=>simp[pts]
 | cons x l ih=>
   have e1:pts hsh (x :: l)=own hsh x ++ pts hsh l:=by simp[pts]
   rw[e1,List.length_append,own_length,List.length_cons]
   have:=cnt_le x.2
   omega
set_option maxHeartbeats 400000 in
theorem SortedFunc_told (A w:World) (Bp:Nat) (a:Option Addr) (cap:Nat) (z:List Bk) (hp:Pol.Lies A a cap z) (hA:Below A.heap.size A w) (hB:w.cell? ⟨Bp,0,none⟩=some (polV a cap z)) (hz:z.length≤1000000000):
 Calls Tryz.prog 151 #[.func (.func 176) #[] #[.pointer (some ⟨Bp,0,none⟩)],.func (.func 153) #[] #[]] w fun e W'=>∃ a' cap',e=.returned (ptsV a' cap' (ofL hsh z))∧Lies W' a' cap' (ofL hsh z)∧Below w.heap.size w W':=by
 have C:=Lib.hid (Collect_told A w Bp a cap z hp hA hB hz)
 have hs:=pts_short z
 clear hp hA hB
 go_enter Tryz.func151,Tryz.ntmps151
 go_wp2_with fail
 refine C.out.mono ?_
 rintro e w1 ⟨v,rfl,ho,hb⟩
 have HB:=Lib.hid hb
 clear hb
 rcases ho.2 with⟨rfl,h0⟩ | ⟨g,cap',cur,rfl,_⟩
 ·have hn:ofL hsh z=[]:=by
   have:=psort_length (pts hsh z)
   exact List.eq_nil_of_length_eq_zero (by unfold ofL; omega)
  have HN:=Lib.hid hn
  have S0:=fun W=>Lib.hid (AnyF.slices_SortFunc_none Tryz.sortPl none 0 (.func (.func 153) #[] #[]) W)
  clear ho h0 hn
  go_wp2_with fail
  refine (S0 _).out.mono ?_
  rintro e w2 ⟨rfl,rfl⟩
  clear S0
  go_wp2_with fail
  go_ret
  refine⟨none,0,by rw[HN.out]; rfl,by rw[HN.out]; exact lies_nil _,HB.out⟩
 ·have S0:=Lib.hid (SortFunc_told w.heap.size g cap' (pts hsh z) w1 (by omega) HB.out.size ho)
  have HL:=Lib.hid (psort_length (pts hsh z))
  clear ho
  go_wp2_with fail
  refine S0.out.mono ?_
  rintro e w2 ⟨rfl,hl,hb2⟩
  have HL2:=Lib.hid hl
  have HB2:=Lib.hid hb2
  clear S0 hl hb2
  go_wp2_with fail
  go_ret
  exact⟨some ⟨g,0,none⟩,cap',by show _=Ending.returned (Value.slice (some ⟨g,0,none⟩) (psort (pts hsh z)).length cap'); rw[HL.out]; rfl,HL2.out,HB.out.trans HB2.out⟩
theorem made_flat (n:Nat):(madeCells #[.int .u64 0,.int .i64 0] (n * 2)).toList=flat (List.replicate n (0,0)):=by
 apply List.ext_getElem?
 intro j
 by_cases hj:j<n * 2
 ·have hk:j / 2<n:=by omega
  obtain⟨f0,f1⟩:=flat_get (List.replicate n (0,0)) (j / 2) (0,0) (by simp[hk])
  have hm:(madeCells #[Value.int .u64 0,.int .i64 0] (n * 2)).toList[j]? =some ((#[Value.int .u64 0,.int .i64 0]:Array Value)[j % 2]!):=by simp[madeCells,hj]
  rcases Nat.mod_two_eq_zero_or_one j with h0 | h0
  ·rw[show j / 2 * 2=j by omega] at f0
   rw[f0,hm,h0]; rfl
  ·rw[show j / 2 * 2+1=j by omega] at f1
   rw[f1,hm,h0]; rfl
 ·rw[List.getElem?_eq_none (by simp[madeCells]; omega),List.getElem?_eq_none (by rw[flat_length]; simp; omega)]
theorem row_made (w:World) (n:Nat) (h:n≤maxLen):Row (w.alloc (.cells (madeCells #[.int .u64 0,.int .i64 0] (n * 2)) 211)) w.heap.size n (List.replicate n (0,0)):=
 ⟨_,World.alloc_heap_new w _,by simp,h,by simp[madeCells],by rw[made_flat,List.take_of_length_le (by rw[flat_length]; simp)]⟩
theorem fill_set (L:List Pt) (k:Nat) (h:k<L.length):(L.take k ++ List.replicate (L.length - k) (0,0)).set k L[k]=L.take (k+1) ++ List.replicate (L.length - (k+1)) (0,0):=by
 rw[List.set_append,if_neg (by simp; omega)]
 rw[show k - (L.take k).length=0 by simp; omega,show L.length - k=(L.length - (k+1))+1 by omega,List.replicate_succ,List.set_cons_zero,List.take_succ_eq_append_getElem h,List.append_assoc]
 rfl
set_option maxRecDepth 100000 in
set_option maxHeartbeats 1000000 in
theorem Of_told (a:Option Addr) (cap:Nat) (z:List Bk) (w:World) (h:Pol.Lies w a cap z) (hz:z.length≤1000000000):
 Calls Tryz.prog 106 #[polV a cap z] w fun e W'=>∃ v,e=.returned v∧Gives W' v (ofL hsh z)∧Below w.heap.size w W':=by
 have hb0:=below_alloc w (.cells #[polV a cap z] 32)
 have C:=Lib.hid (SortedFunc_told w (w.alloc (.cells #[polV a cap z] 32)) w.heap.size a cap z h hb0 (by simp) hz)
 have hs:=pts_short z
 have hl:(ofL hsh z).length≤128000000000:=by unfold ofL; rw[psort_length]; omega
 have HB0:=Lib.hid hb0
 clear h hb0 hs
 generalize ofL hsh z=L at *
 obtain⟨i0,hi,hz0,hz1,hz2⟩:=info_parts info_bk
 have hmk:∀ W,(Instr.makeSlice 157 (.int .i64 (L.length:Int)) (.int .i64 (L.length:Int))).run Tryz.prog W=.ok (.slice (some ⟨W.heap.size,0,none⟩) L.length L.length) (W.alloc (.cells (madeCells #[.int .u64 0,.int .i64 0] (L.length * 2)) 211)):=fun W=>by
  have:=run_make (P:=Tryz.prog) W 157 211 i0 (.agg #[.int .u64 0,.int .i64 0]) Tryz.underlying157 hi hz0 .i64 .i64 L.length L.length (by omega) (Int.le_refl _) (by rw[hz2]; omega) (by omega)
  rw[hz1,show (Value.agg #[Value.int IntKind.u64 0,Value.int IntKind.i64 0]).cells=#[Value.int IntKind.u64 0,Value.int IntKind.i64 0] from rfl] at this
  simpa using this
 clear hi hz0 hz1 hz2
 go_enter Tryz.func106,Tryz.ntmps106
 go_wp2_with (go_at_call 152; refine (places_told _ _ rfl).mono ?_; rintro e w' ⟨rfl,rfl⟩)
 refine C.out.mono ?_
 rintro e w1 ⟨a',cap',rfl,hL,hb⟩
 have HL:=Lib.hid hL
 have HB:=Lib.hid (below2 HB0.out hb)
 have hlen:=hL.len
 have hmax:=hL.max
 unfold maxLen at hmax
 clear hL hb C
 go_wp2_with fail
 have hR0:=row_made w1 L.length (by unfold maxLen; omega)
 have hb1:=below_alloc w1 (.cells (madeCells #[.int .u64 0,.int .i64 0] (L.length * 2)) 211)
 have HR0:=Lib.hid hR0
 have HB1:=Lib.hid hb1
 clear hR0 hb1 hmk
 generalize (w1.alloc (.cells (madeCells #[.int .u64 0,.int .i64 0] (L.length * 2)) 211))=W1 at *
 go_loopw [15] (fun i W=>∃ k:Nat,k≤L.length∧i=.int .i64 k∧Row W w1.heap.size L.length (L.take k ++ List.replicate (L.length - k) (0,0))∧Below w1.heap.size w1 W) (fun i _=>L.length - (intOf i).toNat)
 case atStart=>exact⟨0,Nat.zero_le _,rfl,by simpa using HR0.out,HB1.out⟩
 case round=>
  obtain⟨k,hk,rfl,hR,hB⟩:=hrel
  have HR:=Lib.hid hR
  have HBl:=Lib.hid hB
  clear hR hB
  by_cases hlt:k<L.length
  ·obtain⟨b,off,rfl,c0,c1⟩:=(HL.out.kept HBl.out).at hlt
   have HF:=Lib.hid (fill_set L k hlt)
   have hka:k<(L.take k ++ List.replicate (L.length - k) (0,0)).length:=by simp; omega
   obtain⟨r0,r1,f0,f1⟩:=(HR.out.kept (below_alloc wr (.cells #[.int .u64 L[k].1,.int .i64 L[k].2] 217))).cell hka
   have hw1:w1.heap.size≤wr.heap.size:=HBl.out.size
   generalize (L.take k ++ List.replicate (L.length - k) (0,0))[k]=q at *
   generalize L[k]=x at *
   clear hka
   go_wp2_with fail
   have HR2:=Lib.hid ((HR.out.kept (below_alloc wr (.cells #[.int .u64 x.1,.int .i64 x.2] 217))).put k x)
   go_roundw
   case rel=>exact⟨k+1,by omega,by go_num,by rw[← HF.out]; exact HR2.out,below_put (HBl.out.alloc hw1 _) (Nat.le_refl _) k x⟩
   case measure=>simp[intOf]; omega
  ·obtain rfl:k=L.length:=by omega
   have HR2:=HR.out
   rw[Nat.sub_self,List.replicate_zero,List.append_nil,List.take_length] at HR2
   have HR3:=Lib.hid HR2.lies
   clear HR2
   go_wp2_with fail
   go_ret
   exact⟨_,rfl,⟨_,_,rfl,HR3.out⟩,below2 HB.out HBl.out⟩
end Go.Proofs.YtbamodkgagcmnaaGreat.Pts
set_option maxRecDepth 100000
namespace Go.Proofs.YtbamodkgagcmnaaGreat.Rin
open Go.RowKit Go.Shelf
open Pts (Pt ptV ptsV Lies Rise less ofL hsh Of_told ofL_rise)
open Pol (below2 below_alloc Bk polV)
abbrev askV (a:Option Addr) (cap:Nat) (L:List Pt):Value:=.func (.func 107) #[ptsV a cap L] #[]
set_option maxHeartbeats 400000 in
theorem of_told (a:Option Addr) (cap:Nat) (z:List Bk) (w:World) (hz:Pol.Lies w a cap z) (hl:z.length≤1000000000):
 Calls Tryz.prog 72 #[polV a cap z] w fun e W'=>∃ aP cP,e=.returned (askV aP cP (ofL hsh z))∧Lies W' aP cP (ofL hsh z)∧Below w.heap.size w W':=by
 have C:=Lib.hid (Of_told a cap z w hz hl)
 clear hz
 generalize ofL hsh z=L at *
 go_enter Tryz.func72,Tryz.ntmps72
 go_wp2_with fail
 refine C.out.mono ?_
 rintro e w1 ⟨v,rfl,⟨aP,cP,rfl,hP⟩,hb⟩
 have P1:=Lib.hid hP
 have B1:=Lib.hid hb
 clear hP hb C
 go_wp2_with fail
 go_ret
 exact⟨aP,cP,rfl,P1.out,B1.out⟩
set_option maxHeartbeats 400000 in
theorem Pick_told (a:Option Addr) (cap:Nat) (z:List Bk) (h:Int) (w:World) (hz:Pol.Lies w a cap z) (hl:z.length≤1000000000):
 Calls Tryz.prog 31 #[polV a cap z,.int .u64 h] w fun e W'=>e=.returned (.int .i64 (succL (ofL hsh z) h))∧Below w.heap.size w W':=by
 have C:=Lib.hid (of_told a cap z w hz hl)
 have HR:=Lib.hid (ofL_rise hsh z)
 clear hz
 generalize ofL hsh z=L at *
 go_enter Tryz.func31,Tryz.ntmps31
 go_wp2_with fail
 refine C.out.mono ?_
 rintro e w1 ⟨aP,cP,rfl,hP,hb⟩
 have P1:=Lib.hid hP
 have B1:=Lib.hid hb
 clear hP hb C
 go_wp2_with fail
 refine (succ_told aP cP L h w1 P1.out).mono ?_
 rintro e w2 ⟨⟨r,rfl,ht⟩,rfl⟩
 have HE:=Lib.hid (told_rise ht HR.out)
 clear ht
 go_wp2_with fail
 go_ret
 exact⟨by rw[← HE.out]; rfl,B1.out⟩
end Go.Proofs.YtbamodkgagcmnaaGreat.Rin
