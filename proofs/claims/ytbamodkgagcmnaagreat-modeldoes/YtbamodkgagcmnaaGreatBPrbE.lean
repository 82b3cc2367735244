/-
  Package probe: Home, way and the function that way hands back, as contracts.
-/
import Derived.Test.YtbamodkgagcmnaaGreatBFnvE
import Derived.Test.YtbamodkgagcmnaaGreatBTabE
import Derived.WalkMore
import Derived.BigQuiet
import Derived.WalkSmall
set_option maxRecDepth 100000
namespace Go.Proofs.YtbamodkgagcmnaaGreat.Prb
open Go.RowKit Go.Shelf RowG Tab
attribute [local go_sem] Oper.semAt_some
def home (k:ByteArray) (n:Nat):Nat:=Fnv.jn 14695981039346656037 k.data.toList % n
theorem home_lt (k:ByteArray) {n:Nat} (hn:0<n):home k n<n:=Nat.mod_lt _ hn
def homeZ (k:ByteArray) (n:Int):Int:=if n<1 then 0 else (home k n.toNat:Nat)
theorem homeZ_low (k:ByteArray) {n:Int} (h:n<1):homeZ k n=0:=if_pos h
theorem homeZ_nat (k:ByteArray) {n:Nat} (h:0<n):homeZ k (n:Int)=(home k n:Nat):=if_neg (by omega)
abbrev entV (x:Ent):Value:=.agg #[.int .i64 x.st,.string x.key,.int .i64 x.be,.int .i64 x.dl]
theorem sum_mod (q m:Nat) (hm0:0<m) (hm:m≤9223372036854775807):IntKind.u64.wrap (m:Int)=(m:Int)∧wrap64 ((q:Int) % (m:Int))=((q % m:Nat):Int):=by
 have hl:=Nat.mod_lt q hm0
 refine⟨by rw[Fnv.u64_mod m,Nat.mod_eq_of_lt (by omega)],?_⟩
 have hx:(q:Int) % (m:Int)=((q % m:Nat):Int):=by omega
 rw[hx]
 generalize q % m=x at hl
 exact IntWalk.wrap64_in _ (by omega)
set_option maxHeartbeats 400000 in
theorem Home_told (k:ByteArray) (n:Int) (w:World) (hk:k.size≤4611686018427387904) (hn:(Lit.int .i64 n).wf=true):
 Calls Tryz.prog 112 #[.string k,.int .i64 n] w fun e W'=>e=.returned (.int .i64 (homeZ k n))∧Below w.heap.size w W':=by
 have hr: -9223372036854775808≤n∧n≤9223372036854775807:=by simpa [Lit.wf,IntKind.min,IntKind.max,IntKind.signed,IntKind.bits] using hn
 go_enter Tryz.func112,Tryz.ntmps112
 by_cases h1:n<1
 ·have d1:decide (n<1)=true:=by simpa using h1
  go_wp2_with fail
  go_ret
  exact⟨by rw[homeZ_low k h1]; rfl,Below.refl _ _⟩
 ·have d1:decide (n<1)=false:=by simpa using h1
  obtain⟨m,rfl⟩:=Int.eq_ofNat_of_zero_le (show 0≤n by omega)
  have hm0:0<m:=by omega
  have HH:=Lib.hid (homeZ_nat k hm0)
  unfold home at HH
  obtain⟨e2,e3⟩:=sum_mod (Fnv.jn 14695981039346656037 k.data.toList) m hm0 (by omega)
  have E3:=Lib.hid e3
  clear e3
  have hne:(m:Int)≠0:=by omega
  go_wp2_with fail
  refine (Fnv.Sum_any k _ hk).mono ?_
  rintro e w1 ⟨rfl,hb⟩
  go_wp2_with fail
  go_ret
  exact⟨by rw[HH.out,← E3.out]; rfl,hb⟩
set_option maxHeartbeats 400000 in
theorem way_told (v:Value) (hv:v.oneCell'=true) (k:ByteArray) (w:World):
 Calls Tryz.prog 74 #[v,.string k] w fun e w'=>
  e=.returned (.func (.func 111) #[] #[.pointer (some ⟨w.heap.size+1,0,none⟩),.pointer (some ⟨w.heap.size,0,none⟩)])∧
  w'=(w.alloc (.cells #[v] 50)).alloc (.cells #[.string k] 9):=by
 go_enter Tryz.func74,Tryz.ntmps74
 go_wp2
 go_ret
 exact⟨rfl,rfl⟩
def KeepsBut (p:Nat) (W W':World):Prop:=∀ (a:Addr) (v:Value),a.block≠p→W.cell? a=some v→W'.cell? a=some v
theorem keepsBut_t {p:Nat} {A B C:World} (h:KeepsBut p A B) (k:KeepsBut p B C):KeepsBut p A C:=fun a v ha hv=>k a v ha (h a v ha hv)
theorem keepsBut_b {p:Nat} {w:World} (W:World) (l:Nat) (o o':Obj) (_:w.heap.size≤l) (h:W.heap[l]? =some o) (hc:o.isCells=false) (_:o.isWalk=false):KeepsBut p W (W.putObj l o'):=
 fun _ _ _ hv=>cell_kept hv (grownBy_putObj' W l o') (fun r e=>by cases e; exact⟨o,h,hc⟩)
theorem lies_but {α:Type} {K:Kind α} {W W':World} {a:Option Addr} {cap:Nat} {xs:List α} {p:Nat} (h:Lies K W a cap xs) (hk:KeepsBut p W W') (ha:∀ b off,a=some ⟨b,off,none⟩→xs≠[]→b≠p):Lies K W' a cap xs:=
 ⟨h.max,h.len,fun hn=>by
   obtain⟨b,off,e,hc⟩:=h.cell hn
   exact⟨b,off,e,fun i x hi j u hj=>hk _ _ (ha b off e hn) (hc i x hi j u hj)⟩⟩
theorem finTake_succ {n k:Nat} (h:k<n):(List.finRange n).take (k+1)=(List.finRange n).take k ++ [⟨k,h⟩]:=by
 rw[List.take_succ_eq_append_getElem (by simpa using h)]; simp
theorem finTake_length {n k:Nat} (h:k≤n):((List.finRange n).take k).length=k:=by simp[h]
def pl (T:List Ent) (k:ByteArray) (i:Nat):Nat:=(home k T.length+i) % T.length
def wayV (T:List Ent) (k:ByteArray) (i:Fin T.length):Array Value:=#[.int .i64 (pl T k i.1:Nat),entV (ent T (pl T k i.1))]
theorem pl_lt (T:List Ent) (k:ByteArray) (i:Nat) (h:0<T.length):pl T k i<T.length:=Nat.mod_lt _ h
theorem pl_next (T:List Ent) (k:ByteArray) (i:Nat) (h:0<T.length):pl T k (i+1)=if pl T k i+1=T.length then 0 else pl T k i+1:=by
 have h1:=pl_lt T k i h
 unfold pl at *
 rw[← Nat.add_assoc,Nat.add_mod]
 split
 ·rename_i he
  rcases Nat.lt_or_ge 1 T.length with h2 | h2
  ·rw[Nat.mod_eq_of_lt h2,he,Nat.mod_self]
  ·have:T.length=1:=by omega
   rw[this,Nat.mod_one]
 ·rename_i he
  rcases Nat.lt_or_ge 1 T.length with h2 | h2
  ·rw[Nat.mod_eq_of_lt h2,Nat.mod_eq_of_lt (by omega)]
  ·omega
set_option maxRecDepth 100000 in
set_option maxHeartbeats 1000000 in
theorem way1_in (m:Nat) (hm:1≤m) (l Bk Bt p:Nat) (k:ByteArray) (hk:k.size≤4611686018427387904) (a:Option Addr) (cap:Nat) (T:List Ent) (hp:Bt≠p) (ha:∀ b off,a=some ⟨b,off,none⟩→T≠[]→b≠p)
 (J Jx:List (Fin T.length)→World→Prop) (W:World) (hJ:AbidesFrom W.heap.size J)
 (hY:∀ pre x W,J pre W→pre.length<T.length→YieldAt Fence.wide (m - 1) Tryz.prog l (wayV T k x) W fun e W'=>
   (e=.returned (.bool true)∧J (pre ++ [x]) W'∧KeepsBut p W W')∨(e=.returned (.bool false)∧Jx (pre ++ [x]) W'))
 (hck:W.cell? ⟨Bk,0,none⟩=some (.string k)) (hct:W.cell? ⟨Bt,0,none⟩=some (rowV a cap T)) (hT:Lies entK W a cap T) (h0:J [] W):
 CallsIn Fence.wide m Tryz.prog 111 #[.func (.yield l) #[] #[],.pointer (some ⟨Bk,0,none⟩),.pointer (some ⟨Bt,0,none⟩)] W fun e W'=>(∃ v,e=.returned v)∧
  ((∃ ys,ys=List.finRange T.length∧J ys W')∨(∃ pre:List (Fin T.length),(∃ l,pre ++ l=List.finRange T.length)∧Jx pre W')):=by
 have h1:1≤m:=hm
 have hmx:=hT.max
 have hln:=hT.len
 unfold maxLen at hmx
 refine callsIn_of_wp Tryz.func111 rfl trivial ?_ rfl
 simp only[Tryz.ntmps111,List.size_toArray,List.length_cons,List.length_nil,Nat.reduceAdd,Nat.reduceSub,Array.replicate_succ,Array.replicate_zero,List.push_toArray,List.append_toArray,List.nil_append,List.cons_append]
 gi_wp2_with fail
 refine⟨trivial,?_⟩
 gi_at_call 112
 refine (callsIn_wide.2 (Home_told k (T.length:Nat) _ hk (by simp[Lit.wf,IntKind.min,IntKind.max,IntKind.signed,IntKind.bits]; omega))).mono ?_
 rintro e w2 ⟨rfl,hb2⟩
 have hJ2:J [] w2:=hJ _ _ _ none h0 (grown_none hb2) (fun r e=>by cases e)
 have hct2:w2.cell? ⟨Bt,0,none⟩=some (rowV a cap T):=cell_kept hct (grown_none hb2) (fun r e=>by cases e)
 have hT2:=hT.kept hb2
 gi_wp2
 obtain⟨q0,hq0,hz0⟩:∃ q:Nat,homeZ k (T.length:Nat)=(q:Int)∧(0<T.length→q=pl T k 0):=by
  by_cases hn:0<T.length
  ·exact⟨home k T.length,homeZ_nat k hn,fun _=>by unfold pl; rw[Nat.add_zero,Nat.mod_eq_of_lt (home_lt k hn)]⟩
  ·exact⟨0,homeZ_low k (by omega),fun h=>absurd h hn⟩
 rw[hq0]
 clear hck hct hT h0 hb2 hq0
 gi_loopw [4,11] (fun at_ i wr=>∃ j q:Nat,j≤T.length∧i=.int .i64 j∧at_=.int .i64 q∧(0<T.length→q=pl T k j)∧J ((List.finRange T.length).take j) wr∧wr.cell? ⟨Bt,0,none⟩=some (rowV a cap T)∧Lies entK wr a cap T)
  (fun _ i _=>T.length - (intOf i).toNat)
 case atStart=>exact⟨0,q0,Nat.zero_le _,rfl,rfl,hz0,hJ2,hct2,hT2⟩
 case round=>
  obtain⟨j,q,hj,rfl,rfl,hq,hJs,hcx,hTx⟩:=hrel
  by_cases hlt:j<T.length
  ·have hn:0<T.length:=by omega
   obtain rfl:=hq hn
   have hql:=pl_lt T k j hn
   have HN:=Lib.hid (pl_next T k j hn)
   obtain⟨b,off,hb,c0,c1,c2,c3⟩:=hTx.ent hql
   obtain⟨fn,tmps,assign,body,hy,hR⟩:=hY _ ⟨j,hlt⟩ wr hJs (by rw[finTake_length hj]; exact hlt)
   unfold wayV at hy
   dsimp only at hy
   rw[ent_at hql] at hy
   have HT:=Lib.hid hTx
   have HE:=Lib.hid hb
   subst hb
   clear hTx hq hz0 hJ2 hct2 hT2
   generalize pl T k j=q at *
   gi_wp2
   refine hR.mono ?_
   clear hY hy hR hJ c0 c1 c2 c3
   rintro e W3 (⟨rfl,hJ3,hk3⟩ | ⟨rfl,hJx3⟩)
   ·have hc3:=hk3 ⟨Bt,0,none⟩ _ hp hcx
    have hT3:=Lib.hid (lies_but HT.out hk3 ha)
    clear hk3 hcx
    by_cases hw:q+1=T.length
    ·have d1:((q:Int)+1 == (T.length:Int))=true:=by simp; omega
     have HW:=Lib.hid hw
     clear hw
     gi_wp2
     go_roundw
     case rel=>exact⟨j+1,0,by omega,by simp,rfl,fun _=>by rw[HN.out,if_pos HW.out],by rw[finTake_succ hlt]; exact hJ3,hc3,hT3.out⟩
     case measure=>simp[intOf]; omega
    ·have d1:((q:Int)+1 == (T.length:Int))=false:=by simp; omega
     have HW:=Lib.hid hw
     clear hw
     gi_wp2
     go_roundw
     case rel=>exact⟨j+1,q+1,by omega,by simp,by simp,fun _=>by rw[HN.out,if_neg HW.out],by rw[finTake_succ hlt]; exact hJ3,hc3,hT3.out⟩
     case measure=>simp[intOf]; omega
   ·gi_wp2
    refine bodyPost_ret (results_none rfl _ _ _) rfl ?_
    exact⟨⟨_,rfl⟩,.inr ⟨_,⟨_,by rw[← finTake_succ hlt]; exact List.take_append_drop _ _⟩,hJx3⟩⟩
  ·obtain rfl:j=T.length:=by omega
   gi_wp2
   go_end0
   exact⟨⟨_,rfl⟩,.inl ⟨_,by rw[List.take_of_length_le (by simp)],hJs⟩⟩
theorem way_stops (m:Nat) (hm:1≤m) (Bk Bt p:Nat) (k:ByteArray) (hk:k.size≤4611686018427387904) (a:Option Addr) (cap:Nat) (T:List Ent) (hp:Bt≠p) (ha:∀ b off,a=some ⟨b,off,none⟩→T≠[]→b≠p) (w:World)
 (hBk:Bk<w.heap.size) (hBt:Bt<w.heap.size) (hck:w.cell? ⟨Bk,0,none⟩=some (.string k)) (hct:w.cell? ⟨Bt,0,none⟩=some (rowV a cap T)) (hT:Lies entK w a cap T):
 SeqStopsK Fence.wide m Tryz.prog 111 #[.pointer (some ⟨Bk,0,none⟩),.pointer (some ⟨Bt,0,none⟩)] (wayV T k) (KeepsBut p) (fun ys=>ys=List.finRange T.length) (fun pre=>∃ l,pre ++ l=List.finRange T.length) T.length w:=fun l J Jx W hW hJ _ hY h0=>
 way1_in m hm l Bk Bt p k hk a cap T hp ha J Jx W hJ hY ((hW.cell (p:=⟨Bk,0,none⟩) hBk).trans hck) ((hW.cell (p:=⟨Bt,0,none⟩) hBt).trans hct) (hT.kept hW) h0
end Go.Proofs.YtbamodkgagcmnaaGreat.Prb
namespace Go.Proofs.YtbamodkgagcmnaaGreat.Prb
open Go.RowKit Go.Shelf RowG Tab
attribute [local go_sem] Oper.semAt_some
theorem wpIn_scope_wide {n:Nat} {P:Program} {c:Code} {Q:Exit→Act→World→Prop} {a:Act} {w:World} (h:c.wpIn Fence.wide n P (Exit.noGoto Q) a w):(Code.scope c).wpIn Fence.wide n P Q a w:=wpIn_wide.2 (wp_scope_straight (wpIn_wide.1 h))
def plL (T:List Ent) (k:ByteArray) (pre:List (Fin T.length)):List Nat:=pre.map fun i=>pl T k i.1
theorem plL_all (T:List Ent) (k:ByteArray):plL T k (List.finRange T.length)=wayOf T.length (home k T.length):=by
 unfold plL wayOf pl
 apply List.ext_getElem?
 intro i
 rw[List.getElem?_map,List.getElem?_map]
 by_cases h:i<T.length
 ·rw[List.getElem?_eq_getElem (by simpa using h),List.getElem?_eq_getElem (by simpa using h)]; simp
 ·rw[List.getElem?_eq_none (by simpa using h),List.getElem?_eq_none (by simpa using h)]; rfl
theorem plL_snoc (T:List Ent) (k:ByteArray) (pre:List (Fin T.length)) (x:Fin T.length):plL T k (pre ++ [x])=plL T k pre ++ [pl T k x.1]:=by simp[plL]
def Told (T:List Ent) (k:ByteArray) (pre:List (Fin T.length)) (r:Option Nat):Prop:=∀ l,findP T k (plL T k pre ++ l)=r
def Passed (T:List Ent) (k:ByteArray) (pre:List (Fin T.length)):Prop:=∀ l,findP T k (plL T k pre ++ l)=findP T k l
section
variable {T:List Ent} {k:ByteArray} {pre:List (Fin T.length)} {x:Fin T.length} {r:Option Nat}
theorem passed_nil:Passed T k []:=fun _=>rfl
theorem Passed.more (h:Passed T k pre) (h0:(ent T (pl T k x.1)).st≠0) (h1:¬ Hit (ent T (pl T k x.1)) k):Passed T k (pre ++ [x]):=fun l=>by
 rw[plL_snoc,List.append_assoc,h]
 conv=>lhs; unfold findP
 exact (if_neg h0).trans (if_neg h1)
theorem Passed.empty (h:Passed T k pre) (h0:(ent T (pl T k x.1)).st=0):Told T k (pre ++ [x]) none:=fun l=>by
 rw[plL_snoc,List.append_assoc,h]
 conv=>lhs; unfold findP
 exact if_pos h0
theorem Passed.hit (h:Passed T k pre) (h1:Hit (ent T (pl T k x.1)) k):Told T k (pre ++ [x]) (some (pl T k x.1)):=fun l=>by
 rw[plL_snoc,List.append_assoc,h]
 conv=>lhs; unfold findP
 exact (if_neg (by rw[h1.1]; decide)).trans (if_pos h1)
theorem Told.find (h:Told T k pre r) (hp:∃ l,pre ++ l=List.finRange T.length):Tab.find home T k=r:=by
 obtain⟨l,hl⟩:=hp
 unfold Tab.find
 rw[← plL_all,← hl]
 unfold plL
 rw[List.map_append]
 exact h _
theorem Passed.find (h:Passed T k (List.finRange T.length)):Tab.find home T k=none:=by
 unfold Tab.find
 rw[← plL_all,← List.append_nil (plL T k (List.finRange T.length))]
 exact h []
end
theorem text_cmp (x y:ByteArray):(x.toList == y.toList)=decide (x=y):=by
 rw[ByteArray.toList_eq,ByteArray.toList_eq]
 by_cases e:x=y
 ·rw[e,decide_eq_true rfl]; exact beq_self_eq_true _
 ·rw[decide_eq_false e]; exact beq_false_of_ne fun h=>e (by cases x; cases y; exact congrArg _ (Array.ext' h))
theorem cell_many (W:World) (cs:Array Value) (t:TypeId) (i:Nat) (v:Value) (h:cs[i]? =some v):(W.alloc (.cells cs t)).cell? ⟨W.heap.size,i,none⟩=some v:=by
 have:=World.alloc_heap_new W (.cells cs t)
 unfold World.cell?
 rw[this]
 exact h
set_option maxRecDepth 100000 in
set_option maxHeartbeats 1000000 in
theorem Find_in (m:Nat) (hm:3≤m) (a:Option Addr) (cap:Nat) (T:List Ent) (k:ByteArray) (w:World) (hT:Lies entK w a cap T) (hk:k.size≤4611686018427387904):
 CallsIn Fence.wide m Tryz.prog 33 #[rowV a cap T,.string k] w fun e W'=>e=.returned (.int .i64 (zOf (find home T k)))∧Below w.heap.size w W':=by
 have h1:1≤m:=by omega
 refine callsIn_of_wp_marks Tryz.func33 rfl trivial ?_ rfl
 simp only[Tryz.ntmps33,List.size_toArray,List.length_cons,List.length_nil,Nat.reduceAdd,Nat.reduceSub,Array.replicate_succ,Array.replicate_zero,List.push_toArray,List.append_toArray,List.nil_append,List.cons_append]
 gi_wp2
 refine wpIn_scope_wide ?_
 gi_wp2
 refine wpIn_label ?_
 gi_wp2_with fail
 refine⟨trivial,?_⟩
 gi_at_call 74
 refine (callsIn_wide.2 (way_told _ rfl k _)).mono ?_
 rintro e w' ⟨rfl,rfl⟩
 gi_wp2
 have c0:=Fnv.cell_new_o w (.string k) 9
 have c1:=Fnv.cell_new_o (w.alloc (.cells #[.string k] 9)) (.int .i64 (-1)) 3
 have c2:=Fnv.cell_new_o ((w.alloc (.cells #[.string k] 9)).alloc (.cells #[.int .i64 (-1)] 3)) (rowV a cap T) 50
 have c3:=Fnv.cell_new_o (((w.alloc (.cells #[.string k] 9)).alloc (.cells #[.int .i64 (-1)] 3)).alloc (.cells #[rowV a cap T] 50)) (.string k) 9
 simp only[World.size_alloc] at c1 c2 c3
 have k0:=Fnv.cell_alloc_o (.cells #[.string k] 9) (Fnv.cell_alloc_o (.cells #[rowV a cap T] 50) (Fnv.cell_alloc_o (.cells #[.int .i64 (-1)] 3) c0.1))
 have k1:=Fnv.cell_alloc_o (.cells #[.string k] 9) (Fnv.cell_alloc_o (.cells #[rowV a cap T] 50) c1.1)
 have f1:=Fnv.frozen_alloc_o (.cells #[.string k] 9) (Fnv.cell_alloc_o (.cells #[rowV a cap T] 50) c1.1) (Fnv.frozen_alloc_o (.cells #[rowV a cap T] 50) c1.1 c1.2)
 have k2:=Fnv.cell_alloc_o (.cells #[.string k] 9) c2.1
 have k3:=c3.1
 have hB0:Below w.heap.size w ((((w.alloc (.cells #[.string k] 9)).alloc (.cells #[.int .i64 (-1)] 3)).alloc (.cells #[rowV a cap T] 50)).alloc (.cells #[.string k] 9)):=
  ((((Below.refl _ w).alloc (Nat.le_refl _) _).alloc (by simp) _).alloc (by simp; omega) _).alloc (by simp; omega) _
 have hT0:=hT.kept hB0
 have hap:∀ b off,a=some ⟨b,off,none⟩→T≠[]→b<w.heap.size:=fun b off e hn=>by
  obtain⟨b',off',e',hc⟩:=hT.cell hn
  rw[e] at e'; cases e'
  cases T with
  | nil=>exact absurd rfl hn
  | cons x T=>exact World.block_lt_of_cell? w ⟨b,off+0 * 4+0,none⟩ (hc 0 x rfl 0 _ rfl)
 generalize hW0:((((w.alloc (.cells #[.string k] 9)).alloc (.cells #[.int .i64 (-1)] 3)).alloc (.cells #[rowV a cap T] 50)).alloc (.cells #[.string k] 9))=W0 at *
 have hsz:W0.heap.size=w.heap.size+4:=by rw[← hW0]; simp
 have HS:=Lib.hid hsz
 clear c0 c1 c2 c3 hW0
 refine wpIn_rangeFunc_ownH rfl h1 (gf:=111) (lb:=#[.pointer (some ⟨w.heap.size+1+1+1,0,none⟩),.pointer (some ⟨w.heap.size+1+1,0,none⟩)]) rfl trivial (enters_of Tryz.func111 (by kernel_rfl) rfl)
  (way_stops (m - 1) (by omega) (w.heap.size+1+1+1) (w.heap.size+1+1) (w.heap.size+1) k hk a cap T (by omega) (fun b off e hn=>by have:=hap b off e hn; omega) W0 (by omega) (by omega) k3 k2 hT0) keepsBut_t keepsBut_b (Below.refl _ _) (fun _=>rfl)
  (fun pre W=>((W.cell? ⟨w.heap.size+1,0,none⟩=some (.int .i64 (-1))∧W.frozen? ⟨w.heap.size+1,0,none⟩=false∧W.cell? ⟨w.heap.size,0,none⟩=some (.string k))∧Below w.heap.size w W)∧Passed T k pre)
  (fun c pre W=>((c=.exit 0∧∃ r,Told T k pre r∧W.cell? ⟨w.heap.size+1,0,none⟩=some (.int .i64 (zOf r)))∧Below w.heap.size w W))
  (OwnFrom.and (OwnFrom.and (Own.from (fun s A B row hs hg hr=>⟨cell_kept hs.1 hg hr,(frozen_kept hs.1 hg hr).trans hs.2.1,cell_kept hs.2.2 hg hr⟩) _) (ownFrom_below (Nat.le_refl _) (by omega))) (ownFrom_pure _ _))
  (fun c=>OwnFrom.and (Own.from (fun s A B row hs hg hr=>by obtain⟨h1,r,h2,h3⟩:=hs; exact⟨h1,r,h2,cell_kept h3 hg hr⟩) _) (ownFrom_below (Nat.le_refl _) (by omega)))
  ⟨⟨⟨k1,f1,k0⟩,hB0⟩,passed_nil⟩
  (fun x a' W=>∃ g,a'= { tmps:=#[rowV a cap T,.string k,undef,.pointer (some ⟨w.heap.size,0,none⟩),.int .i64 0,.pointer (some ⟨w.heap.size+1,0,none⟩),.int .i64 (pl T k x.1:Nat),.pointer (some ⟨g,0,none⟩),rowV a cap T,.string k,.func (.func 111) #[] #[.pointer (some ⟨w.heap.size+1+1+1,0,none⟩),.pointer (some ⟨w.heap.size+1+1,0,none⟩)],.int .i64 (pl T k x.1:Nat),entV (ent T (pl T k x.1)),undef,undef,undef,undef,undef,undef,undef,undef,undef,undef,undef,undef,undef,undef,undef,undef],defers:=[] }∧W.cell? ⟨g,0,none⟩=some (.int .i64 (ent T (pl T k x.1)).st)∧W.cell? ⟨g,1,none⟩=some (.string (ent T (pl T k x.1)).key))
  (fun x a'=>Own.from (fun s A B row hs hg hr=>by obtain⟨g,h1,h2,h3⟩:=hs; exact⟨g,h1,cell_kept h2 hg hr,cell_kept h3 hg hr⟩) _) ?assign ?body ?done ?stop
 case assign=>
  rintro l pre x W K ⟨⟨⟨i1,i2,i3⟩,hB⟩,hP⟩ hK
  simp only[wayV]
  clear k0 k1 f1 k2 k3 hB0 hT0 hT
  gi_wp2
  exact hK _ _ ((KeepsOthers.alloc _ _).from _) (fun b v _ hv=>Fnv.cell_alloc_o _ hv) ⟨⟨⟨Fnv.cell_alloc_o _ i1,Fnv.frozen_alloc_o _ i1 i2,Fnv.cell_alloc_o _ i3⟩,hB.alloc hB.size _⟩,hP⟩ ⟨_,rfl,cell_many W _ _ 0 _ rfl,cell_many W _ _ 1 _ rfl⟩
 case body=>
  rintro l pre x a' W _ _ ⟨⟨⟨i1,i2,i3⟩,hB⟩,hP⟩ ⟨g,rfl,g0,g1⟩ _
  have M0:=Lib.hid (fun h0=>hP.empty (x:=x) h0)
  have M1:=Lib.hid (fun h1=>hP.hit (x:=x) h1)
  have M2:=Lib.hid (fun h0 h1=>hP.more (x:=x) h0 h1)
  have HB:=Lib.hid hB
  clear k0 k1 f1 k2 k3 hB0 hT0 hT hP hB hap
  generalize pl T k x.1=q at *
  generalize ent T q=e at *
  by_cases s0:e.st=0
  ·have d0:(e.st == 0)=true:=by simpa using s0
   gi_wp2
   exact⟨KeepsFrom.refl _ _,⟨rfl,none,M0.out s0,i1⟩,HB.out⟩
  ·have d0:(e.st == 0)=false:=by simpa using s0
   by_cases s1:e.st=1
   ·have d1:(e.st == 1)=true:=by simpa using s1
    by_cases s2:e.key=k
    ·have d2:(e.key.toList == k.toList)=true:=by rw[text_cmp]; exact decide_eq_true s2
     have MM:=Lib.hid (M1.out ⟨s1,s2⟩)
     clear M0 M1 M2
     gi_wp2
     refine⟨(KeepsOthers.setCell _ _ _).from _,⟨rfl,some q,MM.out,?_⟩,?_⟩
     ·exact World.cell?_setCell_same' _ _ _ (by rw[i1]; rfl)
     ·exact HB.out.setCell (p:=⟨w.heap.size+1,0,none⟩) (by simp) _
    ·have d2:(e.key.toList == k.toList)=false:=by rw[text_cmp]; exact decide_eq_false s2
     have MM:=Lib.hid (M2.out s0 (fun h=>s2 h.2))
     clear M0 M1 M2
     gi_wp2
     exact⟨KeepsFrom.refl _ _,fun _ _ _ h=>h,⟨⟨i1,i2,i3⟩,HB.out⟩,MM.out⟩
   ·have d1:(e.st == 1)=false:=by simpa using s1
    have MM:=Lib.hid (M2.out s0 (fun h=>s1 h.1))
    clear M0 M1 M2
    gi_wp2
    exact⟨KeepsFrom.refl _ _,fun _ _ _ h=>h,⟨⟨i1,i2,i3⟩,HB.out⟩,MM.out⟩
 case done=>
  rintro D ys W hD rfl ⟨⟨⟨i1,_,_⟩,hB⟩,hP⟩ hK
  gi_wp2
  refine⟨by simp,.inl ⟨_,_,rfl,run_takeDeferred hK,?_⟩⟩
  exact⟨.int .i64 (-1),by simp[results,Tryz.results33,go_sem],by rw[hP.find]; rfl,hB.trans (belowK_b (w:=w) (Nat.le_refl _) W D _ _ (by omega) hK rfl rfl)⟩
 case stop=>
  rintro D c pre W hD hpre ⟨⟨rfl,r,ht,hc⟩,hB⟩ hK
  gi_wp2
  refine⟨by simp,.inl ⟨_,_,rfl,run_takeDeferred hK,?_⟩⟩
  exact⟨.int .i64 (zOf r),by simp[results,Tryz.results33,go_sem],by rw[ht.find hpre],hB.trans (belowK_b (w:=w) (Nat.le_refl _) W D _ _ (by omega) hK rfl rfl)⟩
theorem Find_told (a:Option Addr) (cap:Nat) (T:List Ent) (k:ByteArray) (w:World) (hT:Lies entK w a cap T) (hk:k.size≤4611686018427387904):
 Calls Tryz.prog 33 #[rowV a cap T,.string k] w fun e W'=>e=.returned (.int .i64 (zOf (find home T k)))∧Below w.heap.size w W':=
 (callsIn_wide (n:=3)).1 (Find_in 3 (by omega) a cap T k w hT hk)
end Go.Proofs.YtbamodkgagcmnaaGreat.Prb
namespace Go.Proofs.YtbamodkgagcmnaaGreat.Prb
open Go.RowKit Go.Shelf RowG Tab
attribute [local go_sem] Oper.semAt_some
def ToldR (T:List Ent) (k:ByteArray) (pre:List (Fin T.length)) (r:Option Nat):Prop:=∀ l,roomP T (plL T k pre ++ l)=r
def Full (T:List Ent) (k:ByteArray) (pre:List (Fin T.length)):Prop:=∀ l,roomP T (plL T k pre ++ l)=roomP T l
section
variable {T:List Ent} {k:ByteArray} {pre:List (Fin T.length)} {x:Fin T.length} {r:Option Nat}
theorem full_nil:Full T k []:=fun _=>rfl
theorem Full.more (h:Full T k pre) (h1:(ent T (pl T k x.1)).st=1):Full T k (pre ++ [x]):=fun l=>by
 rw[plL_snoc,List.append_assoc,h]
 conv=>lhs; unfold roomP
 exact if_pos h1
theorem Full.free (h:Full T k pre) (h1:(ent T (pl T k x.1)).st≠1):ToldR T k (pre ++ [x]) (some (pl T k x.1)):=fun l=>by
 rw[plL_snoc,List.append_assoc,h]
 conv=>lhs; unfold roomP
 exact if_neg h1
theorem ToldR.room (h:ToldR T k pre r) (hp:∃ l,pre ++ l=List.finRange T.length) (hf:Tab.find home T k=none):Tab.room home T k=r:=by
 obtain⟨l,hl⟩:=hp
 unfold Tab.room
 rw[hf]
 show roomP T _=r
 rw[← plL_all,← hl]
 unfold plL
 rw[List.map_append]
 exact h _
theorem Full.room (h:Full T k (List.finRange T.length)) (hf:Tab.find home T k=none):Tab.room home T k=none:=by
 unfold Tab.room
 rw[hf]
 show roomP T _=none
 rw[← plL_all,← List.append_nil (plL T k (List.finRange T.length))]
 exact h []
theorem room_found {q:Nat} (hf:Tab.find home T k=some q):Tab.room home T k=none:=by unfold Tab.room; rw[hf]
end
theorem zOf_ne (o:Option Nat):(zOf o == -1)=o.isNone:=by cases o <;> simp[zOf] <;> omega
set_option maxRecDepth 100000 in
set_option maxHeartbeats 1000000 in
theorem Room_in (m:Nat) (hm:3≤m) (a:Option Addr) (cap:Nat) (T:List Ent) (k:ByteArray) (w:World) (hT:Lies entK w a cap T) (hk:k.size≤4611686018427387904):
 CallsIn Fence.wide m Tryz.prog 147 #[rowV a cap T,.string k] w fun e W'=>e=.returned (.int .i64 (zOf (room home T k)))∧Below w.heap.size w W':=by
 have h1:1≤m:=by omega
 have hap:∀ b off,a=some ⟨b,off,none⟩→T≠[]→b<w.heap.size:=fun b off e hn=>by
  obtain⟨b',off',e',hc⟩:=hT.cell hn
  rw[e] at e'; cases e'
  cases T with
  | nil=>exact absurd rfl hn
  | cons x T=>exact World.block_lt_of_cell? w ⟨b,off+0 * 4+0,none⟩ (hc 0 x rfl 0 _ rfl)
 have b0:Below w.heap.size w (w.alloc (.cells #[.int .i64 0] 3)):=(Below.refl _ w).alloc (Nat.le_refl _) _
 have n0:=Fnv.cell_new_o w (.int .i64 0) 3
 have hT1:=hT.kept b0
 refine callsIn_of_wp_marks Tryz.func147 rfl trivial ?_ rfl
 simp only[Tryz.ntmps147,List.size_toArray,List.length_cons,List.length_nil,Nat.reduceAdd,Nat.reduceSub,Array.replicate_succ,Array.replicate_zero,List.push_toArray,List.append_toArray,List.nil_append,List.cons_append]
 gi_wp2_with fail
 refine⟨trivial,?_⟩
 gi_at_call 33
 refine (callsIn_wide.2 (Find_told a cap T k _ hT1 hk)).mono ?_
 rintro e w1 ⟨rfl,b1⟩
 have bb:=below2 b0 b1
 have c0:w1.cell? ⟨w.heap.size,0,none⟩=some (.int .i64 0):=(b1.cell (p:=⟨w.heap.size,0,none⟩) (by simp)).trans n0.1
 have f0:w1.frozen? ⟨w.heap.size,0,none⟩=false:=(frozen_kept n0.1 (grown_none b1) (fun r e=>by cases e)).trans n0.2
 have hz:=World.size_alloc w (.cells #[.int .i64 0] 3)
 have hs1:w.heap.size+1≤w1.heap.size:=by rw[← hz]; exact b1.size
 have hT2:=hT1.kept b1
 clear hT hT1 n0 b0 b1 hz
 cases hf:Tab.find home T k with
 | some q=>
   have d1:(zOf (some q) != -1)=true:=by rw[bne,zOf_ne]; rfl
   have k0:(w1.setCell ⟨w.heap.size,0,none⟩ (.int .i64 (-1))).cell? ⟨w.heap.size,0,none⟩=some (.int .i64 (-1)):=World.cell?_setCell_same' _ _ _ (by rw[c0]; rfl)
   gi_wp2
   exact⟨.int .i64 (-1),by simp[results,Tryz.results147,go_sem,k0],by rw[room_found hf]; rfl,bb.setCell (p:=⟨w.heap.size,0,none⟩) (by simp) _⟩
 | none=>
   have d1:(zOf none != -1)=false:=by rw[bne,zOf_ne]; rfl
   have HF:=Lib.hid hf
   clear hf
   gi_wp2_with fail
   refine⟨trivial,?_⟩
   gi_at_call 74
   refine (callsIn_wide.2 (way_told _ rfl k _)).mono ?_
   rintro e w' ⟨rfl,rfl⟩
   gi_wp2
   have c2:=Fnv.cell_new_o w1 (rowV a cap T) 50
   have c3:=Fnv.cell_new_o (w1.alloc (.cells #[rowV a cap T] 50)) (.string k) 9
   simp only[World.size_alloc] at c3
   have k1:=Fnv.cell_alloc_o (.cells #[.string k] 9) (Fnv.cell_alloc_o (.cells #[rowV a cap T] 50) c0)
   have f1:=Fnv.frozen_alloc_o (.cells #[.string k] 9) (Fnv.cell_alloc_o (.cells #[rowV a cap T] 50) c0) (Fnv.frozen_alloc_o (.cells #[rowV a cap T] 50) c0 f0)
   have k2:=Fnv.cell_alloc_o (.cells #[.string k] 9) c2.1
   have k3:=c3.1
   have hB1:Below w1.heap.size w1 ((w1.alloc (.cells #[rowV a cap T] 50)).alloc (.cells #[.string k] 9)):=((Below.refl _ w1).alloc (Nat.le_refl _) _).alloc (by simp) _
   have hB0:=below2 bb hB1
   have hT0:=hT2.kept hB1
   generalize hW0:((w1.alloc (.cells #[rowV a cap T] 50)).alloc (.cells #[.string k] 9))=W0 at *
   have hsz:W0.heap.size=w1.heap.size+2:=by rw[← hW0]; simp
   have HS:=Lib.hid hsz
   clear c0 c2 c3 hW0 hT2 hB1
   refine wpIn_rangeFunc_ownH rfl h1 (gf:=111) (lb:=#[.pointer (some ⟨w1.heap.size+1,0,none⟩),.pointer (some ⟨w1.heap.size,0,none⟩)]) rfl trivial (enters_of Tryz.func111 (by kernel_rfl) rfl)
    (way_stops (m - 1) (by omega) (w1.heap.size+1) w1.heap.size w.heap.size k hk a cap T (by omega) (fun b off e hn=>by have:=hap b off e hn; omega) W0 (by omega) (by omega) k3 k2 hT0) keepsBut_t keepsBut_b (Below.refl _ _) (fun _=>rfl)
    (fun pre W=>((W.cell? ⟨w.heap.size,0,none⟩=some (.int .i64 0)∧W.frozen? ⟨w.heap.size,0,none⟩=false)∧Below w.heap.size w W)∧Full T k pre)
    (fun c pre W=>((c=.ret∧∃ r,ToldR T k pre r∧W.cell? ⟨w.heap.size,0,none⟩=some (.int .i64 (zOf r)))∧Below w.heap.size w W))
    (OwnFrom.and (OwnFrom.and (Own.from (fun s A B row hs hg hr=>⟨cell_kept hs.1 hg hr,(frozen_kept hs.1 hg hr).trans hs.2⟩) _) (ownFrom_below (Nat.le_refl _) (by omega))) (ownFrom_pure _ _))
    (fun c=>OwnFrom.and (Own.from (fun s A B row hs hg hr=>by obtain⟨h1,r,h2,h3⟩:=hs; exact⟨h1,r,h2,cell_kept h3 hg hr⟩) _) (ownFrom_below (Nat.le_refl _) (by omega)))
    ⟨⟨⟨k1,f1⟩,hB0⟩,full_nil⟩
    (fun x a' W=>∃ g,a'= { tmps:=#[rowV a cap T,.string k,undef,undef,.pointer (some ⟨w.heap.size,0,none⟩),.int .i64 (pl T k x.1:Nat),.pointer (some ⟨g,0,none⟩),rowV a cap T,.string k,.int .i64 (zOf none),.bool false,rowV a cap T,.string k,.func (.func 111) #[] #[.pointer (some ⟨w1.heap.size+1,0,none⟩),.pointer (some ⟨w1.heap.size,0,none⟩)],.int .i64 (pl T k x.1:Nat),entV (ent T (pl T k x.1)),undef,undef,undef,undef],defers:=[] }∧W.cell? ⟨g,0,none⟩=some (.int .i64 (ent T (pl T k x.1)).st))
    (fun x a'=>Own.from (fun s A B row hs hg hr=>by obtain⟨g,h1,h2⟩:=hs; exact⟨g,h1,cell_kept h2 hg hr⟩) _) ?assign ?body ?done ?stop
   case assign=>
    rintro l pre x W K ⟨⟨⟨i1,i2⟩,hB⟩,hP⟩ hK
    simp only[wayV]
    clear k1 f1 k2 k3 hB0 hT0
    gi_wp2
    exact hK _ _ ((KeepsOthers.alloc _ _).from _) (fun b v _ hv=>Fnv.cell_alloc_o _ hv) ⟨⟨⟨Fnv.cell_alloc_o _ i1,Fnv.frozen_alloc_o _ i1 i2⟩,hB.alloc hB.size _⟩,hP⟩ ⟨_,rfl,cell_many W _ _ 0 _ rfl⟩
   case body=>
    rintro l pre x a' W _ _ ⟨⟨⟨i1,i2⟩,hB⟩,hP⟩ ⟨g,rfl,g0⟩ _
    have M0:=Lib.hid (fun h0=>hP.free (x:=x) h0)
    have M1:=Lib.hid (fun h1=>hP.more (x:=x) h1)
    have HB:=Lib.hid hB
    clear k1 f1 k2 k3 hB0 hT0 hP hB hap
    generalize pl T k x.1=q at *
    generalize ent T q=e at *
    by_cases s1:e.st=1
    ·have d2:(e.st != 1)=false:=by simpa using s1
     have MM:=Lib.hid (M1.out s1)
     clear M0 M1
     gi_wp2
     exact⟨KeepsFrom.refl _ _,fun _ _ _ h=>h,⟨⟨i1,i2⟩,HB.out⟩,MM.out⟩
    ·have d2:(e.st != 1)=true:=by simpa using s1
     have MM:=Lib.hid (M0.out s1)
     clear M0 M1
     gi_wp2
     refine⟨(KeepsOthers.setCell _ _ _).from _,⟨rfl,some q,MM.out,?_⟩,?_⟩
     ·exact World.cell?_setCell_same' _ _ _ (by rw[i1]; rfl)
     ·exact HB.out.setCell (p:=⟨w.heap.size,0,none⟩) (by simp) _
   case done=>
    rintro D ys W hD rfl ⟨⟨⟨i1,i2⟩,hB⟩,hP⟩ hK
    have k5:(W.setCell ⟨w.heap.size,0,none⟩ (.int .i64 (-1))).cell? ⟨w.heap.size,0,none⟩=some (.int .i64 (-1)):=World.cell?_setCell_same' _ _ _ (by rw[i1]; rfl)
    have hK5:(W.setCell ⟨w.heap.size,0,none⟩ (.int .i64 (-1))).heap[D]? =some (.deferred (some [])):=(heap_setCell_other _ _ _ _ (by simp; omega)).trans hK
    gi_wp2
    refine⟨by simp,.inl ⟨_,_,rfl,run_takeDeferred hK5,?_⟩⟩
    have k6:=cell_kept k5 (grownBy_putObj' _ D (.deferred none)) (fun r e=>by cases e; exact⟨_,hK5,rfl⟩)
    exact⟨.int .i64 (-1),by simp[results,Tryz.results147,go_sem,k6],by rw[hP.room HF.out]; rfl,(hB.setCell (p:=⟨w.heap.size,0,none⟩) (by simp) _).trans (belowK_b (w:=w) (Nat.le_refl _) _ D _ _ (by omega) hK5 rfl rfl)⟩
   case stop=>
    rintro D c pre W hD hpre ⟨⟨rfl,r,ht,hc⟩,hB⟩ hK
    gi_wp2
    refine⟨by simp,.inl ⟨_,_,rfl,run_takeDeferred hK,?_⟩⟩
    have k6:=cell_kept hc (grownBy_putObj' _ D (.deferred none)) (fun r e=>by cases e; exact⟨_,hK,rfl⟩)
    exact⟨.int .i64 (zOf r),by simp[results,Tryz.results147,go_sem,k6],by rw[ht.room hpre HF.out],hB.trans (belowK_b (w:=w) (Nat.le_refl _) _ D _ _ (by omega) hK rfl rfl)⟩
theorem Room_told (a:Option Addr) (cap:Nat) (T:List Ent) (k:ByteArray) (w:World) (hT:Lies entK w a cap T) (hk:k.size≤4611686018427387904):
 Calls Tryz.prog 147 #[rowV a cap T,.string k] w fun e W'=>e=.returned (.int .i64 (zOf (room home T k)))∧Below w.heap.size w W':=
 (callsIn_wide (n:=3)).1 (Room_in 3 (by omega) a cap T k w hT hk)
end Go.Proofs.YtbamodkgagcmnaaGreat.Prb
namespace Go.Proofs.YtbamodkgagcmnaaGreat.Prb
open Go.RowKit Go.Shelf RowG Tab
theorem ent_cmp (x y:Ent) (c:Bool) (h:x=y↔c=true) (W:World):(Op.equalIn 10000 66 (entV x) (entV y)).run Tryz.prog W=.ok c W:=by
 obtain⟨s,k,b,d⟩:=x
 obtain⟨s',k',b',d'⟩:=y
 have hk:=text_cmp k k'
 rw[Ent.mk.injEq] at h
 go_simp
 cases c <;> (repeat' split) <;> simp_all
set_option maxHeartbeats 400000 in
theorem Count1_told (x:Ent) (s:Int) (B:Nat) (w:World) (hc:w.cell? ⟨B,0,none⟩=some (.int .i64 s)):
 Calls Tryz.prog 145 #[entV x,.pointer (some ⟨B,0,none⟩)] w fun e W'=>e=.returned (.bool (x.st == s))∧Below w.heap.size w W':=by
 have hc2:=Fnv.cell_alloc_o (.cells #[.int .i64 x.st,.string x.key,.int .i64 x.be,.int .i64 x.dl] 66) hc
 go_enter Tryz.func145,Tryz.ntmps145
 go_wp2
 go_ret
 exact⟨rfl,(Below.refl _ w).alloc (Nat.le_refl _) _⟩
theorem count_take {s:Int} {T:List Ent} {j:Nat} (hj:j<T.length):count s (T.take (j+1))=count s (T.take j)+(if T[j].st == s then 1 else 0):=by
 unfold count
 rw[List.take_succ_eq_append_getElem hj,List.filter_append,List.length_append,List.filter_cons,List.filter_nil]
 split <;> rfl
set_option maxRecDepth 100000 in
set_option maxHeartbeats 1000000 in
theorem count_told (a:Option Addr) (cap:Nat) (T:List Ent) (s:Int) (B:Nat) (w:World) (hT:Lies entK w a cap T) (hc:w.cell? ⟨B,0,none⟩=some (.int .i64 s)):
 Calls Tryz.prog 144 #[rowV a cap T,.func (.func 145) #[] #[.pointer (some ⟨B,0,none⟩)]] w fun e W'=>e=.returned (.int .i64 (count s T:Nat))∧Below w.heap.size w W':=by
 have hmx:=hT.max
 have hln:=hT.len
 unfold maxLen at hmx
 have H:=Lib.hid hT
 have HCC:=Lib.hid hc
 clear hT hc
 go_enter Tryz.func144,Tryz.ntmps144
 go_wp2
 go_loopw [5,10] (fun v i W=>∃ j:Nat,j≤T.length∧i=.int .i64 j∧v=.int .i64 (count s (T.take j):Nat)∧Below w.heap.size w W) (fun _ i _=>T.length - (intOf i).toNat)
 case atStart=>exact⟨0,Nat.zero_le _,rfl,rfl,Below.refl _ _⟩
 case round=>
  obtain⟨j,hj,rfl,rfl,hB⟩:=hrel
  have HB:=Lib.hid hB
  clear hB
  by_cases hlt:j<T.length
  ·obtain⟨b,off,rfl,c0,c1,c2,c3⟩:=(H.out.kept HB.out).ent hlt
   have HK:=Lib.hid (count_take (s:=s) hlt)
   have hcl:count s (T.take j)≤j:=Nat.le_trans (count_le _ _) (by rw[List.length_take]; omega)
   generalize count s (T.take j)=q at *
   generalize T[j]=x at *
   have b1:Below wr.heap.size wr (wr.alloc (.cells #[.int .i64 x.st,.string x.key,.int .i64 x.be,.int .i64 x.dl] 66)):=(Below.refl _ wr).alloc (Nat.le_refl _) _
   have hcB:=Lib.hid ((b1.cell (p:=⟨B,0,none⟩) (Nat.lt_of_lt_of_le (World.block_lt_of_cell? w _ HCC.out) HB.out.size)).trans ((HB.out.cell (p:=⟨B,0,none⟩) (World.block_lt_of_cell? w _ HCC.out)).trans HCC.out))
   have HB1:=Lib.hid (below2 HB.out b1)
   clear b1
   by_cases hx:x.st=s
   ·have d1:(x.st == s)=true:=by simpa using hx
    have C:=Lib.hid (Count1_told x s B _ hcB.out)
    rw[d1] at C
    have HK2:=Lib.hid (HK.out.trans (by rw[if_pos d1]))
    clear HK hx d1
    go_wp2_with fail
    refine C.out.mono ?_
    rintro e w2 ⟨rfl,hb2⟩
    have HB2:=Lib.hid (below2 HB1.out hb2)
    clear hb2
    go_wp2_with fail
    exact⟨⟨j+1,by omega,by go_num,by rw[HK2.out]; go_num,HB2.out⟩,by simp[intOf]; omega⟩
   ·have d1:(x.st == s)=false:=by simpa using hx
    have C:=Lib.hid (Count1_told x s B _ hcB.out)
    rw[d1] at C
    have HK2:=Lib.hid (HK.out.trans (by rw[if_neg (by rw[d1]; simp)]))
    clear HK hx d1
    go_wp2_with fail
    refine C.out.mono ?_
    rintro e w2 ⟨rfl,hb2⟩
    have HB2:=Lib.hid (below2 HB1.out hb2)
    clear hb2
    go_wp2_with fail
    exact⟨⟨j+1,by omega,by go_num,by rw[HK2.out]; go_num,HB2.out⟩,by simp[intOf]; omega⟩
  ·have hj':j=T.length:=by omega
   have HJ:=Lib.hid (show count s (T.take j)=count s T by rw[hj',List.take_length])
   clear hj'
   go_wp2
   go_ret
   exact⟨by rw[← HJ.out]; rfl,HB.out⟩
set_option maxHeartbeats 400000 in
theorem Count_told (a:Option Addr) (cap:Nat) (T:List Ent) (s:Int) (w:World) (hT:Lies entK w a cap T):
 Calls Tryz.prog 95 #[rowV a cap T,.int .i64 s] w fun e W'=>e=.returned (.int .i64 (count s T:Nat))∧Below w.heap.size w W':=by
 have b0:Below w.heap.size w (w.alloc (.cells #[.int .i64 s] 3)):=(Below.refl _ w).alloc (Nat.le_refl _) _
 have C:=Lib.hid (count_told a cap T s w.heap.size _ (hT.kept b0) (Fnv.cell_new_o w (.int .i64 s) 3).1)
 have HB:=Lib.hid b0
 clear b0 hT
 go_enter Tryz.func95,Tryz.ntmps95
 go_wp2_with fail
 refine C.out.mono ?_
 rintro e w1 ⟨rfl,hb⟩
 go_wp2_with fail
 go_ret
 exact⟨rfl,below2 HB.out hb⟩
end Go.Proofs.YtbamodkgagcmnaaGreat.Prb
