/-
  Package model: has, at, fails, puts; what is handed on, when it is done (puts, update, stats).
-/
import Derived.Test.YtbamodkgagcmnaaGreatBFnvE
import Derived.Test.YtbamodkgagcmnaaGreatBPrbE
import Derived.WalkSmall
import Derived.Deep.RegionHeld3
set_option maxRecDepth 100000
namespace Go.Proofs.YtbamodkgagcmnaaGreat.Mdl
open Go.RowKit Go.Shelf RowG Trn
open Pol (polV)
open Go.Proofs.YtbamodkgagcmnaaGreat.Mod (Bk Mo Ans ansV ansC)
attribute [local go_sem] Oper.semAt_some
abbrev isB (n:Nat) (i:Int):Bool:=decide (0≤i∧i<n)
def noShM:ShM:=⟨none,0,[],0⟩
def atM (m:List ShM) (i:Int):ShM:=if 0≤i∧i<m.length then m.getD i.toNat noShM else noShM
theorem atM_in {m:List ShM} {k:Nat} (hk:k<m.length):atM m (k:Int)=m[k]:=by
 unfold atM
 rw[if_pos ⟨by omega,by omega⟩,Int.toNat_natCast,List.getD_eq_getElem?_getD,List.getElem?_eq_getElem hk]; rfl
theorem noShM_good (W:World):noShM.Good W:=⟨lies_nil W,by simp[noShM],by simp[noShM],by simp[noShM]⟩
section
variable {f:Foot} {idle:Int} {pa:Option Addr} {pc:Nat} {P:List Bk} {sc:Nat} {m:List ShM}
theorem atM_good {w:World} (h:Lay w f idle pa pc P sc m) (i:Int):(atM m i).Good w:=by
 by_cases hi:0≤i∧i<m.length
 ·obtain⟨k,rfl⟩:=Int.eq_ofNat_of_zero_le hi.1
  have hk:k<m.length:=by omega
  rw[atM_in hk]; exact h.good _ (List.getElem_mem hk)
 ·rw[show atM m i=noShM from if_neg hi]; exact noShM_good w
set_option maxHeartbeats 400000 in
theorem has_told (i:Int) (w:World) (h:Lay w f idle pa pc P sc m):
 Calls Tryz.prog 93 #[f.v,.int .i64 i] w fun e W'=>e=.returned (.bool (isB m.length i))∧W'=w:=by
 obtain⟨⟨-,-,c2⟩,-⟩:=h.cells
 clear h
 by_cases h0:0≤i
 ·have d0:decide (0≤i)=true:=decide_eq_true h0
  have HB:=Lib.hid (show decide (i<(m.length:Int))=isB m.length i by unfold isB; rw[Bool.decide_and,d0,Bool.true_and])
  generalize isB m.length i=b at *
  have d1:=HB.out
  clear h0
  go_enter Tryz.func93,Tryz.ntmps93
  go_wp2_with fail
  go_ret
  exact⟨rfl,rfl⟩
 ·have d0:decide (0≤i)=false:=decide_eq_false h0
  have HB:=Lib.hid (show isB m.length i=false by unfold isB; rw[Bool.decide_and,d0,Bool.false_and])
  clear h0
  go_enter Tryz.func93,Tryz.ntmps93
  go_wp2_with fail
  go_ret
  exact⟨by rw[HB.out]; rfl,rfl⟩
theorem new_shard (w:World):let W:=w.alloc (.cells #[.slice none 0 0,.int .i64 0] 92)
 Below w.heap.size w W∧W.cell? ⟨w.heap.size,0,none⟩=some (.slice none 0 0)∧W.cell? ⟨w.heap.size,1,none⟩=some (.int .i64 0)∧W.frozen? ⟨w.heap.size,0,none⟩=false∧W.frozen? ⟨w.heap.size,1,none⟩=false:=by
 have:=box2_cells (World.alloc_heap_new w (.cells #[.slice none 0 0,.int .i64 0] 92))
 exact⟨(Below.refl _ w).alloc (Nat.le_refl _) _,this.1,this.2.1,this.2.2.1,this.2.2.2⟩
set_option maxHeartbeats 400000 in
theorem at_told (i:Int) (w:World) (h:Lay w f idle pa pc P sc m):
 Calls Tryz.prog 54 #[f.v,.int .i64 i] w fun e W'=>e=.returned (shV (atM m i))∧Below w.heap.size w W':=by
 obtain⟨b0,-⟩:=new_shard w
 have C:=Lib.hid (has_told i _ (h.kept b0))
 have B0:=Lib.hid b0
 by_cases hi:0≤i∧i<m.length
 ·have hb:isB m.length i=true:=decide_eq_true hi
  obtain⟨k,rfl⟩:=Int.eq_ofNat_of_zero_le hi.1
  have hk:k<m.length:=by omega
  have hk2:=h.kept b0
  obtain⟨⟨-,-,c2⟩,-⟩:=hk2.cells
  obtain⟨⟨c3,c4⟩,-⟩:=hk2.shard hk
  have hl:=h.row.len
  have hmx:=hl.2
  unfold maxLen at hmx
  have HV:=Lib.hid (atM_in hk)
  rw[hb] at C
  generalize m[k]=x at *
  generalize atM m (k:Int)=y at *
  obtain rfl:=HV.out
  clear hi h hk2 HV hb b0
  go_enter Tryz.func54,Tryz.ntmps54
  go_wp2_with fail
  refine C.out.mono ?_
  rintro e w1 ⟨rfl,rfl⟩
  clear C
  go_wp2_with fail
  refine bodyPost_ret (v:=shV y) (by simp[results,Tryz.results54,go_sem]) rfl ?_
  exact⟨rfl,by first | exact B0.out | exact (Below.refl _ w).alloc (Nat.le_refl _) _⟩
 ·have hb:isB m.length i=false:=decide_eq_false hi
  have HV:=Lib.hid (show atM m i=noShM from if_neg hi)
  rw[hb] at C
  clear hi h hb b0
  go_enter Tryz.func54,Tryz.ntmps54
  go_wp2_with fail
  refine C.out.mono ?_
  rintro e w1 ⟨rfl,rfl⟩
  clear C
  go_wp2_with fail
  refine bodyPost_ret (v:=shV noShM) (by simp[results,Tryz.results54,go_sem,noShM]) rfl ?_
  exact⟨by rw[HV.out],by first | exact B0.out | exact (Below.refl _ w).alloc (Nat.le_refl _) _⟩
set_option maxHeartbeats 400000 in
theorem fails_told (e:Int) (w:World):Calls Tryz.prog 129 #[.int .i64 e] w fun r W'=>r=.returned (.tuple #[ansV ⟨e,0,false,0⟩,.nilFunc])∧Below w.heap.size w W':=by
 go_enter Tryz.func129,Tryz.ntmps129
 go_wp2_with fail
 refine bodyPost_ret (v:=.tuple #[ansV ⟨e,0,false,0⟩,.nilFunc]) (by simp[results,Tryz.results129,go_sem]) rfl ?_
 exact⟨rfl,(Below.refl _ w).alloc (Nat.le_refl _) _⟩
abbrev putsV (b:Nat):Value:=.func (.func 169) #[] #[.pointer (some ⟨b,0,none⟩),.pointer (some ⟨b+1,0,none⟩)]
structure Handed (W:World) (b:Nat) (i:Int) (x:ShM):Prop where
 b0:W.heap[b]? =some (.cells #[.int .i64 i] 3 (0,0))
 b1:W.heap[b+1]? =some (.cells #[rowV x.p x.c x.T,.int .i64 (x.n:Nat)] 92 (0,0))
theorem Handed.cells {W:World} {b:Nat} {i:Int} {x:ShM} (h:Handed W b i x):W.cell? ⟨b,0,none⟩=some (.int .i64 i)∧W.cell? ⟨b+1,0,none⟩=some (rowV x.p x.c x.T)∧W.cell? ⟨b+1,1,none⟩=some (.int .i64 (x.n:Nat)):=by
 have h0:=h.b0
 have h2:=box2_cells h.b1
 exact⟨by simp[World.cell?,h0],h2.1,h2.2.1⟩
theorem Handed.kept {W W':World} {b:Nat} {i:Int} {x:ShM} (h:Handed W b i x) (hb:Below W.heap.size W W'):Handed W' b i x:=
 ⟨(hb.block b (heap_lt h.b0)).trans h.b0,(hb.block (b+1) (heap_lt h.b1)).trans h.b1⟩
theorem Handed.turned {W W':World} {b g:Nat} {i:Int} {x:ShM} (h:Handed W b i x) (ht:Turned (· =g) W W') (h0:b≠g) (h1:b+1≠g):Handed W' b i x:=
 ⟨(ht.rest b (heap_lt h.b0) h0).trans h.b0,(ht.rest (b+1) (heap_lt h.b1) h1).trans h.b1⟩
theorem Handed.apart {W:World} {b g:Nat} {i:Int} {x:ShM} {cs:Array Value} (h:Handed W b i x) (hg:W.heap[g]? =some (.cells cs 39 (0,0))):b≠g∧b+1≠g:=by
 refine⟨fun e=>?_,fun e=>?_⟩
 ·have:=h.b0; rw[e,hg] at this; cases this
 ·have:=h.b1; rw[e,hg] at this; cases this
theorem new_handed (w:World) (i:Int) (x:ShM):let W:=(w.alloc (.cells #[.int .i64 i] 3)).alloc (.cells #[rowV x.p x.c x.T,.int .i64 (x.n:Nat)] 92)
 Handed W w.heap.size i x∧Below w.heap.size w W:=by
 have b1:Below w.heap.size w (w.alloc (.cells #[.int .i64 i] 3)):=(Below.refl _ w).alloc (Nat.le_refl _) _
 have h1:=World.alloc_heap_new w (.cells #[.int .i64 i] 3)
 have s1:=World.size_alloc w (.cells #[.int .i64 i] 3)
 generalize w.alloc (.cells #[.int .i64 i] 3)=W1 at *
 have b2:Below W1.heap.size W1 (W1.alloc (.cells #[rowV x.p x.c x.T,.int .i64 (x.n:Nat)] 92)):=(Below.refl _ W1).alloc (Nat.le_refl _) _
 have h2:=World.alloc_heap_new W1 (.cells #[rowV x.p x.c x.T,.int .i64 (x.n:Nat)] 92)
 rw[s1] at h2
 exact⟨⟨(b2.block w.heap.size (by omega)).trans h1,h2⟩,below2 b1 b2⟩
set_option maxHeartbeats 400000 in
theorem puts_told (i:Int) (x:ShM) (w:World):Calls Tryz.prog 132 #[.int .i64 i,shV x] w fun e W'=>e=.returned (putsV w.heap.size)∧Handed W' w.heap.size i x∧Below w.heap.size w W':=by
 have N:=Lib.hid (new_handed w i x)
 go_enter Tryz.func132,Tryz.ntmps132
 go_wp2_with fail
 go_ret
 exact⟨rfl,N.out.1,N.out.2⟩
set_option maxHeartbeats 1000000 in
theorem puts1_told (b:Nat) (k:Nat) (x:ShM) (w:World) (h:Lay w f idle pa pc P sc m) (hk:k<m.length) (hx:x.Good w) (hH:Handed w b (k:Nat) x):
 Calls Tryz.prog 169 #[f.v,.pointer (some ⟨b,0,none⟩),.pointer (some ⟨b+1,0,none⟩)] w fun e W'=>e=.returned (.tuple #[])∧Lay W' f idle pa pc P sc (m.set k x)∧Turned f.has w W':=by
 have C:=Lib.hid (has_told (k:Nat) w h)
 rw[show isB m.length (k:Nat)=true from decide_eq_true (by omega)] at C
 obtain⟨⟨-,-,c2⟩,-⟩:=h.cells
 obtain⟨⟨c3,c4⟩,fr⟩:=h.shard hk
 have f3:=fr (k * 2)
 have f4:=fr (k * 2+1)
 have hl:=h.row.len
 have hmx:=hl.2
 unfold maxLen at hmx
 obtain⟨q0,q1,q2⟩:=hH.cells
 clear hH
 have HP:=Lib.hid (h.put hk hx)
 have HT:=Lib.hid (putW_turned w f k x)
 unfold putW at HP HT
 clear h hx fr
 go_enter Tryz.func169,Tryz.ntmps169
 go_wp2_with fail
 refine C.out.mono ?_
 rintro e w1 ⟨rfl,rfl⟩
 clear C
 go_wp2_with fail
 go_region
 go_end0
 exact⟨rfl,HP.out.kept (Below.refl _ _).drew,HT.out.trans (.of_below (Below.refl _ _).drew)⟩
abbrev updV (b:Nat):Value:=.func (.func 133) #[] #[.pointer (some ⟨b,0,none⟩)]
set_option maxHeartbeats 400000 in
theorem update1_told (b:Nat) (pa':Option Addr) (pc':Nat) (P':List Bk) (w:World) (h:Lay w f idle pa pc P sc m) (hp:Pol.Lies w pa' pc' P') (hl:P'.length≤32) (hb:w.cell? ⟨b,0,none⟩=some (polV pa' pc' P')):
 Calls Tryz.prog 133 #[f.v,.pointer (some ⟨b,0,none⟩)] w fun e W'=>e=.returned (.tuple #[])∧Lay W' f idle pa' pc' P' sc m∧Turned f.has w W':=by
 obtain⟨⟨-,c1,-⟩,-,f1,-⟩:=h.cells
 have HP:=Lib.hid (h.pools hp hl)
 clear h hp
 go_enter Tryz.func133,Tryz.ntmps133
 go_wp2_with fail
 go_end0
 exact⟨rfl,HP.out.1,HP.out.2⟩
set_option maxHeartbeats 400000 in
theorem stats1_told (f:Foot) (w:World):Calls Tryz.prog 135 #[f.v] w fun e W'=>e=.returned (.tuple #[])∧W'=w:=by
 go_enter Tryz.func135,Tryz.ntmps135
 go_wp2_with fail
 go_end0
 exact⟨rfl,rfl⟩
end
set_option maxHeartbeats 400000 in
theorem live_told (a:Option Addr) (cap:Nat) (T:List Tab.Ent) (w:World) (hT:Lies entK w a cap T):Calls Tryz.prog 134 #[rowV a cap T] w fun e W'=>e=.returned (.int .i64 (Tab.count 1 T:Nat))∧Below w.heap.size w W':=by
 have C:=Lib.hid (Prb.Count_told a cap T 1 w hT)
 clear hT
 generalize Tab.count 1 T=n at *
 go_enter Tryz.func134,Tryz.ntmps134
 go_wp2_with fail
 refine C.out.mono ?_
 rintro e w1 ⟨rfl,hb⟩
 have B:=Lib.hid hb
 clear hb C
 go_wp2_with fail
 go_ret
 exact⟨rfl,B.out⟩
end Go.Proofs.YtbamodkgagcmnaaGreat.Mdl
set_option maxRecDepth 100000
namespace Go.Proofs.YtbamodkgagcmnaaGreat.Prb
open Go.RowKit Go.Shelf RowG Tab
set_option maxHeartbeats 400000 in
theorem refHome_any (k:ByteArray) (n:Int) (w:World) (hk:k.size≤4611686018427387904) (hn:(Lit.int .i64 n).wf=true):
 Calls Tryz.prog 98 #[.string k,.int .i64 n] w fun e W'=>e=.returned (.int .i64 (homeZ k n))∧w=W':=by
 have hr: -9223372036854775808≤n∧n≤9223372036854775807:=by simpa [Lit.wf,IntKind.min,IntKind.max,IntKind.signed,IntKind.bits] using hn
 go_enter Tryz.func98,Tryz.ntmps98
 by_cases h1:n<1
 ·have d1:decide (n<1)=true:=by simpa using h1
  go_wp2_with fail
  go_ret
  exact⟨by rw[homeZ_low k h1]; rfl,rfl⟩
 ·have d1:decide (n<1)=false:=by simpa using h1
  obtain⟨m,rfl⟩:=Int.eq_ofNat_of_zero_le (show 0≤n by omega)
  have hm0:0<m:=by omega
  have HH:=Lib.hid (homeZ_nat k hm0)
  unfold home at HH
  obtain⟨e2,e3⟩:=sum_mod (Fnv.jn 14695981039346656037 k.data.toList) m hm0 (by omega)
  have E3:=Lib.hid e3
  clear e3
  have hne:(m:Int)≠0:=by omega
  go_wp2_with fail
  refine (Fnv.refSum_any k _ hk).mono ?_
  rintro e w1 ⟨rfl,rfl⟩
  go_wp2_with fail
  go_ret
  exact⟨by rw[HH.out,← E3.out]; rfl,rfl⟩
set_option maxRecDepth 100000 in
set_option maxHeartbeats 4000000 in
theorem refSame_any (a:Option Addr) (cap:Nat) (bs:List Ent) (a':Option Addr) (cap':Nat) (bs':List Ent) (c:Bool) (hc:bs=bs'↔c=true) (w:World) (h:Lies entK w a cap bs) (h':Lies entK w a' cap' bs'):
 Calls Tryz.prog 21 #[rowV a cap bs,rowV a' cap' bs'] w fun e W'=>e=.returned (.bool c)∧Below w.heap.size w W':=by
 have H:=Lib.hid h
 have H':=Lib.hid h'
 have HC:=Lib.hid hc
 have hlen:=h.len
 have hmax:=h.max
 have hlen':=h'.len
 have hmax':=h'.max
 unfold maxLen at hmax hmax'
 clear h h' hc
 by_cases hL:bs.length=bs'.length
 ·have e0:((bs.length:Int) != (bs'.length:Int))=false:=by simp[hL]
  have HL:=Lib.hid hL
  clear hL
  go_enter Tryz.func21,Tryz.ntmps21
  go_wp2
  go_loopw [5] (fun i W=>∃ k:Nat,k≤bs.length∧i=.int .i64 k∧(∀ j,j<k→bs[j]? =bs'[j]?)∧Below w.heap.size w W) (fun i _=>bs.length - (intOf i).toNat)
  case atStart=>exact⟨0,Nat.zero_le _,rfl,fun j hj=>absurd hj (by omega),Below.refl _ _⟩
  case round=>
   obtain⟨k,hk,rfl,hno,hB⟩:=hrel
   have HN:=Lib.hid hno
   have HB:=Lib.hid hB
   clear hno hB
   by_cases hlt:k<bs.length
   ·obtain⟨b,off,rfl,c0,c1,c2,c3⟩:=(H.out.kept HB.out).ent hlt
    have hlt':k<bs'.length:=HL.out ▸ hlt
    obtain⟨b',off',rfl,c0',c1',c2',c3'⟩:=(H'.out.kept HB.out).ent hlt'
    have HI:=Lib.hid (show bs[k]? =some bs[k] from List.getElem?_eq_getElem hlt)
    have HI':=Lib.hid (show bs'[k]? =some bs'[k] from List.getElem?_eq_getElem hlt')
    generalize bs[k]=x at *
    generalize bs'[k]=y at *
    by_cases hx:x=y
    ·have CC:=ent_cmp x y true (by simp[hx])
     have HE:=Lib.hid (show bs[k]? =bs'[k]? by rw[HI.out,HI'.out,hx])
     clear hx
     go_wp2_with fail
     go_quiet (fail)
     have HB2:=Lib.hid (below_drewN HB.out nq)
     go_wp2
     refine⟨⟨k+1,by omega,by go_num,fun j hj=>?_,HB2.out⟩,by simp[intOf]; omega⟩
     by_cases e:j=k
     ·subst e; exact HE.out
     ·exact HN.out j (by omega)
    ·have CC:=ent_cmp x y false (by simp[hx])
     have HF:=Lib.hid (show c=false by
      cases c with
      | false=>rfl
      | true=>
        have e:=HC.out.2 rfl
        have h1:=HI.out
        rw[e,HI'.out] at h1
        cases h1; exact absurd rfl hx)
     clear hx
     go_wp2_with fail
     go_quiet (fail)
     have HB2:=Lib.hid (below_drewN HB.out nq)
     go_wp2
     go_ret
     exact⟨by rw[HF.out]; rfl,HB2.out⟩
   ·have HF:=Lib.hid (HC.out.1 (by
     apply List.ext_getElem?
     intro j
     by_cases hj:j<bs.length
     ·exact HN.out j (by omega)
     ·rw[List.getElem?_eq_none (by omega),List.getElem?_eq_none (by rw[← HL.out]; omega)]))
    go_wp2
    go_ret
    exact⟨by rw[HF.out]; rfl,HB.out⟩
 ·have e0:((bs.length:Int) != (bs'.length:Int))=true:=bne_iff_ne.2 (by omega)
  have HF:=Lib.hid (show c=false by
   cases c with
   | false=>rfl
   | true=>exact absurd (congrArg List.length (HC.out.2 rfl)) hL)
  clear hL
  go_enter Tryz.func21,Tryz.ntmps21
  go_wp2
  go_ret
  exact⟨by rw[HF.out]; rfl,Below.refl _ _⟩
set_option maxRecDepth 100000 in
set_option maxHeartbeats 1000000 in
theorem refCount_any (a:Option Addr) (cap:Nat) (T:List Ent) (s:Int) (w:World) (hT:Lies entK w a cap T):
 Calls Tryz.prog 51 #[rowV a cap T,.int .i64 s] w fun e W'=>e=.returned (.int .i64 (count s T:Nat))∧w=W':=by
 have hmx:=hT.max
 have hln:=hT.len
 unfold maxLen at hmx
 have H:=Lib.hid hT
 clear hT
 go_enter Tryz.func51,Tryz.ntmps51
 go_wp2
 go_loop [5,6] (fun v i=>∃ j:Nat,j≤T.length∧i=.int .i64 j∧v=.int .i64 (count s (T.take j):Nat)) (fun _ i=>T.length - (intOf i).toNat)
 case atStart=>exact⟨0,Nat.zero_le _,rfl,rfl⟩
 case round=>
  obtain⟨j,hj,rfl,rfl⟩:=hrel
  by_cases hlt:j<T.length
  ·obtain⟨b,off,rfl,c0,c1,c2,c3⟩:=H.out.ent hlt
   have HK:=Lib.hid (count_take (s:=s) hlt)
   have hcl:count s (T.take j)≤j:=Nat.le_trans (count_le _ _) (by rw[List.length_take]; omega)
   generalize count s (T.take j)=q at *
   generalize T[j]=x at *
   by_cases hx:x.st=s
   ·have d1:(x.st == s)=true:=by simpa using hx
    have HK2:=Lib.hid (HK.out.trans (by rw[if_pos d1]))
    clear HK hx
    go_wp2_with fail
    exact⟨⟨j+1,by omega,by go_num,by rw[HK2.out]; go_num⟩,by simp[intOf]; omega⟩
   ·have d1:(x.st == s)=false:=by simpa using hx
    have HK2:=Lib.hid (HK.out.trans (by rw[if_neg (by rw[d1]; simp)]))
    clear HK hx
    go_wp2_with fail
    exact⟨⟨j+1,by omega,by go_num,by rw[HK2.out]; go_num⟩,by simp[intOf]; omega⟩
  ·have hj':j=T.length:=by omega
   have HJ:=Lib.hid (show count s (T.take j)=count s T by rw[hj',List.take_length])
   clear hj'
   go_wp2
   go_ret
   exact⟨by rw[← HJ.out]; rfl,rfl⟩
def few (T:List Ent):Prop:=T.length≤80∧∀ x ∈ T,x.key.size≤60
instance (T:List Ent):Decidable (few T):=inferInstanceAs (Decidable (_∧_))
set_option maxRecDepth 100000 in
set_option maxHeartbeats 1000000 in
theorem refFew_any (a:Option Addr) (cap:Nat) (T:List Ent) (w:World) (hT:Lies entK w a cap T) (hk:∀ x ∈ T,EntOk x):
 Calls Tryz.prog 23 #[rowV a cap T] w fun e W'=>e=.returned (.bool (decide (few T)))∧w=W':=by
 have hmx:=hT.max
 have hln:=hT.len
 unfold maxLen at hmx
 have H:=Lib.hid hT
 clear hT
 go_enter Tryz.func23,Tryz.ntmps23
 by_cases h80:T.length≤80
 ·have d0:decide ((80:Int)<(T.length:Int))=false:=by simp; omega
  go_wp2
  go_loop [3] (fun i=>∃ j:Nat,j≤T.length∧i=.int .i64 j∧∀ x ∈ T.take j,x.key.size≤60) (fun i=>T.length - (intOf i).toNat)
  case atStart=>exact⟨0,Nat.zero_le _,rfl,fun x hx=>by simp at hx⟩
  case round=>
   obtain⟨j,hj,rfl,hno⟩:=hrel
   have HN:=Lib.hid hno
   clear hno
   by_cases hlt:j<T.length
   ·obtain⟨b,off,rfl,c0,c1,c2,c3⟩:=H.out.ent hlt
    have hz:=(hk _ (List.getElem_mem hlt)).key
    unfold maxLen at hz
    have HI:=Lib.hid (List.take_succ_eq_append_getElem hlt)
    have HM:=Lib.hid (List.getElem_mem hlt)
    generalize T[j]=x at *
    by_cases h60:x.key.size≤60
    ·have d1:decide ((60:Int)<(x.key.size:Int))=false:=by simp; omega
     go_wp2_with fail
     refine⟨⟨j+1,by omega,by go_num,fun y hy=>?_⟩,by simp[intOf]; omega⟩
     rw[HI.out,List.mem_append] at hy
     rcases hy with hy | hy
     ·exact HN.out y hy
     ·simp at hy; subst hy; exact h60
    ·have d1:decide ((60:Int)<(x.key.size:Int))=true:=by simp; omega
     have HF:=Lib.hid (show decide (few T)=false from decide_eq_false fun h=>h60 (h.2 _ HM.out))
     clear h60
     go_wp2_with fail
     go_ret
     exact⟨by rw[HF.out]; rfl,rfl⟩
   ·have HF:=Lib.hid (show decide (few T)=true from decide_eq_true ⟨h80,fun x hx=>HN.out x (by rw[List.take_of_length_le (by omega)]; exact hx)⟩)
    go_wp2
    go_ret
    exact⟨by rw[HF.out]; rfl,rfl⟩
 ·have d0:decide ((80:Int)<(T.length:Int))=true:=by simp; omega
  have HF:=Lib.hid (show decide (few T)=false from decide_eq_false fun h=>h80 h.1)
  clear h80
  go_wp2
  go_ret
  exact⟨by rw[HF.out]; rfl,rfl⟩
end Go.Proofs.YtbamodkgagcmnaaGreat.Prb
namespace Go.Proofs.YtbamodkgagcmnaaGreat.Prb
open Go.RowKit Go.Shelf RowG Tab
def firsts (T:List Ent) (j:Nat):List (Fin T.length):=(List.finRange T.length).take j
theorem firsts_all (T:List Ent) {j:Nat} (hj:T.length≤j):firsts T j=List.finRange T.length:=List.take_of_length_le (by simpa using hj)
theorem firsts_succ (T:List Ent) {j:Nat} (hj:j<T.length):firsts T (j+1)=firsts T j ++ [⟨j,hj⟩]:=finTake_succ hj
theorem firsts_part (T:List Ent) (j:Nat):∃ l,firsts T j ++ l=List.finRange T.length:=⟨_,List.take_append_drop _ _⟩
theorem mod_at (h i n:Nat) (hs:h+i≤9223372036854775807):IntKind.i64.wrap ((h:Int)+(i:Int))=(h:Int)+(i:Int)∧((h:Int)+(i:Int)).tmod (n:Int)=(((h+i) % n:Nat):Int):=by
 refine⟨IntWalk.i64_in _ (by omega),?_⟩
 rw[Int.tmod_eq_emod_of_nonneg (by omega),← Int.natCast_add,← Int.natCast_emod]
set_option maxRecDepth 100000 in
set_option maxHeartbeats 1000000 in
theorem refFind_any (a:Option Addr) (cap:Nat) (T:List Ent) (k:ByteArray) (w:World) (hT:Lies entK w a cap T) (hk:k.size≤4611686018427387904) (hTl:T.length≤4611686018427387904):
 Calls Tryz.prog 59 #[rowV a cap T,.string k] w fun e W'=>e=.returned (.int .i64 (zOf (find home T k)))∧w=W':=by
 have H:=Lib.hid hT
 clear hT
 go_enter Tryz.func59,Tryz.ntmps59
 go_wp2_with fail
 refine (refHome_any k (T.length:Nat) _ hk (by simp[Lit.wf,IntKind.min,IntKind.max,IntKind.signed,IntKind.bits]; omega)).mono ?_
 rintro e w1 ⟨rfl,rfl⟩
 go_wp2
 obtain⟨q0,hq0,hz0⟩:∃ q:Nat,homeZ k (T.length:Nat)=(q:Int)∧(0<T.length→q=home k T.length):=by
  by_cases hn:0<T.length
  ·exact⟨home k T.length,homeZ_nat k hn,fun _=>rfl⟩
  ·exact⟨0,homeZ_low k (by omega),fun h=>absurd h hn⟩
 rw[hq0]
 clear hq0
 go_loop [6] (fun i=>∃ j:Nat,j≤T.length∧i=.int .i64 j∧Passed T k (firsts T j)) (fun i=>T.length - (intOf i).toNat)
 case atStart=>exact⟨0,Nat.zero_le _,rfl,passed_nil⟩
 case round=>
  obtain⟨j,hj,rfl,hP⟩:=hrel
  by_cases hlt:j<T.length
  ·have hn:0<T.length:=by omega
   obtain rfl:=hz0 hn
   have hhl:=home_lt k hn
   have hql:=pl_lt T k j hn
   have M0:=Lib.hid (fun h0=>hP.empty (x:=⟨j,hlt⟩) h0)
   have M1:=Lib.hid (fun h1=>hP.hit (x:=⟨j,hlt⟩) h1)
   have M2:=Lib.hid (fun h0 h1=>hP.more (x:=⟨j,hlt⟩) h0 h1)
   have HS:=Lib.hid (firsts_succ T hlt)
   obtain⟨e1,e2⟩:=mod_at (home k T.length) j T.length (by omega)
   have e2':((home k T.length:Int)+(j:Int)).tmod (T.length:Int)=((pl T k j:Nat):Int):=e2
   have hne:(T.length:Int)≠0:=by omega
   obtain⟨b,off,rfl,c0,c1,c2,c3⟩:=H.out.ent hql
   rw[← ent_at hql] at c0 c1 c2 c3
   have HP:=Lib.hid (firsts_part T (j+1))
   clear hP hz0 e2
   generalize pl T k j=q at *
   generalize ent T q=e at *
   generalize home k T.length=h at *
   by_cases s0:e.st=0
   ·have d0:(e.st == 0)=true:=by simpa using s0
    have HF:=Lib.hid (Told.find (HS.out ▸ M0.out s0) HP.out)
    clear M0 M1 M2 HS HP
    go_wp2_with fail
    go_ret
    exact⟨by rw[HF.out]; rfl,rfl⟩
   ·have d0:(e.st == 0)=false:=by simpa using s0
    by_cases s1:e.st=1
    ·have d1:(e.st == 1)=true:=by simpa using s1
     by_cases s2:e.key=k
     ·have d2:(e.key.toList == k.toList)=true:=by rw[text_cmp]; exact decide_eq_true s2
      have HF:=Lib.hid (Told.find (HS.out ▸ M1.out ⟨s1,s2⟩) HP.out)
      clear M0 M1 M2 HS HP s0 s1 s2
      go_wp2_with fail
      go_ret
      exact⟨by rw[HF.out]; rfl,rfl⟩
     ·have d2:(e.key.toList == k.toList)=false:=by rw[text_cmp]; exact decide_eq_false s2
      have MM:=Lib.hid (M2.out s0 (fun h=>s2 h.2))
      clear M0 M1 M2 HP s0 s1 s2
      go_wp2_with fail
      exact⟨⟨j+1,by omega,by go_num,by rw[HS.out]; exact MM.out⟩,by simp[intOf]; omega⟩
    ·have d1:(e.st == 1)=false:=by simpa using s1
     have MM:=Lib.hid (M2.out s0 (fun h=>s1 h.1))
     clear M0 M1 M2 HP s0 s1
     go_wp2_with fail
     exact⟨⟨j+1,by omega,by go_num,by rw[HS.out]; exact MM.out⟩,by simp[intOf]; omega⟩
  ·have hj':=firsts_all T (show T.length≤j by omega)
   rw[hj'] at hP
   have HF:=Lib.hid hP.find
   clear hj' hP
   go_wp2
   go_ret
   exact⟨by rw[HF.out]; rfl,rfl⟩
set_option maxRecDepth 100000 in
set_option maxHeartbeats 1000000 in
theorem refRoom_any (a:Option Addr) (cap:Nat) (T:List Ent) (k:ByteArray) (w:World) (hT:Lies entK w a cap T) (hk:k.size≤4611686018427387904) (hTl:T.length≤4611686018427387904):
 Calls Tryz.prog 102 #[rowV a cap T,.string k] w fun e W'=>e=.returned (.int .i64 (zOf (room home T k)))∧w=W':=by
 have C:=Lib.hid (refFind_any a cap T k w hT hk hTl)
 have H:=Lib.hid hT
 clear hT
 go_enter Tryz.func102,Tryz.ntmps102
 go_wp2_with fail
 refine C.out.mono ?_
 rintro e w1 ⟨rfl,rfl⟩
 cases hf:Tab.find home T k with
 | some q=>
   have d1:decide (0≤zOf (some q))=true:=by simp[zOf]
   have HF:=Lib.hid (room_found hf)
   clear hf
   go_wp2_with fail
   go_ret
   exact⟨by rw[HF.out]; rfl,rfl⟩
 | none=>
   have d1:decide (0≤zOf none)=false:=by simp[zOf]
   have HFN:=Lib.hid hf
   clear hf
   go_wp2_with fail
   refine (refHome_any k (T.length:Nat) _ hk (by simp[Lit.wf,IntKind.min,IntKind.max,IntKind.signed,IntKind.bits]; omega)).mono ?_
   rintro e w1 ⟨rfl,rfl⟩
   go_wp2
   obtain⟨q0,hq0,hz0⟩:∃ q:Nat,homeZ k (T.length:Nat)=(q:Int)∧(0<T.length→q=home k T.length):=by
    by_cases hn:0<T.length
    ·exact⟨home k T.length,homeZ_nat k hn,fun _=>rfl⟩
    ·exact⟨0,homeZ_low k (by omega),fun h=>absurd h hn⟩
   rw[hq0]
   clear hq0
   go_loop [6] (fun i=>∃ j:Nat,j≤T.length∧i=.int .i64 j∧Full T k (firsts T j)) (fun i=>T.length - (intOf i).toNat)
   case atStart=>exact⟨0,Nat.zero_le _,rfl,full_nil⟩
   case round=>
    obtain⟨j,hj,rfl,hP⟩:=hrel
    by_cases hlt:j<T.length
    ·have hn:0<T.length:=by omega
     obtain rfl:=hz0 hn
     have hhl:=home_lt k hn
     have hql:=pl_lt T k j hn
     have M0:=Lib.hid (fun h0=>hP.free (x:=⟨j,hlt⟩) h0)
     have M1:=Lib.hid (fun h1=>hP.more (x:=⟨j,hlt⟩) h1)
     have HS:=Lib.hid (firsts_succ T hlt)
     obtain⟨e1,e2⟩:=mod_at (home k T.length) j T.length (by omega)
     have e2':((home k T.length:Int)+(j:Int)).tmod (T.length:Int)=((pl T k j:Nat):Int):=e2
     have hne:(T.length:Int)≠0:=by omega
     obtain⟨b,off,rfl,c0,c1,c2,c3⟩:=H.out.ent hql
     rw[← ent_at hql] at c0 c1 c2 c3
     have HP:=Lib.hid (firsts_part T (j+1))
     clear hP hz0 e2
     generalize pl T k j=q at *
     generalize ent T q=e at *
     generalize home k T.length=h at *
     by_cases s1:e.st=1
     ·have d2:(e.st != 1)=false:=by simpa using s1
      have MM:=Lib.hid (M1.out s1)
      clear M0 M1 HP s1
      go_wp2_with fail
      exact⟨⟨j+1,by omega,by go_num,by rw[HS.out]; exact MM.out⟩,by simp[intOf]; omega⟩
     ·have d2:(e.st != 1)=true:=by simpa using s1
      have HF:=Lib.hid (ToldR.room (HS.out ▸ M0.out s1) HP.out HFN.out)
      clear M0 M1 HS HP s1
      go_wp2_with fail
      go_ret
      exact⟨by rw[HF.out]; rfl,rfl⟩
    ·have hj':=firsts_all T (show T.length≤j by omega)
     rw[hj'] at hP
     have HF:=Lib.hid (hP.room HFN.out)
     clear hj' hP
     go_wp2
     go_ret
     exact⟨by rw[HF.out]; rfl,rfl⟩
end Go.Proofs.YtbamodkgagcmnaaGreat.Prb
