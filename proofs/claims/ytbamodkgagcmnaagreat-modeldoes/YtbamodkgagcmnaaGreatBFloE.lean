/-
  Package flows: what a table is, as a value; slices.Clone; New; live and the function that live hands back, as contracts.
-/
import Derived.Test.YtbamodkgagcmnaaGreatBPrfE
import Derived.Test.YtbamodkgagcmnaaGreatBTabE
import Derived.Lib.SliceRun
set_option maxRecDepth 100000
namespace Go.Proofs.YtbamodkgagcmnaaGreat.Flo
open Go.RowKit Go.Shelf RowG Tab Prb
attribute [local go_sem] Oper.semAt_some
def Gives (W:World) (v:Value) (T:List Ent):Prop:=∃ a cap,v=rowV a cap T∧Lies entK W a cap T
theorem Gives.kept {W W':World} {v:Value} {T:List Ent} (h:Gives W v T) (hb:Below W.heap.size W W'):Gives W' v T:=by
 obtain⟨a,cap,e,hl⟩:=h
 exact⟨a,cap,e,hl.kept hb⟩
theorem eql_nil (a:Option Addr) (n c n' c':Nat) (w:World):(binOp .eql 50 (.slice a n c) (.slice none n' c')).run Tryz.prog w=.ok (.bool a.isNone) w:=Lib.run_eql_slice_nil w _ _ a n c n' c' Tryz.underlying50
theorem Lies.addr {W:World} {p:Addr} {cap:Nat} {T:List Ent} (h:Lies entK W (some p) cap T) (hn:T≠[]):∃ b off,p=⟨b,off,none⟩:=by
 obtain⟨b,off,e,_⟩:=h.cell hn
 cases e; exact⟨b,off,rfl⟩
set_option maxHeartbeats 1000000 in
theorem Clone_any (a:Option Addr) (cap:Nat) (T:List Ent) (w:World) (h:Lies entK w a cap T) (hl:T.length≤3518437208883):
 Calls Tryz.prog 56 #[rowV a cap T] w fun e W'=>∃ v,e=.returned v∧RowG.Own entK 66 w.heap.size W' v T∧Below w.heap.size w W':=by
 have H:=Lib.hid h
 clear h
 have q22:=eql_nil
 cases a with
 | none=>
   have e:T=[]:=by
    cases T with
    | nil=>rfl
    | cons x T=>obtain⟨b,off,e,_⟩:=H.out.cell (by simp); cases e
   subst e
   go_enter Tryz.func56,Tryz.ntmps56
   go_wp2
   go_ret
   exact⟨_,rfl,own_nil _ _,Below.refl _ _⟩
 | some p=>
   obtain⟨i0,hi,hz0,hz1,hz2⟩:=info_parts Ste.info_ent
   have HC:=Lib.hid (show ∀ j u,(flat entK T)[j]? =some u→w.cell? (p.add j)=some u from fun j u hj=>by
    have hn:T≠[]:=fun e=>by subst e; simp[flat] at hj
    obtain⟨b,off,rfl⟩:=Lies.addr H.out hn
    rw[Addr.add_lit]
    exact flat_lies H.out j u hj)
   go_enter Tryz.func56,Tryz.ntmps56
   go_wp2_with (at_builtin; refine wpList_append_own _ rfl _ _ 50 rfl w.heap.size 66 i0 (.agg Ste.zeroC) 4 40 Tryz.underlying50 hi hz0 hz1 hz2 rfl (by decide) _ _ _ rfl (World.ownsRow_made w #[] 0 (Nat.le_refl _) (Nat.zero_le _) (by simp)) p T.length cap (flat entK T) rfl ?qc1 ?qc2 ?qc3 ?qc4 ?qc5 ?qc6 ?_)
   case qc1=>exact flat_length T
   case qc2=>intro j u hj; exact Lib.cell?_alloc_some _ (HC.out j u hj)
   case qc3=>exact flat_one T
   case qc4=>unfold maxLen; omega
   case qc5=>omega
   case qc6=>simp
   intro v' w1 hown hgrow hnil
   have HO:=Lib.hid hown
   have HG:=Lib.hid hgrow
   clear hown hgrow hnil
   go_wp2
   go_ret
   refine⟨_,rfl,?_,?_⟩
   ·have:=HO.out
    show w1.ownsRow w.heap.size 66 4 v' T.length (flat entK T)
    simpa using this
   ·exact ((Below.refl _ w).alloc (Nat.le_refl _) _).grown HG.out (by simp) (by intro k hk; simp[Value.ownBlock] at hk; omega)
def size (n:Int):Nat:=(min (max n 0) 64).toNat
theorem size_low {n:Int} (h:n<0):size n=0:=by unfold size; omega
theorem size_high {n:Int} (h:64<n):size n=64:=by unfold size; omega
theorem size_in (n:Nat):size (n:Int)=min n 64:=by unfold size; omega
def Made (n:Nat) (w:World) (e:Ending) (W':World):Prop:=e=.returned (rowV (some ⟨w.heap.size,0,none⟩) n (new n))∧Row entK 66 W' w.heap.size n (new n)∧W'.heap.size=w.heap.size+1∧Below w.heap.size w W'
theorem made (n:Nat) (hn:n≤64) (w:World):Made n w (.returned (.slice (some ⟨w.heap.size,0,none⟩) n n)) (w.alloc (.cells (madeCells Ste.zeroC (n * 4)) 66)):=
 ⟨by simp[rowV,new],Ste.row_new w n (by unfold maxLen; omega),by simp,(Below.refl _ w).alloc (Nat.le_refl _) _⟩
set_option maxHeartbeats 400000 in
theorem New_told (n:Int) (w:World) (hn:(Lit.int .i64 n).wf=true):Calls Tryz.prog 43 #[.int .i64 n] w fun e W'=>Made (size n) w e W':=by
 have hr: -9223372036854775808≤n∧n≤9223372036854775807:=by simpa [Lit.wf,IntKind.min,IntKind.max,IntKind.signed,IntKind.bits] using hn
 clear hn
 go_enter Tryz.func43,Tryz.ntmps43
 by_cases h1:n<0
 ·have M:=Lib.hid (made 0 (by omega) w)
  have hmk:=Ste.run_new 0 (by omega) w
  simp only[Int.natCast_zero] at hmk
  rw[size_low h1]
  go_wp2_with fail
  all_goals first
   | omega
   | (go_ret; exact M.out)
 by_cases h2:64<n
 ·have M:=Lib.hid (made 64 (by omega) w)
  have hmk:=Ste.run_new 64 (by omega) w
  rw[show ((64:Nat):Int)=64 from rfl] at hmk
  rw[size_high h2]
  go_wp2_with fail
  all_goals first
   | omega
   | (go_ret; exact M.out)
 ·obtain⟨m,rfl⟩:=Int.eq_ofNat_of_zero_le (show 0≤n by omega)
  have M:=Lib.hid (made m (by omega) w)
  have hmk:=Ste.run_new m (by omega) w
  have hs:Hid (size (m:Int)=m):=Lib.hid (by rw[size_in]; omega)
  go_wp2_with fail
  all_goals first
   | omega
   | (go_ret; rw[hs.out]; exact M.out)
end Go.Proofs.YtbamodkgagcmnaaGreat.Flo
namespace Go.Proofs.YtbamodkgagcmnaaGreat.Flo
open Go.RowKit Go.Shelf RowG Tab Prb
attribute [local go_sem] Oper.semAt_some
set_option maxHeartbeats 400000 in
theorem live_told (v:Value) (hv:v.oneCell'=true) (w:World):
 Calls Tryz.prog 75 #[v] w fun e w'=>
  e=.returned (.func (.func 113) #[] #[.pointer (some ⟨w.heap.size,0,none⟩)])∧w'=w.alloc (.cells #[v] 50):=by
 go_enter Tryz.func75,Tryz.ntmps75
 go_wp2
 go_ret
 exact⟨rfl,rfl⟩
def KeepsIn (S:Nat→Prop) (W W':World):Prop:=∀ (a:Addr) (v:Value),S a.block→W.cell? a=some v→W'.cell? a=some v
theorem keepsIn_t {S:Nat→Prop} {A B C:World} (h:KeepsIn S A B) (k:KeepsIn S B C):KeepsIn S A C:=fun a v ha hv=>k a v ha (h a v ha hv)
theorem keepsIn_b {S:Nat→Prop} {w:World} (W:World) (l:Nat) (o o':Obj) (_:w.heap.size≤l) (h:W.heap[l]? =some o) (hc:o.isCells=false) (_:o.isWalk=false):KeepsIn S W (W.putObj l o'):=
 fun _ _ _ hv=>cell_kept hv (grownBy_putObj' W l o') (fun r e=>by cases e; exact⟨o,h,hc⟩)
theorem lies_in {α:Type} {K:Kind α} {W W':World} {a:Option Addr} {cap:Nat} {xs:List α} {S:Nat→Prop} (h:Lies K W a cap xs) (hk:KeepsIn S W W') (ha:∀ b off,a=some ⟨b,off,none⟩→xs≠[]→S b):Lies K W' a cap xs:=
 ⟨h.max,h.len,fun hn=>by
   obtain⟨b,off,e,hc⟩:=h.cell hn
   exact⟨b,off,e,fun i x hi j u hj=>hk _ _ (ha b off e hn) (hc i x hi j u hj)⟩⟩
theorem lies_below {W:World} {a:Option Addr} {cap:Nat} {T:List Ent} (h:Lies entK W a cap T):∀ b off,a=some ⟨b,off,none⟩→T≠[]→b<W.heap.size:=fun b off e hn=>by
 obtain⟨b',off',e',hc⟩:=h.cell hn
 rw[e] at e'; cases e'
 cases T with
 | nil=>exact absurd rfl hn
 | cons x T=>exact World.block_lt_of_cell? W ⟨b,off+0 * 4+0,none⟩ (hc 0 x rfl 0 _ rfl)
def lives (T:List Ent):List (Fin T.length):=(List.finRange T.length).filter fun i=>(ent T i.1).st == 1
def livesTo (T:List Ent) (j:Nat):List (Fin T.length):=((List.finRange T.length).take j).filter fun i=>(ent T i.1).st == 1
theorem livesTo_yes {T:List Ent} {j:Nat} (hj:j<T.length) (h:(ent T j).st=1):livesTo T (j+1)=livesTo T j ++ [⟨j,hj⟩]:=by
 unfold livesTo
 rw[finTake_succ hj,List.filter_append,List.filter_cons,if_pos (by simpa using h),List.filter_nil]
theorem livesTo_no {T:List Ent} {j:Nat} (hj:j<T.length) (h:(ent T j).st≠1):livesTo T (j+1)=livesTo T j:=by
 unfold livesTo
 rw[finTake_succ hj,List.filter_append,List.filter_cons,if_neg (by simpa using h),List.filter_nil,List.append_nil]
theorem livesTo_all {T:List Ent} {j:Nat} (hj:T.length≤j):livesTo T j=lives T:=by
 unfold livesTo lives
 rw[List.take_of_length_le (by simpa using hj)]
theorem livesTo_part (T:List Ent) (j:Nat):∃ l,livesTo T j ++ l=lives T:=by
 refine⟨((List.finRange T.length).drop j).filter fun i=>(ent T i.1).st == 1,?_⟩
 unfold livesTo lives
 rw[← List.filter_append,List.take_append_drop]
theorem livesTo_length (T:List Ent) {j:Nat} (hj:j≤T.length):(livesTo T j).length≤j:=Nat.le_trans (List.length_filter_le _ _) (by rw[finTake_length hj]; exact Nat.le_refl _)
def liveV (T:List Ent) (i:Fin T.length):Array Value:=#[.int .i64 (i.1:Nat),entV (ent T i.1)]
set_option maxRecDepth 100000 in
set_option maxHeartbeats 1000000 in
theorem live1_in (m:Nat) (hm:1≤m) (l Bt:Nat) (S:Nat→Prop) (a:Option Addr) (cap:Nat) (T:List Ent) (ha:∀ b off,a=some ⟨b,off,none⟩→T≠[]→S b)
 (J Jx:List (Fin T.length)→World→Prop) (W:World) (hJ:AbidesFrom W.heap.size J)
 (hY:∀ pre x W,J pre W→pre.length<T.length→YieldAt Fence.wide (m - 1) Tryz.prog l (liveV T x) W fun e W'=>
   (e=.returned (.bool true)∧J (pre ++ [x]) W'∧KeepsIn S W W')∨(e=.returned (.bool false)∧Jx (pre ++ [x]) W'))
 (hct:W.cell? ⟨Bt,0,none⟩=some (rowV a cap T)) (hT:Lies entK W a cap T) (h0:J [] W):
 CallsIn Fence.wide m Tryz.prog 113 #[.func (.yield l) #[] #[],.pointer (some ⟨Bt,0,none⟩)] W fun e W'=>(∃ v,e=.returned v)∧
  ((∃ ys,ys=lives T∧J ys W')∨(∃ pre:List (Fin T.length),(∃ l,pre ++ l=lives T)∧Jx pre W')):=by
 have h1:1≤m:=hm
 have hmx:=hT.max
 have hln:=hT.len
 unfold maxLen at hmx
 refine callsIn_of_wp Tryz.func113 rfl trivial ?_ rfl
 simp only[Tryz.ntmps113,List.size_toArray,List.length_cons,List.length_nil,Nat.reduceAdd,Nat.reduceSub,Array.replicate_succ,Array.replicate_zero,List.push_toArray,List.append_toArray,List.nil_append,List.cons_append]
 gi_wp2
 clear hct
 gi_loopw [7] (fun i wr=>∃ j:Nat,j≤T.length∧i=.int .i64 j∧J (livesTo T j) wr∧Lies entK wr a cap T)
  (fun i _=>T.length - (intOf i).toNat)
 case atStart=>exact⟨0,Nat.zero_le _,rfl,h0,hT⟩
 case round=>
  obtain⟨j,hj,rfl,hJs,hTx⟩:=hrel
  by_cases hlt:j<T.length
  ·obtain⟨b,off,hb,c0,c1,c2,c3⟩:=hTx.ent hlt
   rw[← ent_at hlt] at c0 c1 c2 c3
   have al:Below wr.heap.size wr (wr.alloc (.cells #[.int .i64 (ent T j).st,.string (ent T j).key,.int .i64 (ent T j).be,.int .i64 (ent T j).dl] 66)):=(Below.refl _ wr).alloc (Nat.le_refl _) _
   have HJ2:=Lib.hid (hJ _ _ _ none hJs (grown_none al) (fun r e=>by cases e))
   have HT2:=Lib.hid (hTx.kept al)
   by_cases s1:(ent T j).st=1
   ·have d1:((ent T j).st == 1)=true:=by simpa using s1
    obtain⟨fn,tmps,assign,body,hy,hR⟩:=hY _ ⟨j,hlt⟩ _ HJ2.out (Nat.lt_of_le_of_lt (livesTo_length T hj) hlt)
    unfold liveV at hy
    dsimp only at hy
    have HS:=Lib.hid (livesTo_yes hlt s1)
    have HP:=Lib.hid (livesTo_part T (j+1))
    subst hb
    clear hTx h0 hT hY al hJs s1 HJ2
    generalize ent T j=x at *
    gi_wp2
    refine hR.mono ?_
    clear hy hR hJ c0 c1 c2 c3
    rintro e W3 (⟨rfl,hJ3,hk3⟩ | ⟨rfl,hJx3⟩)
    ·have HT3:=Lib.hid (lies_in HT2.out hk3 ha)
     clear hk3 HT2
     gi_wp2
     go_roundw
     case rel=>exact⟨j+1,by omega,by simp,by rw[HS.out]; exact hJ3,HT3.out⟩
     case measure=>simp[intOf]; omega
    ·gi_wp2
     refine bodyPost_ret (results_none rfl _ _ _) rfl ?_
     exact⟨⟨_,rfl⟩,.inr ⟨_,by rw[← HS.out]; exact HP.out,hJx3⟩⟩
   ·have d1:((ent T j).st == 1)=false:=by simpa using s1
    have HS:=Lib.hid (livesTo_no hlt s1)
    subst hb
    clear hTx h0 hT hY al hJs s1 hJ
    generalize ent T j=x at *
    gi_wp2
    refine⟨fun f h=>(by exact absurd h (by simp)),?_⟩
    gi_wp2
    go_roundw
    case rel=>exact⟨j+1,by omega,by simp,by rw[HS.out]; exact HJ2.out,HT2.out⟩
    case measure=>simp[intOf]; omega
  ·have HA:=Lib.hid (livesTo_all (T:=T) (j:=j) (by omega))
   gi_wp2
   go_end0
   exact⟨⟨_,rfl⟩,.inl ⟨_,HA.out.symm ▸ rfl,HA.out ▸ hJs⟩⟩
theorem live_stops (m:Nat) (hm:1≤m) (Bt:Nat) (S:Nat→Prop) (a:Option Addr) (cap:Nat) (T:List Ent) (ha:∀ b off,a=some ⟨b,off,none⟩→T≠[]→S b) (w:World)
 (hBt:Bt<w.heap.size) (hct:w.cell? ⟨Bt,0,none⟩=some (rowV a cap T)) (hT:Lies entK w a cap T):
 SeqStopsK Fence.wide m Tryz.prog 113 #[.pointer (some ⟨Bt,0,none⟩)] (liveV T) (KeepsIn S) (fun ys=>ys=lives T) (fun pre=>∃ l,pre ++ l=lives T) T.length w:=fun l J Jx W hW hJ _ hY h0=>
 live1_in m hm l Bt S a cap T ha J Jx W hJ hY ((hW.cell (p:=⟨Bt,0,none⟩) hBt).trans hct) (hT.kept hW) h0
end Go.Proofs.YtbamodkgagcmnaaGreat.Flo
namespace Go.Proofs.YtbamodkgagcmnaaGreat.Flo
open Go.RowKit Go.Shelf RowG Tab Prb
def place (T:List Ent) (k:ByteArray):Option Nat:=match find home T k with
 | some q=>some q
 | none=>room home T k
theorem place_found {T:List Ent} {k:ByteArray} {q:Nat} (h:find home T k=some q):place T k=some q:=by unfold place; rw[h]
theorem place_room {T:List Ent} {k:ByteArray} (h:find home T k=none):place T k=room home T k:=by unfold place; rw[h]
theorem place_lt {T:List Ent} {k:ByteArray} {q:Nat} (h:place T k=some q):q<T.length:=by
 unfold place at h
 split at h
 ·rename_i hf; cases h; exact (find_some hf).1
 ·exact (room_some h).1
theorem find_lt {T:List Ent} {k:ByteArray} {q:Nat} (h:find home T k=some q):q<T.length:=(find_some h).1
def laid (T:List Ent) (x:Ent):Option Nat→List Ent
 | some q=>T.set q x
 | none=>T
theorem laid_length (T:List Ent) (x:Ent) (o:Option Nat):(laid T x o).length=T.length:=by cases o <;> simp[laid]
theorem put_laid (T:List Ent) (k:ByteArray) (b d:Int):(put home T k b d).getD T=laid T (live k b d) (place T k)∧(put home T k b d).isSome=(place T k).isSome:=by
 unfold put place laid
 cases find home T k with
 | some q=>exact⟨rfl,rfl⟩
 | none=>cases room home T k with
   | some q=>exact⟨rfl,rfl⟩
   | none=>exact⟨rfl,rfl⟩
abbrev ptr (B:Nat):Value:=.pointer (some ⟨B,0,none⟩)
theorem four_cells (w:World) (x:Ent):(w.alloc (.cells #[.int .i64 x.st,.string x.key,.int .i64 x.be,.int .i64 x.dl] 66)).cell? ⟨w.heap.size,0,none⟩=some (.int .i64 x.st)∧
 (w.alloc (.cells #[.int .i64 x.st,.string x.key,.int .i64 x.be,.int .i64 x.dl] 66)).cell? ⟨w.heap.size,1,none⟩=some (.string x.key)∧
 (w.alloc (.cells #[.int .i64 x.st,.string x.key,.int .i64 x.be,.int .i64 x.dl] 66)).cell? ⟨w.heap.size,2,none⟩=some (.int .i64 x.be)∧
 (w.alloc (.cells #[.int .i64 x.st,.string x.key,.int .i64 x.be,.int .i64 x.dl] 66)).cell? ⟨w.heap.size,3,none⟩=some (.int .i64 x.dl):=
 ⟨cell_many w _ _ 0 _ rfl,cell_many w _ _ 1 _ rfl,cell_many w _ _ 2 _ rfl,cell_many w _ _ 3 _ rfl⟩
theorem put4_grown (W:World) (g i:Nat) (x:Ent):W.grownBy (put4 W g i x) (some g):=
 ⟨rfl,rfl,rfl,by unfold put4; simp,fun k _ hk=>by
   have hk':k≠g:=fun e=>hk (by rw[e])
   unfold put4
   rw[heap_setCell_other _ _ _ _ hk',heap_setCell_other _ _ _ _ hk',heap_setCell_other _ _ _ _ hk',heap_setCell_other _ _ _ _ hk']⟩
theorem grown_wide {W W':World} (h:W.grownBy W' none) (r:Option Nat):W.grownBy W' r:=⟨h.os,h.tape,h.output,h.size,fun k hk _=>h.block k hk (by simp)⟩
theorem grown_trans {A B C:World} {r:Option Nat} (h:A.grownBy B r) (k:B.grownBy C r):A.grownBy C r:=
 ⟨k.os.trans h.os,k.tape.trans h.tape,k.output.trans h.output,Nat.le_trans h.size k.size,fun j hj hr=>(k.block j (Nat.lt_of_lt_of_le hj h.size) hr).trans (h.block j hj hr)⟩
set_option maxHeartbeats 1000000 in
theorem put1_told (Bc Be:Nat) (a:Option Addr) (cap:Nat) (T:List Ent) (k:ByteArray) (w:World) (hc:w.cell? ⟨Bc,0,none⟩=some (rowV a cap T)) (he:w.cell? ⟨Be,1,none⟩=some (.string k)) (hT:Lies entK w a cap T) (hk:k.size≤4611686018427387904):
 Calls Tryz.prog 146 #[ptr Bc,ptr Be] w fun e W'=>e=.returned (.tuple #[.int .i64 (zOf (place T k)),.bool (place T k).isSome])∧Below w.heap.size w W':=by
 have F:=Lib.hid (Find_told a cap T k w hT hk)
 have RR:=Lib.hid (fun W (hb:Below w.heap.size w W)=>Room_told a cap T k W (hT.kept hb) hk)
 have hBc:=World.block_lt_of_cell? w _ hc
 have hBe:=World.block_lt_of_cell? w _ he
 clear hT
 go_enter Tryz.func146,Tryz.ntmps146
 go_wp2_with fail
 refine F.out.mono ?_
 rintro e w1 ⟨rfl,hb⟩
 have hc1:=(hb.cell (p:=⟨Bc,0,none⟩) hBc).trans hc
 have he1:=(hb.cell (p:=⟨Be,1,none⟩) hBe).trans he
 have HB:=Lib.hid hb
 clear hb hc he F
 cases hf:find home T k with
 | some q=>
   rw[show zOf (some q)=(q:Int) from rfl]
   have HP:=Lib.hid (place_found hf)
   have d0:decide ((q:Int)<0)=false:=decide_eq_false (by omega)
   have d1:decide (0≤(q:Int))=true:=decide_eq_true (by omega)
   clear hf RR
   go_wp2_with fail
   refine bodyPost_ret (v:=.tuple #[.int .i64 (q:Int),.bool true]) (by simp[results,Tryz.results146,go_sem]) rfl ?_
   exact⟨by rw[HP.out]; rfl,HB.out⟩
 | none=>
   rw[show zOf none= -1 from rfl]
   have HP:=Lib.hid (place_room hf)
   clear hf
   go_wp2_with fail
   refine (RR.out _ HB.out).mono ?_
   rintro e w2 ⟨rfl,hb2⟩
   have HB2:=Lib.hid (below2 HB.out hb2)
   clear hb2 HB RR
   cases hr:room home T k with
   | some q=>
     rw[show zOf (some q)=(q:Int) from rfl]
     have HP:=Lib.hid (HP.out.trans hr)
     have d1:decide (0≤(q:Int))=true:=decide_eq_true (by omega)
     clear hr
     go_wp2_with fail
     refine bodyPost_ret (v:=.tuple #[.int .i64 (q:Int),.bool true]) (by simp[results,Tryz.results146,go_sem]) rfl ?_
     exact⟨by rw[HP.out]; rfl,HB2.out⟩
   | none=>
     rw[show zOf none= -1 from rfl]
     have HP:=Lib.hid (HP.out.trans hr)
     clear hr
     go_wp2_with fail
     refine bodyPost_ret (v:=.tuple #[.int .i64 (-1),.bool false]) (by simp[results,Tryz.results146,go_sem]) rfl ?_
     exact⟨by rw[HP.out]; rfl,HB2.out⟩
set_option maxRecDepth 100000 in
set_option maxHeartbeats 400000 in
theorem lay_put (B Bc Be:Nat) (v:Value) (T:List Ent) (k:ByteArray) (x:Ent) (w:World) (hO:RowG.Own entK 66 B w v T) (hc:w.cell? ⟨Bc,0,none⟩=some v) (he:w.cell? ⟨Be,1,none⟩=some (.string k)) (hk:k.size≤4611686018427387904):
 Calls Tryz.prog 142 #[v,entV x,.func (.func 146) #[] #[ptr Bc,ptr Be]] w fun e W'=>e=.returned (.bool (place T k).isSome)∧RowG.Own entK 66 B W' v (laid T x (place T k))∧w.grownBy W' v.ownBlock:=by
 have al:Below w.heap.size w (w.alloc (.cells #[.int .i64 x.st,.string x.key,.int .i64 x.be,.int .i64 x.dl] 66)):=(Below.refl _ w).alloc (Nat.le_refl _) _
 have x4:=four_cells w x
 have hc1:=(al.cell (p:=⟨Bc,0,none⟩) (World.block_lt_of_cell? w _ hc)).trans hc
 have he1:=(al.cell (p:=⟨Be,1,none⟩) (World.block_lt_of_cell? w _ he)).trans he
 have O1:=Lib.hid (hO.kept al)
 have hsz:=World.size_alloc w (.cells #[.int .i64 x.st,.string x.key,.int .i64 x.be,.int .i64 x.dl] 66)
 obtain⟨a,cap,rfl,hl⟩:=O1.out.lies
 have C:=Lib.hid (put1_told Bc Be a cap T k _ hc1 he1 hl hk)
 have AL:=Lib.hid al
 have HO:=Lib.hid hO
 have HP:=Lib.hid (show ∀ q,place T k=some q→q<T.length from fun q h=>place_lt h)
 clear hl hc he hc1 he1 al hO
 go_enter Tryz.func142,Tryz.ntmps142
 go_wp2_with fail
 generalize w.alloc (.cells #[.int .i64 x.st,.string x.key,.int .i64 x.be,.int .i64 x.dl] 66)=w1 at *
 refine C.out.mono ?_
 rintro e w2 ⟨rfl,hb⟩
 obtain⟨x0,x1,x2,x3⟩:=x4
 have y0:=(hb.cell (p:=⟨w.heap.size,0,none⟩) (by show w.heap.size<w1.heap.size; omega)).trans x0
 have y1:=(hb.cell (p:=⟨w.heap.size,1,none⟩) (by show w.heap.size<w1.heap.size; omega)).trans x1
 have y2:=(hb.cell (p:=⟨w.heap.size,2,none⟩) (by show w.heap.size<w1.heap.size; omega)).trans x2
 have y3:=(hb.cell (p:=⟨w.heap.size,3,none⟩) (by show w.heap.size<w1.heap.size; omega)).trans x3
 have O2:=Lib.hid (O1.out.kept hb)
 have G2:=Lib.hid (grown_none (below2 AL.out hb))
 have hz2:=hb.size
 clear hb x0 x1 x2 x3 O1 C AL
 cases hp:place T k with
 | none=>
   rw[show zOf none= -1 from rfl,show (none:Option Nat).isSome=false from rfl]
   have HH:=Lib.hid hp
   clear hp HP
   go_wp2_with fail
   go_ret
   exact⟨by rw[HH.out]; rfl,by rw[HH.out]; exact O2.out,grown_wide G2.out _⟩
 | some q=>
   rw[show zOf (some q)=(q:Int) from rfl,show (some q).isSome=true from rfl]
   have hq:=HP.out q hp
   have HH:=Lib.hid hp
   clear hp HP
   obtain⟨g,cap',hv,hg,R⟩:=O2.out.row (fun e=>by rw[e] at hq; exact absurd hq (by simp))
   have hv':a=some ⟨g,0,none⟩∧cap=cap':=by cases hv; exact⟨rfl,rfl⟩
   obtain⟨rfl,rfl⟩:=hv'
   clear hv
   have hln:=R.len
   unfold maxLen at hln
   have hgw:g<w.heap.size:=by
    have:=World.ownsRow.lt HO.out g rfl
    omega
   obtain⟨z0,z1,z2,z3⟩:=R.ent hq
   have f0:=R.free (q * 4)
   have f1:=R.free (q * 4+1)
   have f2:=R.free (q * 4+2)
   have f3:=R.free (q * 4+3)
   have RR:=Lib.hid (R.put4 hq x)
   have GG:=Lib.hid (grown_trans (grown_wide G2.out _) (put4_grown w2 g q x))
   have hlen:rowV (some ⟨g,0,none⟩) cap (T.set q x)=rowV (some ⟨g,0,none⟩) cap T:=by simp[rowV]
   have HL:=Lib.hid hlen
   clear hlen R O2 G2 HO
   generalize T[q]=y at *
   have hne:g≠w.heap.size:=by omega
   go_wp2_with fail
   go_ret
   refine⟨by rw[HH.out]; rfl,?_,GG.out⟩
   rw[HH.out]
   have:=RR.out.own (B:=B) hg
   rw[HL.out] at this
   exact this
end Go.Proofs.YtbamodkgagcmnaaGreat.Flo
namespace Go.Proofs.YtbamodkgagcmnaaGreat.Flo
open Go.RowKit Go.Shelf RowG Tab Prb
set_option maxHeartbeats 200000 in
theorem put_told (B:Nat) (v:Value) (T:List Ent) (x:Ent) (w:World) (hO:RowG.Own entK 66 B w v T) (hk:x.key.size≤4611686018427387904):
 Calls Tryz.prog 97 #[v,entV x] w fun e W'=>e=.returned (.bool (place T x.key).isSome)∧RowG.Own entK 66 B W' v (laid T x (place T x.key))∧w.grownBy W' v.ownBlock:=by
 obtain⟨a,cap,rfl,-⟩:=hO.lies
 have b1:Below w.heap.size w (w.alloc (.cells #[rowV a cap T] 153)):=(Below.refl _ w).alloc (Nat.le_refl _) _
 have hs1:=World.size_alloc w (.cells #[rowV a cap T] 153)
 have c0:=(Fnv.cell_new_o w (rowV a cap T) 153).1
 have x4:=four_cells (w.alloc (.cells #[rowV a cap T] 153)) x
 have b2:Below (w.alloc (.cells #[rowV a cap T] 153)).heap.size (w.alloc (.cells #[rowV a cap T] 153)) ((w.alloc (.cells #[rowV a cap T] 153)).alloc (.cells #[.int .i64 x.st,.string x.key,.int .i64 x.be,.int .i64 x.dl] 66)):=(Below.refl _ _).alloc (Nat.le_refl _) _
 have c1:=(b2.cell (p:=⟨w.heap.size,0,none⟩) (by show w.heap.size<(w.alloc _).heap.size; omega)).trans c0
 have O2:=(hO.kept b1).kept b2
 rw[hs1] at x4
 have C:=Lib.hid (lay_put B w.heap.size (w.heap.size+1) (rowV a cap T) T x.key x _ O2 c1 x4.2.1 hk)
 have G:=Lib.hid (grown_wide (grown_none (below2 b1 b2)) (rowV a cap T).ownBlock)
 obtain⟨x0,x1,x2,x3⟩:=x4
 clear c0 b1 b2 O2 hO
 go_enter Tryz.func97,Tryz.ntmps97
 go_wp2_with fail
 refine C.out.mono ?_
 rintro e w2 ⟨rfl,hO2,hg⟩
 have HO:=Lib.hid hO2
 have HG:=Lib.hid (grown_trans G.out hg)
 clear hO2 hg
 go_wp2_with fail
 go_ret
 exact⟨rfl,HO.out,HG.out⟩
end Go.Proofs.YtbamodkgagcmnaaGreat.Flo
namespace Go.Proofs.YtbamodkgagcmnaaGreat.Flo
open Go.RowKit Go.Shelf RowG Tab Prb
attribute [local go_sem] Oper.semAt_some
def putT (T:List Ent) (k:ByteArray) (b d:Int):List Ent:=laid T (live k b d) (place T k)
def putE (T:List Ent) (k:ByteArray):Int:=if (place T k).isSome then 0 else 12
theorem grown_below {B:Nat} {w W W':World} {r:Option Nat} (h:Below B w W) (hg:W.grownBy W' r) (hB:B≤W.heap.size) (hr:∀ k,r=some k→B≤k):Below B w W':=h.grown hg hB hr
set_option maxHeartbeats 400000 in
theorem Put_own (a:Option Addr) (cap:Nat) (T:List Ent) (k:ByteArray) (b d:Int) (w:World) (hT:Lies entK w a cap T) (hk:k.size≤4611686018427387904) (hl:T.length≤3518437208883):
 Calls Tryz.prog 58 #[rowV a cap T,.string k,.int .i64 b,.int .i64 d] w fun e W'=>∃ v,e=.returned (.tuple #[v,.int .i64 (putE T k)])∧RowG.Own entK 66 w.heap.size W' v (putT T k b d)∧Below w.heap.size w W':=by
 have C:=Lib.hid (Clone_any a cap T w hT hl)
 clear hT
 go_enter Tryz.func58,Tryz.ntmps58
 go_wp2_with fail
 refine C.out.mono ?_
 rintro e w1 ⟨v,rfl,hO,hb⟩
 have P:=Lib.hid (put_told w.heap.size v T (live k b d) w1 hO hk)
 have HB:=Lib.hid hb
 have HS:=Lib.hid hb.size
 have HR:=Lib.hid (fun k e=>(World.ownsRow.lt hO k e).1)
 obtain⟨a',cap',rfl,-⟩:=hO.lies
 clear hb hO C
 go_wp2_with fail
 refine P.out.mono ?_
 rintro e w2 ⟨rfl,hO2,hg⟩
 have HG:=Lib.hid (HB.out.grown hg HS.out HR.out)
 have HL:=Lib.hid (show RowG.Own entK 66 w.heap.size w2 (rowV a' cap' T) (putT T k b d) from hO2)
 clear hO2 hg P HB HS HR
 cases hp:(place T k).isSome with
 | true=>
   have HP:=Lib.hid hp
   have d0:(place T (live k b d).key).isSome=true:=hp
   clear hp
   go_wp2_with fail
   refine bodyPost_ret (v:=.tuple #[rowV a' cap' T,.int .i64 0]) (by simp[results,Tryz.results58,go_sem]) rfl ?_
   exact⟨_,by unfold putE; rw[HP.out]; rfl,HL.out,HG.out⟩
 | false=>
   have HP:=Lib.hid hp
   have d0:(place T (live k b d).key).isSome=false:=hp
   clear hp
   go_wp2_with fail
   refine bodyPost_ret (v:=.tuple #[rowV a' cap' T,.int .i64 12]) (by simp[results,Tryz.results58,go_sem]) rfl ?_
   exact⟨_,by unfold putE; rw[HP.out]; rfl,HL.out,HG.out⟩
theorem Put_told (a:Option Addr) (cap:Nat) (T:List Ent) (k:ByteArray) (b d:Int) (w:World) (hT:Lies entK w a cap T) (hk:k.size≤4611686018427387904) (hl:T.length≤3518437208883):
 Calls Tryz.prog 58 #[rowV a cap T,.string k,.int .i64 b,.int .i64 d] w fun e W'=>∃ v,e=.returned (.tuple #[v,.int .i64 (putE T k)])∧Gives W' v (putT T k b d)∧Below w.heap.size w W':=
 (Put_own a cap T k b d w hT hk hl).mono fun _ _ ⟨v,he,ho,hb⟩=>⟨v,he,ho.lies,hb⟩
end Go.Proofs.YtbamodkgagcmnaaGreat.Flo
namespace Go.Proofs.YtbamodkgagcmnaaGreat.Flo
open Go.RowKit Go.Shelf RowG Tab Prb
attribute [local go_sem] Oper.semAt_some
def more (U:List Ent) (e:Ent):List Ent:=laid U e (place U e.key)
theorem more_length (U:List Ent) (e:Ent):(more U e).length=U.length:=laid_length _ _ _
def filled (T:List Ent) (pre:List (Fin T.length)):List Ent:=pre.foldl (fun U i=>more U (ent T i.1)) (new (min T.length 64))
theorem filled_snoc (T:List Ent) (pre:List (Fin T.length)) (x:Fin T.length):filled T (pre ++ [x])=more (filled T pre) (ent T x.1):=by simp[filled]
theorem filled_length (T:List Ent) (pre:List (Fin T.length)):(filled T pre).length=min T.length 64:=by
 have key:∀ (l:List (Fin T.length)) (U:List Ent),(l.foldl (fun U i=>more U (ent T i.1)) U).length=U.length:=by
  intro l
  induction l with
  | nil=>intro U; rfl
  | cons i l ih=>intro U; rw[List.foldl_cons,ih,more_length]
 unfold filled
 rw[key]; simp[new]
def tidyC (T:List Ent):List Ent:=filled T (lives T)
theorem tidyC_length (T:List Ent):(tidyC T).length=min T.length 64:=filled_length _ _
theorem lives_ents (T:List Ent):(lives T).map (fun i=>ent T i.1)=T.filter fun e=>e.st == 1:=by
 have hT:T=(List.finRange T.length).map (fun i=>ent T i.1):=by
  apply List.ext_getElem?
  intro i
  by_cases h:i<T.length
  ·rw[List.getElem?_eq_getElem h,List.getElem?_eq_getElem (by simpa using h)]
   simp[ent_at h]
  ·rw[List.getElem?_eq_none (by omega),List.getElem?_eq_none (by simpa using h)]
 conv=>rhs; rw[hT]
 unfold lives
 rw[List.filter_map]
 rfl
theorem more_put {U:List Ent} {e:Ent} (h:e.st=1):more U e=(put home U e.key e.be e.dl).getD U:=by
 rw[(put_laid U e.key e.be e.dl).1,live_of h]; rfl
theorem tidyC_tidy {T:List Ent} (h:T.length≤64):tidyC T=Tab.tidy home T:=by
 unfold tidyC filled Tab.tidy fill
 rw[Nat.min_eq_left h,← lives_ents,List.foldl_map]
 have key:∀ (l:List (Fin T.length)) (U:List Ent),(∀ i ∈ l,(ent T i.1).st=1)→l.foldl (fun U i=>more U (ent T i.1)) U=l.foldl (fun U i=>(put home U (ent T i.1).key (ent T i.1).be (ent T i.1).dl).getD U) U:=by
  intro l
  induction l with
  | nil=>intro U _; rfl
  | cons i l ih=>
    intro U hl
    rw[List.foldl_cons,List.foldl_cons,more_put (hl i (by simp)),ih _ (fun j hj=>hl j (by simp[hj]))]
 refine key _ _ fun i hi=>?_
 unfold lives at hi
 rw[List.mem_filter] at hi
 simpa using hi.2
def settleC (T:List Ent):List Ent:=if T.length<2 * count 2 T then tidyC T else T
def delT (T:List Ent) (k:ByteArray):List Ent:=match find home T k with
 | some q=>settleC (T.set q tomb)
 | none=>T
theorem laid_keys {T:List Ent} {x:Ent} {o:Option Nat} {n:Nat} (h:∀ y ∈ T,y.key.size≤n) (hx:x.key.size≤n):∀ y ∈ laid T x o,y.key.size≤n:=by
 intro y hy
 cases o with
 | none=>exact h y hy
 | some q=>
   rcases List.mem_or_eq_of_mem_set hy with hy | rfl
   ·exact h y hy
   ·exact hx
theorem two_cells (w:World) (v u:Value) (t t':TypeId):((w.alloc (.cells #[v] t)).alloc (.cells #[u] t')).cell? ⟨w.heap.size,0,none⟩=some v∧((w.alloc (.cells #[v] t)).alloc (.cells #[u] t')).cell? ⟨w.heap.size+1,0,none⟩=some u:=by
 have c0:=Fnv.cell_new_o w v t
 have c1:=Fnv.cell_new_o (w.alloc (.cells #[v] t)) u t'
 simp only[World.size_alloc] at c1
 exact⟨Fnv.cell_alloc_o _ c0.1,c1.1⟩
theorem ownFrom_own {α:Type} {β:Type} {K:Kind α} {Ty:TypeId} {B n:Nat} {v:Value} (f:β→List α):OwnFrom B (fun s W=>RowG.Own K Ty n W v (f s)):=fun s X Y row h hg hr=>by
 refine World.ownsRow.kept h hg ?_
 cases row with
 | none=>cases v.ownBlock <;> simp
 | some r=>
   obtain⟨_,o,hob,hc⟩:=hr r rfl
   exact own_ne h hob (fun cur e=>by subst e; cases hc)
set_option maxRecDepth 100000 in
set_option maxHeartbeats 1000000 in
theorem Tidy_in (m:Nat) (hm:5≤m) (a:Option Addr) (cap:Nat) (T:List Ent) (w:World) (hT:Lies entK w a cap T) (hk:∀ x ∈ T,x.key.size≤4611686018427387904):
 CallsIn Fence.wide m Tryz.prog 96 #[rowV a cap T] w fun e W'=>∃ v,e=.returned v∧Gives W' v (tidyC T)∧Below w.heap.size w W':=by
 have h1:1≤m:=by omega
 have hlow:=lies_below hT
 have hmx:=hT.max
 have hln:=hT.len
 unfold maxLen at hmx
 have N:=Lib.hid (New_told (T.length:Int) w (by simp[Lit.wf,IntKind.min,IntKind.max,IntKind.signed,IntKind.bits]; omega))
 rw[size_in] at N
 refine callsIn_of_wp_marks Tryz.func96 rfl trivial ?_ rfl
 simp only[Tryz.ntmps96,List.size_toArray,List.length_cons,List.length_nil,Nat.reduceAdd,Nat.reduceSub,Array.replicate_succ,Array.replicate_zero,List.push_toArray,List.append_toArray,List.nil_append,List.cons_append]
 gi_wp2_with fail
 refine⟨trivial,?_⟩
 gi_at_call 43
 refine (callsIn_wide.2 N.out).mono ?_
 rintro e w1 ⟨rfl,R,hs1,b1⟩
 have hV:rowV (some ⟨w.heap.size,0,none⟩) (min T.length 64) (new (min T.length 64))=.slice (some ⟨w.heap.size,0,none⟩) (min T.length 64) (min T.length 64):=by simp[rowV,new]
 have O1:=Lib.hid (hV ▸ R.own (B:=w.heap.size) (Nat.le_refl _))
 rw[hV]
 have HF:=Lib.hid (show filled T []=new (min T.length 64) from rfl)
 have HL:=Lib.hid (fun pre=>filled_length T pre)
 clear R N hV
 generalize min T.length 64=n at *
 gi_wp2_with fail
 refine⟨trivial,?_⟩
 gi_at_call 75
 refine (callsIn_wide.2 (live_told _ rfl _)).mono ?_
 rintro e w' ⟨rfl,rfl⟩
 gi_wp2
 obtain⟨k1,k2⟩:=two_cells w1 (.slice (some ⟨w.heap.size,0,none⟩) n n) (rowV a cap T) 153 50
 have bb:Below w1.heap.size w1 ((w1.alloc (.cells #[.slice (some ⟨w.heap.size,0,none⟩) n n] 153)).alloc (.cells #[rowV a cap T] 50)):=((Below.refl _ w1).alloc (Nat.le_refl _) _).alloc (by simp) _
 have hB0:=below2 b1 bb
 have hT0:=hT.kept hB0
 have O2:=Lib.hid (O1.out.kept bb)
 generalize hW0:((w1.alloc (.cells #[.slice (some ⟨w.heap.size,0,none⟩) n n] 153)).alloc (.cells #[rowV a cap T] 50))=W0 at *
 have hsz:W0.heap.size=w.heap.size+3:=by rw[← hW0]; simp; omega
 have HS:=Lib.hid hsz
 rw[hs1] at k1 k2
 clear hW0 bb b1 O1
 refine wpIn_rangeFunc_ownH rfl h1 (gf:=113) (lb:=#[.pointer (some ⟨w.heap.size+1+1,0,none⟩)]) rfl trivial (enters_of Tryz.func113 (by kernel_rfl) rfl)
  (live_stops (m - 1) (by omega) (w.heap.size+1+1) (fun b=>b<w.heap.size) a cap T hlow W0 (by omega) k2 hT0) keepsIn_t keepsIn_b (Below.refl _ _) (fun _=>rfl)
  (fun pre W=>(W.cell? ⟨w.heap.size+1,0,none⟩=some (.slice (some ⟨w.heap.size,0,none⟩) n n)∧RowG.Own entK 66 w.heap.size W (.slice (some ⟨w.heap.size,0,none⟩) n n) (filled T pre))∧Below w.heap.size w W)
  (fun _ _ _=>False)
  (OwnFrom.and (OwnFrom.and (Own.from (fun s A B row hs hg hr=>cell_kept hs hg hr) _) (ownFrom_own (filled T))) (ownFrom_below (Nat.le_refl _) (by omega)))
  (fun c s A B row h _ _=>h)
  ⟨⟨k1,by rw[HF.out]; exact O2.out⟩,hB0⟩
  (fun x a' W=>∃ g,a'= { tmps:=#[rowV a cap T,undef,.slice none 0 0,.pointer (some ⟨w.heap.size+1,0,none⟩),undef,.pointer (some ⟨g,0,none⟩),rowV a cap T,.int .i64 (T.length:Int),.slice (some ⟨w.heap.size,0,none⟩) n n,rowV a cap T,.func (.func 113) #[] #[.pointer (some ⟨w.heap.size+1+1,0,none⟩)],.int .i64 (x.1:Nat),entV (ent T x.1),undef,undef,undef,undef],defers:=[] }∧W.cell? ⟨g,0,none⟩=some (.int .i64 (ent T x.1).st)∧W.cell? ⟨g,1,none⟩=some (.string (ent T x.1).key)∧W.cell? ⟨g,2,none⟩=some (.int .i64 (ent T x.1).be)∧W.cell? ⟨g,3,none⟩=some (.int .i64 (ent T x.1).dl))
  (fun x a'=>Own.from (fun s A B row hs hg hr=>by obtain⟨g,h1,h2,h3,h4,h5⟩:=hs; exact⟨g,h1,cell_kept h2 hg hr,cell_kept h3 hg hr,cell_kept h4 hg hr,cell_kept h5 hg hr⟩) _) ?assign ?body ?done ?stop
 case assign=>
  rintro l pre x W K ⟨⟨i1,i2⟩,hB⟩ hK
  simp only[liveV]
  have HI2:=Lib.hid (World.ownsRow.kept i2 (World.grownBy_alloc W (.cells #[.int .i64 (ent T x.1).st,.string (ent T x.1).key,.int .i64 (ent T x.1).be,.int .i64 (ent T x.1).dl] 66) none) (.inr (by simp[Value.ownBlock])))
  clear k1 k2 hB0 hT0 O2 HF i2 HL
  gi_wp2
  exact hK _ _ ((KeepsOthers.alloc _ _).from _) (fun b v _ hv=>Fnv.cell_alloc_o _ hv) ⟨⟨Fnv.cell_alloc_o _ i1,HI2.out⟩,hB.alloc hB.size _⟩ ⟨_,rfl,four_cells W _⟩
 case body=>
  rintro l pre x a' W _ _ ⟨⟨i1,i2⟩,hB⟩ ⟨g,rfl,g0,g1,g2,g3⟩ _
  have hkx:(ent T x.1).key.size≤4611686018427387904:=by rw[ent_at x.2]; exact hk _ (List.getElem_mem x.2)
  have P:=Lib.hid (put_told w.heap.size _ (filled T pre) (ent T x.1) W i2 hkx)
  have HB:=Lib.hid hB
  have HM:=Lib.hid (filled_snoc T pre x)
  clear k1 k2 hB0 hT0 O2 HF i2 HL hB hkx hk hT
  generalize ent T x.1=y at *
  gi_wp2_with fail
  refine⟨trivial,fun _=>by omega,?_⟩
  refine (CallsIn.inRound l (callsIn_wide.2 P.out)).mono ?_
  rintro e W2 ⟨rfl,hO,hg⟩
  have i1':W2.cell? ⟨w.heap.size+1,0,none⟩=some (.slice (some ⟨w.heap.size,0,none⟩) n n):=hg.cell i1 (by simp[Value.ownBlock])
  have B2:=Lib.hid (HB.out.grown hg HB.out.size (fun k e=>by simp[Value.ownBlock] at e; omega))
  have KO:=Lib.hid (show KeepsFrom W0.heap.size W W2 from KeepsFrom.of_grownBy hg (fun j e=>by simp[Value.ownBlock] at e; omega))
  have KI:=Lib.hid (show KeepsIn (fun b=>b<w.heap.size) W W2 from fun p v hp hv=>hg.cell hv (by have:p.block<w.heap.size:=hp; simp[Value.ownBlock]; omega))
  have HO:=Lib.hid (show RowG.Own entK 66 w.heap.size W2 (.slice (some ⟨w.heap.size,0,none⟩) n n) (filled T (pre ++ [x])) by rw[HM.out]; exact hO)
  clear hO hg HB P HM
  gi_wp2
  exact⟨KO.out,KI.out,⟨i1',HO.out⟩,B2.out⟩
 case done=>
  rintro D ys W hD rfl ⟨⟨i1,i2⟩,hB⟩ hK
  have O5:RowG.Own entK 66 w.heap.size (W.putObj D (.deferred none)) (.slice (some ⟨w.heap.size,0,none⟩) n n) (tidyC T):=World.ownsRow.kept i2 (grownBy_putObj' W D (.deferred none)) (own_ne i2 hK (fun cur e=>by cases e))
  have GL:=Lib.hid (show Gives _ _ _ from O5.lies)
  clear O5
  gi_wp2
  refine⟨by simp,.inl ⟨_,_,rfl,run_takeDeferred hK,?_⟩⟩
  exact⟨_,results_tmp rfl _ _ _,.slice (some ⟨w.heap.size,0,none⟩) n n,rfl,GL.out,hB.trans (belowK_b (w:=w) (Nat.le_refl _) _ D _ _ (by omega) hK rfl rfl)⟩
 case stop=>
  rintro D c pre W hD hpre h hK
  exact h.elim
theorem Tidy_told (a:Option Addr) (cap:Nat) (T:List Ent) (w:World) (hT:Lies entK w a cap T) (hk:∀ x ∈ T,x.key.size≤4611686018427387904):
 Calls Tryz.prog 96 #[rowV a cap T] w fun e W'=>∃ v,e=.returned v∧Gives W' v (tidyC T)∧Below w.heap.size w W':=
 callsIn_wide.1 (Tidy_in 5 (Nat.le_refl _) a cap T w hT hk)
end Go.Proofs.YtbamodkgagcmnaaGreat.Flo
