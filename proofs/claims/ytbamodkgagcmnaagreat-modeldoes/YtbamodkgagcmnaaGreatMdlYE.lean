/-
  Law 17's few (package gangplanklaw17), and the document's Few (package gangplankref17).
-/
import Derived.Test.YtbamodkgagcmnaaGreatMdlOE
import Derived.Test.YtbamodkgagcmnaaGreatCelRE
import Derived.WalkMore
import Derived.OwnWalk
import Derived.Lib.SliceRun
set_option maxRecDepth 100000
namespace Go.Proofs.YtbamodkgagcmnaaGreat.Mdl
open Go.RowKit Go.Shelf Go.WideShapes RowG
open Mdo
open Go.Proofs.YtbamodkgagcmnaaGreat.Mod (Cfg cfgV smallB)
attribute [local go_sem] Oper.semAt_some
def fewL (L:List StM):Prop:=L.length≤12∧∀ x ∈ L,x.pkt.size≤100∧x.pool.length≤8
instance (L:List StM):Decidable (fewL L):=inferInstanceAs (Decidable (_∧_))
theorem lies_op {W:World} {a:Option Addr} {cap:Nat} {T:List StM} (h:Lies opK W a cap T) {k:Nat} (hk:k<T.length):
 ∃ b off,a=some ⟨b,off,none⟩∧W.cell? ⟨b,off+k * 4,none⟩=some (.int .i64 T[k].kd)∧W.cell? ⟨b,off+k * 4+1,none⟩=some (.string T[k].pkt)∧W.cell? ⟨b,off+k * 4+2,none⟩=some (.slice T[k].p T[k].pool.length T[k].c)∧W.cell? ⟨b,off+k * 4+3,none⟩=some (.int .i64 T[k].sh):=by
 obtain⟨b,off,e,hc⟩:=h.at hk
 exact⟨b,off,e,hc 0 _ rfl,hc 1 _ rfl,hc 2 _ rfl,hc 3 _ rfl⟩
theorem lies_st {W:World} {a:Option Addr} {cap:Nat} {T:List StM} (h:Lies stK W a cap T) {k:Nat} (hk:k<T.length):
 ∃ b off,a=some ⟨b,off,none⟩∧W.cell? ⟨b,off+k * 5,none⟩=some (.int .i64 T[k].kd)∧W.cell? ⟨b,off+k * 5+1,none⟩=some (.string T[k].pkt)∧W.cell? ⟨b,off+k * 5+2,none⟩=some (.slice T[k].p T[k].pool.length T[k].c)∧W.cell? ⟨b,off+k * 5+3,none⟩=some (.int .i64 T[k].sh)∧W.cell? ⟨b,off+k * 5+4,none⟩=some (.int .i64 T[k].now):=by
 obtain⟨b,off,e,hc⟩:=h.at hk
 exact⟨b,off,e,hc 0 _ rfl,hc 1 _ rfl,hc 2 _ rfl,hc 3 _ rfl,hc 4 _ rfl⟩
theorem few_take {L:List StM}:decide (fewL (L.take (min L.length 13)))=decide (fewL L):=by
 by_cases h:L.length≤13
 ·rw[Nat.min_eq_left h,List.take_length]
 ·rw[decide_eq_false (p:=fewL L) (fun e=>by have:=e.1; omega),decide_eq_false]
  intro e
  have:=e.1
  rw[List.length_take] at this; omega
set_option maxHeartbeats 800000 in
theorem refFew_any (a:Option Addr) (cap:Nat) (T:List StM) (w:World) (h:Lies opK w a cap T) (hp:∀ x ∈ T,x.pkt.size≤maxLen):
 Calls Tryz.prog 42 #[rowV a cap T,.int .i64 12] w fun e W'=>e=.returned (.bool (decide (fewL T)))∧W'=w:=by
 have H:=Lib.hid h
 have HP:=Lib.hid hp
 have hcap:=h.max
 have hlc:=h.len
 unfold maxLen at hcap
 clear h hp
 by_cases h0:12<T.length
 ·have d0:decide ((12:Int)<(T.length:Int))=true:=decide_eq_true (by omega)
  have d1:decide (12<T.length)=true:=decide_eq_true h0
  have HF:=Lib.hid (show decide (fewL T)=false from decide_eq_false fun h=>by have:=h.1; omega)
  go_enter Tryz.func42,Tryz.ntmps42
  go_wp2_with fail
  go_ret
  exact⟨by rw[HF.out]; rfl,rfl⟩
 have d0:decide ((12:Int)<(T.length:Int))=false:=decide_eq_false (by omega)
 have d1:decide (12<T.length)=false:=decide_eq_false h0
 go_enter Tryz.func42,Tryz.ntmps42
 go_wp2_with fail
 go_loopw [5] (fun i W=>W=w∧∃ k:Nat,k≤T.length∧i=.int .i64 k∧∀ j (hj:j<T.length),j<k→T[j].pkt.size≤100∧T[j].pool.length≤8) (fun i _=>T.length - (intOf i).toNat)
 case atStart=>exact⟨rfl,0,Nat.zero_le _,rfl,fun j _ hj=>by omega⟩
 case round=>
  obtain⟨rfl,k,hk,rfl,hall⟩:=hrel
  have HA:=Lib.hid hall
  clear hall
  by_cases hlt:k<T.length
  ·obtain⟨b,off,rfl,q0,q1,q2,q3⟩:=lies_op H.out hlt
   have hpl:=HP.out _ (List.getElem_mem hlt)
   unfold maxLen at hpl
   by_cases g0:100<T[k].pkt.size
   ·have e0:decide ((100:Int)<(T[k].pkt.size:Int))=true:=decide_eq_true (by omega)
    have e1:decide (100<T[k].pkt.size)=true:=decide_eq_true g0
    have HF:=Lib.hid (show decide (fewL T)=false from decide_eq_false fun h=>by have:=(h.2 _ (List.getElem_mem hlt)).1; omega)
    generalize T[k]=x at *
    go_wp2_with fail
    go_ret
    exact⟨by rw[HF.out]; rfl,rfl⟩
   ·have e0:decide ((100:Int)<(T[k].pkt.size:Int))=false:=decide_eq_false (by omega)
    have e1:decide (100<T[k].pkt.size)=false:=decide_eq_false g0
    by_cases g1:8<T[k].pool.length
    ·have e2:decide ((8:Int)<(T[k].pool.length:Int))=true:=decide_eq_true (by omega)
     have e3:decide (8<T[k].pool.length)=true:=decide_eq_true g1
     have HF:=Lib.hid (show decide (fewL T)=false from decide_eq_false fun h=>by have:=(h.2 _ (List.getElem_mem hlt)).2; omega)
     generalize T[k]=x at *
     go_wp2_with fail
     go_ret
     exact⟨by rw[HF.out]; rfl,rfl⟩
    ·have e2:decide ((8:Int)<(T[k].pool.length:Int))=false:=decide_eq_false (by omega)
     have e3:decide (8<T[k].pool.length)=false:=decide_eq_false g1
     have HN:=Lib.hid (show ∀ j (hj:j<T.length),j<k+1→T[j].pkt.size≤100∧T[j].pool.length≤8 from fun j hj hjk=>by
      rcases Nat.lt_or_ge j k with h | h
      ·exact HA.out j hj h
      ·obtain rfl:j=k:=by omega
       exact⟨by omega,by omega⟩)
     clear HA
     generalize T[k]=x at *
     go_wp2_with fail
     exact⟨⟨trivial,k+1,hlt,by go_num,HN.out⟩,by simp[intOf]; omega⟩
  ·obtain rfl:k=T.length:=by omega
   have HF:=Lib.hid (show decide (fewL T)=true from decide_eq_true ⟨by omega,fun x hx=>by
    obtain⟨j,hj,rfl⟩:=List.getElem_of_mem hx
    exact HA.out j hj hj⟩)
   go_wp2_with fail
   go_ret
   exact⟨by rw[HF.out]; rfl,rfl⟩
theorem info_op:(Tryz.prog.info? 42).map (fun i=>(i.zero,i.size,i.bytes))=some (some (.agg #[.int .i64 0,.string ⟨#[]⟩,.slice none 0 0,.int .i64 0]),opK.c,56):=by kernel_rfl
theorem op_box (W:World) (x:StM) (j:Nat) (u:Value) (h:(opK.enc x)[j]? =some u):(W.alloc (.cells #[.int .i64 x.kd,.string x.pkt,.slice x.p x.pool.length x.c,.int .i64 x.sh] 42)).cell? ⟨W.heap.size,j,none⟩=some u:=by
 have:=World.alloc_heap_new W (.cells #[.int .i64 x.kd,.string x.pkt,.slice x.p x.pool.length x.c,.int .i64 x.sh] 42)
 unfold World.cell?
 rw[this]
 simpa [opK] using h
theorem cfg_box (w:World) (c:Cfg):let W:=w.alloc (.cells #[.int .i64 c.W,.int .i64 c.S,.int .i64 c.cap,.int .i64 c.idle,.int .i64 c.K] 23)
 (W.cell? ⟨w.heap.size,0,none⟩=some (.int .i64 c.W)∧W.cell? ⟨w.heap.size,1,none⟩=some (.int .i64 c.S)∧W.cell? ⟨w.heap.size,2,none⟩=some (.int .i64 c.cap)∧W.cell? ⟨w.heap.size,3,none⟩=some (.int .i64 c.idle)∧W.cell? ⟨w.heap.size,4,none⟩=some (.int .i64 c.K))∧Below w.heap.size w W:=by
 have h1:=World.alloc_heap_new w (.cells #[.int .i64 c.W,.int .i64 c.S,.int .i64 c.cap,.int .i64 c.idle,.int .i64 c.K] 23)
 refine⟨⟨?_,?_,?_,?_,?_⟩,(Below.refl _ w).alloc (Nat.le_refl _) _⟩ <;> (unfold World.cell?; rw[h1]; rfl)
theorem cfg_kept {W W':World} {g:Nat} {c:Cfg} (h:W.cell? ⟨g,0,none⟩=some (.int .i64 c.W)∧W.cell? ⟨g,1,none⟩=some (.int .i64 c.S)∧W.cell? ⟨g,2,none⟩=some (.int .i64 c.cap)∧W.cell? ⟨g,3,none⟩=some (.int .i64 c.idle)∧W.cell? ⟨g,4,none⟩=some (.int .i64 c.K)) (hb:Below W.heap.size W W'):
 W'.cell? ⟨g,0,none⟩=some (.int .i64 c.W)∧W'.cell? ⟨g,1,none⟩=some (.int .i64 c.S)∧W'.cell? ⟨g,2,none⟩=some (.int .i64 c.cap)∧W'.cell? ⟨g,3,none⟩=some (.int .i64 c.idle)∧W'.cell? ⟨g,4,none⟩=some (.int .i64 c.K):=by
 obtain⟨h0,h1,h2,h3,h4⟩:=h
 exact⟨(hb.cell (World.block_lt_of_cell? _ _ h0)).trans h0,(hb.cell (World.block_lt_of_cell? _ _ h1)).trans h1,(hb.cell (World.block_lt_of_cell? _ _ h2)).trans h2,(hb.cell (World.block_lt_of_cell? _ _ h3)).trans h3,(hb.cell (World.block_lt_of_cell? _ _ h4)).trans h4⟩
set_option maxHeartbeats 1000000 in
theorem few_any (c:Cfg) (a:Option Addr) (cap:Nat) (T:List StM) (w:World) (h:Lies stK w a cap T) (hp:∀ x ∈ T,x.pkt.size≤maxLen):
 Calls Tryz.prog 12 #[cfgV c,rowV a cap T] w fun e W'=>e=.returned (.bool (smallB c && decide (fewL T)))∧Below w.heap.size w W':=by
 obtain⟨y,b0⟩:=cfg_box w c
 have H:=Lib.hid (h.kept b0)
 have Y:=Lib.hid y
 have HP:=Lib.hid hp
 have HB0:=Lib.hid b0
 have hcap:=h.max
 have hlc:=h.len
 have HFT:=Lib.hid (few_take (L:=T))
 have CS:=Lib.hid (Mod.refSmall_any c)
 unfold maxLen at hcap
 clear h hp y
 obtain⟨cW,cS,ccap,cidle,cK⟩:=c
 go_enter Tryz.func12,Tryz.ntmps12
 go_wp2_with fail
 generalize w.alloc (.cells #[.int .i64 cW,.int .i64 cS,.int .i64 ccap,.int .i64 cidle,.int .i64 cK] 23)=w0 at *
 go_loopw [5,6] (fun o i W=>∃ k:Nat,k≤min T.length 13∧i=.int .i64 k∧RowG.Own opK 42 w0.heap.size W o (T.take k)∧Below w0.heap.size w0 W) (fun _ i _=>13 - (intOf i).toNat)
 case atStart=>exact⟨0,Nat.zero_le _,rfl,own_nil _ _,Below.refl _ _⟩
 case round=>
  obtain⟨k,hk,rfl,hO,hB⟩:=hrel
  have HO:=Lib.hid hO
  have HB:=Lib.hid hB
  clear hO hB
  by_cases h13:k≤12
  ·have d1:decide ((k:Int)≤12)=true:=decide_eq_true (by omega)
   by_cases hlt:k<T.length
   ·have d0:decide ((k:Int)<(T.length:Int))=true:=decide_eq_true (by omega)
    obtain⟨b,off,rfl,q0,q1,q2,q3,q4⟩:=lies_st (H.out.kept HB.out) hlt
    have hz:(T.take k).length≤13:=by rw[List.length_take]; omega
    have HT:=Lib.hid (List.take_succ_eq_append_getElem hlt)
    have al:=Lib.hid ((Below.refl wr.heap.size wr).alloc (Nat.le_refl _) (.cells #[.int .i64 T[k].kd,.string T[k].pkt,.slice T[k].p T[k].pool.length T[k].c,.int .i64 T[k].sh] 42))
    have hs:=HB.out.size
    generalize T[k]=x at *
    generalize T.take k=os at *
    go_wp2_with (at_builtin; refine wpList_more Tryz.underlying84 info_op rfl rfl _ _ rfl w0.heap.size wr.heap.size os x _ rfl rfl (HO.out.kept al.out) ?c0 ?c1 ?c2 ?c3 ?_)
    case c0=>exact fun j u hj=>op_box wr x j u hj
    case c1=>unfold maxLen; omega
    case c2=>omega
    case c3=>simp; omega
    intro v' w1 ho hb
    have HB1:=Lib.hid ((HB.out.alloc hs _).trans hb.out)
    have HO1:=Lib.hid ho.out
    clear hb ho
    go_wp2
    exact⟨⟨k+1,by omega,by go_num,by rw[HT.out]; exact HO1.out,HB1.out⟩,by simp[intOf]; omega⟩
   ·have d0:decide ((k:Int)<(T.length:Int))=false:=decide_eq_false (by omega)
    obtain rfl:k=min T.length 13:=by omega
    obtain⟨y0,y1,y2,y3,y4⟩:=cfg_kept (c:=⟨cW,cS,ccap,cidle,cK⟩) Y.out HB.out
    have CS1:=Lib.hid (CS.out wr)
    have HOV:=Lib.hid HO.out.lies
    clear Y
    go_wp2_with fail
    refine CS1.out.mono ?_
    rintro e w2 ⟨rfl,hb⟩
    have HB2:=Lib.hid (below2 HB0.out (below2 HB.out hb))
    obtain⟨oa,oc,rfl,ho⟩:=HOV.out
    have CF:=Lib.hid (refFew_any oa oc (T.take (min T.length 13)) w2 (ho.kept hb) (fun x hx=>HP.out x (List.mem_of_mem_take hx)))
    rw[HFT.out] at CF
    generalize T.take (min T.length 13)=os at *
    clear hb ho HOV CS1 HO
    cases hsm:smallB ⟨cW,cS,ccap,cidle,cK⟩ with
    | false=>
      go_wp2_with fail
      go_ret
      exact⟨by rw[hsm]; rfl,HB2.out⟩
    | true=>
      go_wp2_with fail
      refine CF.out.mono ?_
      rintro e w3 ⟨rfl,rfl⟩
      clear CF
      go_wp2_with fail
      go_ret
      exact⟨by rw[hsm]; rfl,HB2.out⟩
  ·have d1:decide ((k:Int)≤12)=false:=decide_eq_false (by omega)
   by_cases hlt:k<T.length
   ·have d0:decide ((k:Int)<(T.length:Int))=true:=decide_eq_true (by omega)
    obtain rfl:k=min T.length 13:=by omega
    obtain⟨y0,y1,y2,y3,y4⟩:=cfg_kept (c:=⟨cW,cS,ccap,cidle,cK⟩) Y.out HB.out
    have CS1:=Lib.hid (CS.out wr)
    have HOV:=Lib.hid HO.out.lies
    clear Y
    go_wp2_with fail
    refine CS1.out.mono ?_
    rintro e w2 ⟨rfl,hb⟩
    have HB2:=Lib.hid (below2 HB0.out (below2 HB.out hb))
    obtain⟨oa,oc,rfl,ho⟩:=HOV.out
    have CF:=Lib.hid (refFew_any oa oc (T.take (min T.length 13)) w2 (ho.kept hb) (fun x hx=>HP.out x (List.mem_of_mem_take hx)))
    rw[HFT.out] at CF
    generalize T.take (min T.length 13)=os at *
    clear hb ho HOV CS1 HO
    cases hsm:smallB ⟨cW,cS,ccap,cidle,cK⟩ with
    | false=>
      go_wp2_with fail
      go_ret
      exact⟨by rw[hsm]; rfl,HB2.out⟩
    | true=>
      go_wp2_with fail
      refine CF.out.mono ?_
      rintro e w3 ⟨rfl,rfl⟩
      clear CF
      go_wp2_with fail
      go_ret
      exact⟨by rw[hsm]; rfl,HB2.out⟩
   ·have d0:decide ((k:Int)<(T.length:Int))=false:=decide_eq_false (by omega)
    obtain rfl:k=min T.length 13:=by omega
    obtain⟨y0,y1,y2,y3,y4⟩:=cfg_kept (c:=⟨cW,cS,ccap,cidle,cK⟩) Y.out HB.out
    have CS1:=Lib.hid (CS.out wr)
    have HOV:=Lib.hid HO.out.lies
    clear Y
    go_wp2_with fail
    refine CS1.out.mono ?_
    rintro e w2 ⟨rfl,hb⟩
    have HB2:=Lib.hid (below2 HB0.out (below2 HB.out hb))
    obtain⟨oa,oc,rfl,ho⟩:=HOV.out
    have CF:=Lib.hid (refFew_any oa oc (T.take (min T.length 13)) w2 (ho.kept hb) (fun x hx=>HP.out x (List.mem_of_mem_take hx)))
    rw[HFT.out] at CF
    generalize T.take (min T.length 13)=os at *
    clear hb ho HOV CS1 HO
    cases hsm:smallB ⟨cW,cS,ccap,cidle,cK⟩ with
    | false=>
      go_wp2_with fail
      go_ret
      exact⟨by rw[hsm]; rfl,HB2.out⟩
    | true=>
      go_wp2_with fail
      refine CF.out.mono ?_
      rintro e w3 ⟨rfl,rfl⟩
      clear CF
      go_wp2_with fail
      go_ret
      exact⟨by rw[hsm]; rfl,HB2.out⟩
end Go.Proofs.YtbamodkgagcmnaaGreat.Mdl
