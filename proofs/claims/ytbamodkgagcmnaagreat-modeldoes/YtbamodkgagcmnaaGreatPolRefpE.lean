/-
  The document's Decide (package gangplankref17), way by way, given what its callees tell.
-/
import Derived.Test.YtbamodkgagcmnaaGreatBFnvE
import Derived.Test.YtbamodkgagcmnaaGreatBPolE
import Derived.BigQuiet
import Derived.WalkSmall
set_option maxRecDepth 100000
namespace Go.Proofs.YtbamodkgagcmnaaGreat.Mod
open Go.RowKit Go.Shelf Go.WideShapes RowG Trn
attribute [local go_sem] Oper.semAt_some
variable {home:ByteArray→Nat→Nat} {a:Option Addr} {cap:Nat} {T:List Tab.Ent} {pa:Option Addr} {pc:Nat} {P:List (Int × Int)} {k:ByteArray} {w:World} {s:Nat} {fd:Int→Int} {pk:Int}
def Front (home:ByteArray→Nat→Nat) (T:List Tab.Ent) (P:List (Int × Int)) (k:ByteArray) (now pk id:Int) (md:Bool):Prop:=
 (Tab.find home T k=none∧id=pk∧md=true)∨∃ q,Tab.find home T k=some q∧((¬ now≤(Tab.ent T q).dl∧id=pk∧md=true)∨(now≤(Tab.ent T q).dl∧((hasId P (Tab.ent T q).be=false∧id=pk∧md=true)∨(hasId P (Tab.ent T q).be=true∧id=(Tab.ent T q).be∧md=false))))
def Tail (home:ByteArray→Nat→Nat) (T:List Tab.Ent) (P:List (Int × Int)) (k:ByteArray) (c:Bool) (dl id:Int) (md:Bool) (r:List Tab.Ent × Ans):Prop:=
 (md=true∧P=[]∧r=(T,⟨11,0,false,0⟩))∨((md=true→P≠[])∧((c=true∧r=(del home T k,⟨0,id,false,0⟩))∨(∃ U,c=false∧Tab.put home T k id dl=some U∧r=(U,⟨0,id,md,0⟩))∨(c=false∧Tab.put home T k id dl=none∧r=(T,⟨12,0,false,0⟩))))
set_option maxHeartbeats 4000000 in
theorem dec_any (h:Asked home a cap T pa pc P k w s fd pk) {r:List Tab.Ent × Ans} (c:Bool) (now idle id:Int) (md:Bool) (hF:Front home T P k now pk id md) (hT:Tail home T P k c (IntKind.i64.wrap (now+idle)) id md r):
 Calls Tryz.prog 25 #[rowV a cap T,.slice pa P.length pc,.string k,.bool c,.int .i64 now,.int .i64 idle] w (Deals r w):=by
 have al:=below_ans w
 have HX:=Lib.hid al.1
 have B0:=Lib.hid al.2
 have CF:=Lib.hid (h.find _ al.2)
 have CS:=Lib.hid (h.sum _ al.2)
 have CP:=Lib.hid (h.pick _ al.2)
 have HA:=Lib.hid h
 have HT:=Lib.hid hT
 obtain⟨dl,hdl⟩:∃ dl,IntKind.i64.wrap (now+idle)=dl:=⟨_,rfl⟩
 rw[hdl] at HT
 obtain⟨a',ha⟩:∃ a',a'=a:=⟨_,rfl⟩
 have HE:=Lib.hid ha
 clear hT ha
 rcases hF with⟨hf,rfl,rfl⟩ | ⟨q,hf,hF⟩
 rotate_left
 have HF:=Lib.hid (show Tab.zOf (Tab.find home T k)=(q:Int) by rw[hf]; rfl)
 rw[HF.out] at CF
 have hq:q<T.length:=(Tab.find_some hf).1
 have hT:=(h.tab.kept al.2)
 have hmx:=hT.max
 have hln:=hT.len
 unfold maxLen at hmx
 obtain⟨b,off,rfl,k0,k1,k2,k3⟩:=hT.ent hq
 have eT:Tab.ent T q=T[q]:=Tab.ent_at hq
 rw[eT] at hF
 have mx:max (q:Int) 0=(q:Int):=by omega
 clear hT hf
 rcases hF with⟨ht,rfl,rfl⟩ | ⟨ht,⟨hh,rfl,rfl⟩ | ⟨hh,he,rfl⟩⟩
 have dt:decide (now≤T[q].dl)=false:=decide_eq_false ht
 clear ht
 generalize T[q]=x at *
 rotate_left
 have dt:decide (now≤T[q].dl)=true:=decide_eq_true ht
 have CH:=Lib.hid (h.has T[q].be _ al.2)
 have hd:decide (0≤fd T[q].be)=false:=by rw[← h.is]; exact hh
 clear ht hh
 generalize T[q]=x at *
 generalize fd x.be=z at *
 rotate_left
 have dt:decide (now≤T[q].dl)=true:=decide_eq_true ht
 rw[← he] at hh k2
 have CH:=Lib.hid (h.has id _ al.2)
 have hd:decide (0≤fd id)=true:=by rw[← h.is]; exact hh
 clear ht hh he
 generalize T[q]=x at *
 generalize fd id=z at *
 rotate_left
 have HF:=Lib.hid (show Tab.zOf (Tab.find home T k)= -1 by rw[hf]; rfl)
 rw[HF.out] at CF
 clear hf
 all_goals
  clear al h
  go_enter Tryz.func25,Tryz.ntmps25
  go_wp2_with fail
  refine CF.out.mono ?_
  rintro e w1 ⟨rfl,rfl⟩
  go_wp2_with fail
 any_goals
  refine CH.out.mono ?_
  rintro e w2 ⟨rfl,rfl⟩
  clear CH
  go_wp2_with fail
 all_goals
  refine CS.out.mono ?_
  rintro e w2 ⟨rfl,rfl⟩
  go_wp2_with fail
  refine CP.out.mono ?_
  rintro e w3 ⟨rfl,hb⟩
  have B1:=Lib.hid (below2 B0.out hb)
  have X1:=Lib.hid (HX.out.kept hb)
  try have k2w:=(hb.cell (World.block_lt_of_cell? _ _ k2)).trans k2
  clear hb CF CS CP B0 HX
  rcases HT.out with⟨hm,hp,hr⟩ | ⟨hp,⟨rfl,hr⟩ | ⟨U,rfl,hu,hr⟩ | ⟨rfl,hu,hr⟩⟩
  ·cases hm
   all_goals
    have d9:((P.length:Int) == 0)=true:=by rw[hp]; rfl
    have d9n:(P.length == 0)=true:=by rw[hp]; rfl
    have HR:=Lib.hid hr
    clear hp hr HT
    obtain⟨⟨x0,x1,x2,x3⟩,fr⟩:=X1.out.cells
    have f0:=fr 0
    have f1:=fr 1
    have f2:=fr 2
    have f3:=fr 3
    clear fr
    go_wp2_with fail
    obtain⟨⟨z0,z1,z2,z3⟩,-⟩:=(X1.out.put ⟨11,0,false,0⟩).cells
    unfold putAns at z0 z1 z2 z3
    clear x0 x1 x2 x3 f0 f1 f2 f3
    refine bodyPost_ret (v:=.tuple #[rowV a' cap T,ansV ⟨11,0,false,0⟩]) ?q1 rfl ?q2
    case q1=>
     simp only[results,Tryz.results25]
     simp[go_sem,z0,z1,z2,z3,HE.out]
    case q2=>exact Deals.of HR.out (Nat.le_refl _) B1.out X1.out ⟨_,_,rfl,by rw[HE.out]; exact HA.out.tab.kept B1.out⟩
  ·have HR:=Lib.hid hr
   clear hr HT
   first
    | have hpl:P.length≠0:=fun e=>hp rfl (List.eq_nil_of_length_eq_zero e)
      have d9:((P.length:Int) == 0)=false:=beq_false_of_ne (by omega)
      have d9n:(P.length == 0)=false:=beq_false_of_ne hpl
      clear hp hpl
    | clear hp
   have CD:=Lib.hid (HA.out.del _ B1.out)
   generalize del home T k=D at *
   go_wp2_with fail
   refine CD.out.mono ?_
   rintro e w4 ⟨v,b9,rfl,hv,hb⟩
   have V2:=Lib.hid hv
   have B2:=Lib.hid (below2 B1.out hb)
   have X2:=Lib.hid (X1.out.kept hb)
   clear hv hb CD B1 X1
   obtain⟨av,cv,rfl,-⟩:=V2.out
   obtain⟨⟨x0,x1,x2,x3⟩,fr⟩:=X2.out.cells
   have f0:=fr 0
   have f1:=fr 1
   have f2:=fr 2
   have f3:=fr 3
   clear fr
   go_wp2_with fail
   obtain⟨⟨z0,z1,z2,z3⟩,-⟩:=(X2.out.put ⟨0,id,false,0⟩).cells
   unfold putAns at z0 z1 z2 z3
   clear x0 x1 x2 x3 f0 f1 f2 f3
   refine bodyPost_ret (v:=.tuple #[rowV av cv D,ansV ⟨0,id,false,0⟩]) ?q1 rfl ?q2
   case q1=>
    simp only[results,Tryz.results25]
    simp[go_sem,z0,z1,z2,z3]
   case q2=>exact Deals.of HR.out (Nat.le_refl _) B2.out X2.out V2.out
  ·have HR:=Lib.hid hr
   clear hr HT
   first
    | have hpl:P.length≠0:=fun e=>hp rfl (List.eq_nil_of_length_eq_zero e)
      have d9:((P.length:Int) == 0)=false:=beq_false_of_ne (by omega)
      have d9n:(P.length == 0)=false:=beq_false_of_ne hpl
      clear hp hpl
    | clear hp
   have CU:=Lib.hid (HA.out.put id dl _ B1.out)
   rw[hu] at CU
   simp only[Option.isSome_some,Option.getD_some,if_true] at CU
   clear hu
   go_wp2_with fail
   refine CU.out.mono ?_
   rintro e w4 ⟨v,rfl,hv,hb⟩
   have V2:=Lib.hid hv
   have B2:=Lib.hid (below2 B1.out hb)
   have X2:=Lib.hid (X1.out.kept hb)
   clear hv hb CU B1 X1
   obtain⟨av,cv,rfl,-⟩:=V2.out
   first
    | obtain⟨⟨x0,x1,x2,x3⟩,fr⟩:=X2.out.cells
      have f0:=fr 0
      have f1:=fr 1
      have f2:=fr 2
      have f3:=fr 3
      clear fr
      go_wp2_with fail
      obtain⟨⟨z0,z1,z2,z3⟩,-⟩:=(X2.out.put ⟨0,id,true,0⟩).cells
      unfold putAns at z0 z1 z2 z3
      clear x0 x1 x2 x3 f0 f1 f2 f3
      refine bodyPost_ret (v:=.tuple #[rowV av cv U,ansV ⟨0,id,true,0⟩]) ?q1 rfl ?q2
      case q1=>
       simp only[results,Tryz.results25]
       simp[go_sem,z0,z1,z2,z3]
      case q2=>exact Deals.of HR.out (Nat.le_refl _) B2.out X2.out V2.out
    | obtain⟨⟨x0,x1,x2,x3⟩,fr⟩:=X2.out.cells
      have f0:=fr 0
      have f1:=fr 1
      have f2:=fr 2
      have f3:=fr 3
      clear fr
      go_wp2_with fail
      obtain⟨⟨z0,z1,z2,z3⟩,-⟩:=(X2.out.put ⟨0,id,false,0⟩).cells
      unfold putAns at z0 z1 z2 z3
      clear x0 x1 x2 x3 f0 f1 f2 f3
      refine bodyPost_ret (v:=.tuple #[rowV av cv U,ansV ⟨0,id,false,0⟩]) ?q1 rfl ?q2
      case q1=>
       simp only[results,Tryz.results25]
       simp[go_sem,z0,z1,z2,z3]
      case q2=>exact Deals.of HR.out (Nat.le_refl _) B2.out X2.out V2.out
  ·have HR:=Lib.hid hr
   clear hr HT
   first
    | have hpl:P.length≠0:=fun e=>hp rfl (List.eq_nil_of_length_eq_zero e)
      have d9:((P.length:Int) == 0)=false:=beq_false_of_ne (by omega)
      have d9n:(P.length == 0)=false:=beq_false_of_ne hpl
      clear hp hpl
    | clear hp
   have CU:=Lib.hid (HA.out.put id dl _ B1.out)
   rw[hu] at CU
   simp only[Option.isSome_none,Option.getD_none,Bool.false_eq_true,if_false] at CU
   clear hu
   go_wp2_with fail
   refine CU.out.mono ?_
   rintro e w4 ⟨v,rfl,hv,hb⟩
   have V2:=Lib.hid hv
   have B2:=Lib.hid (below2 B1.out hb)
   have X2:=Lib.hid (X1.out.kept hb)
   clear hv hb CU B1 X1
   obtain⟨av,cv,rfl,-⟩:=V2.out
   obtain⟨⟨x0,x1,x2,x3⟩,fr⟩:=X2.out.cells
   have f0:=fr 0
   have f1:=fr 1
   have f2:=fr 2
   have f3:=fr 3
   clear fr
   go_wp2_with fail
   obtain⟨⟨z0,z1,z2,z3⟩,-⟩:=(X2.out.put ⟨12,0,false,0⟩).cells
   unfold putAns at z0 z1 z2 z3
   clear x0 x1 x2 x3 f0 f1 f2 f3
   refine bodyPost_ret (v:=.tuple #[rowV a' cap T,ansV ⟨12,0,false,0⟩]) ?q1 rfl ?q2
   case q1=>
    simp only[results,Tryz.results25]
    simp[go_sem,z0,z1,z2,z3,HE.out]
   case q2=>exact Deals.of HR.out (Nat.le_refl _) B2.out X2.out ⟨_,_,rfl,by rw[HE.out]; exact HA.out.tab.kept B2.out⟩
end Go.Proofs.YtbamodkgagcmnaaGreat.Mod
set_option maxRecDepth 100000
namespace Go.Proofs.YtbamodkgagcmnaaGreat.Mod
open Go.RowKit Go.Shelf Go.WideShapes RowG Trn
variable {home:ByteArray→Nat→Nat} {a:Option Addr} {cap:Nat} {T:List Tab.Ent} {pa:Option Addr} {pc:Nat} {P:List (Int × Int)} {k:ByteArray} {w:World} {s:Nat} {fd:Int→Int} {pk:Int}
theorem known_at {home:ByteArray→Nat→Nat} {T:List Tab.Ent} {P:List (Int × Int)} {k:ByteArray} {now:Int} (hf:Tab.find home T k=none):known home T P k now=none:=by unfold known; rw[hf]
theorem refDecide_any (h:Asked home a cap T pa pc P k w s fd pk) (c:Bool) (now idle:Int):
 Calls Tryz.prog 25 #[rowV a cap T,.slice pa P.length pc,.string k,.bool c,.int .i64 now,.int .i64 idle] w (Deals (deals home (fun _ _=>pk) T P k c now (IntKind.i64.wrap (now+idle))) w):=by
 have key:∀ id md,Front home T P k now pk id md→(md=true→id=pk)→known home T P k now=(if md=true then none else some id)→Calls Tryz.prog 25 #[rowV a cap T,.slice pa P.length pc,.string k,.bool c,.int .i64 now,.int .i64 idle] w (Deals (deals home (fun _ _=>pk) T P k c now (IntKind.i64.wrap (now+idle))) w):=by
  intro id md hF hid hk
  refine dec_any h c now idle id md hF ?_
  have hg:(known home T P k now).getD pk=id:=by
   rw[hk]
   cases md with
   | true=>exact (hid rfl).symm
   | false=>rfl
  have hi:(known home T P k now).isNone=md:=by rw[hk]; cases md <;> rfl
  have hz:md=true→known home T P k now=none:=fun e=>by rw[hk,if_pos e]
  by_cases hn:known home T P k now=none∧P=[]
  ·rw[deals_none hn.1 hn.2]
   exact .inl ⟨by rw[← hi,hn.1]; rfl,hn.2,rfl⟩
  ·refine .inr ⟨fun e e'=>hn ⟨hz e,e'⟩,?_⟩
   cases c with
   | true=>rw[deals_closes hn,← hg]; exact .inl ⟨rfl,rfl⟩
   | false=>
     cases hu:Tab.put home T k ((known home T P k now).getD pk) (IntKind.i64.wrap (now+idle)) with
     | some U=>rw[deals_put hn hu,← hg,← hi]; exact .inr (.inl ⟨U,rfl,hu,rfl⟩)
     | none=>rw[deals_full hn hu,← hg]; exact .inr (.inr ⟨rfl,hu,rfl⟩)
 cases hf:Tab.find home T k with
 | none=>exact key pk true (.inl ⟨hf,rfl,rfl⟩) (fun _=>rfl) (known_at hf)
 | some q=>
   by_cases ht:now≤(Tab.ent T q).dl
   ·cases hh:hasId P (Tab.ent T q).be with
    | true=>exact key _ false (.inr ⟨q,hf,.inr ⟨ht,.inr ⟨hh,rfl,rfl⟩⟩⟩) (fun e=>by cases e) (known_yes hf ht hh)
    | false=>exact key pk true (.inr ⟨q,hf,.inr ⟨ht,.inl ⟨hh,rfl,rfl⟩⟩⟩) (fun _=>rfl) (known_no hf fun e=>by rw[hh] at e; cases e.2)
   ·exact key pk true (.inr ⟨q,hf,.inl ⟨ht,rfl,rfl⟩⟩) (fun _=>rfl) (known_no hf fun e=>ht e.1)
end Go.Proofs.YtbamodkgagcmnaaGreat.Mod
set_option maxRecDepth 100000
namespace Go.Proofs.YtbamodkgagcmnaaGreat.Pol
open Go.RowKit Go.Shelf Rgn
set_option maxRecDepth 100000 in
set_option maxHeartbeats 2000000 in
theorem refFind_any (a:Option Addr) (cap:Nat) (bs:List Bk) (id:Int) (w:World) (h:Lies w a cap bs):
 Calls Tryz.prog 60 #[polV a cap bs,.int .i64 id] w fun e W'=>e=.returned (.int .i64 (find bs id 0))∧w=W':=by
 have H:=Lib.hid h
 clear h
 go_enter Tryz.func60,Tryz.ntmps60
 go_wp2
 go_loop [5] (fun i=>∃ k:Nat,k≤bs.length∧i=.int .i64 k∧∀ j x,j<k→bs[j]? =some x→x.1≠id) (fun i=>bs.length - (intOf i).toNat)
 case atStart=>exact⟨0,Nat.zero_le _,rfl,fun j x hj=>absurd hj (by omega)⟩
 case round=>
  obtain⟨k,hk,rfl,hno⟩:=hrel
  have HN:=Lib.hid hno
  clear hno
  by_cases hlt:k<bs.length
  ·obtain⟨b,off,rfl,c0,c1⟩:=H.out.at hlt
   have hC:=H.out.len
   have hM:=H.out.max
   unfold maxLen at hM
   have HH:=Lib.hid (find_hit bs id k hlt HN.out)
   have HI:=Lib.hid (show bs[k]? =some bs[k] from List.getElem?_eq_getElem hlt)
   generalize bs[k]=x at *
   by_cases he:x.1=id
   ·have e1:(x.1 == id)=true:=beq_iff_eq.2 he
    go_wp2
    go_ret
    exact⟨by rw[HH.out he]; rfl,rfl⟩
   ·have e1:(x.1 == id)=false:=beq_false_of_ne he
    go_wp2
    refine⟨⟨k+1,by omega,by go_num,fun j y hj hy=>?_⟩,by simp[intOf]; omega⟩
    by_cases e:j=k
    ·rw[e,HI.out] at hy
     cases hy; exact he
    ·exact HN.out j y (by omega) hy
  ·go_wp2
   go_ret
   rw[find_none bs id (fun j x hj=>HN.out j x (by omega))]
   exact⟨rfl,rfl⟩
set_option maxRecDepth 100000 in
set_option maxHeartbeats 4000000 in
theorem refCheck_any (a:Option Addr) (cap:Nat) (bs:List Bk) (c:Bool) (hc:chk bs↔c=true) (w:World) (h:Lies w a cap bs):
 Calls Tryz.prog 49 #[polV a cap bs] w fun e W'=>e=.returned (chkV c)∧Below w.heap.size w W':=by
 have H:=Lib.hid h
 have HC:=Lib.hid hc
 have hlen:=h.len
 have hmax:=h.max
 unfold maxLen at hmax
 clear h hc
 by_cases h32:32<bs.length
 ·have d0:decide ((32:Int)<(bs.length:Int))=true:=decide_eq_true (by omega)
  have d1:decide (32<bs.length)=true:=decide_eq_true h32
  have HV:=Lib.hid (show c=false by
   cases c with
   | false=>rfl
   | true=>have:=(HC.out.2 rfl).1; omega)
  go_enter Tryz.func49,Tryz.ntmps49
  go_wp2
  go_ret
  exact⟨by rw[HV.out]; rfl,Below.refl _ _⟩
 ·have d0:decide ((32:Int)<(bs.length:Int))=false:=decide_eq_false (by omega)
  have d1:decide (32<bs.length)=false:=decide_eq_false h32
  go_enter Tryz.func49,Tryz.ntmps49
  go_wp2
  go_loopw [3] (fun i W=>∃ k:Nat,k≤bs.length∧i=.int .i64 k∧(∀ j x,j<k→bs[j]? =some x→fine bs j x)∧Below w.heap.size w W) (fun i _=>bs.length - (intOf i).toNat)
  case atStart=>exact⟨0,Nat.zero_le _,rfl,fun j x hj=>absurd hj (by omega),Below.refl _ _⟩
  case round=>
   obtain⟨k,hk,rfl,hno,hB⟩:=hrel
   have HN:=Lib.hid hno
   have HB:=Lib.hid hB
   clear hno hB
   by_cases hlt:k<bs.length
   ·obtain⟨b,off,rfl,c0,c1⟩:=(H.out.kept HB.out).at hlt
    have HI:=Lib.hid (show bs[k]? =some bs[k] from List.getElem?_eq_getElem hlt)
    generalize bs[k]=x at *
    have HV:Hid (¬ fine bs k x→c=false):=Lib.hid (fun hn=>by
     cases c with
     | false=>rfl
     | true=>exact absurd ((HC.out.2 rfl).2 k x HI.out) hn)
    by_cases g0:x.1<1
    ·have e0:decide (x.1<1)=true:=decide_eq_true g0
     have HF:=Lib.hid (HV.out (fun h=>absurd h.1 (by omega)))
     go_wp2
     go_ret
     exact⟨by rw[HF.out]; rfl,HB.out.alloc HB.out.size _⟩
    have e0:decide (x.1<1)=false:=decide_eq_false g0
    by_cases g1:65535<x.1
    ·have e1:decide (65535<x.1)=true:=decide_eq_true g1
     have HF:=Lib.hid (HV.out (fun h=>absurd h.2.1 (by omega)))
     go_wp2
     go_ret
     exact⟨by rw[HF.out]; rfl,HB.out.alloc HB.out.size _⟩
    have e1:decide (65535<x.1)=false:=decide_eq_false g1
    by_cases g2:x.2<1
    ·have e2:decide (x.2<1)=true:=decide_eq_true g2
     have HF:=Lib.hid (HV.out (fun h=>absurd h.2.2.1 (by omega)))
     go_wp2
     go_ret
     exact⟨by rw[HF.out]; rfl,HB.out.alloc HB.out.size _⟩
    have e2:decide (x.2<1)=false:=decide_eq_false g2
    by_cases g3:16<x.2
    ·have e3:decide (16<x.2)=true:=decide_eq_true g3
     have HF:=Lib.hid (HV.out (fun h=>absurd h.2.2.2.1 (by omega)))
     go_wp2
     go_ret
     exact⟨by rw[HF.out]; rfl,HB.out.alloc HB.out.size _⟩
    have e3:decide (16<x.2)=false:=decide_eq_false g3
    have hm:=Lib.hid (HB.out.alloc HB.out.size (.cells #[.int .i64 x.1,.int .i64 x.2] 83))
    have FI:=Lib.hid (refFind_any (some ⟨b,off,none⟩) cap bs x.1 (wr.alloc (.cells #[.int .i64 x.1,.int .i64 x.2] 83)) (H.out.kept hm.out))
    go_wp2_with fail
    refine FI.out.mono ?_
    rintro e w2 ⟨rfl,rfl⟩
    by_cases hf:find bs x.1 0=k
    ·have e5:(find bs x.1 0 != (k:Int))=false:=by simp[hf]
     have FF:=Lib.hid (show fine bs k x from⟨by omega,by omega,by omega,by omega,hf⟩)
     clear hf FI
     generalize find bs x.1 0=q at *
     go_wp2
     refine⟨⟨k+1,by omega,by go_num,fun j y hj hy=>?_,hm.out⟩,by simp[intOf]; omega⟩
     by_cases e:j=k
     ·subst e; rw[HI.out] at hy; cases hy; exact FF.out
     ·exact HN.out j y (by omega) hy
    ·have e5:(find bs x.1 0 != (k:Int))=true:=bne_iff_ne.2 hf
     have HF:=Lib.hid (HV.out (fun h=>absurd h.2.2.2.2 hf))
     clear hf FI
     generalize find bs x.1 0=q at *
     go_wp2
     go_ret
     exact⟨by rw[HF.out]; rfl,hm.out⟩
   ·have HF:=Lib.hid (HC.out.1 ⟨by omega,fun j x hx=>HN.out j x (by have:=(List.getElem?_eq_some_iff.1 hx).1; omega) hx⟩)
    go_wp2
    go_ret
    exact⟨by rw[HF.out]; rfl,HB.out⟩
theorem refCheck_yes (a:Option Addr) (cap:Nat) (bs:List Bk) (hc:chk bs) (w:World) (h:Lies w a cap bs):
 Calls Tryz.prog 49 #[polV a cap bs] w fun e W'=>e=.returned (.int .i64 0)∧Below w.heap.size w W':=refCheck_any a cap bs true (by simp[hc]) w h
theorem refCheck_no (a:Option Addr) (cap:Nat) (bs:List Bk) (hc:¬ chk bs) (w:World) (h:Lies w a cap bs):
 Calls Tryz.prog 49 #[polV a cap bs] w fun e W'=>e=.returned (.int .i64 10)∧Below w.heap.size w W':=refCheck_any a cap bs false (by simp[hc]) w h
end Go.Proofs.YtbamodkgagcmnaaGreat.Pol
