/-
  Package model: Shard, known, Decide: what becomes of a packet is 'deals'.
-/
import Derived.Test.YtbamodkgagcmnaaGreatBPrfE
import Derived.Test.YtbamodkgagcmnaaGreatBPlmE
import Derived.Test.YtbamodkgagcmnaaGreatRinCpE
set_option maxRecDepth 100000
namespace Go.Proofs.YtbamodkgagcmnaaGreat.Mdl
open Go.RowKit Go.Shelf RowG Trn
open Pol (polV)
open Prb (home)
open Go.Proofs.YtbamodkgagcmnaaGreat.Mod (Bk Mo Ans ansV ansC AnsBox putAns TabIs Deals hasId known del deals below_ans shardZ)
attribute [local go_sem] Oper.semAt_some
def hashN (k:ByteArray):Nat:=Fnv.jn 14695981039346656037 k.data.toList
def pickK (P:List Bk) (k:ByteArray):Int:=Rin.succL (Pts.ofL Pts.hsh P) (hashN k:Nat)
theorem has_find:∀ (P:List Bk) (id:Int) (n:Nat),decide (0≤Pol.find P id n)=hasId P id
 | [],id,n=>by simp[Pol.find,hasId]
 | x :: P,id,n=>by
   unfold Pol.find
   by_cases h:x.1=id
   ·rw[if_pos h]; simp[hasId,h]
   ·rw[if_neg h,has_find P id (n+1)]
    simp[hasId,h]
theorem find_less (P:List Bk) (id:Int):decide (Pol.find P id 0<0)=!hasId P id:=by
 rw[← has_find P id 0]
 by_cases h:0≤Pol.find P id 0
 ·rw[decide_eq_true h,decide_eq_false (by omega)]; rfl
 ·rw[decide_eq_false h,decide_eq_true (by omega)]; rfl
theorem del_is {T:List Tab.Ent} (hl:T.length≤64) (k:ByteArray):Flo.delT T k=del home T k:=by
 unfold Flo.delT del
 cases h:Tab.find home T k with
 | none=>rfl
 | some q=>
   have hq:=(Tab.find_some h).1
   show Flo.settleC (T.set q Tab.tomb)=_
   rw[Flo.settleC_settle (by rw[List.length_set]; exact hl)]
theorem put_is (T:List Tab.Ent) (k:ByteArray) (b d:Int):(∃ U,Tab.put home T k b d=some U∧Flo.putT T k b d=U∧Flo.putE T k=0)∨(Tab.put home T k b d=none∧Flo.putT T k b d=T∧Flo.putE T k=12):=by
 cases h:Flo.place T k with
 | some q=>exact .inl ⟨_,(Flo.put_yes h b d).1,rfl,(Flo.put_yes h b d).2⟩
 | none=>
   have h2:=Flo.put_laid T k b d
   rw[h] at h2
   have hn:Tab.put home T k b d=none:=by
    cases h3:Tab.put home T k b d with
    | none=>rfl
    | some U=>rw[h3] at h2; simp at h2
   exact .inr ⟨hn,(Flo.put_no h b d).1,(Flo.put_no h b d).2.1⟩
theorem tab_gives {W:World} {v:Value} {T:List Tab.Ent} (h:Flo.Gives W v T):TabIs W v T:=h
set_option maxHeartbeats 400000 in
theorem Shard_told (k:ByteArray) (n:Int) (hn:(Lit.int .i64 n).wf=true) (w:World) (hk:k.size≤4611686018427387904):
 Calls Tryz.prog 26 #[.string k,.int .i64 n] w fun e W'=>e=.returned (.int .i64 (shardZ (hashN k) n))∧Below w.heap.size w W':=by
 have hr: -9223372036854775808≤n∧n≤9223372036854775807:=by simpa [Lit.wf,IntKind.min,IntKind.max,IntKind.signed,IntKind.bits] using hn
 have HS:=Lib.hid (Fnv.Sum_any k w hk)
 have hs:hashN k<18446744073709551616:=Fnv.jn_lt _ _ (by decide)
 rw[show Fnv.jn 14695981039346656037 k.data.toList=hashN k from rfl] at HS
 generalize hashN k=s at *
 clear hn hk
 by_cases h1:n<1
 ·have d1:decide (n<1)=true:=decide_eq_true h1
  have HV:=Lib.hid (show shardZ s n=0 from if_pos h1)
  go_enter Tryz.func26,Tryz.ntmps26
  go_wp2_with fail
  go_ret
  exact⟨by rw[HV.out]; rfl,Below.refl _ _⟩
 ·have d1:decide (n<1)=false:=decide_eq_false h1
  obtain⟨m,rfl⟩:=Int.eq_ofNat_of_zero_le (show 0≤n by omega)
  have HV:=Lib.hid (show shardZ s (m:Int)=((s / 4294967296 % m:Nat):Int) by unfold shardZ; rw[if_neg h1,Int.toNat_natCast])
  obtain⟨q,hq⟩:∃ q,s / 4294967296=q:=⟨_,rfl⟩
  obtain⟨r,hrm⟩:∃ r,q % m=r:=⟨_,rfl⟩
  have hql:q<4294967296:=by omega
  have hrl:r<m:=by rw[← hrm]; exact Nat.mod_lt _ (by omega)
  have e1:(s:Int) / 4294967296=(q:Int):=by rw[← hq]; rfl
  have e1b:(s:Int) / 2 ^ 32=(q:Int):=by rw[← hq]; rfl
  have e1c:(s:Int) / 2 ^ (32:Int).toNat=(q:Int):=by rw[← hq]; rfl
  have e2:(q:Int).tmod (m:Int)=(r:Int):=by rw[← hrm]; rfl
  have e4:IntKind.u64.wrap (m:Int)=(m:Int):=by rw[IntKind.wrap_u64]; omega
  have e5:IntKind.u64.wrap (r:Int)=(r:Int):=by rw[IntKind.wrap_u64]; omega
  have e6:IntKind.i64.wrap (r:Int)=(r:Int):=by rw[IntKind.wrap_i64]; omega
  have hm0:((m:Int) == 0)=false:=beq_false_of_ne (by omega)
  rw[hq,hrm] at HV
  clear hq hrm hs
  go_enter Tryz.func26,Tryz.ntmps26
  go_wp2_with fail
  refine HS.out.mono ?_
  rintro e w1 ⟨rfl,hb⟩
  have B:=Lib.hid hb
  clear hb HS
  go_wp2_with fail
  go_ret
  exact⟨by rw[HV.out]; rfl,B.out⟩
def knownV:Option Int→Value
 | some b=>.tuple #[.int .i64 b,.bool true]
 | none=>.tuple #[.int .i64 0,.bool false]
section
variable (a:Option Addr) (cap:Nat) (T:List Tab.Ent) (pa:Option Addr) (pc:Nat) (P:List Bk) (k:ByteArray) (w:World)
set_option maxHeartbeats 1000000 in
theorem known_told (now:Int) (hT:Lies entK w a cap T) (hP:Pol.Lies w pa pc P) (hk:k.size≤4611686018427387904):
 Calls Tryz.prog 55 #[rowV a cap T,polV pa pc P,.string k,.int .i64 now] w fun e W'=>e=.returned (knownV (known home T P k now))∧Below w.heap.size w W':=by
 have CF:=Lib.hid (Prb.Find_told a cap T k w hT hk)
 cases hf:Tab.find home T k with
 | none=>
   have HV:=Lib.hid (show known home T P k now=none by unfold known; rw[hf])
   rw[hf,show Tab.zOf none= -1 from rfl] at CF
   clear hT hP hf
   go_enter Tryz.func55,Tryz.ntmps55
   go_wp2_with fail
   refine CF.out.mono ?_
   rintro e w1 ⟨rfl,hb⟩
   have B:=Lib.hid hb
   clear hb CF
   go_wp2_with fail
   refine bodyPost_ret (v:=.tuple #[.int .i64 0,.bool false]) (by simp[results,Tryz.results55,go_sem]) rfl ?_
   exact⟨by rw[HV.out]; rfl,B.out⟩
 | some q=>
   rw[hf,show Tab.zOf (some q)=(q:Int) from rfl] at CF
   have hq:q<T.length:=(Tab.find_some hf).1
   have hmx:=hT.max
   have hln:=hT.len
   unfold maxLen at hmx
   have HT:=Lib.hid hT
   have HP:=Lib.hid hP
   obtain⟨b0,o0,hab,-⟩:=hT.ent hq
   subst hab
   have dq:decide ((q:Int)<0)=false:=decide_eq_false (by omega)
   have eT:Tab.ent T q=T[q]:=Tab.ent_at hq
   have EH:=Lib.hid (show ∀ W,Lies entK W (some ⟨b0,o0,none⟩) cap T→W.cell? ⟨b0,o0+q * 4+2,none⟩=some (.int .i64 T[q].be)∧W.cell? ⟨b0,o0+q * 4+3,none⟩=some (.int .i64 T[q].dl) from fun W h=>by
    obtain⟨b,o,e,-,-,k2,k3⟩:=h.ent hq
    cases e; exact⟨k2,k3⟩)
   clear hT hP
   by_cases ht:now≤T[q].dl
   ·have dt:decide (T[q].dl<now)=false:=decide_eq_false (by omega)
    have HG:=Lib.hid (find_less P T[q].be)
    cases hh:hasId P T[q].be with
    | true=>
      have HV:=Lib.hid (show known home T P k now=some T[q].be by rw[← eT]; exact Mod.known_yes hf (by rw[eT]; exact ht) (by rw[eT]; exact hh))
      rw[hh] at HG
      clear hf eT ht hh
      generalize T[q]=x at *
      have dh:=HG.out
      go_enter Tryz.func55,Tryz.ntmps55
      go_wp2_with fail
      refine CF.out.mono ?_
      rintro e w1 ⟨rfl,hb⟩
      have B:=Lib.hid hb
      have H1:=Lib.hid (HT.out.kept hb)
      obtain⟨k2,k3⟩:=EH.out _ H1.out
      have CP:=Lib.hid (Pol.Find_told pa pc P x.be w1 (HP.out.kept hb))
      generalize Pol.find P x.be 0=z at *
      clear hb CF
      go_wp2_with fail
      refine CP.out.mono ?_
      rintro e w2 ⟨rfl,hb⟩
      have B2:=Lib.hid (below2 B.out hb)
      obtain⟨k2,k3⟩:=EH.out _ (H1.out.kept hb)
      clear hb CP B
      go_wp2_with fail
      refine bodyPost_ret (v:=.tuple #[.int .i64 x.be,.bool true]) (by simp[results,Tryz.results55,go_sem]) rfl ?_
      exact⟨by rw[HV.out]; rfl,B2.out⟩
    | false=>
      have HV:=Lib.hid (show known home T P k now=none by exact Mod.known_no hf (by rw[eT,hh]; simp))
      rw[hh] at HG
      clear hf eT ht hh
      generalize T[q]=x at *
      have dh:=HG.out
      go_enter Tryz.func55,Tryz.ntmps55
      go_wp2_with fail
      refine CF.out.mono ?_
      rintro e w1 ⟨rfl,hb⟩
      have B:=Lib.hid hb
      have H1:=Lib.hid (HT.out.kept hb)
      obtain⟨k2,k3⟩:=EH.out _ H1.out
      have CP:=Lib.hid (Pol.Find_told pa pc P x.be w1 (HP.out.kept hb))
      generalize Pol.find P x.be 0=z at *
      clear hb CF
      go_wp2_with fail
      refine CP.out.mono ?_
      rintro e w2 ⟨rfl,hb⟩
      have B2:=Lib.hid (below2 B.out hb)
      obtain⟨k2,k3⟩:=EH.out _ (H1.out.kept hb)
      clear hb CP B
      go_wp2_with fail
      refine bodyPost_ret (v:=.tuple #[.int .i64 0,.bool false]) (by simp[results,Tryz.results55,go_sem]) rfl ?_
      exact⟨by rw[HV.out]; rfl,B2.out⟩
   ·have dt:decide (T[q].dl<now)=true:=decide_eq_true (by omega)
    have HV:=Lib.hid (show known home T P k now=none by exact Mod.known_no hf (by rw[eT]; exact fun e=>ht e.1))
    clear hf eT ht
    generalize T[q]=x at *
    go_enter Tryz.func55,Tryz.ntmps55
    go_wp2_with fail
    refine CF.out.mono ?_
    rintro e w1 ⟨rfl,hb⟩
    have B:=Lib.hid hb
    obtain⟨k2,k3⟩:=EH.out _ (HT.out.kept hb)
    clear hb CF
    go_wp2_with fail
    refine bodyPost_ret (v:=.tuple #[.int .i64 0,.bool false]) (by simp[results,Tryz.results55,go_sem]) rfl ?_
    exact⟨by rw[HV.out]; rfl,B.out⟩
set_option maxHeartbeats 400000 in
theorem dec_none (now idle:Int) (c:Bool) (hT:Lies entK w a cap T) (hP:Pol.Lies w pa pc P) (hk:k.size≤4611686018427387904) (hTk:∀ x ∈ T,x.key.size≤4611686018427387904) (hl:T.length≤64) (_hPl:P.length≤1000000000) {r:List Tab.Ent × Ans} (ho:known home T P k now=none) (hp:P=[]) (hr:r=(T,⟨11,0,false,0⟩)):
 Calls Tryz.prog 24 #[rowV a cap T,polV pa pc P,.string k,.bool c,.int .i64 now,.int .i64 idle] w (Deals r w):=by
 obtain⟨al1,al2⟩:=below_ans w
 have CK:=Lib.hid (known_told a cap T pa pc P k _ now (hT.kept al2) (hP.kept al2) hk)
 rw[ho] at CK
 have HX:=Lib.hid al1
 have B0:=Lib.hid al2
 have HT:=Lib.hid hT
 have HP:=Lib.hid hP
 have HR:=Lib.hid hr
 have HTk:=Lib.hid hTk
 have HPM:=hP.len
 have HPX:=hP.max
 unfold maxLen at HPX
 clear al1 al2 hT hP hr ho hTk
 subst hp
 have d9:(((([]:List Bk).length:Nat):Int) == 0)=true:=rfl
 go_enter Tryz.func24,Tryz.ntmps24
 go_wp2_with fail
 refine CK.out.mono ?_
 rintro e w1 ⟨rfl,hb⟩
 have B1:=Lib.hid (below2 B0.out hb)
 have X1:=Lib.hid (HX.out.kept hb)
 clear hb CK B0 HX
 simp only[knownV]
 have CC:=Lib.hid (Flo.Clone_any a cap T w1 (HT.out.kept B1.out) (by omega))
 go_wp2_with fail
 refine CC.out.mono ?_
 rintro e w4 ⟨v,rfl,hv,hb⟩
 have B4:=Lib.hid (below2 B1.out hb)
 have X4:=Lib.hid (X1.out.kept hb)
 have V4:=Lib.hid hv.lies
 clear hv hb CC B1 X1
 obtain⟨av,cv,rfl,-⟩:=V4.out
 obtain⟨⟨x0,x1,x2,x3⟩,fr⟩:=X4.out.cells
 have f0:=fr 0
 have f1:=fr 1
 have f2:=fr 2
 have f3:=fr 3
 clear fr
 go_wp2_with fail
 obtain⟨⟨z0,z1,z2,z3⟩,-⟩:=(X4.out.put ⟨11,0,false,0⟩).cells
 unfold putAns at z0 z1 z2 z3
 clear x0 x1 x2 x3 f0 f1 f2 f3
 refine bodyPost_ret (v:=.tuple #[rowV av cv T,ansV ⟨11,0,false,0⟩]) ?q1 rfl ?q2
 case q1=>
  simp only[results,Tryz.results24]
  simp[go_sem,z0,z1,z2,z3]
 case q2=>exact Deals.of HR.out (Nat.le_refl _) B4.out X4.out V4.out
set_option maxHeartbeats 400000 in
theorem dec_some_close (now idle:Int) (b:Int) (hT:Lies entK w a cap T) (hP:Pol.Lies w pa pc P) (hk:k.size≤4611686018427387904) (hTk:∀ x ∈ T,x.key.size≤4611686018427387904) (hl:T.length≤64) (_hPl:P.length≤1000000000) {r:List Tab.Ent × Ans} (ho:known home T P k now=some b) (hr:r=(del home T k,⟨0,b,false,0⟩)):
 Calls Tryz.prog 24 #[rowV a cap T,polV pa pc P,.string k,.bool true,.int .i64 now,.int .i64 idle] w (Deals r w):=by
 obtain⟨al1,al2⟩:=below_ans w
 have CK:=Lib.hid (known_told a cap T pa pc P k _ now (hT.kept al2) (hP.kept al2) hk)
 rw[ho] at CK
 have HX:=Lib.hid al1
 have B0:=Lib.hid al2
 have HT:=Lib.hid hT
 have HP:=Lib.hid hP
 have HR:=Lib.hid hr
 have HTk:=Lib.hid hTk
 have HPM:=hP.len
 have HPX:=hP.max
 unfold maxLen at HPX
 clear al1 al2 hT hP hr ho hTk
 go_enter Tryz.func24,Tryz.ntmps24
 go_wp2_with fail
 refine CK.out.mono ?_
 rintro e w1 ⟨rfl,hb⟩
 have B1:=Lib.hid (below2 B0.out hb)
 have X1:=Lib.hid (HX.out.kept hb)
 clear hb CK B0 HX
 simp only[knownV]
 have B3:=Lib.hid B1.out
 have X3:=Lib.hid X1.out
 clear B1 X1
 have CD:=Lib.hid (Flo.Delete_told a cap T k w1 (HT.out.kept B3.out) hk HTk.out (by omega))
 rw[del_is hl k] at CD
 generalize del home T k=D at *
 generalize (Tab.find home T k).isSome=fs at *
 go_wp2_with fail
 refine CD.out.mono ?_
 rintro e w4 ⟨v,rfl,hv,hb⟩
 have B4:=Lib.hid (below2 B3.out hb)
 have X4:=Lib.hid (X3.out.kept hb)
 have V4:=Lib.hid hv
 clear hv hb CD B3 X3
 obtain⟨av,cv,rfl,-⟩:=V4.out
 obtain⟨⟨x0,x1,x2,x3⟩,fr⟩:=X4.out.cells
 have f0:=fr 0
 have f1:=fr 1
 have f2:=fr 2
 have f3:=fr 3
 clear fr
 go_wp2_with fail
 obtain⟨⟨z0,z1,z2,z3⟩,-⟩:=(X4.out.put ⟨0,b,false,0⟩).cells
 unfold putAns at z0 z1 z2 z3
 clear x0 x1 x2 x3 f0 f1 f2 f3
 refine bodyPost_ret (v:=.tuple #[rowV av cv D,ansV ⟨0,b,false,0⟩]) ?q1 rfl ?q2
 case q1=>
  simp only[results,Tryz.results24]
  simp[go_sem,z0,z1,z2,z3]
 case q2=>exact Deals.of HR.out (Nat.le_refl _) B4.out X4.out V4.out
set_option maxHeartbeats 400000 in
theorem dec_some_put (now idle:Int) (b:Int) (U:List Tab.Ent) (hT:Lies entK w a cap T) (hP:Pol.Lies w pa pc P) (hk:k.size≤4611686018427387904) (hTk:∀ x ∈ T,x.key.size≤4611686018427387904) (hl:T.length≤64) (_hPl:P.length≤1000000000) {r:List Tab.Ent × Ans} (ho:known home T P k now=some b) (hu:Tab.put home T k b (IntKind.i64.wrap (now+idle))=some U) (hr:r=(U,⟨0,b,false,0⟩)):
 Calls Tryz.prog 24 #[rowV a cap T,polV pa pc P,.string k,.bool false,.int .i64 now,.int .i64 idle] w (Deals r w):=by
 obtain⟨al1,al2⟩:=below_ans w
 have CK:=Lib.hid (known_told a cap T pa pc P k _ now (hT.kept al2) (hP.kept al2) hk)
 rw[ho] at CK
 have HX:=Lib.hid al1
 have B0:=Lib.hid al2
 have HT:=Lib.hid hT
 have HP:=Lib.hid hP
 have HR:=Lib.hid hr
 have HTk:=Lib.hid hTk
 have HPM:=hP.len
 have HPX:=hP.max
 unfold maxLen at HPX
 clear al1 al2 hT hP hr ho hTk
 go_enter Tryz.func24,Tryz.ntmps24
 go_wp2_with fail
 refine CK.out.mono ?_
 rintro e w1 ⟨rfl,hb⟩
 have B1:=Lib.hid (below2 B0.out hb)
 have X1:=Lib.hid (HX.out.kept hb)
 clear hb CK B0 HX
 simp only[knownV]
 have B3:=Lib.hid B1.out
 have X3:=Lib.hid X1.out
 clear B1 X1
 obtain⟨dl,hdl⟩:∃ dl,IntKind.i64.wrap (now+idle)=dl:=⟨_,rfl⟩
 rw[hdl] at hu
 have CU:=Lib.hid (Flo.Put_told a cap T k b dl w1 (HT.out.kept B3.out) hk (by omega))
 rcases put_is T k b dl with⟨U',p1,p2,p3⟩ | ⟨p1,-,-⟩
 ·rw[hu] at p1; cases p1
  rw[p2,p3] at CU
  clear p2 p3 hu
  go_wp2_with fail
  refine CU.out.mono ?_
  rintro e w4 ⟨v,rfl,hv,hb⟩
  have B4:=Lib.hid (below2 B3.out hb)
  have X4:=Lib.hid (X3.out.kept hb)
  have V4:=Lib.hid hv
  clear hv hb CU B3 X3
  obtain⟨av,cv,rfl,-⟩:=V4.out
  obtain⟨⟨x0,x1,x2,x3⟩,fr⟩:=X4.out.cells
  have f0:=fr 0
  have f1:=fr 1
  have f2:=fr 2
  have f3:=fr 3
  clear fr
  go_wp2_with fail
  obtain⟨⟨z0,z1,z2,z3⟩,-⟩:=(X4.out.put ⟨0,b,false,0⟩).cells
  unfold putAns at z0 z1 z2 z3
  clear x0 x1 x2 x3 f0 f1 f2 f3
  refine bodyPost_ret (v:=.tuple #[rowV av cv U,ansV ⟨0,b,false,0⟩]) ?q1 rfl ?q2
  case q1=>
   simp only[results,Tryz.results24]
   simp[go_sem,z0,z1,z2,z3]
  case q2=>exact Deals.of HR.out (Nat.le_refl _) B4.out X4.out V4.out
 ·rw[hu] at p1; cases p1
set_option maxHeartbeats 400000 in
theorem dec_some_full (now idle:Int) (b:Int) (hT:Lies entK w a cap T) (hP:Pol.Lies w pa pc P) (hk:k.size≤4611686018427387904) (hTk:∀ x ∈ T,x.key.size≤4611686018427387904) (hl:T.length≤64) (_hPl:P.length≤1000000000) {r:List Tab.Ent × Ans} (ho:known home T P k now=some b) (hu:Tab.put home T k b (IntKind.i64.wrap (now+idle))=none) (hr:r=(T,⟨12,0,false,0⟩)):
 Calls Tryz.prog 24 #[rowV a cap T,polV pa pc P,.string k,.bool false,.int .i64 now,.int .i64 idle] w (Deals r w):=by
 obtain⟨al1,al2⟩:=below_ans w
 have CK:=Lib.hid (known_told a cap T pa pc P k _ now (hT.kept al2) (hP.kept al2) hk)
 rw[ho] at CK
 have HX:=Lib.hid al1
 have B0:=Lib.hid al2
 have HT:=Lib.hid hT
 have HP:=Lib.hid hP
 have HR:=Lib.hid hr
 have HTk:=Lib.hid hTk
 have HPM:=hP.len
 have HPX:=hP.max
 unfold maxLen at HPX
 clear al1 al2 hT hP hr ho hTk
 go_enter Tryz.func24,Tryz.ntmps24
 go_wp2_with fail
 refine CK.out.mono ?_
 rintro e w1 ⟨rfl,hb⟩
 have B1:=Lib.hid (below2 B0.out hb)
 have X1:=Lib.hid (HX.out.kept hb)
 clear hb CK B0 HX
 simp only[knownV]
 have B3:=Lib.hid B1.out
 have X3:=Lib.hid X1.out
 clear B1 X1
 obtain⟨dl,hdl⟩:∃ dl,IntKind.i64.wrap (now+idle)=dl:=⟨_,rfl⟩
 rw[hdl] at hu
 have CU:=Lib.hid (Flo.Put_told a cap T k b dl w1 (HT.out.kept B3.out) hk (by omega))
 rcases put_is T k b dl with⟨U',p1,-,-⟩ | ⟨p1,p2,p3⟩
 ·rw[hu] at p1; cases p1
 ·rw[p2,p3] at CU
  clear p1 p2 p3 hu
  go_wp2_with fail
  refine CU.out.mono ?_
  rintro e w4 ⟨v,rfl,hv,hb⟩
  have B4:=Lib.hid (below2 B3.out hb)
  have X4:=Lib.hid (X3.out.kept hb)
  have V4:=Lib.hid hv
  clear hv hb CU B3 X3
  obtain⟨av,cv,rfl,-⟩:=V4.out
  obtain⟨⟨x0,x1,x2,x3⟩,fr⟩:=X4.out.cells
  have f0:=fr 0
  have f1:=fr 1
  have f2:=fr 2
  have f3:=fr 3
  clear fr
  go_wp2_with fail
  obtain⟨⟨z0,z1,z2,z3⟩,-⟩:=(X4.out.put ⟨12,0,false,0⟩).cells
  unfold putAns at z0 z1 z2 z3
  clear x0 x1 x2 x3 f0 f1 f2 f3
  refine bodyPost_ret (v:=.tuple #[rowV av cv T,ansV ⟨12,0,false,0⟩]) ?q1 rfl ?q2
  case q1=>
   simp only[results,Tryz.results24]
   simp[go_sem,z0,z1,z2,z3]
  case q2=>exact Deals.of HR.out (Nat.le_refl _) B4.out X4.out V4.out
set_option maxHeartbeats 400000 in
theorem dec_none_close (now idle:Int) (hT:Lies entK w a cap T) (hP:Pol.Lies w pa pc P) (hk:k.size≤4611686018427387904) (hTk:∀ x ∈ T,x.key.size≤4611686018427387904) (hl:T.length≤64) (hPl:P.length≤1000000000) {r:List Tab.Ent × Ans} (ho:known home T P k now=none) (hp:P≠[]) (hr:r=(del home T k,⟨0,pickK P k,false,0⟩)):
 Calls Tryz.prog 24 #[rowV a cap T,polV pa pc P,.string k,.bool true,.int .i64 now,.int .i64 idle] w (Deals r w):=by
 obtain⟨al1,al2⟩:=below_ans w
 have CK:=Lib.hid (known_told a cap T pa pc P k _ now (hT.kept al2) (hP.kept al2) hk)
 rw[ho] at CK
 have HX:=Lib.hid al1
 have B0:=Lib.hid al2
 have HT:=Lib.hid hT
 have HP:=Lib.hid hP
 have HR:=Lib.hid hr
 have HTk:=Lib.hid hTk
 have HPM:=hP.len
 have HPX:=hP.max
 unfold maxLen at HPX
 clear al1 al2 hT hP hr ho hTk
 have hpl:P.length≠0:=fun e=>hp (List.eq_nil_of_length_eq_zero e)
 have d9:((P.length:Int) == 0)=false:=beq_false_of_ne (by omega)
 have d9n:(P.length == 0)=false:=beq_false_of_ne hpl
 clear hp hpl
 go_enter Tryz.func24,Tryz.ntmps24
 go_wp2_with fail
 refine CK.out.mono ?_
 rintro e w1 ⟨rfl,hb⟩
 have B1:=Lib.hid (below2 B0.out hb)
 have X1:=Lib.hid (HX.out.kept hb)
 clear hb CK B0 HX
 simp only[knownV]
 have CS:=Lib.hid (Fnv.Sum_any k w1 hk)
 rw[show Fnv.jn 14695981039346656037 k.data.toList=hashN k from rfl] at CS
 go_wp2_with fail
 refine CS.out.mono ?_
 rintro e w2 ⟨rfl,hb⟩
 have B2:=Lib.hid (below2 B1.out hb)
 have X2:=Lib.hid (X1.out.kept hb)
 have CP:=Lib.hid (Rin.Pick_told pa pc P (hashN k:Nat) w2 (HP.out.kept B2.out) hPl)
 rw[show Rin.succL (Pts.ofL Pts.hsh P) (hashN k:Nat)=pickK P k from rfl] at CP
 clear hb CS B1 X1
 generalize hashN k=hs at *
 generalize pickK P k=bk at *
 go_wp2_with fail
 refine CP.out.mono ?_
 rintro e w3 ⟨rfl,hb⟩
 have B3:=Lib.hid (below2 B2.out hb)
 have X3:=Lib.hid (X2.out.kept hb)
 clear hb CP B2 X2
 have CD:=Lib.hid (Flo.Delete_told a cap T k w3 (HT.out.kept B3.out) hk HTk.out (by omega))
 rw[del_is hl k] at CD
 generalize del home T k=D at *
 generalize (Tab.find home T k).isSome=fs at *
 go_wp2_with fail
 refine CD.out.mono ?_
 rintro e w4 ⟨v,rfl,hv,hb⟩
 have B4:=Lib.hid (below2 B3.out hb)
 have X4:=Lib.hid (X3.out.kept hb)
 have V4:=Lib.hid hv
 clear hv hb CD B3 X3
 obtain⟨av,cv,rfl,-⟩:=V4.out
 obtain⟨⟨x0,x1,x2,x3⟩,fr⟩:=X4.out.cells
 have f0:=fr 0
 have f1:=fr 1
 have f2:=fr 2
 have f3:=fr 3
 clear fr
 go_wp2_with fail
 obtain⟨⟨z0,z1,z2,z3⟩,-⟩:=(X4.out.put ⟨0,bk,false,0⟩).cells
 unfold putAns at z0 z1 z2 z3
 clear x0 x1 x2 x3 f0 f1 f2 f3
 refine bodyPost_ret (v:=.tuple #[rowV av cv D,ansV ⟨0,bk,false,0⟩]) ?q1 rfl ?q2
 case q1=>
  simp only[results,Tryz.results24]
  simp[go_sem,z0,z1,z2,z3]
 case q2=>exact Deals.of HR.out (Nat.le_refl _) B4.out X4.out V4.out
set_option maxHeartbeats 400000 in
theorem dec_none_put (now idle:Int) (U:List Tab.Ent) (hT:Lies entK w a cap T) (hP:Pol.Lies w pa pc P) (hk:k.size≤4611686018427387904) (hTk:∀ x ∈ T,x.key.size≤4611686018427387904) (hl:T.length≤64) (hPl:P.length≤1000000000) {r:List Tab.Ent × Ans} (ho:known home T P k now=none) (hp:P≠[]) (hu:Tab.put home T k (pickK P k) (IntKind.i64.wrap (now+idle))=some U) (hr:r=(U,⟨0,pickK P k,true,0⟩)):
 Calls Tryz.prog 24 #[rowV a cap T,polV pa pc P,.string k,.bool false,.int .i64 now,.int .i64 idle] w (Deals r w):=by
 obtain⟨al1,al2⟩:=below_ans w
 have CK:=Lib.hid (known_told a cap T pa pc P k _ now (hT.kept al2) (hP.kept al2) hk)
 rw[ho] at CK
 have HX:=Lib.hid al1
 have B0:=Lib.hid al2
 have HT:=Lib.hid hT
 have HP:=Lib.hid hP
 have HR:=Lib.hid hr
 have HTk:=Lib.hid hTk
 have HPM:=hP.len
 have HPX:=hP.max
 unfold maxLen at HPX
 clear al1 al2 hT hP hr ho hTk
 have hpl:P.length≠0:=fun e=>hp (List.eq_nil_of_length_eq_zero e)
 have d9:((P.length:Int) == 0)=false:=beq_false_of_ne (by omega)
 have d9n:(P.length == 0)=false:=beq_false_of_ne hpl
 clear hp hpl
 go_enter Tryz.func24,Tryz.ntmps24
 go_wp2_with fail
 refine CK.out.mono ?_
 rintro e w1 ⟨rfl,hb⟩
 have B1:=Lib.hid (below2 B0.out hb)
 have X1:=Lib.hid (HX.out.kept hb)
 clear hb CK B0 HX
 simp only[knownV]
 have CS:=Lib.hid (Fnv.Sum_any k w1 hk)
 rw[show Fnv.jn 14695981039346656037 k.data.toList=hashN k from rfl] at CS
 go_wp2_with fail
 refine CS.out.mono ?_
 rintro e w2 ⟨rfl,hb⟩
 have B2:=Lib.hid (below2 B1.out hb)
 have X2:=Lib.hid (X1.out.kept hb)
 have CP:=Lib.hid (Rin.Pick_told pa pc P (hashN k:Nat) w2 (HP.out.kept B2.out) hPl)
 rw[show Rin.succL (Pts.ofL Pts.hsh P) (hashN k:Nat)=pickK P k from rfl] at CP
 clear hb CS B1 X1
 generalize hashN k=hs at *
 generalize pickK P k=bk at *
 go_wp2_with fail
 refine CP.out.mono ?_
 rintro e w3 ⟨rfl,hb⟩
 have B3:=Lib.hid (below2 B2.out hb)
 have X3:=Lib.hid (X2.out.kept hb)
 clear hb CP B2 X2
 obtain⟨dl,hdl⟩:∃ dl,IntKind.i64.wrap (now+idle)=dl:=⟨_,rfl⟩
 rw[hdl] at hu
 have CU:=Lib.hid (Flo.Put_told a cap T k bk dl w3 (HT.out.kept B3.out) hk (by omega))
 rcases put_is T k bk dl with⟨U',p1,p2,p3⟩ | ⟨p1,-,-⟩
 ·rw[hu] at p1; cases p1
  rw[p2,p3] at CU
  clear p2 p3 hu
  go_wp2_with fail
  refine CU.out.mono ?_
  rintro e w4 ⟨v,rfl,hv,hb⟩
  have B4:=Lib.hid (below2 B3.out hb)
  have X4:=Lib.hid (X3.out.kept hb)
  have V4:=Lib.hid hv
  clear hv hb CU B3 X3
  obtain⟨av,cv,rfl,-⟩:=V4.out
  obtain⟨⟨x0,x1,x2,x3⟩,fr⟩:=X4.out.cells
  have f0:=fr 0
  have f1:=fr 1
  have f2:=fr 2
  have f3:=fr 3
  clear fr
  go_wp2_with fail
  obtain⟨⟨z0,z1,z2,z3⟩,-⟩:=(X4.out.put ⟨0,bk,true,0⟩).cells
  unfold putAns at z0 z1 z2 z3
  clear x0 x1 x2 x3 f0 f1 f2 f3
  refine bodyPost_ret (v:=.tuple #[rowV av cv U,ansV ⟨0,bk,true,0⟩]) ?q1 rfl ?q2
  case q1=>
   simp only[results,Tryz.results24]
   simp[go_sem,z0,z1,z2,z3]
  case q2=>exact Deals.of HR.out (Nat.le_refl _) B4.out X4.out V4.out
 ·rw[hu] at p1; cases p1
set_option maxHeartbeats 400000 in
theorem dec_none_full (now idle:Int) (hT:Lies entK w a cap T) (hP:Pol.Lies w pa pc P) (hk:k.size≤4611686018427387904) (hTk:∀ x ∈ T,x.key.size≤4611686018427387904) (hl:T.length≤64) (hPl:P.length≤1000000000) {r:List Tab.Ent × Ans} (ho:known home T P k now=none) (hp:P≠[]) (hu:Tab.put home T k (pickK P k) (IntKind.i64.wrap (now+idle))=none) (hr:r=(T,⟨12,0,false,0⟩)):
 Calls Tryz.prog 24 #[rowV a cap T,polV pa pc P,.string k,.bool false,.int .i64 now,.int .i64 idle] w (Deals r w):=by
 obtain⟨al1,al2⟩:=below_ans w
 have CK:=Lib.hid (known_told a cap T pa pc P k _ now (hT.kept al2) (hP.kept al2) hk)
 rw[ho] at CK
 have HX:=Lib.hid al1
 have B0:=Lib.hid al2
 have HT:=Lib.hid hT
 have HP:=Lib.hid hP
 have HR:=Lib.hid hr
 have HTk:=Lib.hid hTk
 have HPM:=hP.len
 have HPX:=hP.max
 unfold maxLen at HPX
 clear al1 al2 hT hP hr ho hTk
 have hpl:P.length≠0:=fun e=>hp (List.eq_nil_of_length_eq_zero e)
 have d9:((P.length:Int) == 0)=false:=beq_false_of_ne (by omega)
 have d9n:(P.length == 0)=false:=beq_false_of_ne hpl
 clear hp hpl
 go_enter Tryz.func24,Tryz.ntmps24
 go_wp2_with fail
 refine CK.out.mono ?_
 rintro e w1 ⟨rfl,hb⟩
 have B1:=Lib.hid (below2 B0.out hb)
 have X1:=Lib.hid (HX.out.kept hb)
 clear hb CK B0 HX
 simp only[knownV]
 have CS:=Lib.hid (Fnv.Sum_any k w1 hk)
 rw[show Fnv.jn 14695981039346656037 k.data.toList=hashN k from rfl] at CS
 go_wp2_with fail
 refine CS.out.mono ?_
 rintro e w2 ⟨rfl,hb⟩
 have B2:=Lib.hid (below2 B1.out hb)
 have X2:=Lib.hid (X1.out.kept hb)
 have CP:=Lib.hid (Rin.Pick_told pa pc P (hashN k:Nat) w2 (HP.out.kept B2.out) hPl)
 rw[show Rin.succL (Pts.ofL Pts.hsh P) (hashN k:Nat)=pickK P k from rfl] at CP
 clear hb CS B1 X1
 generalize hashN k=hs at *
 generalize pickK P k=bk at *
 go_wp2_with fail
 refine CP.out.mono ?_
 rintro e w3 ⟨rfl,hb⟩
 have B3:=Lib.hid (below2 B2.out hb)
 have X3:=Lib.hid (X2.out.kept hb)
 clear hb CP B2 X2
 obtain⟨dl,hdl⟩:∃ dl,IntKind.i64.wrap (now+idle)=dl:=⟨_,rfl⟩
 rw[hdl] at hu
 have CU:=Lib.hid (Flo.Put_told a cap T k bk dl w3 (HT.out.kept B3.out) hk (by omega))
 rcases put_is T k bk dl with⟨U',p1,-,-⟩ | ⟨p1,p2,p3⟩
 ·rw[hu] at p1; cases p1
 ·rw[p2,p3] at CU
  clear p1 p2 p3 hu
  go_wp2_with fail
  refine CU.out.mono ?_
  rintro e w4 ⟨v,rfl,hv,hb⟩
  have B4:=Lib.hid (below2 B3.out hb)
  have X4:=Lib.hid (X3.out.kept hb)
  have V4:=Lib.hid hv
  clear hv hb CU B3 X3
  obtain⟨av,cv,rfl,-⟩:=V4.out
  obtain⟨⟨x0,x1,x2,x3⟩,fr⟩:=X4.out.cells
  have f0:=fr 0
  have f1:=fr 1
  have f2:=fr 2
  have f3:=fr 3
  clear fr
  go_wp2_with fail
  obtain⟨⟨z0,z1,z2,z3⟩,-⟩:=(X4.out.put ⟨12,0,false,0⟩).cells
  unfold putAns at z0 z1 z2 z3
  clear x0 x1 x2 x3 f0 f1 f2 f3
  refine bodyPost_ret (v:=.tuple #[rowV av cv T,ansV ⟨12,0,false,0⟩]) ?q1 rfl ?q2
  case q1=>
   simp only[results,Tryz.results24]
   simp[go_sem,z0,z1,z2,z3]
  case q2=>exact Deals.of HR.out (Nat.le_refl _) B4.out X4.out V4.out
theorem Decide_told (c:Bool) (now idle:Int) (hT:Lies entK w a cap T) (hP:Pol.Lies w pa pc P) (hk:k.size≤4611686018427387904) (hTk:∀ x ∈ T,x.key.size≤4611686018427387904) (hl:T.length≤64) (hPl:P.length≤1000000000):
 Calls Tryz.prog 24 #[rowV a cap T,polV pa pc P,.string k,.bool c,.int .i64 now,.int .i64 idle] w (Deals (deals home pickK T P k c now (IntKind.i64.wrap (now+idle))) w):=by
 by_cases hn:known home T P k now=none∧P=[]
 ·rw[Mod.deals_none hn.1 hn.2]; exact dec_none a cap T pa pc P k w now idle c hT hP hk hTk hl hPl hn.1 hn.2 rfl
 ·cases ho:known home T P k now with
  | some b=>
    cases c with
    | true=>rw[Mod.deals_closes hn,ho]; exact dec_some_close a cap T pa pc P k w now idle b hT hP hk hTk hl hPl ho rfl
    | false=>
      cases hu:Tab.put home T k b (IntKind.i64.wrap (now+idle)) with
      | some U=>rw[Mod.deals_put hn (by rw[ho]; exact hu),ho]; exact dec_some_put a cap T pa pc P k w now idle b U hT hP hk hTk hl hPl ho hu rfl
      | none=>rw[Mod.deals_full hn (by rw[ho]; exact hu)]; exact dec_some_full a cap T pa pc P k w now idle b hT hP hk hTk hl hPl ho hu rfl
  | none=>
    have hp:P≠[]:=fun e=>hn ⟨ho,e⟩
    cases c with
    | true=>rw[Mod.deals_closes hn,ho]; exact dec_none_close a cap T pa pc P k w now idle hT hP hk hTk hl hPl ho hp rfl
    | false=>
      cases hu:Tab.put home T k (pickK P k) (IntKind.i64.wrap (now+idle)) with
      | some U=>rw[Mod.deals_put hn (by rw[ho]; exact hu),ho]; exact dec_none_put a cap T pa pc P k w now idle U hT hP hk hTk hl hPl ho hp hu rfl
      | none=>rw[Mod.deals_full hn (by rw[ho]; exact hu)]; exact dec_none_full a cap T pa pc P k w now idle hT hP hk hTk hl hPl ho hp hu rfl
end
end Go.Proofs.YtbamodkgagcmnaaGreat.Mdl
