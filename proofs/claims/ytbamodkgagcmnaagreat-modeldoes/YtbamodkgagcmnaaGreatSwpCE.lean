/-
  The document's answer for sweep (package gangplankref13): Due, Step, All.
-/
import Derived.Test.YtbamodkgagcmnaaGreatSwpAE
import Derived.Test.YtbamodkgagcmnaaGreatBFlrE
set_option maxRecDepth 100000
namespace Go.Proofs.YtbamodkgagcmnaaGreat.Swp
open Go.RowKit Go.Shelf RowG Tab Prb Flo
theorem sweep_snoc (now:Int) (l:List Nat) (p:Nat) (T:List Ent):Tab.sweep now (l ++ [p]) T=if Due (ent (Tab.sweep now l T).1 p) now then ((Tab.sweep now l T).1.set p tomb,(Tab.sweep now l T).2+1) else Tab.sweep now l T:=by
 rw[sweep_append,sweep_cons]
 split <;> rfl
theorem sweep_less (now:Int):∀ (l:List Nat) (T:List Ent),(Tab.sweep now l T).2≤l.length
 | [],_=>Nat.le_refl _
 | i :: l,T=>by
   rw[sweep_cons]
   split
   ·have:=sweep_less now l (T.set i tomb)
    show (Tab.sweep now l (T.set i tomb)).2+1≤l.length+1
    omega
   ·have:=sweep_less now l T
    rw[List.length_cons]; omega
theorem sweep_short {now:Int} {n:Nat}:∀ (l:List Nat) (T:List Ent),(∀ x ∈ T,x.key.size≤n)→∀ x ∈ (Tab.sweep now l T).1,x.key.size≤n
 | [],_,h=>h
 | i :: l,T,h=>by
   rw[sweep_cons]
   split
   ·refine sweep_short l (T.set i tomb) fun x hx=>?_
    rcases List.mem_or_eq_of_mem_set hx with hx | rfl
    ·exact h x hx
    ·show 0≤n; omega
   ·exact sweep_short l T h
theorem next_in {n p:Nat} (h k:Nat) (hp:p=(h+k) % n):(p+1<n→(h+(k+1)) % n=p+1)∧(p+1=n→(h+(k+1)) % n=0):=by
 have e:(h+(k+1)) % n=(p+1) % n:=by rw[hp,Nat.mod_add_mod,Nat.add_assoc]
 exact⟨fun h1=>by rw[e,Nat.mod_eq_of_lt h1],fun h1=>by rw[e,h1,Nat.mod_self]⟩
set_option maxHeartbeats 400000 in
theorem refDue_any (x:Ent) (now:Int) (c:Bool) (hc:Due x now↔c=true) (w:World):Calls Tryz.prog 90 #[entV x,.int .i64 now] w fun e W'=>e=.returned (.bool c)∧Below w.heap.size w W':=by
 have al:Below w.heap.size w (w.alloc (.cells #[.int .i64 x.st,.string x.key,.int .i64 x.be,.int .i64 x.dl] 66)):=(Below.refl _ w).alloc (Nat.le_refl _) _
 by_cases s1:x.st=1
 ·have d1:(x.st == 1)=true:=by simpa using s1
  have hd:decide (x.dl<now)=c:=by
   by_cases hx:x.dl<now
   ·rw[decide_eq_true hx,hc.1 ⟨s1,hx⟩]
   ·rw[decide_eq_false hx]
    cases c with
    | false=>rfl
    | true=>exact absurd (hc.2 rfl).2 hx
  have HD:=Lib.hid hd
  have AL:=Lib.hid al
  clear hd al s1 hc
  go_enter Tryz.func90,Tryz.ntmps90
  go_wp2_with fail
  go_ret
  exact⟨by rw[HD.out]; rfl,AL.out⟩
 ·have d1:(x.st == 1)=false:=by simpa using s1
  have hd:c=false:=by
   cases c with
   | false=>rfl
   | true=>exact absurd (hc.2 rfl).1 s1
  subst hd
  have AL:=Lib.hid al
  clear al s1 hc
  go_enter Tryz.func90,Tryz.ntmps90
  go_wp2_with fail
  go_ret
  exact⟨rfl,AL.out⟩
set_option maxRecDepth 100000 in
set_option maxHeartbeats 2000000 in
theorem refStep_any (a:Option Addr) (cap:Nat) (T:List Ent) (f q now:Int) (w:World) (hT:Lies entK w a cap T) (hk:∀ x ∈ T,x.key.size≤4611686018427387904) (hl:T.length≤1000000000000):
 Calls Tryz.prog 50 #[rowV a cap T,.int .i64 f,.int .i64 q,.int .i64 now] w fun e W'=>∃ v,e=.returned (.tuple #[v,.int .i64 (nextP T.length (norm T.length f) (span q T.length):Nat),.int .i64 (dueN now (places T.length (norm T.length f) (span q T.length)) T:Nat)])∧Gives W' v (stepC now (places T.length (norm T.length f) (span q T.length)) T)∧Below w.heap.size w W':=by
 have H:=Lib.hid hT
 have hC:=hT.len
 have hM:=hT.max
 unfold maxLen at hM
 have HN:=Lib.hid (show norm T.length f<T.length∨norm T.length f=0 by
  by_cases hn:0<T.length
  ·exact .inl (norm_lt f hn)
  ·exact .inr (by rw[show T.length=0 by omega]; exact norm_zero f))
 have hMn:=span_le q T.length
 have HM:=Lib.hid (show (q<0∧span q T.length=0)∨(q=0∧span q T.length=0)∨(0<q∧q≤(T.length:Int)∧q=(span q T.length:Nat))∨(0<q∧(T.length:Int)<q∧span q T.length=T.length) by unfold span; omega)
 have HF:=Lib.hid (show (f<0∧norm T.length f=0)∨(0≤f∧(T.length:Int)≤f∧norm T.length f=0)∨(0≤f∧f<(T.length:Int)∧f=(norm T.length f:Nat)) by unfold norm; split <;> omega)
 have HG:=Lib.hid (fun (k:Nat) (e:k=span q T.length)=>(show (dueN now (places T.length (norm T.length f) (span q T.length)) T=(Tab.sweep now (places T.length (norm T.length f) k) T).2)∧stepC now (places T.length (norm T.length f) (span q T.length)) T=(if 0<(Tab.sweep now (places T.length (norm T.length f) k) T).2 then settleC (Tab.sweep now (places T.length (norm T.length f) k) T).1 else T)∧((Tab.sweep now (places T.length (norm T.length f) k) T).2=0→(Tab.sweep now (places T.length (norm T.length f) k) T).1=T) from by subst e; exact⟨rfl,rfl,sweep_zero _ _ _⟩))
 generalize dueN now (places T.length (norm T.length f) (span q T.length)) T=du at *
 generalize stepC now (places T.length (norm T.length f) (span q T.length)) T=sc at *
 have HP:=Lib.hid (show nextP T.length (norm T.length f) (span q T.length)=(norm T.length f+span q T.length) % T.length by
  unfold nextP
  split
  ·rename_i h0
   have h1:=HN.out
   rw[h0] at h1 hMn ⊢
   omega
  ·rfl)
 generalize nextP T.length (norm T.length f) (span q T.length)=np at *
 generalize norm T.length f=h at *
 generalize span q T.length=M at *
 clear hT
 have hmod:(h+0) % T.length=h:=by
  rcases HN.out with hh | rfl
  ·exact Nat.mod_eq_of_lt hh
  ·exact Nat.zero_mod _
 have HMO:=Lib.hid hmod
 clear hmod HN
 have HFF:=Lib.hid (show (decide (f<0)=true∧Hid (h=0))∨(decide (f<0)=false∧decide ((T.length:Int)≤f)=true∧Hid (h=0))∨(decide (f<0)=false∧decide ((T.length:Int)≤f)=false∧decide (T.length≤h)=false∧Hid (h=h)∧f=(h:Nat)) by
  rcases HF.out with⟨hf,hn⟩ | ⟨hf0,hf,hn⟩ | ⟨hf0,hf,hn⟩
  ·exact .inl ⟨decide_eq_true hf,Lib.hid hn⟩
  ·exact .inr (.inl ⟨decide_eq_false (by omega),decide_eq_true hf,Lib.hid hn⟩)
  ·exact .inr (.inr ⟨decide_eq_false (by omega),decide_eq_false (by omega),decide_eq_false (by omega),Lib.hid rfl,hn⟩))
 have HMM:=Lib.hid (show ((q<0∨q=0)∧M=0)∨(0<q∧(q=(M:Nat)∨(T.length:Int)<q∧M=T.length)) by
  have:=HM.out
  omega)
 clear HM HF
 rcases HMM.out with⟨hq,rfl⟩ | ⟨hq0,hq⟩
 ·clear HMM
  rcases hq with hq | rfl <;> rcases HFF.out with⟨f1,HN0⟩ | ⟨f1,f2,HN0⟩ | ⟨f1,f2,f2n,HN0,rfl⟩
  all_goals
   clear HFF
   obtain⟨hg1,hg2,-⟩:=HG.out 0 rfl
   have HD:=Lib.hid (show du=0 from hg1)
   have HSC:=Lib.hid (show sc=T from hg2)
   have HPP:=Lib.hid (show np=h from HP.out.trans HMO.out)
   clear hg1 hg2 HG
   go_enter Tryz.func50,Tryz.ntmps50
   go_wp2
   all_goals
    go_loopw [0,1,12,13] (fun v at' du' i W=>v=rowV a cap T∧at'=.int .i64 (h:Nat)∧du'=.int .i64 0∧i=.int .i64 0∧W=w) (fun _ _ _ _ _=>0)
    case atStart=>exact⟨rfl,by first | rfl | exact congrArg _ (by have:=HN0.out; omega),rfl,rfl,rfl⟩
    case round=>
     obtain⟨rfl,rfl,rfl,rfl,rfl⟩:=hrel
     go_wp2_with fail
     refine bodyPost_ret (v:=.tuple #[rowV a cap T,.int .i64 (h:Nat),.int .i64 0]) (by simp[results,Tryz.results50,go_sem]) rfl ?_
     exact⟨_,by rw[HPP.out,HD.out]; rfl,by rw[HSC.out]; exact⟨_,_,rfl,H.out⟩,Below.refl _ _⟩
 ·clear HMM
  rcases hq with rfl | ⟨hq,hM0⟩ <;> rcases HFF.out with⟨f1,HN0⟩ | ⟨f1,f2,HN0⟩ | ⟨f1,f2,f2n,HN0,rfl⟩
  all_goals
   clear HFF
   go_enter Tryz.func50,Tryz.ntmps50
   go_wp2
   go_loopw [0,1,12,13] (fun v at' du' i W=>∃ k:Nat,k≤M∧i=.int .i64 k∧at'=.int .i64 ((h+k) % T.length:Nat)∧du'=.int .i64 ((Tab.sweep now (places T.length h k) T).2:Nat)∧Gives W v (Tab.sweep now (places T.length h k) T).1∧Below w.heap.size w W) (fun _ _ _ i _=>M - (intOf i).toNat)
   case atStart=>exact⟨0,Nat.zero_le _,rfl,by rw[HMO.out] <;> exact congrArg _ (by have:=HN0.out; omega),rfl,⟨_,_,rfl,H.out⟩,Below.refl _ _⟩
   case round=>
    obtain⟨k,hk',rfl,rfl,rfl,hg,hB⟩:=hrel
    have hUl:=sweep_length now (places T.length h k) T
    have hdn:=sweep_less now (places T.length h k) T
    have hpl:(places T.length h k).length=k:=by simp[places]
    rw[hpl] at hdn
    have HB:=Lib.hid hB
    by_cases hlt:k<M
    ·have hn0:0<T.length:=by omega
     have hpn:(h+k) % T.length<T.length:=Nat.mod_lt _ hn0
     obtain⟨hx1,hx2⟩:=next_in h k (n:=T.length) rfl
     have HX1:=Lib.hid hx1
     have HX2:=Lib.hid hx2
     have hsn:=sweep_snoc now (places T.length h k) ((h+k) % T.length) T
     rw[← places_succ] at hsn
     obtain⟨a',cap',rfl,hl'⟩:=hg
     obtain⟨b,off,rfl,c0,c1,c2,c3⟩:=hl'.ent (by rw[hUl]; exact hpn)
     rw[← ent_at (by rw[hUl]; exact hpn)] at c0 c1 c2 c3
     have hlc:=hl'.len
     have hlm:=hl'.max
     unfold maxLen at hlm
     have HL:=Lib.hid hl'
     have HSN:=Lib.hid hsn
     clear hsn hx1 hx2 hB hl' hpl
     generalize Tab.sweep now (places T.length h k) T=SS at *
     generalize (h+k) % T.length=p at *
     obtain⟨c,hc⟩:∃ c:Bool,Due (ent SS.1 p) now↔c=true:=⟨decide (Due (ent SS.1 p) now),by simp⟩
     have C:=Lib.hid (refDue_any (ent SS.1 p) now c hc wr)
     have HSN2:=Lib.hid (show Tab.sweep now (places T.length h (k+1)) T=if c=true then (SS.1.set p tomb,SS.2+1) else SS by
      rw[HSN.out]
      by_cases hd:Due (ent SS.1 p) now
      ·rw[if_pos hd,if_pos (hc.1 hd)]
      ·rw[if_neg hd,if_neg (fun e=>hd (hc.2 e))])
     clear HSN hc
     generalize ent SS.1 p=y at *
     go_wp2_with fail
     refine C.out.mono ?_
     rintro e w1 ⟨rfl,hb1⟩
     clear C c0 c1 c2 c3
     cases c with
     | true=>
       have CB:=Lib.hid (refBury_any _ _ SS.1 p w1 (HL.out.kept hb1) (by omega))
       have HB1:=Lib.hid (HB.out.trans (hb1.mono HB.out.size))
       clear hb1 HL HB
       go_wp2_with fail
       refine CB.out.mono ?_
       rintro e w2 ⟨v2,rfl,⟨a2,cap2,rfl,hl2⟩,hb2⟩
       have HB2:=Lib.hid (HB1.out.trans (hb2.mono HB1.out.size))
       have HL2:=Lib.hid hl2
       have hl2n:(SS.1.set p tomb).length=T.length:=by rw[List.length_set]; exact hUl
       have HLN:=Lib.hid hl2n
       clear hl2 hb2 HB1 CB hl2n
       generalize SS.1.set p tomb=U2 at *
       by_cases hend:p+1=T.length
       ·have d2:((p:Int)+1 == (U2.length:Int))=true:=beq_iff_eq.2 (by have:=HLN.out; omega)
        have HX:=Lib.hid (HX2.out hend)
        clear HX1 HX2
        go_wp2_with fail
        go_roundw
        case rel=>exact⟨k+1,by omega,by go_num,by rw[HX.out]; rfl,by rw[HSN2.out,if_pos trivial]; rfl,by rw[HSN2.out,if_pos trivial]; exact⟨_,_,rfl,HL2.out⟩,HB2.out⟩
        case measure=>simp[intOf]; omega
       ·have d2:((p:Int)+1 == (U2.length:Int))=false:=beq_false_of_ne (by have:=HLN.out; omega)
        have HX:=Lib.hid (HX1.out (by omega))
        clear HX1 HX2
        go_wp2_with fail
        go_roundw
        case rel=>exact⟨k+1,by omega,by go_num,by rw[HX.out]; rfl,by rw[HSN2.out,if_pos trivial]; rfl,by rw[HSN2.out,if_pos trivial]; exact⟨_,_,rfl,HL2.out⟩,HB2.out⟩
        case measure=>simp[intOf]; omega
     | false=>
       have HB2:=Lib.hid (HB.out.trans (hb1.mono HB.out.size))
       have HL2:=Lib.hid (HL.out.kept hb1)
       clear hb1 HL HB
       by_cases hend:p+1=T.length
       ·have d2:((p:Int)+1 == (SS.1.length:Int))=true:=beq_iff_eq.2 (by omega)
        have HX:=Lib.hid (HX2.out hend)
        clear HX1 HX2
        go_wp2_with fail
        go_roundw
        case rel=>exact⟨k+1,by omega,by go_num,by rw[HX.out]; rfl,by rw[HSN2.out,if_neg (by simp)],by rw[HSN2.out,if_neg (by simp)]; exact⟨_,_,rfl,HL2.out⟩,HB2.out⟩
        case measure=>simp[intOf]; omega
       ·have d2:((p:Int)+1 == (SS.1.length:Int))=false:=beq_false_of_ne (by omega)
        have HX:=Lib.hid (HX1.out (by omega))
        clear HX1 HX2
        go_wp2_with fail
        go_roundw
        case rel=>exact⟨k+1,by omega,by go_num,by rw[HX.out]; rfl,by rw[HSN2.out,if_neg (by simp)],by rw[HSN2.out,if_neg (by simp)]; exact⟨_,_,rfl,HL2.out⟩,HB2.out⟩
        case measure=>simp[intOf]; omega
    ·have ek:k=M:=by omega
     obtain⟨hg1,hg2,hg3⟩:=HG.out k ek
     have hks:=sweep_short (now:=now) (places T.length h k) T hk
     have HGG:=Lib.hid hg
     have HSC:=Lib.hid hg2
     have HZ:=Lib.hid hg3
     have HD:=Lib.hid hg1
     have HPP:=Lib.hid (show (h+k) % T.length=np by rw[ek]; exact HP.out.symm)
     clear ek hg1 hg2 hg3 hg hpl hB HG
     generalize Tab.sweep now (places T.length h k) T=SS at *
     generalize (h+k) % T.length=p at *
     obtain⟨a',cap',rfl,hl'⟩:=HGG.out
     have CS:=Lib.hid (refSettle_any a' cap' SS.1 wr hl' hks (by omega))
     have HL:=Lib.hid hl'
     clear hl' hks HGG
     by_cases hz:0<SS.2
     ·have d1:decide (0<(SS.2:Int))=true:=decide_eq_true (by omega)
      go_wp2_with fail
      refine CS.out.mono ?_
      rintro e w2 ⟨v2,rfl,⟨a2,cap2,rfl,hl2⟩,hb2⟩
      have HB2:=Lib.hid (HB.out.trans (hb2.mono HB.out.size))
      have HL2:=Lib.hid hl2
      clear hl2 hb2 CS
      go_wp2_with fail
      refine bodyPost_ret (v:=.tuple #[rowV a2 cap2 (settleC SS.1),.int .i64 (p:Nat),.int .i64 (SS.2:Nat)]) (by simp[results,Tryz.results50,go_sem]) rfl ?_
      exact⟨_,by rw[HPP.out,HD.out],by rw[HSC.out,if_pos hz]; exact⟨_,_,rfl,HL2.out⟩,HB2.out⟩
     ·have d1:decide (0<(SS.2:Int))=false:=decide_eq_false (by omega)
      clear CS
      go_wp2_with fail
      refine bodyPost_ret (v:=.tuple #[rowV a' cap' SS.1,.int .i64 (p:Nat),.int .i64 (SS.2:Nat)]) (by simp[results,Tryz.results50,go_sem]) rfl ?_
      exact⟨_,by rw[HPP.out,HD.out],by rw[HSC.out,if_neg hz,← HZ.out (by omega)]; exact⟨_,_,rfl,HL.out⟩,HB.out⟩
end Go.Proofs.YtbamodkgagcmnaaGreat.Swp
