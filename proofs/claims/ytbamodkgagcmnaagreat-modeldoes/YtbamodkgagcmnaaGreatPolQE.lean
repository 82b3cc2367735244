/-
  Pools: package pool's ids (a map's keys) and Check.
-/
import Derived.Test.YtbamodkgagcmnaaGreatBPlmE
import Derived.Maps.OwnSet
import Derived.Maps.Views
import Derived.Lib.SlKeysI
import Derived.Carry
set_option maxRecDepth 100000
namespace Go.Proofs.YtbamodkgagcmnaaGreat.Pol
open Go.RowKit Go.Shelf Go.Maps Rgn
structure Keyd (D:DataW Unit) (zs:List Int):Prop where
 tidy:Tidy D
 has:∀ z,has D (.int .i64 z)=true↔z ∈ zs
 le:Maps.size D≤zs.length
 full:Maps.size D=zs.length↔zs.Nodup
theorem keyd_nil:Keyd (.map []) []:=⟨tidy_empty,fun z=>by simp[Maps.has],Nat.le_refl _,by simp[Maps.size]⟩
theorem Keyd.more {D:DataW Unit} {zs:List Int} (h:Keyd D zs) (z:Int) (d:DataW Unit) (ht:Tidy (D.put (.int .i64 z) d)):Keyd (D.put (.int .i64 z) d) (zs ++ [z]):=by
 have hk:WideAt.IsKeyLit (.int .i64 z):=by simp[WideAt.IsKeyLit]
 have hs:=size_put (k:=.int .i64 z) h.tidy d
 have hle:=h.le
 refine⟨ht,fun y=>?_,?_,?_⟩
 ·by_cases e:y=z
  ·subst e; rw[has_put_same h.tidy.isMap hk d]; simp
  ·rw[has_put_other (fun e'=>e (by cases e'; rfl)) d,h.has y]; simp[e]
 ·rw[hs]; simp only[List.length_append,List.length_cons,List.length_nil]; split <;> omega
 ·rw[hs,List.length_append,List.length_singleton,List.nodup_append]
  by_cases hm:z ∈ zs
  ·rw[if_pos ((h.has z).2 hm)]
   constructor
   ·intro e; omega
   ·rintro⟨_,_,hd⟩; exact absurd rfl (hd z hm z (by simp))
  ·rw[if_neg (fun e=>hm ((h.has z).1 e))]
   constructor
   ·intro e
    refine⟨h.full.1 (by omega),by simp,fun a ha b hb=>?_⟩
    simp at hb; subst hb; exact fun e=>hm (e ▸ ha)
   ·rintro⟨hn,_⟩; rw[h.full.2 hn]
def iN:Value→Nat
 | .int _ q=>q.toNat
 | _=>0
theorem law3:Keyed Tryz.prog 3:=int_keyed Tryz.underlying3
noncomputable abbrev elB:Value→Option (DataW Unit × List MemPlace):=plainElem Tryz.prog 4
set_option maxRecDepth 100000 in
set_option maxHeartbeats 2000000 in
theorem ids_any (a:Option Addr) (cap:Nat) (bs:List Bk) (w:World) (h:Lies w a cap bs) (hok:∀ x ∈ bs,(Lit.int .i64 x.1).wf=true):
 Calls Tryz.prog 68 #[polV a cap bs] w fun e W'=>∃ D,e=.returned (.map (some w.heap.size))∧W'.ownsMap Tryz.prog 3 elB w.heap.size bs.length D∧Keyd D (bs.map (·.1))∧Below w.heap.size w W':=by
 have H:=Lib.hid h
 have HK:=Lib.hid hok
 clear h hok
 have hmm:= @run_makeMap Tryz.prog
 go_enter Tryz.func68,Tryz.ntmps68
 go_wp2
 go_loopw [9] (fun i W=>∃ (m:Nat) (D:DataW Unit),m≤bs.length∧i=.int .i64 m∧W.ownsMap Tryz.prog 3 elB w.heap.size m D∧Keyd D ((bs.take m).map (·.1))∧Below w.heap.size w W) (fun i _=>bs.length - iN i)
 case atStart=>exact⟨0,.map [],Nat.zero_le _,rfl,World.ownsMap_made w Tryz.prog 3 elB,keyd_nil,below_alloc w _⟩
 case round=>
  obtain⟨m,D,hm,rfl,hown,hK,hB⟩:=hrel
  have HB:=Lib.hid hB
  have HD:=Lib.hid hK
  have HO:=Lib.hid hown
  clear hB hK hown
  by_cases hlt:m<bs.length
  ·obtain⟨b,off,rfl,c0,c1⟩:=(H.out.kept HB.out).at hlt
   have hC:=H.out.len
   have hM:=H.out.max
   unfold maxLen at hM
   have hwf:=HK.out bs[m] (List.getElem_mem hlt)
   have HT:=Lib.hid (show (bs.take (m+1)).map (·.1)=(bs.take m).map (·.1) ++ [bs[m].1] by rw[take_more bs m hlt,List.map_append]; rfl)
   generalize bs[m]=x at *
   go_wp2_with (at_mapUpdate; refine wpList_mapUpdate_own _ rfl _ _ _ 123 rfl 3 4 law3 Tryz.underlying123 elB w.heap.size m D rfl (HO.out.alloc _) (by unfold maxLen; omega) _ _ (.int .i64 x.1) rfl rfl (keyOf_int_mk Tryz.underlying3 hwf) _ [] (plainElem_bool Tryz.underlying4 _) ?_)
   intro w1 hown1 hgrow1
   have HO1:=Lib.hid hown1
   have HK1:=Lib.hid (HD.out.more x.1 _ (hown1.tidy law3))
   have HB1:=Lib.hid ((HB.out.alloc HB.out.size (.cells #[.int .i64 x.1,.int .i64 x.2] 83)).grown hgrow1 (by have:=HB.out.size; simp; omega) (fun k hk=>by cases hk; exact Nat.le_refl _))
   clear hown1 hgrow1
   go_wp2
   refine⟨⟨m+1,_,by omega,by go_num,HO1.out,by rw[HT.out]; exact HK1.out,HB1.out⟩,by simp[iN]; omega⟩
  ·obtain rfl:m=bs.length:=by omega
   have HE:=Lib.hid (List.take_length (l:=bs))
   go_wp2
   go_ret
   exact⟨D,rfl,HO.out,by have:=HD.out; rwa [HE.out] at this,HB.out⟩
theorem wf_small (z:Int) (h:1≤z∧z≤65535):(Lit.int .i64 z).wf=true:=by
 have e:IntKind.i64.min= -9223372036854775808:=by rfl
 simp only[Lit.wf,Bool.and_eq_true,decide_eq_true_eq]
 exact⟨by rw[e]; omega,by show z≤9223372036854775807; omega⟩
def badId (x:Bk):Bool:=decide (x.1<1) || decide (65535<x.1)
def badWeight (x:Bk):Bool:=decide (x.2<1) || decide (16<x.2)
set_option maxHeartbeats 800000 in
theorem badId_asks (w:World):Asks 65 #[] badId w:=by
 intro x W _
 have al:=Lib.hid (below_alloc W (.cells #[.int .i64 x.1,.int .i64 x.2] 83))
 go_enter Tryz.func65,Tryz.ntmps65
 go_wp2
 all_goals (go_ret; exact⟨by simp_all [badId],al.out⟩)
set_option maxHeartbeats 800000 in
theorem badWeight_asks (w:World):Asks 66 #[] badWeight w:=by
 intro x W _
 have al:=Lib.hid (below_alloc W (.cells #[.int .i64 x.1,.int .i64 x.2] 83))
 go_enter Tryz.func66,Tryz.ntmps66
 go_wp2
 all_goals (go_ret; exact⟨by simp_all [badWeight],al.out⟩)
theorem first_bad (a:Option Addr) (cap:Nat) (bs:List Bk) (w:World) (h:Lies w a cap bs):
 Calls Tryz.prog 67 #[polV a cap bs,.slice (some ⟨w.heap.size,0,none⟩) 2 2] (w.alloc (.cells #[.func (.func 65) #[] #[],.func (.func 66) #[] #[]] 126))
  fun e W'=>e=.returned (.int .i64 (idx (fun x=>badId x || badWeight x) bs 0))∧Below w.heap.size w W':=by
 have al:=below_alloc w (.cells #[.func (.func 65) #[] #[],.func (.func 66) #[] #[]] 126)
 refine (first_any a cap bs w.heap.size 2 (by omega) (fun j=>if j=0 then 65 else 66) (fun _=>#[]) (fun j x=>if j=0 then badId x else badWeight x) (fun x=>badId x || badWeight x) _ (h.kept al) (by simp) ?_ ?_ ?_ ?_).mono ?_
 ·intro j hj
  match j,hj with
  | 0,_=>simp
  | 1,_=>simp
 ·intro j hj
  match j,hj with
  | 0,_=>exact enters_of Tryz.func65 (by kernel_rfl) rfl
  | 1,_=>exact enters_of Tryz.func66 (by kernel_rfl) rfl
 ·intro j hj
  match j,hj with
  | 0,_=>exact badId_asks _
  | 1,_=>exact badWeight_asks _
 ·intro x
  rw[Bool.or_eq_true]
  constructor
  ·rintro (h | h)
   ·exact⟨0,by omega,h⟩
   ·exact⟨1,by omega,h⟩
  ·rintro⟨j,hj,h⟩
   match j,hj with
   | 0,_=>exact .inl h
   | 1,_=>exact .inr h
 ·rintro e W' ⟨rfl,hb⟩
  exact⟨rfl,below2 al hb⟩
theorem idx_cases (q:Bk→Bool) (bs:List Bk):(idx q bs 0= -1∧∀ x ∈ bs,q x=false)∨(0≤idx q bs 0∧∃ x ∈ bs,q x=true):=by
 have go:∀ (bs:List Bk) k,(idx q bs k= -1∧∀ x ∈ bs,q x=false)∨(0≤idx q bs k∧∃ x ∈ bs,q x=true):=by
  intro bs
  induction bs with
  | nil=>intro k; exact .inl ⟨rfl,fun x hx=>by cases hx⟩
  | cons x bs ih=>
    intro k
    unfold idx
    cases h:q x with
    | true=>rw[if_pos rfl]; exact .inr ⟨by omega,x,by simp,h⟩
    | false=>
      rw[if_neg (by simp)]
      rcases ih (k+1) with⟨h1,h2⟩ | ⟨h1,y,hy,h2⟩
      ·exact .inl ⟨h1,fun y hy=>by rcases List.mem_cons.1 hy with rfl | hy; exact h; exact h2 y hy⟩
      ·exact .inr ⟨h1,y,by simp[hy],h2⟩
 exact go bs 0
theorem bad_rng (x:Bk):(badId x || badWeight x)=false↔rng x:=by
 simp only[badId,badWeight,rng,Bool.or_eq_false_iff,decide_eq_false_iff_not]
 omega
set_option maxRecDepth 100000 in
set_option maxHeartbeats 4000000 in
theorem Check_told (a:Option Addr) (cap:Nat) (bs:List Bk) (c:Bool) (hc:chk bs↔c=true) (w:World) (h:Lies w a cap bs):
 Calls Tryz.prog 28 #[polV a cap bs] w fun e W'=>e=.returned (chkV c)∧Below w.heap.size w W':=by
 have H:=Lib.hid h
 have hlen:=h.len
 have hmax:=h.max
 unfold maxLen at hmax
 clear h
 rw[chk_iff] at hc
 by_cases h32:32<bs.length
 ·have HV:=Lib.hid (show c=false by
   cases c with
   | false=>rfl
   | true=>have:=(hc.2 rfl).1; omega)
  clear hc
  have d0:decide ((32:Int)<(bs.length:Int))=true:=decide_eq_true (by omega)
  have d1:decide (32<bs.length)=true:=decide_eq_true h32
  go_enter Tryz.func28,Tryz.ntmps28
  go_wp2_with fail
  go_ret
  exact⟨by rw[HV.out]; rfl,Below.refl _ _⟩
 ·have d0:decide ((32:Int)<(bs.length:Int))=false:=decide_eq_false (by omega)
  have d1:decide (32<bs.length)=false:=decide_eq_false h32
  have F:=Lib.hid (first_bad a cap bs w H.out)
  rcases idx_cases (fun x=>badId x || badWeight x) bs with⟨hi,hno⟩ | ⟨hi,y,hy,hyb⟩
  ·have hr:∀ x ∈ bs,rng x:=fun x hx=>(bad_rng x).1 (hno x hx)
   have HK:=Lib.hid (show ∀ x ∈ bs,(Lit.int .i64 x.1).wf=true from fun x hx=>wf_small x.1 ⟨(hr x hx).1,(hr x hx).2.1⟩)
   have HC:=Lib.hid (show (bs.map (·.1)).Nodup↔c=true by rw[← hc]; exact⟨fun h=>⟨by omega,hr,h⟩,fun h=>h.2.2⟩)
   rw[hi] at F
   clear hc hno hr hi
   go_enter Tryz.func28,Tryz.ntmps28
   go_wp2_with fail
   refine F.out.mono ?_
   rintro e w1 ⟨rfl,hb1⟩
   have I:=Lib.hid (ids_any a cap bs w1 (H.out.kept hb1) HK.out)
   have HB1:=Lib.hid hb1
   clear hb1 F
   go_wp2_with fail
   refine I.out.mono ?_
   rintro e w2 ⟨D,rfl,hown,hK,hb2⟩
   have HB2:=Lib.hid (below2 HB1.out hb2)
   have hsz:=hown.len Tryz.underlying123
   have hfull:=hK.full
   have hle:=hK.le
   rw[List.length_map] at hfull hle
   rw[HC.out] at hfull
   have HF:=Lib.hid hfull
   clear hown hK hb2 hfull I
   generalize Maps.size D=z at *
   go_wp2_with fail
   ·have hz:z<bs.length:=by assumption
    have hv:c=false:=by
     cases c with
     | false=>rfl
     | true=>have:=HF.out.2 rfl; omega
    go_ret
    exact⟨by rw[hv]; rfl,HB2.out⟩
   ·have hz:¬ z<bs.length:=by assumption
    have hv:c=true:=HF.out.1 (by omega)
    go_ret
    exact⟨by rw[hv]; rfl,HB2.out⟩
  ·have HV:=Lib.hid (show c=false by
    cases c with
    | false=>rfl
    | true=>
      have:=(bad_rng y).2 ((hc.2 rfl).2.1 y hy)
      rw[this] at hyb; exact absurd hyb (by simp))
   clear hc hyb
   generalize idx (fun x=>badId x || badWeight x) bs 0=z at *
   have d2:decide ((0:Int)≤z)=true:=decide_eq_true hi
   go_enter Tryz.func28,Tryz.ntmps28
   go_wp2_with fail
   refine F.out.mono ?_
   rintro e w1 ⟨rfl,hb1⟩
   have HB1:=Lib.hid hb1
   clear hb1 F
   go_wp2_with fail
   go_ret
   exact⟨by rw[HV.out]; rfl,HB1.out⟩
end Go.Proofs.YtbamodkgagcmnaaGreat.Pol
