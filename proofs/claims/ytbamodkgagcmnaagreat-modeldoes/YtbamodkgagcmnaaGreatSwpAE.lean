/-
  Package sweep: start, behind, over, Due; places and the function that places hands back, as contracts.
-/
import Derived.Test.YtbamodkgagcmnaaGreatBFloE
import Derived.Test.YtbamodkgagcmnaaGreatTrnE
set_option maxRecDepth 100000
namespace Go.Proofs.YtbamodkgagcmnaaGreat.Swp
open Go.RowKit Go.Shelf RowG Tab Prb Flo
attribute [local go_sem] Oper.semAt_some
def stepC (now:Int) (l:List Nat) (T:List Ent):List Ent:=if 0<(sweep now l T).2 then settleC (sweep now l T).1 else T
theorem stepC_stepT {now:Int} {l:List Nat} {T:List Ent} (h:T.length≤64):stepC now l T=Tab.stepT home now l T:=by
 unfold stepC Tab.stepT settleC Tab.settle
 rw[tidyC_tidy (by rw[sweep_length]; exact h)]
set_option maxHeartbeats 400000 in
theorem start_told (h:Int) (n:Nat) (w:World):Calls Tryz.prog 114 #[.int .i64 h,.int .i64 (n:Nat)] w fun e W'=>e=.returned (.int .i64 (norm n h:Nat))∧W'=w:=by
 by_cases h0:h<0
 ·have HN:=Lib.hid (show norm n h=0 by unfold norm; rw[if_neg (by omega)])
  have d0:decide (h<0)=true:=decide_eq_true h0
  go_enter Tryz.func114,Tryz.ntmps114
  go_wp2_with fail
  go_ret
  exact⟨by rw[HN.out]; rfl,rfl⟩
 ·have d0:decide (h<0)=false:=decide_eq_false h0
  obtain⟨k,rfl⟩:=Int.eq_ofNat_of_zero_le (show 0≤h by omega)
  by_cases h1:n≤k
  ·have HN:=Lib.hid (show norm n (k:Int)=0 by unfold norm; rw[if_neg (by omega)])
   have d1:decide ((n:Int)≤(k:Int))=true:=decide_eq_true (by omega)
   go_enter Tryz.func114,Tryz.ntmps114
   go_wp2_with fail
   go_ret
   exact⟨by rw[HN.out]; rfl,rfl⟩
  ·have HN:=Lib.hid (show norm n (k:Int)=k from norm_nat (by omega))
   have d1:decide ((n:Int)≤(k:Int))=false:=decide_eq_false (by omega)
   go_enter Tryz.func114,Tryz.ntmps114
   go_wp2_with fail
   go_ret
   exact⟨by rw[HN.out]; rfl,rfl⟩
theorem norm_next {n a:Nat} (ha:a<n):norm n ((a:Int)+1)=(a+1) % n:=by
 rw[show ((a:Int)+1)=((a+1:Nat):Int) by omega]
 by_cases h:a+1<n
 ·rw[norm_nat h,Nat.mod_eq_of_lt h]
 ·have e:a+1=n:=by omega
  rw[e,Nat.mod_self]
  unfold norm
  rw[if_neg (by omega)]
set_option maxHeartbeats 400000 in
theorem behind_told (a n:Nat) (ha:a<n) (hn:n≤281474976710656) (w:World):Calls Tryz.prog 117 #[.int .i64 (a:Nat),.int .i64 (n:Nat)] w fun e W'=>e=.returned (.int .i64 ((a+1) % n:Nat))∧W'=w:=by
 have C:=Lib.hid (start_told ((a:Int)+1) n w)
 rw[norm_next ha] at C
 generalize (a+1) % n=z at *
 go_enter Tryz.func117,Tryz.ntmps117
 go_wp2_with fail
 refine C.out.mono ?_
 rintro e w1 ⟨rfl,rfl⟩
 go_wp2_with fail
 go_ret
 exact⟨rfl,rfl⟩
abbrev overV (now:Int):Value:=.func (.func 115) #[.int .i64 now] #[]
set_option maxHeartbeats 400000 in
theorem over_told (x:Ent) (now:Int) (c:Bool) (hc:Due x now↔c=true) (w:World):Calls Tryz.prog 115 #[.int .i64 now,entV x] w fun e W'=>e=.returned (.bool c)∧Below w.heap.size w W':=by
 have al:Below w.heap.size w (w.alloc (.cells #[.int .i64 x.st,.string x.key,.int .i64 x.be,.int .i64 x.dl] 66)):=(Below.refl _ w).alloc (Nat.le_refl _) _
 by_cases s1:x.st=1
 ·have d1:(x.st == 1)=true:=by simpa using s1
  have hd:decide (x.dl<now)=c:=by
   by_cases hx:x.dl<now
   ·rw[decide_eq_true hx,hc.1 ⟨s1,hx⟩]
   ·rw[decide_eq_false hx]
    cases c with
    | false=>rfl
    | true=>exact absurd (hc.2 rfl).2 hx
  have HD:=Lib.hid hd
  have AL:=Lib.hid al
  clear hd al s1 hc
  go_enter Tryz.func115,Tryz.ntmps115
  go_wp2_with fail
  go_ret
  exact⟨by rw[HD.out]; rfl,AL.out⟩
 ·have d1:(x.st == 1)=false:=by simpa using s1
  have hd:c=false:=by
   cases c with
   | false=>rfl
   | true=>exact absurd (hc.2 rfl).1 s1
  subst hd
  have AL:=Lib.hid al
  clear al s1 hc
  go_enter Tryz.func115,Tryz.ntmps115
  go_wp2_with fail
  go_ret
  exact⟨rfl,AL.out⟩
set_option maxHeartbeats 400000 in
theorem places_told (u v x:Value) (hu:u.oneCell'=true) (hv:v.oneCell'=true) (hx:x.oneCell'=true) (w:World):
 Calls Tryz.prog 116 #[u,v,x] w fun e w'=>e=.returned (.func (.func 156) #[] #[.pointer (some ⟨w.heap.size,0,none⟩),.pointer (some ⟨w.heap.size+1,0,none⟩),.pointer (some ⟨w.heap.size+2,0,none⟩)])∧w'=((w.alloc (.cells #[u] 3)).alloc (.cells #[v] 3)).alloc (.cells #[x] 3):=by
 go_enter Tryz.func116,Tryz.ntmps116
 go_wp2
 go_ret
 exact⟨rfl,rfl⟩
def placesF (n h m:Nat):List (Fin n):=if hn:0<n then (List.range m).map fun i=>⟨(h+i) % n,Nat.mod_lt _ hn⟩ else []
theorem placesF_zero (n h:Nat):placesF n h 0=[]:=by unfold placesF; split <;> rfl
theorem placesF_succ {n:Nat} (h m:Nat) (hn:0<n):placesF n h (m+1)=placesF n h m ++ [⟨(h+m) % n,Nat.mod_lt _ hn⟩]:=by
 unfold placesF
 rw[dif_pos hn,dif_pos hn,List.range_succ,List.map_append]
 rfl
theorem placesF_places {n h m:Nat} (hm:m≤n):(placesF n h m).map (·.1)=places n h m:=by
 unfold placesF places
 split
 ·rw[List.map_map]; rfl
 ·rw[show m=0 by omega]; rfl
theorem placesF_length {n m:Nat} (h:Nat) (hm:m≤n):(placesF n h m).length=m:=by
 have:=congrArg List.length (placesF_places (h:=h) hm)
 simpa [places] using this
theorem placesF_part {n m k:Nat} (h:Nat) (hk:k≤m):∃ l,placesF n h k ++ l=placesF n h m:=by
 unfold placesF
 split
 ·rename_i hn
  refine⟨((List.range m).drop k).map fun i=>⟨(h+i) % n,Nat.mod_lt _ hn⟩,?_⟩
  conv=>rhs; rw[← List.take_append_drop k (List.range m),List.map_append,List.take_range,Nat.min_eq_left hk]
 ·exact⟨[],rfl⟩
def placeV {n:Nat} (i:Fin n):Array Value:=#[.int .i64 (i.1:Nat)]
set_option maxRecDepth 100000 in
set_option maxHeartbeats 1000000 in
theorem places1_in (m:Nat) (hm:1≤m) (l B1 B2 B3:Nat) (n h:Nat) (q:Int) (M:Nat) (hM:M=span q n) (hn:n≤281474976710656) (hh:h<n∨h=0)
 (J Jx:List (Fin n)→World→Prop) (W:World)
 (hY:∀ pre x W,J pre W→pre.length<M→YieldAt Fence.wide (m - 1) Tryz.prog l (placeV x) W fun e W'=>
   (e=.returned (.bool true)∧J (pre ++ [x]) W'∧KeepsIn (fun b=>b=B3) W W')∨(e=.returned (.bool false)∧Jx (pre ++ [x]) W'))
 (c1:W.cell? ⟨B1,0,none⟩=some (.int .i64 (h:Nat))) (c2:W.cell? ⟨B2,0,none⟩=some (.int .i64 q)) (c3:W.cell? ⟨B3,0,none⟩=some (.int .i64 (n:Nat))) (h0:J [] W):
 CallsIn Fence.wide m Tryz.prog 156 #[.func (.yield l) #[] #[],.pointer (some ⟨B1,0,none⟩),.pointer (some ⟨B2,0,none⟩),.pointer (some ⟨B3,0,none⟩)] W fun e W'=>(∃ v,e=.returned v)∧
  ((∃ ys,ys=placesF n h M∧J ys W')∨(∃ pre:List (Fin n),(∃ l,pre ++ l=placesF n h M)∧Jx pre W')):=by
 have h1:1≤m:=hm
 have hMn:M≤n:=by rw[hM]; exact span_le q n
 have HY:=Lib.hid hY
 have hmod:(h+0) % n=h:=by
  rcases hh with hh | rfl
  ·exact Nat.mod_eq_of_lt hh
  ·exact Nat.zero_mod n
 have HS:=Lib.hid h0
 clear hY h0
 refine callsIn_of_wp Tryz.func156 rfl trivial ?_ rfl
 simp only[Tryz.ntmps156,List.size_toArray,List.length_cons,List.length_nil,Nat.reduceAdd,Nat.reduceSub,Array.replicate_succ,Array.replicate_zero,List.push_toArray,List.append_toArray,List.nil_append,List.cons_append]
 by_cases hq:q<0
 ·have e0:M=0:=by rw[hM]; unfold span; omega
  subst e0
  clear hM hmod
  gi_wp2
  gi_loopw [10] (fun i wr=>i=.int .i64 0∧wr=W) (fun _ _=>0)
  case atStart=>exact⟨rfl,rfl⟩
  case round=>
   obtain⟨rfl,rfl⟩:=hrel
   have d0:decide (0<q)=false:=decide_eq_false (by omega)
   gi_wp2
   go_end0
   exact⟨⟨_,rfl⟩,.inl ⟨_,rfl,by rw[placesF_zero]; exact HS.out⟩⟩
 by_cases hle:q≤(n:Int)
 ·obtain rfl:q=(M:Int):=by rw[hM]; unfold span; omega
  clear hM
  gi_wp2
  gi_loopw [5,10] (fun at' i wr=>∃ k:Nat,k≤M∧i=.int .i64 k∧at'=.int .i64 ((h+k) % n:Nat)∧J (placesF n h k) wr∧wr.cell? ⟨B3,0,none⟩=some (.int .i64 (n:Nat)))
   (fun _ i _=>M - (intOf i).toNat)
  case atStart=>exact⟨0,Nat.zero_le _,rfl,by rw[hmod],by rw[placesF_zero]; exact HS.out,c3⟩
  case round=>
   obtain⟨k,hk,rfl,rfl,hJs,c4⟩:=hrel
   have HJs:=Lib.hid hJs
   clear c1 c2 c3 HS hJs
   by_cases hlt:k<M
   ·have hn0:0<n:=by omega
    have hpl:=placesF_length h (Nat.le_trans hk hMn)
    obtain⟨x,hx⟩:∃ x:Fin n,x.1=(h+k) % n:=⟨⟨_,Nat.mod_lt _ hn0⟩,rfl⟩
    have hSu:placesF n h (k+1)=placesF n h k ++ [x]:=by rw[placesF_succ h k hn0]; exact congrArg (fun y=>placesF n h k ++ [y]) (Fin.ext hx.symm)
    obtain⟨fn,tmps,assign,body,hy,hR⟩:=HY.out _ x _ HJs.out (by rw[hpl]; exact hlt)
    unfold placeV at hy
    have HSu:=Lib.hid hSu
    have HP:=Lib.hid (placesF_part (n:=n) h (show k+1≤M by omega))
    have C:=Lib.hid (fun W3=>behind_told x.1 n x.2 hn W3)
    have HA:=Lib.hid (show (x.1+1) % n=(h+(k+1)) % n by rw[hx,Nat.mod_add_mod,Nat.add_assoc])
    have HR:=Lib.hid hR
    rw[← hx]
    clear hpl hmod HJs hR hSu hx
    gi_wp2
    refine HR.out.mono ?_
    rintro e W3 (⟨rfl,hJ3,hk3⟩ | ⟨rfl,hJx3⟩)
    ·have c5:=hk3 _ _ rfl c4
     have HJ3:=Lib.hid hJ3
     clear hk3 c4 hJ3 hy HR
     gi_wp2_with fail
     refine⟨trivial,?_⟩
     gi_at_call 117
     refine (callsIn_wide.2 (C.out _)).mono ?_
     rintro e W4 ⟨rfl,rfl⟩
     gi_wp2
     go_roundw
     case rel=>exact⟨k+1,by omega,by simp,by rw[← HA.out]; simp,by rw[HSu.out]; exact HJ3.out,c5⟩
     case measure=>simp[intOf]; omega
    ·have HX:=Lib.hid hJx3
     clear hJx3 hy HR
     gi_wp2
     refine bodyPost_ret (results_none rfl _ _ _) rfl ?_
     exact⟨⟨_,rfl⟩,.inr ⟨_,by rw[← HSu.out]; exact HP.out,HX.out⟩⟩
   ·have ek:k=M:=by omega
    have HJ2:=Lib.hid (show J (placesF n h M) wr by have h9:=HJs.out; rw[ek] at h9; exact h9)
    have d0:decide ((k:Int)<((M:Nat):Int))=false:=decide_eq_false (by omega)
    clear HJs
    gi_wp2
    go_end0
    exact⟨⟨_,rfl⟩,.inl ⟨_,rfl,HJ2.out⟩⟩
 ·obtain rfl:M=n:=by rw[hM]; unfold span; omega
  clear hM
  gi_wp2
  gi_loopw [5,10] (fun at' i wr=>∃ k:Nat,k≤M∧i=.int .i64 k∧at'=.int .i64 ((h+k) % M:Nat)∧J (placesF M h k) wr∧wr.cell? ⟨B3,0,none⟩=some (.int .i64 (M:Nat)))
   (fun _ i _=>M - (intOf i).toNat)
  case atStart=>exact⟨0,Nat.zero_le _,rfl,by rw[hmod],by rw[placesF_zero]; exact HS.out,c3⟩
  case round=>
   obtain⟨k,hk,rfl,rfl,hJs,c4⟩:=hrel
   have HJs:=Lib.hid hJs
   clear c1 c2 c3 HS hJs
   by_cases hlt:k<M
   ·have hn0:0<M:=by omega
    have hpl:=placesF_length h (Nat.le_trans hk hMn)
    obtain⟨x,hx⟩:∃ x:Fin M,x.1=(h+k) % M:=⟨⟨_,Nat.mod_lt _ hn0⟩,rfl⟩
    have hSu:placesF M h (k+1)=placesF M h k ++ [x]:=by rw[placesF_succ h k hn0]; exact congrArg (fun y=>placesF M h k ++ [y]) (Fin.ext hx.symm)
    obtain⟨fn,tmps,assign,body,hy,hR⟩:=HY.out _ x _ HJs.out (by rw[hpl]; exact hlt)
    unfold placeV at hy
    have HSu:=Lib.hid hSu
    have HP:=Lib.hid (placesF_part (n:=M) h (show k+1≤M by omega))
    have C:=Lib.hid (fun W3=>behind_told x.1 M x.2 hn W3)
    have HA:=Lib.hid (show (x.1+1) % M=(h+(k+1)) % M by rw[hx,Nat.mod_add_mod,Nat.add_assoc])
    have HR:=Lib.hid hR
    rw[← hx]
    clear hpl hmod HJs hR hSu hx
    gi_wp2
    refine HR.out.mono ?_
    rintro e W3 (⟨rfl,hJ3,hk3⟩ | ⟨rfl,hJx3⟩)
    ·have c5:=hk3 _ _ rfl c4
     have HJ3:=Lib.hid hJ3
     clear hk3 c4 hJ3 hy HR
     gi_wp2_with fail
     refine⟨trivial,?_⟩
     gi_at_call 117
     refine (callsIn_wide.2 (C.out _)).mono ?_
     rintro e W4 ⟨rfl,rfl⟩
     gi_wp2
     go_roundw
     case rel=>exact⟨k+1,by omega,by simp,by rw[← HA.out]; simp,by rw[HSu.out]; exact HJ3.out,c5⟩
     case measure=>simp[intOf]; omega
    ·have HX:=Lib.hid hJx3
     clear hJx3 hy HR
     gi_wp2
     refine bodyPost_ret (results_none rfl _ _ _) rfl ?_
     exact⟨⟨_,rfl⟩,.inr ⟨_,by rw[← HSu.out]; exact HP.out,HX.out⟩⟩
   ·have ek:k=M:=by omega
    have HJ2:=Lib.hid (show J (placesF M h M) wr by have h9:=HJs.out; rw[ek] at h9; exact h9)
    have d0:decide ((k:Int)<((M:Nat):Int))=false:=decide_eq_false (by omega)
    clear HJs
    gi_wp2
    go_end0
    exact⟨⟨_,rfl⟩,.inl ⟨_,rfl,HJ2.out⟩⟩
theorem places_stops (m:Nat) (hm:1≤m) (B1 B2 B3 n h:Nat) (q:Int) (hn:n≤281474976710656) (hh:h<n∨h=0) (w:World) (b1:B1<w.heap.size) (b2:B2<w.heap.size) (b3:B3<w.heap.size)
 (c1:w.cell? ⟨B1,0,none⟩=some (.int .i64 (h:Nat))) (c2:w.cell? ⟨B2,0,none⟩=some (.int .i64 q)) (c3:w.cell? ⟨B3,0,none⟩=some (.int .i64 (n:Nat))):
 SeqStopsK Fence.wide m Tryz.prog 156 #[.pointer (some ⟨B1,0,none⟩),.pointer (some ⟨B2,0,none⟩),.pointer (some ⟨B3,0,none⟩)] placeV (KeepsIn (fun b=>b=B3)) (fun ys=>ys=placesF n h (span q n)) (fun pre=>∃ l,pre ++ l=placesF n h (span q n)) (span q n) w:=fun l J Jx W hW _ _ hY h0=>
 places1_in m hm l B1 B2 B3 n h q (span q n) rfl hn hh J Jx W hY ((hW.cell (p:=⟨B1,0,none⟩) b1).trans c1) ((hW.cell (p:=⟨B2,0,none⟩) b2).trans c2) ((hW.cell (p:=⟨B3,0,none⟩) b3).trans c3) h0
end Go.Proofs.YtbamodkgagcmnaaGreat.Swp
