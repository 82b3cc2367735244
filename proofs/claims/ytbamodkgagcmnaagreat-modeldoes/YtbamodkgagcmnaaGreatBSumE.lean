/-
  Plain facts on words and what is carried (no program): the words of some bytes, their total, and what is left when what is above a word has gone round.
-/
import Derived.Lib.Hide
import Derived.Test.YtbamodkgagcmnaaGreatBOctGE
import Derived.WalkMore
set_option maxRecDepth 100000
namespace Go.Proofs.YtbamodkgagcmnaaGreat.Cks
def wd (a b:UInt8):Fin 65536:=⟨a.toNat * 256+b.toNat,by have:=a.toNat_lt; have:=b.toNat_lt; omega⟩
def wl:List UInt8→List (Fin 65536)
 | []=>[]
 | [a]=>[wd a 0]
 | a :: b :: r=>wd a b :: wl r
def tt (l:List (Fin 65536)):Nat:=(l.map Fin.val).sum
def tot (l:List UInt8):Nat:=tt (wl l)
def fc (n:Nat):Nat:=if n=0 then 0 else (n - 1) % 65535+1
theorem two_ind {P:List UInt8→Prop} (h0:P []) (h1:∀ a,P [a]) (h2:∀ a b r,P r→P (a :: b :: r)) (l:List UInt8):P l:=by
 have h:∀ n (l:List UInt8),l.length≤n→P l:=by
  intro n
  induction n with
  | zero=>intro l hl; obtain rfl:=List.eq_nil_of_length_eq_zero (Nat.le_zero.1 hl); exact h0
  | succ n ih=>
    intro l hl
    match l with
    | []=>exact h0
    | [a]=>exact h1 a
    | a :: b :: r=>exact h2 a b r (ih r (by simp at hl; omega))
 exact h _ l (Nat.le_refl _)
theorem wl_length (l:List UInt8):(wl l).length=(l.length+1) / 2:=by
 induction l using two_ind with
 | h0=>rfl
 | h1 a=>simp[wl]
 | h2 a b r ih=>simp[wl,ih]; omega
theorem wl_at (l:List UInt8) (k:Nat) (h:2 * k<l.length):(wl l)[k]? =some (wd (l[2 * k]?.getD 0) (l[2 * k+1]?.getD 0)):=by
 induction l using two_ind generalizing k with
 | h0=>simp at h
 | h1 a=>
   obtain rfl:k=0:=by simp at h; omega
   simp[wl]
 | h2 a b r ih=>
   cases k with
   | zero=>simp[wl]
   | succ k=>
     have:=ih k (by simp at h; omega)
     rw[show 2 * (k+1)=2 * k+1+1 by omega]
     simp[wl,this]
theorem wl_take (l:List UInt8) (k:Nat) (h:2 * k<l.length):(wl l).take (k+1)=(wl l).take k ++ [wd (l[2 * k]?.getD 0) (l[2 * k+1]?.getD 0)]:=by
 have h1:=wl_at l k h
 have h2:k<(wl l).length:=by rw[wl_length]; omega
 rw[List.getElem?_eq_getElem h2] at h1
 rw[List.take_succ_eq_append_getElem h2,Option.some.inj h1]
theorem tt_snoc (l:List (Fin 65536)) (x:Fin 65536):tt (l ++ [x])=tt l+x.1:=by simp[tt]
theorem tt_cons (l:List (Fin 65536)) (x:Fin 65536):tt (x :: l)=x.1+tt l:=by simp[tt]
theorem tt_le (l:List (Fin 65536)):tt l≤65535 * l.length:=by
 induction l with
 | nil=>simp[tt]
 | cons x l ih=>rw[tt_cons,List.length_cons]; have:=x.2; omega
theorem tot_nil:tot []=0:=rfl
theorem tot_two (a b:UInt8) (r:List UInt8):tot (a :: b :: r)=a.toNat * 256+b.toNat+tot r:=by simp[tot,wl,tt_cons,wd]
theorem tot_le (l:List UInt8):tot l≤65535 * l.length:=by
 have h:=tt_le (wl l)
 rw[wl_length] at h
 have:tot l≤65535 * ((l.length+1) / 2):=h
 omega
theorem tot_append (l k:List UInt8) (h:l.length % 2=0):tot (l ++ k)=tot l+tot k:=by
 induction l using two_ind with
 | h0=>simp[tot_nil]
 | h1 a=>simp at h
 | h2 a b r ih=>
   have:=ih (by simp at h; omega)
   simp only[List.cons_append,tot_two,this]; omega
theorem fc_small (n:Nat) (h:n<65536):fc n=n:=by
 unfold fc; split
 ·omega
 ·rw[Nat.mod_eq_of_lt (by omega)]; omega
theorem fc_le (n:Nat):fc n≤65535:=by
 unfold fc; split
 ·omega
 ·omega
theorem fc_round (n:Nat):fc (n / 65536+n % 65536)=fc n:=by
 unfold fc
 by_cases h:n=0
 ·subst h; rfl
 ·rw[if_neg h,if_neg (by omega)]; omega
theorem fc_add (a b:Nat):fc (a+b)=if 65535<fc a+fc b then fc a+fc b - 65535 else fc a+fc b:=by
 unfold fc
 by_cases h:a=0
 ·subst h; by_cases k:b=0
  ·subst k; rfl
  ·simp only[Nat.zero_add,if_neg k,if_pos]; rw[if_neg (by omega)]
 ·by_cases k:b=0
  ·subst k; simp only[Nat.add_zero,if_neg h,if_pos]; rw[if_neg (by omega)]
  ·rw[if_neg h,if_neg k,if_neg (by omega)]; split <;> omega
theorem fc_inj (a b:Nat) (h:fc a=fc b):a % 65535=b % 65535:=by
 unfold fc at h
 by_cases ha:a=0
 ·subst ha; by_cases hb:b=0
  ·subst hb; rfl
  ·rw[if_neg hb] at h; simp at h
 ·rw[if_neg ha] at h; by_cases hb:b=0
  ·subst hb; simp at h
  ·rw[if_neg hb] at h; omega
end Go.Proofs.YtbamodkgagcmnaaGreat.Cks
namespace Go.Proofs.YtbamodkgagcmnaaGreat.Cks
open Go.RowKit Go.Shelf
open Oct (KeepsCell keepsCell_t keepsCell_b cell_new_o cell_alloc_o frozen_alloc_o num num_lt)
attribute [local go_sem] Oper.semAt_some
def by_ (s:ByteArray) (i:Nat):UInt8:=s.data.toList[i]?.getD 0
theorem num_two (s:ByteArray) (a:Nat) (h:a+2≤s.size):num ((s.data.toList.drop a).take 2)=(wd (by_ s a) (by_ s (a+1))).1:=by
 have h4:a+1<s.data.toList.length:=by rw[Array.length_toList]; exact Nat.lt_of_lt_of_le (by omega) h
 have e:(s.data.toList.drop a).take 2=[by_ s a,by_ s (a+1)]:=by
  unfold by_
  rw[List.drop_eq_getElem_cons (by omega),List.drop_eq_getElem_cons h4,List.getElem?_eq_getElem (by omega),List.getElem?_eq_getElem h4]; rfl
 rw[e]; simp[num,wd]
theorem num_one (s:ByteArray) (a:Nat) (h:a+1=s.size):num ((s.data.toList.drop a).take 1) * 256=(wd (by_ s a) (by_ s (a+1))).1:=by
 have h4:a<s.data.toList.length:=by rw[Array.length_toList]; exact Nat.lt_of_lt_of_le (Nat.lt_succ_self a) (Nat.le_of_eq h)
 have h5:s.data.toList.length≤a+1:=by rw[Array.length_toList]; exact Nat.le_of_eq h.symm
 have e:(s.data.toList.drop a).take 1=[by_ s a]:=by
  unfold by_
  rw[List.drop_eq_getElem_cons h4,List.getElem?_eq_getElem h4]; rfl
 have e2:by_ s (a+1)=0:=by unfold by_; rw[List.getElem?_eq_none h5]; rfl
 rw[e,e2]; simp[num,wd]
set_option maxRecDepth 100000 in
set_option maxHeartbeats 800000 in
theorem word_in (F:Fence) (m:Nat) (hf:F.fn 211) (h10:F.fn 162) (h14:F.fn 158) (h15:F.fn 159) (h16:F.fn 181) (hro:F.round=none) (hm:4≤m) (s:ByteArray) (a:Nat) (hs:s.size≤1099511627776) (ha:a<s.size) (w:World):
 CallsIn F m Tryz.prog 211 #[.string s,.int .i64 (a:Int)] w fun e W'=>e=.returned (.int .i64 ((wd (by_ s a) (by_ s (a+1))).1:Nat))∧Below w.heap.size w W':=by
 have h1:1≤m:=by omega
 refine callsIn_of_wp Tryz.func211 rfl hf ?_ hro
 simp only[Tryz.ntmps211,List.size_toArray,List.length_cons,List.length_nil,Nat.reduceAdd,Nat.reduceSub,Array.replicate_succ,Array.replicate_zero,List.push_toArray,List.append_toArray,List.nil_append,List.cons_append]
 have hq:=(wd (by_ s a) (by_ s (a+1))).2
 by_cases h2:a+2≤s.size
 ·have e2:=num_two s a h2
  have c:=(Oct.Get_in F (m - 1) h10 h14 h15 h16 hro (by omega) s a 2 (by unfold maxLen; omega) (by omega) (by omega) h2 (by omega) w)
  rw[e2] at c
  generalize (wd (by_ s a) (by_ s (a+1))).1=q at *
  clear e2
  gi_wp2_with (gi_at_call 162; refine c.mono ?_; rintro e w' ⟨rfl,hb⟩)
  go_ret
  exact⟨rfl,hb⟩
 ·have e2:=num_one s a (by omega)
  have c:=(Oct.Get_not_in F (m - 1) h10 h14 hro (by omega) s (a:Int) 2 (by unfold maxLen; omega) (by omega) (by omega) w)
  have c1:=fun w=>(Oct.Get_in F (m - 1) h10 h14 h15 h16 hro (by omega) s a 1 (by unfold maxLen; omega) (by omega) (by omega) (by omega) (by omega) w)
  rw[← e2] at hq ⊢
  generalize num ((s.data.toList.drop a).take 1)=q at *
  clear e2
  have C1:=Lib.hid c1
  clear c1
  gi_wp2_with fail
  gi_at_call 162
  refine c.mono ?_
  rintro e w' ⟨rfl,hb⟩
  clear c
  gi_wp2_with fail
  gi_at_call 162
  refine (C1.out _).mono ?_
  rintro e w'' ⟨rfl,hb'⟩
  gi_wp2_with fail
  go_ret
  exact⟨rfl,hb.trans (hb'.mono hb.size)⟩
set_option maxHeartbeats 400000 in
theorem words_in (F:Fence) (m:Nat) (hf:F.fn 182) (hro:F.round=none) (s:ByteArray) (w:World):
 CallsIn F m Tryz.prog 182 #[.string s] w fun e w'=>
  e=.returned (.func (.func 210) #[] #[.pointer (some ⟨w.heap.size,0,none⟩)])∧w'=w.alloc (.cells #[.string s] 9):=by
 refine callsIn_of_wp Tryz.func182 rfl hf ?_ hro
 simp only[Tryz.ntmps182,List.size_toArray,List.length_cons,List.length_nil,Nat.reduceAdd,Nat.reduceSub,Array.replicate_succ,Array.replicate_zero,List.push_toArray,List.append_toArray,List.nil_append,List.cons_append]
 gi_wp2
 go_ret
 exact⟨rfl,rfl⟩
def ws (s:ByteArray):List (Fin 65536):=wl s.data.toList
theorem ws_length (s:ByteArray):(ws s).length=(s.size+1) / 2:=by unfold ws; rw[wl_length,Array.length_toList]; rfl
theorem ws_take (s:ByteArray) (k:Nat) (h:2 * k<s.size):(ws s).take (k+1)=(ws s).take k ++ [wd (by_ s (2 * k)) (by_ s (2 * k+1))]:=
 wl_take s.data.toList k (by rw[Array.length_toList]; exact h)
theorem ws_take_len (s:ByteArray) (k:Nat) (h:k≤(s.size+1) / 2):((ws s).take k).length=k:=by
 rw[List.length_take,ws_length]; omega
theorem grown_below {w w':World} (h:Below w.heap.size w w') (row:Option Nat):w.grownBy w' row:=⟨h.os,h.tape,h.output,h.size,fun k hk _=>h.block k hk⟩
set_option maxRecDepth 100000 in
set_option maxHeartbeats 2000000 in
theorem words1_in (F:Fence) (m:Nat) (hf:F.fn 210) (hw:F.fn 211) (h10:F.fn 162) (h14:F.fn 158) (h15:F.fn 159) (h16:F.fn 181) (hro:F.round=none) (hm:5≤m) (l B:Nat) (s:ByteArray) (hs:s.size≤1099511627776)
 (J Jx:List (Fin 65536)→World→Prop) (W:World) (hJ:AbidesFrom W.heap.size J)
 (hY:∀ pre x W,J pre W→pre.length<(s.size+1) / 2→YieldAt F (m - 1) Tryz.prog l #[.int .i64 (x.1:Int)] W fun e W'=>
   (e=.returned (.bool true)∧J (pre ++ [x]) W'∧KeepsCell B W W')∨(e=.returned (.bool false)∧Jx (pre ++ [x]) W'))
 (hc:W.cell? ⟨B,0,none⟩=some (.string s)) (h0:J [] W):
 CallsIn F m Tryz.prog 210 #[.func (.yield l) #[] #[],.pointer (some ⟨B,0,none⟩)] W fun e W'=>(∃ v,e=.returned v)∧
  ((∃ ys,ys=ws s∧J ys W')∨(∃ pre:List (Fin 65536),pre.length≤(s.size+1) / 2∧Jx pre W')):=by
 have h1:1≤m:=by omega
 refine callsIn_of_wp Tryz.func210 rfl hf ?_ hro
 simp only[Tryz.ntmps210,List.size_toArray,List.length_cons,List.length_nil,Nat.reduceAdd,Nat.reduceSub,Array.replicate_succ,Array.replicate_zero,List.push_toArray,List.append_toArray,List.nil_append,List.cons_append]
 gi_wp2
 gi_loopw [3] (fun i wr=>∃ k:Nat,k≤(s.size+1) / 2∧i=.int .i64 ((2 * k:Nat):Int)∧J ((ws s).take k) wr∧wr.cell? ⟨B,0,none⟩=some (.string s))
  (fun i _=>s.size+1 - (intOf i).toNat)
 case atStart=>exact⟨0,Nat.zero_le _,rfl,h0,hc⟩
 case round=>
  obtain⟨k,hk,rfl,hJs,hcx⟩:=hrel
  by_cases hlt:2 * k<s.size
  ·have d1:decide (((2 * k:Nat):Int)<(s.size:Int))=true:=by simpa using by omega
   have c:=word_in F (m - 1) hw h10 h14 h15 h16 hro (by omega) s (2 * k) hs hlt wr
   have ht:=Lib.hid (ws_take s k hlt)
   gi_wp2_with fail
   gi_at_call 211
   refine c.mono ?_
   rintro e w2 ⟨rfl,hb2⟩
   clear c
   have hJ2:J ((ws s).take k) w2:=hJ _ _ _ none hJs (grown_below hb2 none) (fun r e=>by cases e)
   have hc2:w2.cell? ⟨B,0,none⟩=some (.string s):=cell_kept hcx (grown_below hb2 none) (fun r e=>by cases e)
   obtain⟨fn,tmps,assign,body,hy,hR⟩:=hY _ (wd (by_ s (2 * k)) (by_ s (2 * k+1))) w2 hJ2 (by rw[ws_take_len s k hk]; omega)
   gi_wp2
   refine hR.mono ?_
   rintro e W3 (⟨rfl,hJ3,hk3⟩ | ⟨rfl,hJx3⟩)
   ·have hc3:=hk3 _ hc2
    gi_wp2
    go_roundw
    case rel=>exact⟨k+1,by omega,by simp; omega,by rw[ht.out]; exact hJ3,hc3⟩
    case measure=>simp[intOf]; omega
   ·gi_wp2
    refine bodyPost_ret (results_none rfl _ _ _) rfl ?_
    exact⟨⟨_,rfl⟩,.inr ⟨_,by rw[List.length_append,ws_take_len s k hk,List.length_singleton]; omega,hJx3⟩⟩
  ·have d1:decide (((2 * k:Nat):Int)<(s.size:Int))=false:=by simpa using by omega
   gi_wp2
   go_end0
   exact⟨⟨_,rfl⟩,.inl ⟨_,by rw[List.take_of_length_le (by rw[ws_length]; omega)],hJs⟩⟩
theorem words_stops (F:Fence) (m:Nat) (hf:F.fn 210) (hw:F.fn 211) (h10:F.fn 162) (h14:F.fn 158) (h15:F.fn 159) (h16:F.fn 181) (hro:F.round=none) (hm:5≤m) (B:Nat) (s:ByteArray) (hs:s.size≤1099511627776) (w:World) (hB:B<w.heap.size)
 (hc:w.cell? ⟨B,0,none⟩=some (.string s)):
 SeqStopsK F m Tryz.prog 210 #[.pointer (some ⟨B,0,none⟩)] (fun x:Fin 65536=>#[Value.int .i64 (x.1:Int)]) (KeepsCell B) (fun ys=>ys=ws s) (fun pre=>pre.length≤(s.size+1) / 2) ((s.size+1) / 2) w:=fun l J Jx W hW hJ _ hY h0=>
 words1_in F m hf hw h10 h14 h15 h16 hro hm l B s hs J Jx W hJ hY ((hW.cell (p:=⟨B,0,none⟩) hB).trans hc) h0
end Go.Proofs.YtbamodkgagcmnaaGreat.Cks
namespace Go.Proofs.YtbamodkgagcmnaaGreat.Cks
open Go.RowKit Go.Shelf
open Oct (KeepsCell keepsCell_t keepsCell_b cell_new_o cell_alloc_o frozen_alloc_o)
attribute [local go_sem] Oper.semAt_some
set_option maxRecDepth 100000 in
set_option maxHeartbeats 2000000 in
theorem carry_any (n:Nat) (hn:n≤4611686018427387904) (w:World):
 Calls Tryz.prog 183 #[.int .i64 (n:Int)] w fun e w'=>e=.returned (.int .i64 (fc n:Nat))∧w=w':=by
 go_enter Tryz.func183,Tryz.ntmps183
 go_wp2
 go_step3
 go_wp2
 go_step3
 go_wp2
 go_loop [0] (fun i=>∃ k:Nat,k≤4611686018427387904∧i=.int .i64 (k:Int)∧fc k=fc n) (fun i=>(intOf i).toNat)
 case atStart=>exact⟨n,hn,rfl,rfl⟩
 case round=>
  obtain⟨k,hk,rfl,hfk⟩:=hrel
  have HF:=Lib.hid hfk
  clear hfk
  by_cases hlt:k<65536
  ·have e1:(k:Int).tdiv 65536=0:=by rw[Int.tdiv_eq_ediv_of_nonneg (by omega)]; omega
   go_wp2
   go_ret
   exact⟨by rw[← HF.out,fc_small k hlt]; rfl,rfl⟩
  ·have e1:(k:Int).tdiv 65536=((k / 65536:Nat):Int):=by rw[Int.tdiv_eq_ediv_of_nonneg (by omega)]; omega
   have e2:(k:Int).tmod 65536=((k % 65536:Nat):Int):=by rw[Int.tmod_eq_emod_of_nonneg (by omega)]; omega
   go_wp2
   exact⟨⟨k / 65536+k % 65536,by omega,by simp,by rw[← HF.out,fc_round]⟩,by simp[intOf]; omega⟩
set_option maxRecDepth 100000 in
set_option maxHeartbeats 2000000 in
theorem Fold_in (F:Fence) (m:Nat) (hf:F.fn 160) (h1w:F.fn 182) (h2w:F.fn 210) (h3w:F.fn 211) (hcf:F.fn 183) (h10:F.fn 162) (h14:F.fn 158) (h15:F.fn 159) (h16:F.fn 181) (hro:F.round=none) (hm:6≤m)
 (hcarry:∀ (n:Nat) (w:World),n≤4611686018427387904→CallsIn F (m - 1) Tryz.prog 183 #[.int .i64 (n:Int)] w fun e w'=>e=.returned (.int .i64 (fc n:Nat))∧w=w') (s:ByteArray) (hs:s.size≤1099511627776) (w:World):
 CallsIn F m Tryz.prog 160 #[.string s] w fun e W'=>e=.returned (.int .i64 (fc (tot s.data.toList):Nat))∧Below w.heap.size w W':=by
 have h1:1≤m:=by omega
 refine callsIn_of_wp_marks Tryz.func160 rfl hf ?_ hro
 simp only[Tryz.ntmps160,List.size_toArray,List.length_cons,List.length_nil,Nat.reduceAdd,Nat.reduceSub,Array.replicate_succ,Array.replicate_zero,List.push_toArray,List.append_toArray,List.nil_append,List.cons_append]
 gi_wp2_with (gi_at_call 182; refine (words_in F (m - 1) h1w hro _ _).mono ?_; rintro e w' ⟨rfl,rfl⟩)
 have c0:=cell_new_o w (.int .i64 0) 3
 have c1:=cell_new_o (w.alloc (.cells #[.int .i64 0] 3)) (.string s) 9
 simp only[World.size_alloc] at c1
 have k0:=cell_alloc_o (.cells #[.string s] 9) c0.1
 have f0:=frozen_alloc_o (.cells #[.string s] 9) c0.1 c0.2
 have k1:=c1.1
 have hB0:Below w.heap.size w ((w.alloc (.cells #[.int .i64 0] 3)).alloc (.cells #[.string s] 9)):=
  ((Below.refl _ w).alloc (Nat.le_refl _) _).alloc (by simp) _
 generalize hW0:((w.alloc (.cells #[.int .i64 0] 3)).alloc (.cells #[.string s] 9))=W0 at *
 have hsz:W0.heap.size=w.heap.size+2:=by rw[← hW0]; simp
 have HS:=Lib.hid hsz
 have HW:=Lib.hid hW0
 clear c0 c1 hW0
 refine wpIn_rangeFunc_ownF hro h1 (gf:=210) (lb:=#[.pointer (some ⟨w.heap.size+1,0,none⟩)]) rfl h2w (enters_of Tryz.func210 (by kernel_rfl) rfl)
  (words_stops F (m - 1) h2w h3w h10 h14 h15 h16 hro (by omega) (w.heap.size+1) s hs W0 (by omega) k1) keepsCell_t keepsCell_b (Below.refl _ _) (fun _=>rfl)
  (fun pre W=>(W.cell? ⟨w.heap.size,0,none⟩=some (.int .i64 (tt pre:Nat))∧W.frozen? ⟨w.heap.size,0,none⟩=false)∧Below w.heap.size w W)
  (fun _ _ _=>False)
  (OwnFrom.and (Own.from (fun s A B row hs hg hr=>⟨cell_kept hs.1 hg hr,(frozen_kept hs.1 hg hr).trans hs.2⟩) _) (ownFrom_below (Nat.le_refl _) (by omega)))
  (fun _ _ _ _ _ hs _ _=>hs)
  ⟨⟨k0,f0⟩,hB0⟩
  (fun x=> { tmps:=#[.string s,undef,.int .i64 0,.pointer (some ⟨w.heap.size,0,none⟩),.int .i64 (x.1:Int),.string s,.func (.func 210) #[] #[.pointer (some ⟨w.heap.size+1,0,none⟩)],.int .i64 (x.1:Int),undef,undef,undef,undef,undef],defers:=[] }) ?assign ?body ?done ?stop
 case assign=>
  intro l x W K hK
  gi_wp2
  exact hK
 case body=>
  rintro l pre x W ⟨⟨hch,hfh⟩,hB⟩ hlen
  have htl:=tt_le pre
  have hx:=x.2
  have HJ:=Lib.hid (tt_snoc pre x)
  have e1:IntKind.i64.wrap ((tt pre:Int)+(x.1:Int))=((tt pre:Nat):Int)+(x.1:Int):=IntWalk.i64_in _ (by omega)
  clear k0 k1 f0 hB0
  gi_wp2
  refine⟨KeepsOthers.setCell _ _ _,fun v hv=>?_,⟨?_,?_⟩,?_⟩
  ·exact (World.cell?_setCell_other _ _ _ _ (by simp)).trans hv
  ·rw[HJ.out]; exact World.cell?_setCell_same' _ _ _ (by rw[hch]; rfl)
  ·rw[World.frozen?_setCell]; exact hfh
  ·exact hB.setCell (p:=⟨w.heap.size,0,none⟩) (by simp) _
 case done=>
  rintro D ys W hD rfl ⟨⟨hch,_⟩,hB⟩ hK
  have hl:=tot_le s.data.toList
  rw[Array.length_toList] at hl
  have hl2:tot s.data.toList≤65535 * s.size:=hl
  have hc:=hcarry (tot s.data.toList) W (by omega)
  rw[show tt (ws s)=tot s.data.toList from rfl] at hch
  generalize hq:tot s.data.toList=q at *
  have HQ:=Lib.hid hq
  clear hq
  gi_wp2_with fail
  gi_at_call 183
  refine hc.mono ?_
  rintro e w2 ⟨rfl,rfl⟩
  gi_wp2_with fail
  refine⟨by simp,.inl ⟨_,_,rfl,run_takeDeferred hK,?_⟩⟩
  refine⟨.int .i64 (fc q:Nat),by simp[results,Tryz.results160,go_sem],by rw[HQ.out],hB.trans (belowK_b (w:=w) (Nat.le_refl _) W D _ _ (by omega) hK rfl rfl)⟩
 case stop=>
  rintro D c pre W _ _ h _
  exact h.elim
theorem Fold_any (s:ByteArray) (hs:s.size≤1099511627776) (w:World):
 Calls Tryz.prog 160 #[.string s] w fun e W'=>e=.returned (.int .i64 (fc (tot s.data.toList):Nat))∧Below w.heap.size w W':=
 (callsIn_wide (n:=6)).1 (Fold_in Fence.wide 6 trivial trivial trivial trivial trivial trivial trivial trivial trivial rfl (by omega) (fun n w hn=>callsIn_wide.2 (carry_any n hn w)) s hs w)
set_option maxHeartbeats 800000 in
theorem Sum_any (s:ByteArray) (hs:s.size≤1099511627776) (w:World):
 Calls Tryz.prog 124 #[.string s] w fun e W'=>e=.returned (.int .i64 (65535 - (fc (tot s.data.toList):Nat):Int))∧Below w.heap.size w W':=by
 have hf:=fc_le (tot s.data.toList)
 go_enter Tryz.func124,Tryz.ntmps124
 go_wp2_with fail
 refine (Fold_any s hs _).mono ?_
 rintro e w1 ⟨rfl,hb⟩
 go_wp2_with fail
 go_ret
 exact⟨rfl,hb⟩
set_option maxHeartbeats 800000 in
theorem Good_any (s:ByteArray) (hs:s.size≤1099511627776) (w:World):
 Calls Tryz.prog 192 #[.string s] w fun e W'=>e=.returned (.bool (decide (fc (tot s.data.toList)=65535)))∧Below w.heap.size w W':=by
 have hf:=fc_le (tot s.data.toList)
 by_cases h:fc (tot s.data.toList)=65535
 ·rw[decide_eq_true h]
  go_enter Tryz.func192,Tryz.ntmps192
  go_wp2_with fail
  refine (Fold_any s hs _).mono ?_
  rintro e w1 ⟨rfl,hb⟩
  rw[h]
  go_wp2_with fail
  go_ret
  exact⟨rfl,hb⟩
 ·rw[decide_eq_false h]
  have N1:=Lib.hid (show (((fc (tot s.data.toList):Nat):Int) == 65535)=false from beq_false_of_ne (by omega))
  go_enter Tryz.func192,Tryz.ntmps192
  go_wp2_with fail
  refine (Fold_any s hs _).mono ?_
  rintro e w1 ⟨rfl,hb⟩
  go_wp2_with fail
  go_ret
  exact⟨by first | rfl | (rw[N1.out]; rfl),hb⟩
end Go.Proofs.YtbamodkgagcmnaaGreat.Cks
namespace Go.Proofs.YtbamodkgagcmnaaGreat.Cks
open Go.RowKit Go.Shelf
theorem by_at (s:ByteArray) (i:Nat) (h:i<s.size):by_ s i=s[i]:=Oct.byte_at s i h
theorem by_end (s:ByteArray) (i:Nat) (h:s.size≤i):by_ s i=0:=by
 unfold by_
 rw[List.getElem?_eq_none (by rw[Array.length_toList]; exact h)]; rfl
theorem fc_word (s:ByteArray) (k:Nat) (h:2 * k<s.size):fc (tt ((ws s).take (k+1)))=if 65535<fc (tt ((ws s).take k))+((by_ s (2 * k)).toNat * 256+(by_ s (2 * k+1)).toNat) then fc (tt ((ws s).take k))+((by_ s (2 * k)).toNat * 256+(by_ s (2 * k+1)).toNat) - 65535 else fc (tt ((ws s).take k))+((by_ s (2 * k)).toNat * 256+(by_ s (2 * k+1)).toNat):=by
 rw[ws_take s k h,tt_snoc,fc_add,fc_small _ (wd (by_ s (2 * k)) (by_ s (2 * k+1))).2]; rfl
set_option maxRecDepth 100000 in
set_option maxHeartbeats 2000000 in
theorem refFold_any (s:ByteArray) (hs:s.size≤1099511627776) (w:World):
 Calls Tryz.prog 214 #[.string s] w fun e W'=>e=.returned (.int .i64 (fc (tot s.data.toList):Nat))∧w=W':=by
 go_enter Tryz.func214,Tryz.ntmps214
 go_wp2
 go_loop [3,4] (fun v i=>∃ k j:Nat,k≤(s.size+1) / 2∧j=2 * k∧i=.int .i64 j∧v=.int .i64 (fc (tt ((ws s).take k)):Nat)) (fun _ i=>s.size+1 - (intOf i).toNat)
 case atStart=>exact⟨0,0,Nat.zero_le _,rfl,rfl,rfl⟩
 case round=>
  obtain⟨k,j,hk,hj,rfl,rfl⟩:=hrel
  by_cases hlt:j<s.size
  ·have hl:=fc_le (tt ((ws s).take k))
   have hs0:=fc_word s k (by omega)
   rw[← hj,by_at s j hlt] at hs0
   have hx:(s[j]).toNat<256:=(s[j]).toNat_lt
   generalize fc (tt ((ws s).take k))=q at *
   have HJ:=Lib.hid hj
   by_cases h1:j+1<s.size
   ·rw[by_at s (j+1) h1] at hs0
    have hy:(s[j+1]).toNat<256:=(s[j+1]).toNat_lt
    by_cases hg:65535<q+((s[j]).toNat * 256+(s[j+1]).toNat)
    ·rw[if_pos hg] at hs0
     have HS:=Lib.hid hs0
     clear hj hs0
     go_wp2
     have hj:=HJ.out
     have hs0:=HS.out
     exact⟨⟨k+1,j+2,by omega,by omega,by simp,congrArg (Value.int .i64) (by rw[hs0]; omega)⟩,by simp[intOf]; omega⟩
    ·rw[if_neg hg] at hs0
     have HS:=Lib.hid hs0
     clear hj hs0
     go_wp2
     have hj:=HJ.out
     have hs0:=HS.out
     exact⟨⟨k+1,j+2,by omega,by omega,by simp,congrArg (Value.int .i64) (by rw[hs0]; omega)⟩,by simp[intOf]; omega⟩
   ·rw[by_end s (j+1) (by omega)] at hs0
    simp only[UInt8.toNat_zero,Nat.add_zero] at hs0
    by_cases hg:65535<q+(s[j]).toNat * 256
    ·rw[if_pos hg] at hs0
     have HS:=Lib.hid hs0
     clear hj hs0
     go_wp2
     have hj:=HJ.out
     have hs0:=HS.out
     exact⟨⟨k+1,j+2,by omega,by omega,by simp,congrArg (Value.int .i64) (by rw[hs0]; omega)⟩,by simp[intOf]; omega⟩
    ·rw[if_neg hg] at hs0
     have HS:=Lib.hid hs0
     clear hj hs0
     go_wp2
     have hj:=HJ.out
     have hs0:=HS.out
     exact⟨⟨k+1,j+2,by omega,by omega,by simp,congrArg (Value.int .i64) (by rw[hs0]; omega)⟩,by simp[intOf]; omega⟩
  ·have hj2:=Lib.hid hj
   go_wp2
   go_ret
   have hj3:=hj2.out
   exact⟨by rw[List.take_of_length_le (by rw[ws_length]; omega)]; rfl,rfl⟩
set_option maxHeartbeats 800000 in
theorem refGood_any (s:ByteArray) (hs:s.size≤1099511627776) (w:World):
 Calls Tryz.prog 199 #[.string s] w fun e W'=>e=.returned (.bool (decide (fc (tot s.data.toList)=65535)))∧w=W':=by
 have hf:=fc_le (tot s.data.toList)
 by_cases h:fc (tot s.data.toList)=65535
 ·rw[decide_eq_true h]
  go_enter Tryz.func199,Tryz.ntmps199
  go_wp2_with fail
  refine (refFold_any s hs _).mono ?_
  rintro e w1 ⟨rfl,rfl⟩
  rw[h]
  go_wp2_with fail
  go_ret
  exact⟨rfl,rfl⟩
 ·rw[decide_eq_false h]
  have N1:=Lib.hid (show (((fc (tot s.data.toList):Nat):Int) == 65535)=false from beq_false_of_ne (by omega))
  go_enter Tryz.func199,Tryz.ntmps199
  go_wp2_with fail
  refine (refFold_any s hs _).mono ?_
  rintro e w1 ⟨rfl,rfl⟩
  go_wp2_with fail
  go_ret
  exact⟨by first | rfl | (rw[N1.out]; rfl),rfl⟩
end Go.Proofs.YtbamodkgagcmnaaGreat.Cks
