/-
  Plain facts on bytes and numbers (no program): the number of a list of bytes, the greatest one first, and the lowest n bytes of a number.
-/
import Derived.Lib.Hide
import Derived.RangeFuncNested
import Derived.RangeFuncBound
import Derived.RangeFuncCalls
import Derived.RangeFuncLeaves
import Derived.Shelf.Abstract
import Derived.Shelf.RegionOpen
import Derived.WalkKit
import Derived.OwnWalkIn
import Derived.TacticsInMore
import Derived.LoopNIn
import Derived.LoopIn
import Derived.Test.YtbamodkgagcmnaaGreatProg
import Derived.BigRegionIn
import Derived.Laws.BitsAllLaws
import Derived.Deep.OwnRows
import Derived.Laws.BytesArg
set_option maxRecDepth 100000
namespace Go.Proofs.YtbamodkgagcmnaaGreat.Oct
def num (l:List UInt8):Nat:=l.foldl (fun a b=>a * 256+b.toNat) 0
def bytes (v:Nat):Nat→List UInt8
 | 0=>[]
 | n+1=>bytes (v / 256) n ++ [UInt8.ofNat v]
theorem num_nil:num []=0:=rfl
theorem num_snoc (l:List UInt8) (b:UInt8):num (l ++ [b])=num l * 256+b.toNat:=by simp[num]
theorem snoc_ind {P:List UInt8→Prop} (h0:P []) (h1:∀ l b,P l→P (l ++ [b])) (l:List UInt8):P l:=by
 have h:∀ n (l:List UInt8),l.length=n→P l:=by
  intro n
  induction n with
  | zero=>intro l hl; obtain rfl:=List.eq_nil_of_length_eq_zero hl; exact h0
  | succ n ih=>
    intro l hl
    have hne:l≠[]:=by intro e; subst e; simp at hl
    rw[← List.dropLast_concat_getLast hne]
    exact h1 _ _ (ih _ (by simp[hl]))
 exact h _ l rfl
theorem num_lt (l:List UInt8):num l<256 ^ l.length:=by
 induction l using snoc_ind with
 | h0=>simp[num]
 | h1 l b ih=>
   rw[num_snoc,List.length_append,List.length_singleton,Nat.pow_succ]
   have:=b.toNat_lt
   omega
theorem bytes_length (v n:Nat):(bytes v n).length=n:=by
 induction n generalizing v with
 | zero=>rfl
 | succ n ih=>simp[bytes,ih]
theorem toNat_ofNat (v:Nat):(UInt8.ofNat v).toNat=v % 256:=by simp[UInt8.toNat_ofNat']
theorem num_bytes (v n:Nat):num (bytes v n)=v % 256 ^ n:=by
 induction n generalizing v with
 | zero=>simp[bytes,num,Nat.mod_one]
 | succ n ih=>
   rw[bytes,num_snoc,ih,toNat_ofNat,Nat.pow_succ,Nat.mul_comm (256 ^ n) 256,Nat.mod_mul]
   omega
theorem bytes_parts (v n m:Nat):bytes v (n+m)=bytes (v / 256 ^ m) n ++ bytes v m:=by
 induction m generalizing v with
 | zero=>simp[bytes]
 | succ m ih=>
   rw[← Nat.add_assoc,bytes,ih,bytes,List.append_assoc,Nat.pow_succ,Nat.mul_comm (256 ^ m) 256,Nat.div_div_eq_div_mul]
theorem num_append (l k:List UInt8):num (l ++ k)=num l * 256 ^ k.length+num k:=by
 induction k using snoc_ind with
 | h0=>simp[num_nil]
 | h1 k b ih=>
   rw[← List.append_assoc,num_snoc,ih,num_snoc,List.length_append,List.length_singleton,Nat.pow_succ,Nat.add_mul,Nat.mul_assoc,Nat.add_assoc]
end Go.Proofs.YtbamodkgagcmnaaGreat.Oct
namespace Go.Proofs.YtbamodkgagcmnaaGreat.Oct
open Go.RowKit Go.Shelf
attribute [local go_sem] Oper.semAt_some
def fitsB (n:Int):Bool:=decide (1≤n) && decide (n≤8)
set_option maxHeartbeats 400000 in
theorem fits_in (F:Fence) (m:Nat) (hf:F.fn 158) (hro:F.round=none) (n:Int) (w:World):
 CallsIn F m Tryz.prog 158 #[.int .i64 n] w fun e w'=>e=.returned (.bool (fitsB n))∧w=w':=by
 refine callsIn_of_wp Tryz.func158 rfl hf ?_ hro
 simp only[Tryz.ntmps158,List.size_toArray,List.length_cons,List.length_nil,Nat.reduceAdd,Nat.reduceSub,Array.replicate_succ,Array.replicate_zero,List.push_toArray,List.append_toArray,List.nil_append,List.cons_append]
 by_cases h1:1≤n
 ·by_cases h2:n≤8
  ·gi_wp2
   all_goals go_ret
   all_goals exact⟨by simp[fitsB,h1,h2],rfl⟩
  ·gi_wp2
   all_goals go_ret
   all_goals exact⟨by simp[fitsB,h1,h2],rfl⟩
 ·gi_wp2
  all_goals go_ret
  all_goals exact⟨by rw[show fitsB n=false by unfold fitsB; rw[decide_eq_false (by omega)]; rfl]; rfl,rfl⟩
set_option maxHeartbeats 400000 in
theorem places_in (F:Fence) (m:Nat) (hf:F.fn 159) (hro:F.round=none) (a n:Int) (w:World):
 CallsIn F m Tryz.prog 159 #[.int .i64 a,.int .i64 n] w fun e w'=>
  e=.returned (.func (.func 181) #[] #[.pointer (some ⟨w.heap.size+1,0,none⟩),.pointer (some ⟨w.heap.size,0,none⟩)])∧
  w'=(w.alloc (.cells #[.int .i64 a] 3)).alloc (.cells #[.int .i64 n] 3):=by
 refine callsIn_of_wp Tryz.func159 rfl hf ?_ hro
 simp only[Tryz.ntmps159,List.size_toArray,List.length_cons,List.length_nil,Nat.reduceAdd,Nat.reduceSub,Array.replicate_succ,Array.replicate_zero,List.push_toArray,List.append_toArray,List.nil_append,List.cons_append]
 gi_wp2
 go_ret
 exact⟨rfl,rfl⟩
def KeepsCell (b:Nat) (W W':World):Prop:=∀ v,W.cell? ⟨b,0,none⟩=some v→W'.cell? ⟨b,0,none⟩=some v
theorem keepsCell_t {b:Nat} {A B C:World} (h:KeepsCell b A B) (k:KeepsCell b B C):KeepsCell b A C:=fun v hv=>k v (h v hv)
theorem keepsCell_b {b:Nat} {w:World} (W:World) (l:Nat) (o o':Obj) (_:w.heap.size≤l) (h:W.heap[l]? =some o) (hc:o.isCells=false) (_:o.isWalk=false):KeepsCell b W (W.putObj l o'):=
 fun _ hv=>cell_kept hv (grownBy_putObj' W l o') (fun r e=>by cases e; exact⟨o,h,hc⟩)
theorem finTake_succ {n k:Nat} (h:k<n):(List.finRange n).take (k+1)=(List.finRange n).take k ++ [⟨k,h⟩]:=by
 rw[List.take_succ_eq_append_getElem (by simpa using h)]; simp
theorem finTake_length {n k:Nat} (h:k≤n):((List.finRange n).take k).length=k:=by simp[h]
set_option maxRecDepth 100000 in
set_option maxHeartbeats 2000000 in
theorem places1_in (F:Fence) (m:Nat) (hf:F.fn 181) (hro:F.round=none) (hm:1≤m) (l Ba Bn:Nat) (a:Int) (n:Nat) (ha0:0≤a) (ha1:a≤4611686018427387904) (hn:n≤8)
 (J Jx:List (Fin n)→World→Prop)
 (hY:∀ pre x W,J pre W→pre.length<n→YieldAt F (m - 1) Tryz.prog l #[.int .i64 (a+(x.1:Int))] W fun e W'=>
   (e=.returned (.bool true)∧J (pre ++ [x]) W'∧KeepsCell Ba W W')∨(e=.returned (.bool false)∧Jx (pre ++ [x]) W'))
 (W:World) (hcn:W.cell? ⟨Bn,0,none⟩=some (.int .i64 (n:Int))) (hca:W.cell? ⟨Ba,0,none⟩=some (.int .i64 a)) (h0:J [] W):
 CallsIn F m Tryz.prog 181 #[.func (.yield l) #[] #[],.pointer (some ⟨Bn,0,none⟩),.pointer (some ⟨Ba,0,none⟩)] W fun e W'=>(∃ v,e=.returned v)∧
  ((∃ ys,ys=List.finRange n∧J ys W')∨(∃ pre:List (Fin n),pre.length≤n∧Jx pre W')):=by
 refine callsIn_of_wp Tryz.func181 rfl hf ?_ hro
 simp only[Tryz.ntmps181,List.size_toArray,List.length_cons,List.length_nil,Nat.reduceAdd,Nat.reduceSub,Array.replicate_succ,Array.replicate_zero,List.push_toArray,List.append_toArray,List.nil_append,List.cons_append]
 gi_wp2
 gi_loopw [6] (fun i wr=>∃ k:Nat,k≤n∧i=.int .i64 k∧J ((List.finRange n).take k) wr∧wr.cell? ⟨Ba,0,none⟩=some (.int .i64 a))
  (fun i _=>n - (intOf i).toNat)
 case atStart=>exact⟨0,Nat.zero_le _,rfl,h0,hca⟩
 case round=>
  obtain⟨k,hk,rfl,hJs,hcx⟩:=hrel
  by_cases hlt:k<n
  ·obtain⟨fn,tmps,assign,body,hy,hR⟩:=hY _ ⟨k,hlt⟩ wr hJs (by rw[finTake_length hk]; exact hlt)
   dsimp only at hy
   gi_wp2
   refine hR.mono ?_
   rintro e W3 (⟨rfl,hJ3,hk3⟩ | ⟨rfl,hJx3⟩)
   ·have hc3:=hk3 _ hcx
    gi_wp2
    go_roundw
    case rel=>exact⟨k+1,by omega,by simp,by rw[finTake_succ hlt]; exact hJ3,hc3⟩
    case measure=>simp[intOf]; omega
   ·gi_wp2
    refine bodyPost_ret (results_none rfl _ _ _) rfl ?_
    exact⟨⟨_,rfl⟩,.inr ⟨_,by rw[List.length_append,finTake_length hk,List.length_singleton]; omega,hJx3⟩⟩
  ·obtain rfl:k=n:=by omega
   gi_wp2
   go_end0
   exact⟨⟨_,rfl⟩,.inl ⟨_,by rw[List.take_of_length_le (by simp)],hJs⟩⟩
theorem places_stops (F:Fence) (m:Nat) (hf:F.fn 181) (hro:F.round=none) (hm:1≤m) (Ba Bn:Nat) (a:Int) (n:Nat) (ha0:0≤a) (ha1:a≤4611686018427387904) (hn:n≤8) (w:World) (hBn:Bn<w.heap.size) (hBa:Ba<w.heap.size)
 (hcn:w.cell? ⟨Bn,0,none⟩=some (.int .i64 (n:Int))) (hca:w.cell? ⟨Ba,0,none⟩=some (.int .i64 a)):
 SeqStopsK F m Tryz.prog 181 #[.pointer (some ⟨Bn,0,none⟩),.pointer (some ⟨Ba,0,none⟩)] (fun x:Fin n=>#[Value.int .i64 (a+(x.1:Int))]) (KeepsCell Ba) (fun ys=>ys=List.finRange n) (fun pre=>pre.length≤n) n w:=fun l J Jx W hW _ _ hY h0=>
 places1_in F m hf hro hm l Ba Bn a n ha0 ha1 hn J Jx hY W ((hW.cell (p:=⟨Bn,0,none⟩) hBn).trans hcn) ((hW.cell (p:=⟨Ba,0,none⟩) hBa).trans hca) h0
theorem cell_new_o (W:World) (v:Value) (t:TypeId):(W.alloc (.cells #[v] t)).cell? ⟨W.heap.size,0,none⟩=some v∧(W.alloc (.cells #[v] t)).frozen? ⟨W.heap.size,0,none⟩=false:=
 ⟨(Boxed.new W t v).cell,(Boxed.new W t v).frozen⟩
theorem cell_alloc_o {W:World} {a:Addr} {v:Value} (o:Obj) (h:W.cell? a=some v):(W.alloc o).cell? a=some v:=cell_kept h (World.grownBy_alloc W o none) (fun r e=>by cases e)
theorem frozen_alloc_o {W:World} {a:Addr} {v:Value} (o:Obj) (h:W.cell? a=some v) (hf:W.frozen? a=false):(W.alloc o).frozen? a=false:=(frozen_kept h (World.grownBy_alloc W o none) (fun r e=>by cases e)).trans hf
end Go.Proofs.YtbamodkgagcmnaaGreat.Oct
namespace Go.Proofs.YtbamodkgagcmnaaGreat.Oct
open Go.RowKit Go.Shelf
attribute [local go_sem] Oper.semAt_some
def at_ (s:ByteArray) (a:Nat) {n:Nat} (pre:List (Fin n)):List UInt8:=pre.map fun j=>s.data.toList[a+j.1]?.getD 0
theorem at_snoc (s:ByteArray) (a:Nat) {n:Nat} (pre:List (Fin n)) (x:Fin n):at_ s a (pre ++ [x])=at_ s a pre ++ [s.data.toList[a+x.1]?.getD 0]:=by simp[at_]
theorem at_length (s:ByteArray) (a:Nat) {n:Nat} (pre:List (Fin n)):(at_ s a pre).length=pre.length:=by simp[at_]
theorem at_all (s:ByteArray) (a n:Nat) (h:a+n≤s.size):at_ s a (List.finRange n)=(s.data.toList.drop a).take n:=by
 apply List.ext_getElem
 ·simp[at_]; have:s.data.size=s.size:=rfl; omega
 ·intro i h1 h2
  have h3:i<n:=by simpa [at_] using h1
  have h4:a+i<s.data.toList.length:=by rw[Array.length_toList]; exact Nat.lt_of_lt_of_le (by omega) h
  simp only[at_,List.getElem_map,List.getElem_finRange,List.getElem_take,List.getElem_drop]
  rw[List.getElem?_eq_getElem (by simpa using h4)]; rfl
theorem byte_at (s:ByteArray) (i:Nat) (h:i<s.size):s.data.toList[i]?.getD 0=s[i]:=by
 have h4:i<s.data.toList.length:=by rw[Array.length_toList]; exact h
 rw[List.getElem?_eq_getElem h4]; rfl
theorem pow_le7 {k:Nat} (h:k≤7):256 ^ k≤72057594037927936:=by
 have:256 ^ k≤256 ^ 7:=Nat.pow_le_pow_right (by omega) h
 simpa using this
theorem or_step (v b:Nat) (hv:v<72057594037927936) (hb:b<256):bits .or .u64 (IntKind.u64.wrap ((v:Int) * 256)) (IntKind.u64.wrap (b:Int))=((v * 256+b:Nat):Int):=by
 have e1:IntKind.u64.wrap ((v:Int) * 256)=((v * 256:Nat):Int):=by
  simp only[IntKind.wrap,IntKind.signed,IntKind.bits]; simp; omega
 have e2:IntKind.u64.wrap (b:Int)=((b:Nat):Int):=by
  simp only[IntKind.wrap,IntKind.signed,IntKind.bits]; simp; omega
 rw[e1,e2,u64_or_nat _ _ (by omega) (by omega)]
 congr 1
 rw[Nat.mul_comm,show (256:Nat)=2 ^ 8 from rfl,← Nat.two_pow_add_eq_or_of_lt (by simpa using hb)]
theorem step_val (s:ByteArray) (a:Nat) {n:Nat} (pre:List (Fin n)) (x:Fin n) (i:Nat) (hi:i<s.size) (e:i=a+x.1) (hl:pre.length≤7):
 bits .or .u64 (IntKind.u64.wrap ((num (at_ s a pre):Nat) * 256:Int)) (IntKind.u64.wrap (s[i].toNat:Int))=((num (at_ s a (pre ++ [x])):Nat):Int):=by
 have h:=num_lt (at_ s a pre)
 rw[at_length] at h
 have hp:=pow_le7 hl
 rw[at_snoc,num_snoc,← e,byte_at s i hi]
 exact or_step _ _ (by omega) (UInt8.toNat_lt _)
end Go.Proofs.YtbamodkgagcmnaaGreat.Oct
namespace Go.Proofs.YtbamodkgagcmnaaGreat.Oct
open Go.RowKit Go.Shelf
attribute [local go_sem] Oper.semAt_some
set_option maxRecDepth 100000 in
set_option maxHeartbeats 2000000 in
theorem Get_in (F:Fence) (m:Nat) (h10:F.fn 162) (h14:F.fn 158) (h15:F.fn 159) (h16:F.fn 181) (hro:F.round=none) (hm:3≤m) (s:ByteArray) (a n:Nat) (hs:s.size≤maxLen) (hn1:1≤n) (hn8:n≤8) (ha:a+n≤s.size) (ha1:a≤4611686018427387904) (w:World):
 CallsIn F m Tryz.prog 162 #[.string s,.int .i64 (a:Int),.int .i64 (n:Int)] w fun e W'=>
  e=.returned (.tuple #[.int .u64 (num ((s.data.toList.drop a).take n):Nat),.bool true])∧Below w.heap.size w W':=by
 unfold maxLen at hs
 have h1:1≤m:=by omega
 refine callsIn_of_wp_marks Tryz.func162 rfl h10 ?_ hro
 simp only[Tryz.ntmps162,List.size_toArray,List.length_cons,List.length_nil,Nat.reduceAdd,Nat.reduceSub,Array.replicate_succ,Array.replicate_zero,List.push_toArray,List.append_toArray,List.nil_append,List.cons_append]
 have hfit:fitsB (n:Int)=true:=by simp[fitsB]; omega
 have d1:decide ((a:Int)<0)=false:=by simp
 have d2:decide ((s.size:Int) - (n:Int)<(a:Int))=false:=by simp; omega
 gi_wp2_with (first | (gi_at_call 158; refine (fits_in F (m - 1) h14 hro _ _).mono ?_; rintro e w' ⟨rfl,rfl⟩; rw[hfit]) | (gi_at_call 159; refine (places_in F (m - 1) h15 hro _ _ _).mono ?_; rintro e w' ⟨rfl,rfl⟩))
 have c0:=cell_new_o w (.string s) 9
 have c1:=cell_new_o (w.alloc (.cells #[.string s] 9)) (.int .u64 0) 60
 have c2:=cell_new_o ((w.alloc (.cells #[.string s] 9)).alloc (.cells #[.int .u64 0] 60)) (.int .i64 a) 3
 have c3:=cell_new_o (((w.alloc (.cells #[.string s] 9)).alloc (.cells #[.int .u64 0] 60)).alloc (.cells #[.int .i64 a] 3)) (.int .i64 n) 3
 simp only[World.size_alloc] at c1 c2 c3
 have hB0:Below w.heap.size w ((((w.alloc (.cells #[.string s] 9)).alloc (.cells #[.int .u64 0] 60)).alloc (.cells #[.int .i64 a] 3)).alloc (.cells #[.int .i64 n] 3)):=
  ((((Below.refl _ w).alloc (Nat.le_refl _) _).alloc (by simp) _).alloc (by simp; omega) _).alloc (by simp; omega) _
 have k0:=cell_alloc_o (.cells #[.int .i64 n] 3) (cell_alloc_o (.cells #[.int .i64 a] 3) (cell_alloc_o (.cells #[.int .u64 0] 60) c0.1))
 have k1:=cell_alloc_o (.cells #[.int .i64 n] 3) (cell_alloc_o (.cells #[.int .i64 a] 3) c1.1)
 have f1:=frozen_alloc_o (.cells #[.int .i64 n] 3) (cell_alloc_o (.cells #[.int .i64 a] 3) c1.1) (frozen_alloc_o (.cells #[.int .i64 a] 3) c1.1 c1.2)
 have k2:=cell_alloc_o (.cells #[.int .i64 n] 3) c2.1
 have k3:=c3.1
 generalize hW0:((((w.alloc (.cells #[.string s] 9)).alloc (.cells #[.int .u64 0] 60)).alloc (.cells #[.int .i64 a] 3)).alloc (.cells #[.int .i64 n] 3))=W0 at *
 have hsz:W0.heap.size=w.heap.size+4:=by rw[← hW0]; simp
 have HS:=Lib.hid hsz
 have HW:=Lib.hid hW0
 clear c0 c1 c2 c3 hW0
 refine wpIn_rangeFunc_ownF hro h1 (gf:=181) (lb:=#[.pointer (some ⟨w.heap.size+1+1+1,0,none⟩),.pointer (some ⟨w.heap.size+1+1,0,none⟩)]) rfl h16 (enters_of Tryz.func181 (by kernel_rfl) rfl)
  (places_stops F (m - 1) h16 hro (by omega) (w.heap.size+1+1) (w.heap.size+1+1+1) a n (by omega) (by omega) hn8 W0 (by omega) (by omega) k3 k2) keepsCell_t keepsCell_b (Below.refl _ _) (fun _=>rfl)
  (fun pre W=>(W.cell? ⟨w.heap.size,0,none⟩=some (.string s)∧W.cell? ⟨w.heap.size+1,0,none⟩=some (.int .u64 (num (at_ s a pre):Nat))∧W.frozen? ⟨w.heap.size+1,0,none⟩=false)∧Below w.heap.size w W)
  (fun _ _ _=>False)
  (OwnFrom.and (Own.from (fun s A B row hs hg hr=>⟨cell_kept hs.1 hg hr,cell_kept hs.2.1 hg hr,(frozen_kept hs.2.1 hg hr).trans hs.2.2⟩) _) (ownFrom_below (Nat.le_refl _) (by omega)))
  (fun _ _ _ _ _ hs _ _=>hs)
  ⟨⟨k0,k1,f1⟩,hB0⟩
  (fun x=> { tmps:=#[.string s,.int .i64 a,.int .i64 n,.pointer (some ⟨w.heap.size,0,none⟩),undef,undef,.int .u64 0,.bool false,.pointer (some ⟨w.heap.size+1,0,none⟩),.int .i64 (a+(x.1:Int)),.int .i64 n,.bool true,.bool false,.bool false,.int .i64 a,.bool false,.bool false,.bool false,.int .i64 a,.string s,.int .i64 s.size,.int .i64 n,.int .i64 (s.size - n),.bool false,.bool false,.int .i64 a,.int .i64 n,.func (.func 181) #[] #[.pointer (some ⟨w.heap.size+1+1+1,0,none⟩),.pointer (some ⟨w.heap.size+1+1,0,none⟩)],.int .i64 (a+(x.1:Int)),undef,undef,undef,undef,undef,undef,undef,undef],defers:=[] }) ?assign ?body ?done ?stop
 case assign=>
  intro l x W K hK
  gi_wp2
  exact hK
 case body=>
  rintro l pre x W ⟨⟨hcs,hcv,hfv⟩,hB⟩ hlen
  have hmx:Tryz.prog.follows .mixedOrders=true:=by kernel_rfl
  clear k0 k1 f1 k2 k3 hB0
  gi_wp2
  gi_region_with_o (fail)
  all_goals gi_wp2
  all_goals
   refine⟨(KeepsOthers.setCell _ _ _).trans (KeepsOthers.drew _),fun v hv=>?_,⟨?_,?_,?_⟩,?_⟩
   ·exact (World.cell?_setCell_other _ _ _ _ (by simp)).trans hv
   ·exact (World.cell?_setCell_other _ _ _ _ (by simp)).trans hcs
   ·rw[cell_drew_own,step_val s a pre x _ (by omega) (by omega) (by omega)]; exact World.cell?_setCell_same' _ _ _ (by rw[hcv]; rfl)
   ·rw[frozen_drew_own,World.frozen?_setCell]; exact hfv
   ·exact (hB.setCell (p:=⟨w.heap.size+1,0,none⟩) (by simp) _).drew
 case done=>
  rintro D ys W hD rfl ⟨⟨_,hcv,_⟩,hB⟩ hK
  gi_wp2
  refine⟨by simp,.inl ⟨_,_,rfl,run_takeDeferred hK,?_⟩⟩
  refine⟨.tuple #[.int .u64 (num (at_ s a (List.finRange n)):Nat),.bool true],by simp[results,Tryz.results162,go_sem],by rw[at_all s a n ha],hB.trans (belowK_b (w:=w) (Nat.le_refl _) W D _ _ (by omega) hK rfl rfl)⟩
 case stop=>
  rintro D c pre W _ _ h _
  exact h.elim
set_option maxRecDepth 100000 in
set_option maxHeartbeats 2000000 in
theorem Get_not_in (F:Fence) (m:Nat) (h10:F.fn 162) (h14:F.fn 158) (hro:F.round=none) (hm:3≤m) (s:ByteArray) (a n:Int) (hs:s.size≤maxLen) (ha: -9223372036854775808≤a∧a≤9223372036854775807) (h:¬ (1≤n∧n≤8∧0≤a∧a+n≤s.size)) (w:World):
 CallsIn F m Tryz.prog 162 #[.string s,.int .i64 a,.int .i64 n] w fun e W'=>
  e=.returned (.tuple #[.int .u64 0,.bool false])∧Below w.heap.size w W':=by
 unfold maxLen at hs
 have h1:1≤m:=by omega
 refine callsIn_of_wp_marks Tryz.func162 rfl h10 ?_ hro
 simp only[Tryz.ntmps162,List.size_toArray,List.length_cons,List.length_nil,Nat.reduceAdd,Nat.reduceSub,Array.replicate_succ,Array.replicate_zero,List.push_toArray,List.append_toArray,List.nil_append,List.cons_append]
 by_cases hf:1≤n∧n≤8
 ·have hfit:fitsB n=true:=by simp[fitsB]; omega
  by_cases h0:a<0
  ·have d1:decide (a<0)=true:=by simpa using h0
   gi_wp2_with (gi_at_call 158; refine (fits_in F (m - 1) h14 hro _ _).mono ?_; rintro e w' ⟨rfl,rfl⟩; rw[hfit])
   all_goals refine⟨_,by simp[results,Tryz.results162,go_sem],rfl,(Below.refl _ w).alloc (Nat.le_refl _) _⟩
  ·have d1:decide (a<0)=false:=by simpa using h0
   have d2:decide ((s.size:Int) - n<a)=true:=by simp; omega
   gi_wp2_with (gi_at_call 158; refine (fits_in F (m - 1) h14 hro _ _).mono ?_; rintro e w' ⟨rfl,rfl⟩; rw[hfit])
   all_goals refine⟨_,by simp[results,Tryz.results162,go_sem],rfl,(Below.refl _ w).alloc (Nat.le_refl _) _⟩
 ·have hfit:fitsB n=false:=by unfold fitsB; rw[Bool.and_eq_false_iff]; simp; omega
  gi_wp2_with (gi_at_call 158; refine (fits_in F (m - 1) h14 hro _ _).mono ?_; rintro e w' ⟨rfl,rfl⟩; rw[hfit])
  all_goals refine⟨_,by simp[results,Tryz.results162,go_sem],rfl,(Below.refl _ w).alloc (Nat.le_refl _) _⟩
def getV (s:ByteArray) (a n:Int):Nat:=num ((s.data.toList.drop a.toNat).take n.toNat)
theorem Get_yes (s:ByteArray) (a n:Int) (w:World) (hs:s.size≤4611686018427387904) (h:1≤n∧n≤8∧0≤a∧a+n≤s.size):
 Calls Tryz.prog 162 #[.string s,.int .i64 a,.int .i64 n] w fun e W'=>
  e=.returned (.tuple #[.int .u64 (getV s a n:Nat),.bool true])∧Below w.heap.size w W':=by
 obtain⟨h1,h2,h3,h4⟩:=h
 obtain⟨a,rfl⟩:=Int.eq_ofNat_of_zero_le h3
 obtain⟨n,rfl⟩:=Int.eq_ofNat_of_zero_le (show 0≤n by omega)
 exact (callsIn_wide (n:=3)).1 (Get_in Fence.wide 3 trivial trivial trivial trivial rfl (by omega) s a n (by unfold maxLen; omega) (by omega) (by omega) (by omega) (by omega) w)
theorem Get_no (s:ByteArray) (a n:Int) (w:World) (hs:s.size≤4611686018427387904) (ha: -9223372036854775808≤a∧a≤9223372036854775807) (h:¬ (1≤n∧n≤8∧0≤a∧a+n≤s.size)):
 Calls Tryz.prog 162 #[.string s,.int .i64 a,.int .i64 n] w fun e W'=>
  e=.returned (.tuple #[.int .u64 0,.bool false])∧Below w.heap.size w W':=
 (callsIn_wide (n:=3)).1 (Get_not_in Fence.wide 3 trivial trivial rfl (by omega) s a n (by unfold maxLen; omega) ha h w)
end Go.Proofs.YtbamodkgagcmnaaGreat.Oct
namespace Go.Proofs.YtbamodkgagcmnaaGreat.Oct
open Go.RowKit Go.Shelf
attribute [local go_sem] Oper.semAt_some
theorem info_u8:(Tryz.prog.info? 5).map (fun i=>(i.zero,i.size,i.bytes))=some (some (.int .u8 0),1,1):=by kernel_rfl
def putF (v n:Nat) (pre:List (Fin n)):Nat→Nat:=
 pre.zipIdx.foldl (fun f xj=>fun i=>if i=n - 1 - xj.1.1 then v / 256 ^ xj.2 % 256 else f i) (fun _=>0)
theorem putF_snoc (v n:Nat) (pre:List (Fin n)) (x:Fin n):putF v n (pre ++ [x])=fun i=>if i=n - 1 - x.1 then v / 256 ^ pre.length % 256 else putF v n pre i:=by
 simp[putF,List.zipIdx_append]
theorem putF_take (v n k:Nat) (hk:k≤n) (i:Nat) (hi:i<n):putF v n ((List.finRange n).take k) i=if n - k≤i then v / 256 ^ (n - 1 - i) % 256 else 0:=by
 induction k with
 | zero=>rw[if_neg (by omega)]; simp[putF]
 | succ k ih=>
   have hk':k<n:=by omega
   rw[finTake_succ hk',putF_snoc]
   simp only[finTake_length (Nat.le_of_lt hk')]
   by_cases e:i=n - 1 - k
   ·rw[if_pos e,if_pos (by omega),show n - 1 - i=k by omega]
   ·rw[if_neg e,ih (by omega)]
    by_cases e2:n - k≤i
    ·rw[if_pos e2,if_pos (by omega)]
    ·rw[if_neg e2,if_neg (by omega)]
theorem bytes_get (v n i:Nat) (hi:i<n):((bytes v n)[i]?.getD 0).toNat=v / 256 ^ (n - 1 - i) % 256:=by
 induction n generalizing v with
 | zero=>omega
 | succ n ih=>
   rw[bytes,List.getElem?_append,bytes_length]
   by_cases e:i<n
   ·rw[if_pos e,ih _ e,Nat.div_div_eq_div_mul,show n+1 - 1 - i=(n - 1 - i)+1 by omega,Nat.pow_succ,Nat.mul_comm 256]
   ·obtain rfl:i=n:=by omega
    simp
theorem putF_all (v n i:Nat) (hi:i<n):putF v n (List.finRange n) i=((bytes v n)[i]?.getD 0).toNat:=by
 have h:=putF_take v n n (Nat.le_refl _) i hi
 rw[List.take_of_length_le (by simp)] at h
 rw[h,if_pos (by omega),bytes_get v n i hi]
abbrev str (l:List UInt8):ByteArray:=⟨l.toArray⟩
theorem strOfNums_bytes (l:List UInt8):strOfNums (l.map fun b=>(b.toNat:Int))=str l:=by
 have h:(List.map ((fun n:Int=>UInt8.ofNat n.toNat) ∘ fun b:UInt8=>(b.toNat:Int)) l)=l:=by
  rw[show ((fun n:Int=>UInt8.ofNat n.toNat) ∘ fun b:UInt8=>(b.toNat:Int))=id from funext fun b=>by simp]; simp
 simp[strOfNums,str,h]
theorem row_own {β:Type} (b t n:Nat) (f:β→Nat→Value):Own (fun s W=>W.rowIs b t n (f s)):=fun s W W' row h hg hr=>by
 have hlt:=h.lt
 obtain⟨c,hb,hn,hc⟩:=h
 exact⟨c,(hg.block b hlt (fun e=>by obtain⟨o,ho,hc⟩:=hr b e.symm; rw[hb] at ho; cases ho; cases hc)).trans hb,hn,hc⟩
theorem box_own {β:Type} (b t:Nat) (f:β→Value):Own (fun s W=>Boxed W b t (f s)):=fun s W W' row h hg hr=>
 h.kept hg (fun e=>by obtain⟨o,ho,hc⟩:=hr b e.symm; rw[show W.heap[b]? =_ from h] at ho; cases ho; cases hc)
theorem own_and {β:Type} {I I':β→World→Prop} (h:Own I) (h':Own I'):Own (fun s W=>I s W∧I' s W):=fun s W W' row hs hg hr=>⟨h s W W' row hs.1 hg hr,h' s W W' row hs.2 hg hr⟩
theorem box_other {W:World} {b t:Nat} {v:Value} (h:Boxed W b t v) {a:Addr} (ha:b≠a.block) (u:Value):Boxed (W.setCell a u) b t v:=(Below.heap_setCell W a u b ha).trans h
set_option maxRecDepth 100000 in
set_option maxHeartbeats 2000000 in
theorem Put_in (F:Fence) (m:Nat) (h12:F.fn 123) (h14:F.fn 158) (h15:F.fn 159) (h16:F.fn 181) (hro:F.round=none) (hm:3≤m) (v n:Nat) (hv:v<18446744073709551616) (hn1:1≤n) (hn8:n≤8) (w:World):
 CallsIn F m Tryz.prog 123 #[.int .u64 (v:Int),.int .i64 (n:Int)] w fun e W'=>
  e=.returned (.string (str (bytes v n)))∧Below w.heap.size w W':=by
 have h1:1≤m:=by omega
 have hmk:=run_make_row' (P:=Tryz.prog) 185 5 (.int .u8 0) 1 Tryz.underlying185 info_u8 rfl .i64 .i64 n (by omega) (by omega)
 refine callsIn_of_wp_marks Tryz.func123 rfl h12 ?_ hro
 simp only[Tryz.ntmps123,List.size_toArray,List.length_cons,List.length_nil,Nat.reduceAdd,Nat.reduceSub,Array.replicate_succ,Array.replicate_zero,List.push_toArray,List.append_toArray,List.nil_append,List.cons_append]
 have hfit:fitsB (n:Int)=true:=by simp[fitsB]; omega
 gi_wp2_with (first | (gi_at_call 158; refine (fits_in F (m - 1) h14 hro _ _).mono ?_; rintro e w' ⟨rfl,rfl⟩; rw[hfit]) | (gi_at_call 159; refine (places_in F (m - 1) h15 hro _ _ _).mono ?_; rintro e w' ⟨rfl,rfl⟩))
 have b0:=((((Boxed.new w 60 (.int .u64 (v:Int))).alloc (.cells #[.int .i64 n] 3)).alloc (.cells (madeCells #[.int .u8 0] n) 5)).alloc (.cells #[.slice (some ⟨w.heap.size+1+1,0,none⟩) n n] 185)).alloc (.cells #[.int .i64 0] 3) |>.alloc (.cells #[.int .i64 n] 3)
 have b1:=(((Boxed.new (w.alloc (.cells #[.int .u64 (v:Int)] 60)) 3 (.int .i64 (n:Int))).alloc (.cells (madeCells #[.int .u8 0] n) 5)).alloc (.cells #[.slice (some ⟨w.heap.size+1+1,0,none⟩) n n] 185)).alloc (.cells #[.int .i64 0] 3) |>.alloc (.cells #[.int .i64 n] 3)
 have b2:=((World.rowIs_made ((w.alloc (.cells #[.int .u64 (v:Int)] 60)).alloc (.cells #[.int .i64 n] 3)) (.int .u8 0) n 5).alloc (.cells #[.slice (some ⟨w.heap.size+1+1,0,none⟩) n n] 185)).alloc (.cells #[.int .i64 0] 3) |>.alloc (.cells #[.int .i64 n] 3)
 have b3:=((Boxed.new (((w.alloc (.cells #[.int .u64 (v:Int)] 60)).alloc (.cells #[.int .i64 n] 3)).alloc (.cells (madeCells #[.int .u8 0] n) 5)) 185 (.slice (some ⟨w.heap.size+1+1,0,none⟩) n n)).alloc (.cells #[.int .i64 0] 3)).alloc (.cells #[.int .i64 n] 3)
 have b4:=(Boxed.new ((((w.alloc (.cells #[.int .u64 (v:Int)] 60)).alloc (.cells #[.int .i64 n] 3)).alloc (.cells (madeCells #[.int .u8 0] n) 5)).alloc (.cells #[.slice (some ⟨w.heap.size+1+1,0,none⟩) n n] 185)) 3 (.int .i64 0)).alloc (.cells #[.int .i64 n] 3)
 have b5:=Boxed.new (((((w.alloc (.cells #[.int .u64 (v:Int)] 60)).alloc (.cells #[.int .i64 n] 3)).alloc (.cells (madeCells #[.int .u8 0] n) 5)).alloc (.cells #[.slice (some ⟨w.heap.size+1+1,0,none⟩) n n] 185)).alloc (.cells #[.int .i64 0] 3)) 3 (.int .i64 (n:Int))
 simp only[World.size_alloc] at b0 b1 b2 b3 b4 b5
 have hB0:Below w.heap.size w ((((((w.alloc (.cells #[.int .u64 (v:Int)] 60)).alloc (.cells #[.int .i64 n] 3)).alloc (.cells (madeCells #[.int .u8 0] n) 5)).alloc (.cells #[.slice (some ⟨w.heap.size+1+1,0,none⟩) n n] 185)).alloc (.cells #[.int .i64 0] 3)).alloc (.cells #[.int .i64 n] 3)):=
  ((((((Below.refl _ w).alloc (Nat.le_refl _) _).alloc (by simp) _).alloc (by simp; omega) _).alloc (by simp; omega) _).alloc (by simp; omega) _).alloc (by simp; omega) _
 generalize hW0:((((((w.alloc (.cells #[.int .u64 (v:Int)] 60)).alloc (.cells #[.int .i64 n] 3)).alloc (.cells (madeCells #[.int .u8 0] n) 5)).alloc (.cells #[.slice (some ⟨w.heap.size+1+1,0,none⟩) n n] 185)).alloc (.cells #[.int .i64 0] 3)).alloc (.cells #[.int .i64 n] 3))=W0 at *
 have hsz:W0.heap.size=w.heap.size+6:=by rw[← hW0]; simp
 have HS:=Lib.hid hsz
 have HW:=Lib.hid hW0
 clear hW0 hmk
 have hseq:=places_stops F (m - 1) h16 hro (by omega) (w.heap.size+1+1+1+1) (w.heap.size+1+1+1+1+1) 0 n (by omega) (by omega) hn8 W0 (by omega) (by omega) b5.cell b4.cell
 simp only[Int.zero_add] at hseq
 refine wpIn_rangeFunc_ownF hro h1 (gf:=181) (lb:=#[.pointer (some ⟨w.heap.size+1+1+1+1+1,0,none⟩),.pointer (some ⟨w.heap.size+1+1+1+1,0,none⟩)]) rfl h16 (enters_of Tryz.func181 (by kernel_rfl) rfl)
  hseq keepsCell_t keepsCell_b (Below.refl _ _) (fun _=>rfl)
  (fun pre W=>(Boxed W w.heap.size 60 (.int .u64 ((v / 256 ^ pre.length:Nat):Int))∧Boxed W (w.heap.size+1) 3 (.int .i64 n)∧W.rowIs (w.heap.size+1+1) 5 n (fun i=>.int .u8 (putF v n pre i:Nat))∧Boxed W (w.heap.size+1+1+1) 185 (.slice (some ⟨w.heap.size+1+1,0,none⟩) n n))∧Below w.heap.size w W)
  (fun _ _ _=>False)
  (OwnFrom.and (Own.from (own_and (box_own _ _ _) (own_and (box_own _ _ _) (own_and (row_own _ _ _ _) (box_own _ _ _)))) _) (ownFrom_below (Nat.le_refl _) (by omega)))
  (fun _ _ _ _ _ hs _ _=>hs)
  ⟨⟨by simpa using b0,b1,by simpa [putF] using b2,b3⟩,hB0⟩
  (fun x=> { tmps:=#[.int .u64 v,.int .i64 n,.pointer (some ⟨w.heap.size,0,none⟩),.pointer (some ⟨w.heap.size+1,0,none⟩),.string ⟨#[]⟩,.pointer (some ⟨w.heap.size+1+1+1,0,none⟩),.int .i64 (x.1:Int),.int .i64 n,.bool true,.bool false,.int .i64 n,.slice (some ⟨w.heap.size+1+1,0,none⟩) n n,.int .i64 n,.func (.func 181) #[] #[.pointer (some ⟨w.heap.size+1+1+1+1+1,0,none⟩),.pointer (some ⟨w.heap.size+1+1+1+1,0,none⟩)],.int .i64 (x.1:Int),undef,undef,undef,undef,undef,undef,undef,undef,undef,undef,undef,undef],defers:=[] }) ?assign ?body ?done ?stop
 case assign=>
  intro l x W K hK
  gi_wp2
  exact hK
 case body=>
  rintro l pre x W ⟨⟨hb0,hb1,hb2,hb3⟩,hB⟩ hlen
  clear b0 b1 b2 b3 b4 b5 hB0 hseq
  have hx:=x.2
  have c0:=hb0.cell
  have f0:=hb0.frozen
  have c1:=hb1.cell
  have c3:=hb3.cell
  have c2:=hb2.cell (i:=n - 1 - x.1) (by omega)
  have f2:=hb2.frozen (n - 1 - x.1)
  generalize putF v n pre (n - 1 - x.1)=old at c2
  generalize hq:v / 256 ^ pre.length=q at *
  have HQ:=Lib.hid hq
  have hq64:q<18446744073709551616:=by rw[← hq]; exact Nat.lt_of_le_of_lt (Nat.div_le_self _ _) hv
  clear hq
  have H0:=Lib.hid hb0
  have H1:=Lib.hid hb1
  have H3:=Lib.hid hb3
  have H2:=Lib.hid hb2
  clear hb0 hb1 hb2 hb3
  gi_wp2
  have e1:((v / 256 ^ (pre ++ [x]).length:Nat):Int)=(q:Int) / 256:=by
   rw[List.length_append,List.length_singleton,Nat.pow_succ,← Nat.div_div_eq_div_mul,HQ.out]; omega
  refine⟨(KeepsOthers.setCell _ _ _).trans (KeepsOthers.setCell _ _ _),fun u hu=>?_,⟨?_,?_,?_,?_⟩,?_⟩
  ·exact (World.cell?_setCell_other _ _ _ _ (by simp <;> omega)).trans ((World.cell?_setCell_other _ _ _ _ (by simp)).trans hu)
  ·rw[e1]; exact (box_other H0.out (by simp <;> omega) _).set _
  ·exact box_other (box_other H1.out (by simp) _) (by simp) _
  ·refine ((H2.out.set (n - 1 - x.1) _).setOther (by simp <;> omega) _).congr (fun i hi=>?_)
   rw[putF_snoc,HQ.out]
   by_cases e:i=n - 1 - x.1
   ·simp only[if_pos e]; rfl
   ·simp only[if_neg e]
  ·exact box_other (box_other H3.out (by simp) _) (by simp <;> omega) _
  ·exact (hB.setCell (p:=⟨w.heap.size+1+1,n - 1 - x.1,none⟩) (by simp <;> omega) _).setCell (p:=⟨w.heap.size,0,none⟩) (by simp) _
 case done=>
  rintro D ys W hD rfl ⟨⟨hb0,hb1,hb2,hb3⟩,hB⟩ hK
  have hcv:=run_convert_bytes_arg (P:=Tryz.prog) W 185 5 Tryz.underlying185 Tryz.underlying5 (w.heap.size+1+1) 0 n n ((bytes v n).map fun b=>(b.toNat:Int)) (by simp[bytes_length])
   (fun i hi=>by rw[Nat.zero_add,hb2.cell hi,putF_all v n i hi]; simp[List.getD,bytes_length,hi]) 9 Tryz.underlying9
  rw[strOfNums_bytes] at hcv
  have c3:=hb3.cell
  gi_wp2
  refine⟨by simp,.inl ⟨_,_,rfl,run_takeDeferred hK,?_⟩⟩
  refine⟨_,results_tmp rfl _ _ _,rfl,hB.trans (belowK_b (w:=w) (Nat.le_refl _) W D _ _ (by omega) hK rfl rfl)⟩
 case stop=>
  rintro D c pre W _ _ h _
  exact h.elim
theorem Put_yes (v n:Int) (w:World) (hv0:0≤v) (hv:v≤18446744073709551615) (h:1≤n∧n≤8):
 Calls Tryz.prog 123 #[.int .u64 v,.int .i64 n] w fun e W'=>e=.returned (.string (str (bytes v.toNat n.toNat)))∧Below w.heap.size w W':=by
 obtain⟨v,rfl⟩:=Int.eq_ofNat_of_zero_le hv0
 obtain⟨n,rfl⟩:=Int.eq_ofNat_of_zero_le (show 0≤n by omega)
 exact (callsIn_wide (n:=3)).1 (Put_in Fence.wide 3 trivial trivial trivial trivial rfl (by omega) v n (by omega) (by omega) (by omega) w)
end Go.Proofs.YtbamodkgagcmnaaGreat.Oct
namespace Go.Proofs.YtbamodkgagcmnaaGreat.Oct
open Go.RowKit Go.Shelf
theorem u64_in (x:Nat) (h:x<18446744073709551616):IntKind.u64.wrap (x:Int)=(x:Int):=by
 simp only[IntKind.wrap,IntKind.signed,IntKind.bits]; simp; omega
theorem u64_in' (x:Int) (y:Nat) (e:x=(y:Int)) (h:y<18446744073709551616):IntKind.u64.wrap x=(y:Int):=by rw[e]; exact u64_in y h
theorem ret_tup {k:IntKind} {a b:Int} {c:Bool} (h:a=b):Ending.returned (.tuple #[.int k a,.bool c])=.returned (.tuple #[.int k b,.bool c]):=by rw[h]
theorem take_snoc (s:ByteArray) (a k:Nat) (h:a+k<s.size):(s.data.toList.drop a).take (k+1)=(s.data.toList.drop a).take k ++ [s[a+k]]:=by
 have h4:a+k<s.data.toList.length:=by rw[Array.length_toList]; exact h
 rw[List.take_succ_eq_append_getElem (by rw[List.length_drop]; omega),List.getElem_drop]; rfl
theorem take_lt (s:ByteArray) (a k:Nat) (h:k≤7):num ((s.data.toList.drop a).take k)<72057594037927936:=by
 have h1:=num_lt ((s.data.toList.drop a).take k)
 have h2:((s.data.toList.drop a).take k).length≤7:=Nat.le_trans (List.length_take_le _ _) h
 exact Nat.lt_of_lt_of_le h1 (pow_le7 h2)
theorem one_byte (q:Nat):strOfNums [(q:Int) % 256]=str [UInt8.ofNat q]:=by
 have h:((q:Int) % 256).toNat=q % 256:=by omega
 have h2:UInt8.ofNat (q % 256)=UInt8.ofNat q:=by apply UInt8.toNat_inj.1; rw[toNat_ofNat,toNat_ofNat,Nat.mod_mod]
 simp[strOfNums,str,h,h2]
theorem str_append (l k:List UInt8):str l ++ str k=str (l ++ k):=by
 apply ByteArray.ext; simp[str]
theorem bytes_cons (v k:Nat):bytes v (k+1)=UInt8.ofNat (v / 256 ^ k) :: bytes v k:=by
 rw[Nat.add_comm k 1,bytes_parts]; rfl
set_option maxRecDepth 100000 in
set_option maxHeartbeats 800000 in
theorem refPut_yes' (v n:Nat) (w:World) (hv:v<18446744073709551616) (hn1:1≤n) (hn8:n≤8):
 Calls Tryz.prog 139 #[.int .u64 (v:Int),.int .i64 (n:Int)] w fun e W'=>e=.returned (.string (str (bytes v n)))∧Below w.heap.size w W':=by
 have d1:decide ((n:Int)<1)=false:=by simp; omega
 have d2:decide ((8:Int)<(n:Int))=false:=by simp; omega
 go_enter Tryz.func139,Tryz.ntmps139
 go_wp2
 go_loopw [0,5,6] (fun q s i wr=>∃ k:Nat,k≤n∧i=.int .i64 k∧s=.string (str (bytes v k))∧q=.int .u64 ((v / 256 ^ k:Nat):Int)∧Below w.heap.size w wr) (fun _ _ i _=>n - (intOf i).toNat)
 case atStart=>exact⟨0,Nat.zero_le _,rfl,rfl,by simp,Below.refl _ _⟩
 case round=>
  obtain⟨k,hk,rfl,rfl,rfl,hB⟩:=hrel
  by_cases hlt:k<n
  ·have hq64:v / 256 ^ k<18446744073709551616:=Nat.lt_of_le_of_lt (Nat.div_le_self _ _) hv
   have HC:=Lib.hid (bytes_cons v k)
   have HD:Hid (v / 256 ^ (k+1)=v / 256 ^ k / 256):=by rw[Nat.pow_succ,← Nat.div_div_eq_div_mul]; exact Lib.hid rfl
   have hl:(bytes v k).length≤8:=by rw[bytes_length]; omega
   generalize v / 256 ^ k=q at *
   generalize bytes v k=bs at *
   have hcv:=run_convert_bytes_arg (P:=Tryz.prog) (wr.alloc (.cells #[.int .u8 ((q:Int) % 256)] 5)) 185 5 Tryz.underlying185 Tryz.underlying5 wr.heap.size 0 1 1 [(q:Int) % 256] rfl
    (fun i hi=>by obtain rfl:i=0:=by omega
                  exact (Boxed.new wr 5 _).cell) 9 Tryz.underlying9
   rw[one_byte] at hcv
   go_wp2
   refine⟨⟨k+1,by omega,by go_num,?_,?_,hB.alloc hB.size _⟩,by simp[intOf]; omega⟩
   ·rw[HC.out,str_append]; rfl
   ·rw[HD.out]; rfl
  ·go_wp2
   go_ret
   rw[show k=n by omega]
   exact⟨rfl,hB⟩
theorem refPut_yes (v n:Int) (w:World) (hv0:0≤v) (hv:v≤18446744073709551615) (h:1≤n∧n≤8):
 Calls Tryz.prog 139 #[.int .u64 v,.int .i64 n] w fun e W'=>e=.returned (.string (str (bytes v.toNat n.toNat)))∧Below w.heap.size w W':=by
 obtain⟨v,rfl⟩:=Int.eq_ofNat_of_zero_le hv0
 obtain⟨n,rfl⟩:=Int.eq_ofNat_of_zero_le (show 0≤n by omega)
 exact refPut_yes' v n w (by omega) (by omega) (by omega)
end Go.Proofs.YtbamodkgagcmnaaGreat.Oct
namespace Go.Proofs.YtbamodkgagcmnaaGreat.Oct
open Go.RowKit Go.Shelf
set_option maxRecDepth 100000 in
set_option maxHeartbeats 800000 in
theorem refGet_yes' (s:ByteArray) (a n:Nat) (w:World) (hs:s.size≤4611686018427387904) (hn1:1≤n) (hn8:n≤8) (ha:a+n≤s.size):
 Calls Tryz.prog 200 #[.string s,.int .i64 (a:Int),.int .i64 (n:Int)] w fun e W'=>e=.returned (.tuple #[.int .u64 (num ((s.data.toList.drop a).take n):Nat),.bool true])∧w=W':=by
 have d1:decide ((n:Int)<1)=false:=by simp; omega
 have d2:decide ((8:Int)<(n:Int))=false:=by simp; omega
 have d3:decide ((a:Int)<0)=false:=by simp
 have d4:decide ((s.size:Int)<(a:Int))=false:=by simp; omega
 have d4':decide (s.size<a)=false:=by simp; omega
 have d5:decide ((s.size:Int) - (a:Int)<(n:Int))=false:=by simp; omega
 go_enter Tryz.func200,Tryz.ntmps200
 go_wp2
 go_loop [8,9] (fun v i=>∃ k:Nat,k≤n∧i=.int .i64 k∧v=.int .u64 (num ((s.data.toList.drop a).take k):Nat)) (fun _ i=>n - (intOf i).toNat)
 case atStart=>exact⟨0,Nat.zero_le _,rfl,rfl⟩
 case round=>
  obtain⟨k,hk,rfl,rfl⟩:=hrel
  by_cases hlt:k<n
  ·have hb:=take_lt s a k (by omega)
   have HS:=Lib.hid ((congrArg num (take_snoc s a k (by omega))).trans (num_snoc _ _))
   generalize num ((s.data.toList.drop a).take k)=q at *
   go_wp2
   refine⟨⟨k+1,by omega,by go_num,?_⟩,by simp[intOf]; omega⟩
   rw[HS.out,u64_in _ (Nat.lt_trans (UInt8.toNat_lt _) (by omega))]
   have hb2:=UInt8.toNat_lt s[a+k]
   exact congrArg (Value.int .u64) (u64_in' _ _ (by omega) (by omega))
  ·go_wp2
   go_ret2
   exact⟨ret_tup (by rw[show k=n by omega]),rfl⟩
theorem refGet_yes (s:ByteArray) (a n:Int) (w:World) (hs:s.size≤4611686018427387904) (h:1≤n∧n≤8∧0≤a∧a+n≤s.size):
 Calls Tryz.prog 200 #[.string s,.int .i64 a,.int .i64 n] w fun e W'=>e=.returned (.tuple #[.int .u64 (getV s a n:Nat),.bool true])∧w=W':=by
 obtain⟨h1,h2,h3,h4⟩:=h
 obtain⟨a,rfl⟩:=Int.eq_ofNat_of_zero_le h3
 obtain⟨n,rfl⟩:=Int.eq_ofNat_of_zero_le (show 0≤n by omega)
 exact refGet_yes' s a n w hs (by omega) (by omega) (by omega)
end Go.Proofs.YtbamodkgagcmnaaGreat.Oct
