/-
  Points: a slice of points, as a list of pairs; rows of them that a call makes or may write.
-/
import Derived.Test.YtbamodkgagcmnaaGreatBPolE
import Derived.Lib.SliceRun
import Derived.BigQuiet
import Derived.WalkSmall
import Derived.Test.YtbamodkgagcmnaaGreatBOctGE
import Derived.Test.YtbamodkgagcmnaaGreatBFnvE
import Derived.Deep.RegionHeld3
set_option maxRecDepth 100000
namespace Go.Proofs.YtbamodkgagcmnaaGreat.Pts
open Go.RowKit Go.Shelf Rgn
open Pol (below2 below_alloc grown_none add_at)
abbrev Pt:=Int × Int
abbrev ptV (x:Pt):Value:=.agg #[.int .u64 x.1,.int .i64 x.2]
abbrev ptsV (a:Option Addr) (cap:Nat) (bs:List Pt):Value:=.slice a bs.length cap
structure Lies (W:World) (a:Option Addr) (cap:Nat) (bs:List Pt):Prop where
 max:cap≤maxLen
 len:bs.length≤cap
 cell:bs≠[]→∃ b off,a=some ⟨b,off,none⟩∧∀ i x,bs[i]? =some x→W.cell? ⟨b,off+i * 2,none⟩=some (.int .u64 x.1)∧W.cell? ⟨b,off+i * 2+1,none⟩=some (.int .i64 x.2)
theorem Lies.kept {W W':World} {a:Option Addr} {cap:Nat} {bs:List Pt} (h:Lies W a cap bs) (hb:Below W.heap.size W W'):Lies W' a cap bs:=
 ⟨h.max,h.len,fun hn=>by
   obtain⟨b,off,e,hc⟩:=h.cell hn
   refine⟨b,off,e,fun i x hi=>?_⟩
   obtain⟨c0,c1⟩:=hc i x hi
   exact⟨(hb.cell (p:=⟨b,off+i * 2,none⟩) (World.block_lt_of_cell? W _ c0)).trans c0,(hb.cell (p:=⟨b,off+i * 2+1,none⟩) (World.block_lt_of_cell? W _ c1)).trans c1⟩⟩
theorem lies_nil (W:World):Lies W none 0 []:=⟨by unfold maxLen; omega,Nat.le_refl _,fun h=>absurd rfl h⟩
theorem Lies.at {W:World} {a:Option Addr} {cap:Nat} {bs:List Pt} (h:Lies W a cap bs) {k:Nat} (hk:k<bs.length):∃ b off,a=some ⟨b,off,none⟩∧W.cell? ⟨b,off+k * 2,none⟩=some (.int .u64 bs[k].1)∧W.cell? ⟨b,off+k * 2+1,none⟩=some (.int .i64 bs[k].2):=by
 obtain⟨b,off,e,hc⟩:=h.cell (fun e=>by rw[e] at hk; exact absurd hk (by simp))
 exact⟨b,off,e,hc k _ (List.getElem?_eq_getElem hk)⟩
def flat (bs:List Pt):List Value:=bs.flatMap fun x=>[.int .u64 x.1,.int .i64 x.2]
theorem flat_length (bs:List Pt):(flat bs).length=bs.length * 2:=by
 induction bs with
 | nil=>rfl
 | cons x bs ih=>unfold flat at *; rw[List.flatMap_cons,List.length_append,ih]; simp; omega
theorem flat_more (bs:List Pt) (y:Pt):flat (bs ++ [y])=flat bs ++ [.int .u64 y.1,.int .i64 y.2]:=by simp[flat]
theorem flat_get (bs:List Pt):∀ (i:Nat) (x:Pt),bs[i]? =some x→(flat bs)[i * 2]? =some (.int .u64 x.1)∧(flat bs)[i * 2+1]? =some (.int .i64 x.2):=by
 induction bs with
 | nil=>intro i x h; simp at h
 | cons y bs ih=>
   intro i x h
   have e:flat (y :: bs)=.int .u64 y.1 :: .int .i64 y.2 :: flat bs:=by simp[flat]
   cases i with
   | zero=>simp at h; subst h; rw[e]; exact⟨rfl,rfl⟩
   | succ i=>
     obtain⟨h0,h1⟩:=ih i x (by simpa using h)
     rw[e,show (i+1) * 2=i * 2+1+1 by omega]
     exact⟨by simpa using h0,by simpa using h1⟩
def Own (B:Nat) (W:World) (v:Value) (bs:List Pt):Prop:=W.ownsRow B 211 2 v bs.length (flat bs)
theorem own_nil (B:Nat) (W:World):Own B W (.slice none 0 0) []:=World.ownsRow_nil W B _ 2
theorem Own.kept {B:Nat} {W W':World} {v:Value} {bs:List Pt} (h:Own B W v bs) (hb:Below W.heap.size W W'):Own B W' v bs:=
 World.ownsRow.kept h (grown_none hb) (by cases v.ownBlock <;> simp)
theorem own_less {B B':Nat} {W:World} {v:Value} {bs:List Pt} (hB:B≤B') (h:Own B' W v bs):Own B W v bs:=by
 refine⟨h.1,?_⟩
 rcases h.2 with h0 | ⟨g,cap,cur,hv,hb,r⟩
 ·exact .inl h0
 ·exact .inr ⟨g,cap,cur,hv,Nat.le_trans hB hb,r⟩
theorem Own.lies {B:Nat} {W:World} {v:Value} {bs:List Pt} (h:Own B W v bs):∃ a cap,v=ptsV a cap bs∧Lies W a cap bs:=by
 rcases h.2 with⟨rfl,h0⟩ | ⟨g,cap,cur,rfl,hb,hg,hn,hm,hs,htake⟩
 ·have:bs=[]:=List.eq_nil_of_length_eq_zero h0
  subst this
  exact⟨none,0,rfl,lies_nil W⟩
 ·refine⟨some ⟨g,0,none⟩,cap,rfl,hm,hn,fun _=>⟨g,0,rfl,fun i x hi=>?_⟩⟩
  have hc:=World.ownsRow.cells h (g:=g) rfl
  obtain⟨h0,h1⟩:=flat_get bs i x hi
  have c0:=hc _ _ h0
  have c1:=hc _ _ h1
  rw[add_at] at c0 c1
  exact⟨c0,c1⟩
theorem info_bk:(Tryz.prog.info? 211).map (fun i=>(i.zero,i.size,i.bytes))=some (some (.agg #[.int .u64 0,.int .i64 0]),2,16):=by kernel_rfl
theorem wpList_more {w:World} {ops:Array Oper} {rest:List Oper} {o:Oper} {a:Act} {Q:Exit→Act→World→Prop} (hgd:o.guard=none) (s x:Operand)
 (ho:o.op=.call { callee:=.builtin .append,args:=#[s,x],argTypes:=#[157,157] }) (B g:Nat) (bs:List Pt) (y:Pt) (v:Value) (hs:a.eval s=v) (hx:a.eval x=.slice (some ⟨g,0,none⟩) 1 1)
 (hown:Own B w v bs) (c0:w.cell? ⟨g,0,none⟩=some (.int .u64 y.1)) (c1:w.cell? ⟨g,1,none⟩=some (.int .i64 y.2)) (hl:bs.length≤1099511627776) (hB:B≤w.heap.size)
 (h:∀ v' w',Hid (Own B w' v' (bs ++ [y]))→Hid (Below B w w')→wpList Tryz.prog ops Q rest (a.put o.dst v') w'):wpList Tryz.prog ops Q (o :: rest) a w:=by
 obtain⟨i0,hi,hz0,hz1,hz2⟩:=info_parts info_bk
 refine wpList_append_own _ hgd s x 157 ho B 211 i0 (.agg #[.int .u64 0,.int .i64 0]) 2 16 Tryz.underlying157 hi hz0 hz1 hz2 rfl (by decide) v bs.length (flat bs) hs hown ⟨g,0,none⟩ 1 1 [.int .u64 y.1,.int .i64 y.2] hx rfl ?c1 ?c2 ?c3 ?c4 hB ?_
 case c1=>
  intro j u hj
  match j,hj with
  | 0,hj=>simp at hj; subst hj; simpa [Addr.add] using c0
  | 1,hj=>simp at hj; subst hj; simpa [Addr.add] using c1
 case c2=>intro u hu; simp at hu; rcases hu with rfl | rfl <;> rfl
 case c3=>unfold maxLen; omega
 case c4=>omega
 intro v' w' h1 h2 _
 refine h v' w' ?_ ?_
 ·show Own B w' v' (bs ++ [y])
  unfold Own
  rw[flat_more,List.length_append]
  exact h1
 ·exact (Below.refl B w).grown h2 hB (fun k hk=>(World.ownsRow.lt hown k hk).1)
theorem take_more (bs:List Pt) (k:Nat) (hk:k<bs.length):bs.take (k+1)=bs.take k ++ [bs[k]]:=by rw[List.take_succ_eq_append_getElem hk]
theorem flat_one (bs:List Pt):∀ u ∈ flat bs,u.oneCell'=true:=by
 intro u hu
 simp only[flat,List.mem_flatMap] at hu
 obtain⟨x,_,hx⟩:=hu
 simp at hx; rcases hx with rfl | rfl <;> rfl
theorem flat_lies {W:World} {b off cap:Nat} {bs:List Pt} (h:Lies W (some ⟨b,off,none⟩) cap bs) (j:Nat) (u:Value) (hj:(flat bs)[j]? =some u):W.cell? ⟨b,off+j,none⟩=some u:=by
 have hl:j<bs.length * 2:=by
  rw[← flat_length]; exact (List.getElem?_eq_some_iff.1 hj).1
 have hk:j / 2<bs.length:=by omega
 obtain⟨b',off',e,hc⟩:=h.cell (fun e=>by rw[e] at hk; exact absurd hk (by simp))
 cases e
 obtain⟨c0,c1⟩:=hc (j / 2) bs[j / 2] (List.getElem?_eq_getElem hk)
 obtain⟨f0,f1⟩:=flat_get bs (j / 2) bs[j / 2] (List.getElem?_eq_getElem hk)
 rcases Nat.mod_two_eq_zero_or_one j with h0 | h0
 ·have e:j / 2 * 2=j:=by omega
  rw[e] at f0 c0
  rw[f0] at hj; cases hj; exact c0
 ·have e:j / 2 * 2+1=j:=by omega
  rw[e] at f1
  rw[Nat.add_assoc,e] at c1
  rw[f1] at hj; cases hj; exact c1
def Row (W:World) (g cap:Nat) (bs:List Pt):Prop:=
 ∃ cur:Array Value,W.heap[g]? =some (.cells cur 211 (0,0))∧bs.length≤cap∧cap≤maxLen∧cur.size=cap * 2∧cur.toList.take (bs.length * 2)=flat bs
theorem Own.row {B:Nat} {W:World} {v:Value} {bs:List Pt} (h:Own B W v bs) (hn:bs≠[]):∃ g cap,v=ptsV (some ⟨g,0,none⟩) cap bs∧B≤g∧Row W g cap bs:=by
 rcases h.2 with⟨_,h0⟩ | ⟨g,cap,cur,rfl,hb,r⟩
 ·exact absurd (List.eq_nil_of_length_eq_zero h0) hn
 ·exact⟨g,cap,rfl,hb,cur,r⟩
theorem Row.own {B:Nat} {W:World} {g cap:Nat} {bs:List Pt} (h:Row W g cap bs) (hB:B≤g):Own B W (ptsV (some ⟨g,0,none⟩) cap bs) bs:=by
 obtain⟨cur,r⟩:=h
 exact⟨flat_length bs,.inr ⟨g,cap,cur,rfl,hB,r⟩⟩
theorem Row.lt {W:World} {g cap:Nat} {bs:List Pt} (h:Row W g cap bs):g<W.heap.size:=by
 obtain⟨cur,hg,_⟩:=h
 rcases Nat.lt_or_ge g W.heap.size with h | h
 ·exact h
 ·rw[Array.getElem?_eq_none h] at hg; cases hg
theorem Row.len {W:World} {g cap:Nat} {bs:List Pt} (h:Row W g cap bs):bs.length≤cap∧cap≤maxLen:=by
 obtain⟨cur,_,h1,h2,_⟩:=h; exact⟨h1,h2⟩
theorem Row.kept {W W':World} {g cap:Nat} {bs:List Pt} (h:Row W g cap bs) (hb:Below W.heap.size W W'):Row W' g cap bs:=by
 have hl:=h.lt
 obtain⟨cur,hg,r⟩:=h
 exact⟨cur,(hb.block g hl).trans hg,r⟩
theorem Row.cell {W:World} {g cap:Nat} {bs:List Pt} (h:Row W g cap bs) {i:Nat} (hi:i<bs.length):
 W.cell? ⟨g,i * 2,none⟩=some (.int .u64 bs[i].1)∧W.cell? ⟨g,i * 2+1,none⟩=some (.int .i64 bs[i].2)∧W.frozen? ⟨g,i * 2,none⟩=false∧W.frozen? ⟨g,i * 2+1,none⟩=false:=by
 obtain⟨cur,hg,h1,h2,h3,h4⟩:=h
 obtain⟨f0,f1⟩:=flat_get bs i bs[i] (List.getElem?_eq_getElem hi)
 rw[← h4,List.getElem?_take_of_lt (by omega)] at f0 f1
 rw[Array.getElem?_toList] at f0 f1
 refine⟨?_,?_,?_,?_⟩ <;> simp[World.cell?,World.frozen?,hg,f0,f1]
theorem Row.lies {W:World} {g cap:Nat} {bs:List Pt} (h:Row W g cap bs):Lies W (some ⟨g,0,none⟩) cap bs:=
 ⟨h.len.2,h.len.1,fun _=>⟨g,0,rfl,fun i x hi=>by
   obtain⟨hl,e⟩:=List.getElem?_eq_some_iff.1 hi
   obtain⟨c0,c1,_⟩:=h.cell hl
   rw[e] at c0 c1
   rw[Nat.zero_add]; exact⟨c0,c1⟩⟩⟩
theorem flat_set (bs:List Pt):∀ (i:Nat) (x:Pt),flat (bs.set i x)=((flat bs).set (i * 2) (.int .u64 x.1)).set (i * 2+1) (.int .i64 x.2):=by
 induction bs with
 | nil=>intro i x; simp[flat]
 | cons y bs ih=>
   intro i x
   have e:∀ (y:Pt) bs,flat (y :: bs)=.int .u64 y.1 :: .int .i64 y.2 :: flat bs:=fun y bs=>by simp[flat]
   cases i with
   | zero=>simp[e]
   | succ i=>
     rw[List.set_cons_succ,e,e,ih i x,show (i+1) * 2=i * 2+1+1 by omega]
     simp[List.set_cons_succ]
def put2 (W:World) (g i:Nat) (x:Pt):World:=(W.setCell ⟨g,i * 2,none⟩ (.int .u64 x.1)).setCell ⟨g,i * 2+1,none⟩ (.int .i64 x.2)
theorem Row.put {W:World} {g cap:Nat} {bs:List Pt} (h:Row W g cap bs) (i:Nat) (x:Pt):Row (put2 W g i x) g cap (bs.set i x):=by
 obtain⟨cur,hg,h1,h2,h3,h4⟩:=h
 refine⟨(cur.setIfInBounds (i * 2) (.int .u64 x.1)).setIfInBounds (i * 2+1) (.int .i64 x.2),heap_setCell_same _ _ _ _ _ _ (heap_setCell_same _ _ _ _ _ _ hg),by simpa using h1,h2,by simpa using h3,?_⟩
 rw[List.length_set,flat_set,← h4]
 simp[List.take_set]
theorem Row.put_other {W:World} {g cap:Nat} {bs:List Pt} (h:Row W g cap bs) {a:Addr} (ha:g≠a.block) (v:Value):Row (W.setCell a v) g cap bs:=by
 obtain⟨cur,hg,r⟩:=h
 exact⟨cur,(heap_setCell_other _ _ _ _ ha).trans hg,r⟩
theorem Row.drew {W:World} {g cap:Nat} {bs:List Pt} (h:Row W g cap bs):Row W.drew g cap bs:=h
theorem Row.cut {W:World} {g cap:Nat} {bs:List Pt} (h:Row W g cap bs) (i:Nat):Row W g cap (bs.take i):=by
 obtain⟨cur,hg,h1,h2,h3,h4⟩:=h
 have hl:(bs.take i).length≤bs.length:=by simp; omega
 refine⟨cur,hg,by omega,h2,h3,?_⟩
 have e:flat (bs.take i)=(flat bs).take ((bs.take i).length * 2):=by
  have e1:flat bs=flat (bs.take i) ++ flat (bs.drop i):=by
   conv=>lhs; rw[← List.take_append_drop i bs]
   unfold flat
   rw[List.flatMap_append]
  rw[e1]
  exact (List.take_left' (flat_length (bs.take i))).symm
 rw[e,← h4,List.take_take]
 congr 1; omega
theorem below_put {B:Nat} {w W:World} (h:Below B w W) {g:Nat} (hg:B≤g) (i:Nat) (x:Pt):Below B w (put2 W g i x):=(h.setCell (p:=⟨g,i * 2,none⟩) hg _).setCell (p:=⟨g,i * 2+1,none⟩) hg _
def Gives (W:World) (v:Value) (bs:List Pt):Prop:=∃ a cap,v=ptsV a cap bs∧Lies W a cap bs
end Go.Proofs.YtbamodkgagcmnaaGreat.Pts
namespace Go.Proofs.YtbamodkgagcmnaaGreat.Pts
def less (x y:Pt):Bool:=decide (x.1<y.1∨x.1=y.1∧x.2<y.2)
theorem less_iff (x y:Pt):less x y=true↔x.1<y.1∨x.1=y.1∧x.2<y.2:=decide_eq_true_iff
theorem less_not (x y:Pt):less x y=false↔¬ (x.1<y.1∨x.1=y.1∧x.2<y.2):=decide_eq_false_iff_not
def le (x y:Pt):Bool:=!less y x
theorem le_iff (x y:Pt):le x y=true↔x.1<y.1∨x.1=y.1∧x.2≤y.2:=by
 unfold le
 rw[Bool.not_eq_true',less_not]
 omega
theorem le_trans (x y z:Pt) (h1:le x y=true) (h2:le y z=true):le x z=true:=by rw[le_iff] at *; omega
theorem le_total (x y:Pt):(le x y || le y x)=true:=by rw[Bool.or_eq_true,le_iff,le_iff]; omega
theorem le_antisymm (x y:Pt) (h1:le x y=true) (h2:le y x=true):x=y:=by
 rw[le_iff] at h1 h2
 exact Prod.ext (by omega) (by omega)
abbrev Rise (l:List Pt):Prop:=l.Pairwise fun x y=>le x y=true
def psort (l:List Pt):List Pt:=l.mergeSort le
theorem psort_perm (l:List Pt):(psort l).Perm l:=List.mergeSort_perm l le
theorem psort_rise (l:List Pt):Rise (psort l):=List.pairwise_mergeSort le_trans le_total l
theorem psort_is (l s:List Pt) (hp:s.Perm l) (hr:Rise s):psort l=s:=
 List.Perm.eq_of_pairwise (le:=fun x y=>le x y=true) (fun a b _ _ h1 h2=>le_antisymm a b h1 h2) (psort_rise l) hr ((psort_perm l).trans hp.symm)
theorem psort_self (l:List Pt) (h:Rise l):psort l=l:=psort_is l l (List.Perm.refl l) h
theorem psort_length (l:List Pt):(psort l).length=l.length:=(psort_perm l).length_eq
theorem psort_short (l:List Pt) (h:l.length<2):psort l=l:=by
 refine psort_self l ?_
 match l,h with
 | [],_=>exact List.Pairwise.nil
 | [x],_=>exact List.pairwise_singleton _ x
def mrg (a b:List Pt):List Pt:=List.merge a b le
theorem mrg_nil_left (b:List Pt):mrg [] b=b:=List.nil_merge b
theorem mrg_nil_right (a:List Pt):mrg a []=a:=List.merge_right a
theorem mrg_left (x:Pt) (a:List Pt) (y:Pt) (b:List Pt) (h:le x y=true):mrg (x :: a) (y :: b)=x :: mrg a (y :: b):=by
 unfold mrg; rw[List.cons_merge_cons,if_pos h]
theorem mrg_right (x:Pt) (a:List Pt) (y:Pt) (b:List Pt) (h:¬ le x y=true):mrg (x :: a) (y :: b)=y :: mrg (x :: a) b:=by
 unfold mrg; rw[List.cons_merge_cons,if_neg h]
theorem mrg_length (a b:List Pt):(mrg a b).length=a.length+b.length:=by
 have:=(List.merge_perm_append (le:=le) (xs:=a) (ys:=b)).length_eq
 rw[List.length_append] at this; exact this
theorem psort_app (a b:List Pt):psort (a ++ b)=mrg (psort a) (psort b):=by
 refine psort_is _ _ ?_ ?_
 ·exact (List.merge_perm_append (le:=le)).trans ((psort_perm a).append (psort_perm b))
 ·exact List.pairwise_merge le_trans le_total _ _ (psort_rise a) (psort_rise b)
end Go.Proofs.YtbamodkgagcmnaaGreat.Pts
namespace Go.Proofs.YtbamodkgagcmnaaGreat.Pts
open Pol (Bk without sorted with_ chk)
def cnt (g:Int):Nat:=8 * (max 0 (min g 16)).toNat
def own (hash:Int→Nat→Int) (x:Bk):List Pt:=(List.range (cnt x.2)).map fun n=>(hash x.1 n,x.1)
def pts (hash:Int→Nat→Int) (z:List Bk):List Pt:=z.flatMap (own hash)
def ofL (hash:Int→Nat→Int) (z:List Bk):List Pt:=psort (pts hash z)
section
variable (hash:Int→Nat→Int)
theorem own_id (x:Bk) (p:Pt) (h:p ∈ own hash x):p.2=x.1:=by
 obtain⟨n,_,rfl⟩:=List.mem_map.1 h; rfl
theorem own_length (x:Bk):(own hash x).length=cnt x.2:=by simp[own]
theorem ofL_rise (z:List Bk):Rise (ofL hash z):=psort_rise _
theorem own_in (x:Bk) (n:Nat) (hn:n<cnt x.2):(hash x.1 n,x.1) ∈ own hash x:=List.mem_map.2 ⟨n,List.mem_range.2 hn,rfl⟩
theorem in_ofL (z:List Bk) (x:Bk) (hx:x ∈ z) (n:Nat) (hn:n<cnt x.2):(hash x.1 n,x.1) ∈ ofL hash z:=
 (psort_perm _).mem_iff.2 (List.mem_flatMap.2 ⟨x,hx,own_in hash x n hn⟩)
end
end Go.Proofs.YtbamodkgagcmnaaGreat.Pts
namespace Go.Proofs.YtbamodkgagcmnaaGreat.Pts
open Go.RowKit Go.Shelf
def uw (x:Int):Int:=IntKind.u64.wrap x
theorem uw_in (x:Int):0≤uw x∧uw x≤18446744073709551615:=by
 simp only[uw,IntKind.wrap,IntKind.signed,IntKind.bits]; simp; omega
def hashS (id n:Int):ByteArray:=Oct.str (Oct.bytes (uw id).toNat 4) ++ Oct.str (Oct.bytes (uw n).toNat 2) ++ ⟨#[0,0,0,0]⟩
def hashV (id n:Int):Int:=(Fnv.jn 14695981039346656037 (hashS id n).data.toList:Nat)
end Go.Proofs.YtbamodkgagcmnaaGreat.Pts
set_option maxRecDepth 100000
namespace Go.Proofs.YtbamodkgagcmnaaGreat.Rin
open Pts Pol
def succL (L:List Pt) (h:Int):Int:=match L.find? fun p=>decide (h≤p.1) with
 | some p=>p.2
 | none=>match L with
   | []=> -1
   | p :: _=>p.2
theorem succL_some {L:List Pt} {h:Int} {p:Pt} (e:L.find? (fun p=>decide (h≤p.1))=some p):succL L h=p.2:=by unfold succL; rw[e]
theorem succL_none {p:Pt} {L:List Pt} {h:Int} (e:(p :: L).find? (fun p=>decide (h≤p.1))=none):succL (p :: L) h=p.2:=by unfold succL; rw[e]
theorem succL_mem {L:List Pt} (hL:L≠[]) (h:Int):∃ p ∈ L,succL L h=p.2:=by
 cases e:L.find? (fun p=>decide (h≤p.1)) with
 | some p=>exact⟨p,List.mem_of_find?_eq_some e,succL_some e⟩
 | none=>
   cases L with
   | nil=>exact absurd rfl hL
   | cons p L=>exact⟨p,by simp,succL_none e⟩
section
variable (hash:Int→Nat→Int)
theorem ofL_mem {z:List Bk} {p:Pt} (h:p ∈ ofL hash z):∃ x ∈ z,p.2=x.1:=by
 obtain⟨x,hx,hp⟩:=List.mem_flatMap.1 ((psort_perm (pts hash z)).mem_iff.1 h)
 exact⟨x,hx,own_id hash x p hp⟩
theorem ofL_none {z:List Bk} (hc:chk z) (h:z≠[]):ofL hash z≠[]:=by
 cases z with
 | nil=>exact absurd rfl h
 | cons x z=>
   intro e
   obtain⟨_,hr,_⟩:=(chk_iff _).1 hc
   obtain⟨_,_,h3,h4⟩:=hr x (by simp)
   have:=in_ofL hash (x :: z) x (by simp) 0 (by unfold cnt; omega)
   rw[e] at this; cases this
end
end Go.Proofs.YtbamodkgagcmnaaGreat.Rin
namespace Go.Proofs.YtbamodkgagcmnaaGreat.Rin
open Go.RowKit Go.Shelf
open Pts (Pt ptV ptsV Lies Rise)
open Pol (below2 below_alloc)
def Seek (L:List Pt) (h:Int) (s t:Nat):Prop:=(∀ i (hi:i<L.length),i<s→L[i].1<h)∧∀ i (hi:i<L.length),t≤i→h≤L[i].1
theorem rise_hash {L:List Pt} (hr:Rise L) {i j:Nat} (hi:i<L.length) (hj:j<L.length) (hij:i≤j):L[i].1≤L[j].1:=by
 rcases Nat.lt_or_ge i j with h | h
 ·have:=List.pairwise_iff_getElem.1 hr i j hi hj h
  rw[Pts.le_iff] at this; omega
 ·have:i=j:=by omega
  subst this; exact Int.le_refl _
theorem Seek.low {L:List Pt} {h:Int} {s t m:Nat} (hr:Rise L) (hm:m<L.length) (hx:L[m].1<h) (k:Seek L h s t):Seek L h (m+1) t:=
 ⟨fun _ hi him=>Int.lt_of_le_of_lt (rise_hash hr hi hm (by omega)) hx,k.2⟩
theorem Seek.high {L:List Pt} {h:Int} {s t m:Nat} (hr:Rise L) (hm:m<L.length) (hx:¬ L[m].1<h) (k:Seek L h s t):Seek L h s m:=
 ⟨k.1,fun _ hi him=>Int.le_trans (Int.not_lt.1 hx) (rise_hash hr hm hi him)⟩
def Found (L:List Pt) (h:Int) (m:Nat):Prop:=m≤L.length∧(Rise L→Seek L h m m)
set_option maxRecDepth 100000 in
set_option maxHeartbeats 1000000 in
theorem place_any (a:Option Addr) (cap:Nat) (L:List Pt) (h:Int) (w:World) (hL:Lies w a cap L):
 Calls Tryz.prog 154 #[ptsV a cap L,.int .u64 h] w fun e W'=>(∃ m:Nat,e=.returned (.int .i64 m)∧Found L h m)∧W'=w:=by
 have H:=Lib.hid hL
 have hlen:=hL.len
 have hmax:=hL.max
 unfold maxLen at hmax
 clear hL
 go_enter Tryz.func154,Tryz.ntmps154
 go_wp2
 go_loop [5,6] (fun lo hi=>∃ s t:Nat,s≤t∧t≤L.length∧lo=.int .i64 s∧hi=.int .i64 t∧(Rise L→Seek L h s t)) (fun lo hi=>(intOf hi).toNat - (intOf lo).toNat)
 case atStart=>exact⟨0,L.length,Nat.zero_le _,Nat.le_refl _,rfl,rfl,fun _=>⟨fun i _ h=>absurd h (by omega),fun i hi h=>absurd h (by omega)⟩⟩
 case round=>
  obtain⟨s,t,hst,ht,rfl,rfl,hS⟩:=hrel
  have HS:=Lib.hid hS
  clear hS
  by_cases hlt:s<t
  ·have dlt:decide (s<t)=true:=decide_eq_true hlt
   obtain⟨d,hd⟩:∃ d:Nat,d=t - s:=⟨_,rfl⟩
   obtain⟨q,hq⟩:∃ q:Nat,q=d / 2:=⟨_,rfl⟩
   obtain⟨m,hm⟩:∃ m:Nat,m=s+q:=⟨_,rfl⟩
   have hml:m<L.length:=by omega
   have hm1:s≤m:=by omega
   have hm2:m<t:=by omega
   have e1:IntKind.i64.wrap ((t:Int) - (s:Int))=(d:Int):=by simp only[IntKind.wrap,IntKind.signed,IntKind.bits]; simp; omega
   have e2:(d:Int).tdiv 2=(q:Int):=by rw[hq]; rfl
   have e4:IntKind.i64.wrap (q:Int)=(q:Int):=by simp only[IntKind.wrap,IntKind.signed,IntKind.bits]; simp; omega
   have e3:IntKind.i64.wrap ((s:Int)+(q:Int))=(m:Int):=by simp only[IntKind.wrap,IntKind.signed,IntKind.bits]; simp; omega
   obtain⟨b,off,rfl,c0,c1⟩:=H.out.at hml
   by_cases hx:L[m].1<h
   ·have dx:decide (L[m].1<h)=true:=decide_eq_true hx
    have HN:=Lib.hid (show Rise L→Seek L h (m+1) t from fun hr=>Seek.low hr hml hx (HS.out hr))
    clear hx hd hq hm
    generalize L[m]=x at *
    go_wp2
    refine⟨⟨m+1,t,by omega,ht,by go_num,rfl,HN.out⟩,by simp[intOf]; omega⟩
   ·have dx:decide (L[m].1<h)=false:=decide_eq_false hx
    have HN:=Lib.hid (show Rise L→Seek L h s m from fun hr=>Seek.high hr hml hx (HS.out hr))
    clear hx hd hq hm
    generalize L[m]=x at *
    go_wp2
    refine⟨⟨s,m,by omega,by omega,rfl,rfl,HN.out⟩,by simp[intOf]; omega⟩
  ·obtain rfl:s=t:=by omega
   go_wp2
   go_ret
   exact⟨⟨s,rfl,ht,HS.out⟩,rfl⟩
end Go.Proofs.YtbamodkgagcmnaaGreat.Rin
namespace Go.Proofs.YtbamodkgagcmnaaGreat.Rin
open Go.RowKit Go.Shelf
open Pts (Pt ptV ptsV Lies Rise less)
open Pol (below2 below_alloc)
def Told (L:List Pt) (h r:Int):Prop:=(L=[]→r= -1)∧(L≠[]→∃ p ∈ L,r=p.2)∧(Rise L→r=succL L h)
theorem found_succ {L:List Pt} {h:Int} {m:Nat} (hr:Rise L) (hf:Found L h m) (hpos:0<L.length) (hm:m % L.length<L.length):L[m % L.length].2=succL L h:=by
 obtain⟨h1,h2⟩:=hf
 obtain⟨lo,hi⟩:=h2 hr
 rcases Nat.lt_or_ge m L.length with hlt | hge
 ·have e:L.find? (fun p=>decide (h≤p.1))=some L[m]:=by
   refine List.find?_eq_some_iff_getElem.2 ⟨by simpa using hi m hlt (Nat.le_refl _),m,hlt,rfl,fun j hj=>?_⟩
   have:=lo j (by omega) hj
   simp; omega
  rw[succL_some e]
  simp[Nat.mod_eq_of_lt hlt]
 ·have em:m=L.length:=by omega
  subst em
  simp only[Nat.mod_self]
  cases L with
  | nil=>simp at hpos
  | cons p L=>
    have e:(p :: L).find? (fun p=>decide (h≤p.1))=none:=by
     rw[List.find?_eq_none]
     intro x hx
     obtain⟨j,hj,rfl⟩:=List.getElem_of_mem hx
     have:=lo j hj (by simpa using hj)
     simp at this ⊢; omega
    rw[succL_none e]; rfl
theorem told_found {L:List Pt} {h:Int} {m:Nat} (hf:Found L h m) (hm:m % L.length<L.length):Told L h L[m % L.length].2:=
 ⟨fun e=>by subst e; simp at hm,fun _=>⟨_,List.getElem_mem hm,rfl⟩,fun hr=>found_succ hr hf (by omega) hm⟩
set_option maxRecDepth 100000 in
set_option maxHeartbeats 1000000 in
theorem succ_told (a:Option Addr) (cap:Nat) (L:List Pt) (h:Int) (w:World) (hL:Lies w a cap L):
 Calls Tryz.prog 107 #[ptsV a cap L,.int .u64 h] w fun e W'=>(∃ r,e=.returned (.int .i64 r)∧Told L h r)∧W'=w:=by
 have H:=Lib.hid hL
 have hlen:=hL.len
 have hmax:=hL.max
 unfold maxLen at hmax
 clear hL
 by_cases h0:L.length=0
 ·obtain rfl:L=[]:=List.eq_nil_of_length_eq_zero h0
  go_enter Tryz.func107,Tryz.ntmps107
  go_wp2
  go_ret
  exact⟨⟨_,rfl,fun _=>rfl,fun h=>absurd rfl h,fun _=>rfl⟩,rfl⟩
 ·have d0:((L.length:Int) == 0)=false:=beq_false_of_ne (by omega)
  go_enter Tryz.func107,Tryz.ntmps107
  go_wp2_with fail
  refine (place_any a cap L h w H.out).mono ?_
  rintro e w1 ⟨⟨m,rfl,hf⟩,rfl⟩
  have hm:=hf.1
  obtain⟨r,hr⟩:∃ r:Nat,r=m % L.length:=⟨_,rfl⟩
  have hrl:r<L.length:=by rw[hr]; exact Nat.mod_lt _ (by omega)
  have e1:(m:Int).tmod (L.length:Int)=(r:Int):=by rw[hr]; rfl
  have e2:IntKind.i64.wrap (r:Int)=(r:Int):=by simp only[IntKind.wrap,IntKind.signed,IntKind.bits]; simp; omega
  obtain⟨b,off,rfl,c0,c1⟩:=H.out.at hrl
  have HT:=Lib.hid (show Told L h L[r].2 by subst hr; exact told_found hf hrl)
  generalize L[r]=x at *
  clear hr hf
  go_wp2_with fail
  go_ret
  exact⟨⟨_,rfl,HT.out⟩,rfl⟩
theorem told_rise {L:List Pt} {h r:Int} (ht:Told L h r) (hr:Rise L):r=succL L h:=ht.2.2 hr
end Go.Proofs.YtbamodkgagcmnaaGreat.Rin
