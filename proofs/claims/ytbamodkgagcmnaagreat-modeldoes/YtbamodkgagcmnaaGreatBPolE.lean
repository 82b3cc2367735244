/-
  Pools: a slice of backends, as a list of pairs; the document's Find (package gangplankref08).
-/
import Derived.WalkKit
import Derived.WalkMore
import Derived.OwnWalkIn
import Derived.LoopNIn
import Derived.Shelf.Abstract
import Derived.Below
import Derived.Lib.Hide
import Derived.Laws.AppendOwn
import Derived.Laws.StructEq
import Derived.Test.YtbamodkgagcmnaaGreatProg
import Derived.Test.YtbamodkgagcmnaaGreatBRgnE
import Derived.OwnWalk
import Derived.BigQuiet
import Derived.WalkSmall
import Derived.ProofKit
import Derived.OpenShut
import Derived.ChangeMaps5
import Derived.Deep.SlicePairs
import Derived.Carry
set_option maxRecDepth 100000
namespace Go.Proofs.YtbamodkgagcmnaaGreat.Pol
open Go.RowKit Go.Shelf Rgn
abbrev Bk:=Int × Int
abbrev polV (a:Option Addr) (cap:Nat) (bs:List Bk):Value:=.slice a bs.length cap
structure Lies (W:World) (a:Option Addr) (cap:Nat) (bs:List Bk):Prop where
 max:cap≤maxLen
 len:bs.length≤cap
 cell:bs≠[]→∃ b off,a=some ⟨b,off,none⟩∧∀ i x,bs[i]? =some x→W.cell? ⟨b,off+i * 2,none⟩=some (.int .i64 x.1)∧W.cell? ⟨b,off+i * 2+1,none⟩=some (.int .i64 x.2)
theorem Lies.kept {W W':World} {a:Option Addr} {cap:Nat} {bs:List Bk} (h:Lies W a cap bs) (hb:Below W.heap.size W W'):Lies W' a cap bs:=
 ⟨h.max,h.len,fun hn=>by
   obtain⟨b,off,e,hc⟩:=h.cell hn
   refine⟨b,off,e,fun i x hi=>?_⟩
   obtain⟨c0,c1⟩:=hc i x hi
   exact⟨(hb.cell (p:=⟨b,off+i * 2,none⟩) (World.block_lt_of_cell? W _ c0)).trans c0,(hb.cell (p:=⟨b,off+i * 2+1,none⟩) (World.block_lt_of_cell? W _ c1)).trans c1⟩⟩
theorem lies_nil (W:World):Lies W none 0 []:=⟨by unfold maxLen; omega,Nat.le_refl _,fun h=>absurd rfl h⟩
theorem Lies.at {W:World} {a:Option Addr} {cap:Nat} {bs:List Bk} (h:Lies W a cap bs) {k:Nat} (hk:k<bs.length):∃ b off,a=some ⟨b,off,none⟩∧W.cell? ⟨b,off+k * 2,none⟩=some (.int .i64 bs[k].1)∧W.cell? ⟨b,off+k * 2+1,none⟩=some (.int .i64 bs[k].2):=by
 obtain⟨b,off,e,hc⟩:=h.cell (fun e=>by rw[e] at hk; exact absurd hk (by simp))
 exact⟨b,off,e,hc k _ (List.getElem?_eq_getElem hk)⟩
def find:List Bk→Int→Nat→Int
 | [],_,_=> -1
 | x :: bs,id,k=>if x.1=id then k else find bs id (k+1)
theorem find_drop (bs:List Bk) (id:Int):∀ (k m:Nat),k≤bs.length→(∀ j x,j<k→bs[j]? =some x→x.1≠id)→find bs id m=find (bs.drop k) id (m+k):=by
 induction bs with
 | nil=>intro k m hk _; simp at hk; subst hk; rfl
 | cons x bs ih=>
   intro k m hk hno
   cases k with
   | zero=>rfl
   | succ k=>
     rw[List.drop_succ_cons]
     have h0:=hno 0 x (by omega) rfl
     rw[show find (x :: bs) id m=find bs id (m+1) from if_neg h0,ih k (m+1) (by simpa using hk) (fun j y hj hy=>hno (j+1) y (by omega) (by simpa using hy))]
     congr 1; omega
theorem find_hit (bs:List Bk) (id:Int) (k:Nat) (hk:k<bs.length) (hno:∀ j x,j<k→bs[j]? =some x→x.1≠id) (h:bs[k].1=id):find bs id 0=k:=by
 rw[find_drop bs id k 0 (by omega) hno,List.drop_eq_getElem_cons hk,Nat.zero_add]
 exact if_pos h
theorem find_none (bs:List Bk) (id:Int) (hno:∀ j x,j<bs.length→bs[j]? =some x→x.1≠id):find bs id 0= -1:=by
 rw[find_drop bs id bs.length 0 (Nat.le_refl _) hno,List.drop_length]; rfl
end Go.Proofs.YtbamodkgagcmnaaGreat.Pol
namespace Go.Proofs.YtbamodkgagcmnaaGreat.Pol
open Go.RowKit Go.Shelf Rgn
theorem below2 {w0 w1 w2:World} (h1:Below w0.heap.size w0 w1) (h2:Below w1.heap.size w1 w2):Below w0.heap.size w0 w2:=h1.trans (h2.mono h1.size)
theorem below_alloc (W:World) (o:Obj):Below W.heap.size W (W.alloc o):=(Below.refl _ W).alloc (Nat.le_refl _) o
def flat (bs:List Bk):List Value:=bs.flatMap fun x=>[.int .i64 x.1,.int .i64 x.2]
theorem flat_length (bs:List Bk):(flat bs).length=bs.length * 2:=by
 induction bs with
 | nil=>rfl
 | cons x bs ih=>unfold flat at *; rw[List.flatMap_cons,List.length_append,ih]; simp; omega
theorem flat_more (bs:List Bk) (y:Bk):flat (bs ++ [y])=flat bs ++ [.int .i64 y.1,.int .i64 y.2]:=by simp[flat]
theorem flat_get (bs:List Bk):∀ (i:Nat) (x:Bk),bs[i]? =some x→(flat bs)[i * 2]? =some (.int .i64 x.1)∧(flat bs)[i * 2+1]? =some (.int .i64 x.2):=by
 induction bs with
 | nil=>intro i x h; simp at h
 | cons y bs ih=>
   intro i x h
   have e:flat (y :: bs)=.int .i64 y.1 :: .int .i64 y.2 :: flat bs:=by simp[flat]
   cases i with
   | zero=>simp at h; subst h; rw[e]; exact⟨rfl,rfl⟩
   | succ i=>
     obtain⟨h0,h1⟩:=ih i x (by simpa using h)
     rw[e,show (i+1) * 2=i * 2+1+1 by omega]
     exact⟨by simpa using h0,by simpa using h1⟩
def Own (B:Nat) (W:World) (v:Value) (bs:List Bk):Prop:=W.ownsRow B 83 2 v bs.length (flat bs)
theorem own_nil (B:Nat) (W:World):Own B W (.slice none 0 0) []:=World.ownsRow_nil W B _ 2
theorem grown_none {W W':World} (hb:Below W.heap.size W W'):W.grownBy W' none:=⟨hb.os,hb.tape,hb.output,hb.size,fun k hk _=>hb.block k hk⟩
theorem Own.kept {B:Nat} {W W':World} {v:Value} {bs:List Bk} (h:Own B W v bs) (hb:Below W.heap.size W W'):Own B W' v bs:=
 World.ownsRow.kept h (grown_none hb) (by cases v.ownBlock <;> simp)
theorem own_less {B B':Nat} {W:World} {v:Value} {bs:List Bk} (hB:B≤B') (h:Own B' W v bs):Own B W v bs:=by
 refine⟨h.1,?_⟩
 rcases h.2 with h0 | ⟨g,cap,cur,hv,hb,r⟩
 ·exact .inl h0
 ·exact .inr ⟨g,cap,cur,hv,Nat.le_trans hB hb,r⟩
theorem add_at (g j:Nat):(⟨g,0,none⟩:Addr).add j=⟨g,0+j,none⟩:=by
 cases j <;> simp[Addr.add]
theorem Own.lies {B:Nat} {W:World} {v:Value} {bs:List Bk} (h:Own B W v bs):∃ a cap,v=polV a cap bs∧Lies W a cap bs:=by
 rcases h.2 with⟨rfl,h0⟩ | ⟨g,cap,cur,rfl,hb,hg,hn,hm,hs,htake⟩
 ·have:bs=[]:=List.eq_nil_of_length_eq_zero h0
  subst this
  exact⟨none,0,rfl,lies_nil W⟩
 ·refine⟨some ⟨g,0,none⟩,cap,rfl,hm,hn,fun _=>⟨g,0,rfl,fun i x hi=>?_⟩⟩
  have hc:=World.ownsRow.cells h (g:=g) rfl
  obtain⟨h0,h1⟩:=flat_get bs i x hi
  have c0:=hc _ _ h0
  have c1:=hc _ _ h1
  rw[add_at] at c0 c1
  exact⟨c0,c1⟩
theorem info_bk:(Tryz.prog.info? 83).map (fun i=>(i.zero,i.size,i.bytes))=some (some (.agg #[.int .i64 0,.int .i64 0]),2,16):=by kernel_rfl
theorem wpList_more {w:World} {ops:Array Oper} {rest:List Oper} {o:Oper} {a:Act} {Q:Exit→Act→World→Prop} (hgd:o.guard=none) (s x:Operand)
 (ho:o.op=.call { callee:=.builtin .append,args:=#[s,x],argTypes:=#[32,32] }) (B g:Nat) (bs:List Bk) (y:Bk) (v:Value) (hs:a.eval s=v) (hx:a.eval x=.slice (some ⟨g,0,none⟩) 1 1)
 (hown:Own B w v bs) (c0:w.cell? ⟨g,0,none⟩=some (.int .i64 y.1)) (c1:w.cell? ⟨g,1,none⟩=some (.int .i64 y.2)) (hl:bs.length≤8796093022207) (hB:B≤w.heap.size)
 (h:∀ v' w',Hid (Own B w' v' (bs ++ [y]))→Hid (Below B w w')→wpList Tryz.prog ops Q rest (a.put o.dst v') w'):wpList Tryz.prog ops Q (o :: rest) a w:=by
 obtain⟨i0,hi,hz0,hz1,hz2⟩:=info_parts info_bk
 refine wpList_append_own _ hgd s x 32 ho B 83 i0 (.agg #[.int .i64 0,.int .i64 0]) 2 16 Tryz.underlying32 hi hz0 hz1 hz2 rfl (by decide) v bs.length (flat bs) hs hown ⟨g,0,none⟩ 1 1 [.int .i64 y.1,.int .i64 y.2] hx rfl ?c1 ?c2 ?c3 ?c4 hB ?_
 case c1=>
  intro j u hj
  match j,hj with
  | 0,hj=>simp at hj; subst hj; simpa [Addr.add] using c0
  | 1,hj=>simp at hj; subst hj; simpa [Addr.add] using c1
 case c2=>intro u hu; simp at hu; rcases hu with rfl | rfl <;> rfl
 case c3=>unfold maxLen; omega
 case c4=>omega
 intro v' w' h1 h2 _
 refine h v' w' ?_ ?_
 ·show Own B w' v' (bs ++ [y])
  unfold Own
  rw[flat_more,List.length_append]
  exact h1
 ·exact (Below.refl B w).grown h2 hB (fun k hk=>(World.ownsRow.lt hown k hk).1)
def without (bs:List Bk) (id:Int):List Bk:=bs.filter fun x=>x.1 != id
theorem take_more (bs:List Bk) (k:Nat) (hk:k<bs.length):bs.take (k+1)=bs.take k ++ [bs[k]]:=by rw[List.take_succ_eq_append_getElem hk]
end Go.Proofs.YtbamodkgagcmnaaGreat.Pol
namespace Go.Proofs.YtbamodkgagcmnaaGreat.Pol
open Go.RowKit Go.Shelf Rgn
def fine (bs:List Bk) (i:Nat) (x:Bk):Prop:=1≤x.1∧x.1≤65535∧1≤x.2∧x.2≤16∧find bs x.1 0=i
def chk (bs:List Bk):Prop:=bs.length≤32∧∀ i x,bs[i]? =some x→fine bs i x
def chkV (c:Bool):Value:=match c with
 | true=>.int .i64 0
 | false=>.int .i64 10
end Go.Proofs.YtbamodkgagcmnaaGreat.Pol
namespace Go.Proofs.YtbamodkgagcmnaaGreat.Pol
open Go.RowKit Go.Shelf Rgn
def with_:List Bk→Bk→List Bk
 | [],y=>[y]
 | x :: bs,y=>if x.1=y.1 then y :: bs else x :: with_ bs y
end Go.Proofs.YtbamodkgagcmnaaGreat.Pol
namespace Go.Proofs.YtbamodkgagcmnaaGreat.Pol
open Go.RowKit Go.Shelf Rgn
def ins:List Bk→Bk→List Bk
 | [],y=>[y]
 | x :: bs,y=>if y.1<x.1 then y :: x :: bs else x :: ins bs y
def sorted (bs:List Bk):List Bk:=bs.foldl ins []
def seen (bs:List Bk) (y:Bk):Bool:=bs.any fun x=>decide (y.1<x.1)
def part (bs:List Bk) (y:Bk):List Bk:=if seen bs y then ins bs y else bs
end Go.Proofs.YtbamodkgagcmnaaGreat.Pol
namespace Go.Proofs.YtbamodkgagcmnaaGreat.Pol
open Go.RowKit Go.Shelf Rgn
theorem bk_cmp (x y:Bk) (c:Bool) (h:x=y↔c=true) (W:World):(Op.equalIn 10000 83 (.agg #[.int .i64 x.1,.int .i64 x.2]) (.agg #[.int .i64 y.1,.int .i64 y.2])).run Tryz.prog W=.ok c W:=by
 rw[Prod.ext_iff] at h
 go_simp
 cases c <;> (repeat' split) <;> simp_all
end Go.Proofs.YtbamodkgagcmnaaGreat.Pol
namespace Go.Proofs.YtbamodkgagcmnaaGreat.Pol
open Go.RowKit Go.Shelf Rgn
abbrev intsV (a:Option Addr) (cap:Nat) (zs:List Int):Value:=.slice a zs.length cap
structure LiesI (W:World) (a:Option Addr) (cap:Nat) (zs:List Int):Prop where
 max:cap≤maxLen
 len:zs.length≤cap
 cell:zs≠[]→∃ b off,a=some ⟨b,off,none⟩∧∀ i x,zs[i]? =some x→W.cell? ⟨b,off+i,none⟩=some (.int .i64 x)
theorem LiesI.kept {W W':World} {a:Option Addr} {cap:Nat} {zs:List Int} (h:LiesI W a cap zs) (hb:Below W.heap.size W W'):LiesI W' a cap zs:=
 ⟨h.max,h.len,fun hn=>by
   obtain⟨b,off,e,hc⟩:=h.cell hn
   refine⟨b,off,e,fun i x hi=>?_⟩
   have c0:=hc i x hi
   exact (hb.cell (p:=⟨b,off+i,none⟩) (World.block_lt_of_cell? W _ c0)).trans c0⟩
theorem LiesI.at {W:World} {a:Option Addr} {cap:Nat} {zs:List Int} (h:LiesI W a cap zs) {k:Nat} (hk:k<zs.length):∃ b off,a=some ⟨b,off,none⟩∧W.cell? ⟨b,off+k,none⟩=some (.int .i64 zs[k]):=by
 obtain⟨b,off,e,hc⟩:=h.cell (fun e=>by rw[e] at hk; exact absurd hk (by simp))
 exact⟨b,off,e,hc k _ (List.getElem?_eq_getElem hk)⟩
def OwnI (B:Nat) (W:World) (v:Value) (zs:List Int):Prop:=W.ownsRow B 3 1 v zs.length (zs.map fun z=>.int .i64 z)
theorem OwnI.kept {B:Nat} {W W':World} {v:Value} {zs:List Int} (h:OwnI B W v zs) (hb:Below W.heap.size W W'):OwnI B W' v zs:=
 World.ownsRow.kept h (grown_none hb) (by cases v.ownBlock <;> simp)
theorem OwnI.lies {B:Nat} {W:World} {v:Value} {zs:List Int} (h:OwnI B W v zs):∃ a cap,v=intsV a cap zs∧LiesI W a cap zs:=by
 rcases h.2 with⟨rfl,h0⟩ | ⟨g,cap,cur,rfl,hb,hg,hn,hm,hs,htake⟩
 ·have:zs=[]:=List.eq_nil_of_length_eq_zero h0
  subst this
  exact⟨none,0,rfl,by unfold maxLen; omega,Nat.le_refl _,fun h=>absurd rfl h⟩
 ·refine⟨some ⟨g,0,none⟩,cap,rfl,hm,hn,fun _=>⟨g,0,rfl,fun i x hi=>?_⟩⟩
  have c0:=World.ownsRow.cells h (g:=g) rfl i (.int .i64 x) (by rw[List.getElem?_map,hi]; rfl)
  rw[add_at] at c0
  exact c0
end Go.Proofs.YtbamodkgagcmnaaGreat.Pol
namespace Go.Proofs.YtbamodkgagcmnaaGreat.Pol
open Go.RowKit Go.Shelf Rgn
def lastId (t:List Bk):Option Int:=t.getLast?.map (·.1)
def tells (bs':List Bk) (t:List Bk) (x:Bk):Bool:=decide (find bs' x.1 0<0) && decide (lastId t≠some x.1)
def gonL (bs':List Bk) (t:List Bk):List Bk→List Int
 | []=>[]
 | x :: s=>(if tells bs' t x then [x.1] else []) ++ gonL bs' (t ++ [x]) s
def gone (bs bs':List Bk):List Int:=gonL bs' [] (sorted bs)
end Go.Proofs.YtbamodkgagcmnaaGreat.Pol
namespace Go.Proofs.YtbamodkgagcmnaaGreat.Pol
theorem find_cases (id:Int) (bs:List Bk):∀ m,(find bs id m= -1∧∀ x ∈ bs,x.1≠id)∨∃ k x,find bs id m=((m+k:Nat):Int)∧bs[k]? =some x∧x.1=id∧∀ j y,j<k→bs[j]? =some y→y.1≠id:=by
 induction bs with
 | nil=>intro m; exact .inl ⟨rfl,fun x hx=>by cases hx⟩
 | cons x bs ih=>
   intro m
   by_cases h:x.1=id
   ·exact .inr ⟨0,x,by unfold find; rw[if_pos h]; rfl,rfl,h,fun j y hj=>absurd hj (by omega)⟩
   ·have e:find (x :: bs) id m=find bs id (m+1):=if_neg h
    rcases ih (m+1) with⟨h1,h2⟩ | ⟨k,y,h1,h2,h3,h4⟩
    ·exact .inl ⟨e.trans h1,fun y hy=>by rcases List.mem_cons.1 hy with rfl | hy; exact h; exact h2 y hy⟩
    ·refine .inr ⟨k+1,y,?_,by simpa using h2,h3,fun j z hj hz=>?_⟩
     ·rw[e,h1]; congr 1; omega
     ·cases j with
      | zero=>simp at hz; subst hz; exact h
      | succ j=>exact h4 j z (by omega) (by simpa using hz)
def first (bs:List Bk) (id:Int):Option Bk:=bs.find? fun x=>x.1 == id
def rng (x:Bk):Prop:=1≤x.1∧x.1≤65535∧1≤x.2∧x.2≤16
theorem nodup_find (bs:List Bk):(bs.map (·.1)).Nodup↔∀ (i:Nat) (x:Bk),bs[i]? =some x→find bs x.1 0=(i:Int):=by
 constructor
 ·intro hn i x hi
  rcases find_cases x.1 bs 0 with⟨_,h2⟩ | ⟨k,y,h1,h2,h3,_⟩
  ·exact absurd rfl (h2 x (List.mem_of_getElem? hi))
  ·have:k=i:=by
    have a1:(bs.map (·.1))[k]? =some x.1:=by rw[List.getElem?_map,h2]; simp[h3]
    have a2:(bs.map (·.1))[i]? =some x.1:=by rw[List.getElem?_map,hi]; rfl
    have hk:=(List.getElem?_eq_some_iff.1 a1).1
    exact (List.getElem?_inj hk hn).1 (a1.trans a2.symm)
   rw[h1,this,Nat.zero_add]
 ·intro h
  show List.Pairwise _ _
  rw[List.pairwise_iff_getElem]
  intro i j hi hj hij he
  have hi':i<bs.length:=by simpa using hi
  have hj':j<bs.length:=by simpa using hj
  rw[List.getElem_map,List.getElem_map] at he
  have f1:=h i _ (List.getElem?_eq_getElem hi')
  have f2:=h j _ (List.getElem?_eq_getElem hj')
  rw[he] at f1
  omega
theorem chk_iff (bs:List Bk):chk bs↔bs.length≤32∧(∀ x ∈ bs,rng x)∧(bs.map (·.1)).Nodup:=by
 constructor
 ·rintro⟨h1,h2⟩
  refine⟨h1,fun x hx=>?_,(nodup_find bs).2 fun i x hi=>(h2 i x hi).2.2.2.2⟩
  obtain⟨i,hi⟩:=List.getElem?_of_mem hx
  obtain⟨a,b,c,d,_⟩:=h2 i x hi
  exact⟨a,b,c,d⟩
 ·rintro⟨h1,h2,h3⟩
  refine⟨h1,fun i x hi=>?_⟩
  obtain⟨a,b,c,d⟩:=h2 x (List.mem_of_getElem? hi)
  exact⟨a,b,c,d,(nodup_find bs).1 h3 i x hi⟩
end Go.Proofs.YtbamodkgagcmnaaGreat.Pol
namespace Go.Proofs.YtbamodkgagcmnaaGreat.Pol
end Go.Proofs.YtbamodkgagcmnaaGreat.Pol
namespace Go.Proofs.YtbamodkgagcmnaaGreat.Stp
open Go.ChangeShapes Go.WideShapes Go.RowKit Go.Deep Pol
variable {H:Type} {enc:TypeId × Value→H} {w:World} {base:Nat} {spare:Nat→Bool} {held:Bool}
theorem laidOut:laidOutB Tryz.prog=true:=by kernel_rfl
def BkOk (x:Bk):Prop:=(Lit.int .i64 x.1).wf=true∧(Lit.int .i64 x.2).wf=true
theorem int_size:Tryz.prog.cellsOf 3=1:=by kernel_rfl
end Go.Proofs.YtbamodkgagcmnaaGreat.Stp
