/-
  Slots that are free, taken or retired, plain facts: what each act does to them, and what holds of them.
-/
import Derived.WalkKit
import Derived.Test.YtbamodkgagcmnaaGreatCelRE
import Derived.Test.YtbamodkgagcmnaaGreatBTabE
import Derived.Test.YtbamodkgagcmnaaGreatBPolE
import Derived.ProofKit
import Derived.OpenShut
import Derived.ChangeMaps5
import Derived.Deep.Strs
import Derived.Deep.Slices
set_option maxRecDepth 100000
namespace Go.Proofs.YtbamodkgagcmnaaGreat.Epo
open Go
structure Slot where
 st:Int
 at':Int
deriving DecidableEq
abbrev slot0:Slot:=⟨0,0⟩
structure Act where
 k:Int
 slot:Int
 at':Int
 pins:List Int
def size (n:Int):Nat:=(max 0 (min n 8)).toNat
theorem size_in {n:Nat} (h:n≤8):size (n:Int)=n:=by unfold size; omega
def new (n:Int):List Slot:=List.replicate (size n) slot0
def first (p:Slot→Bool):List Slot→Nat→Option Nat
 | [],_=>none
 | x :: l,k=>if p x then some k else first p l (k+1)
def state (l:List Slot) (i:Int):Int:=if 0≤i∧i<(l.length:Int) then (l.getD i.toNat slot0).st else -1
def take (l:List Slot):List Slot × Int:=match first (fun s=>s.st == 0) l 0 with
 | some i=>(l.set i ⟨1,0⟩,(i:Int))
 | none=>(l,-1)
def retire (l:List Slot) (i a:Int):List Slot × Bool:=if state l i=1 then (l.set i.toNat ⟨2,a⟩,true) else (l,false)
def free (l:List Slot) (i:Int):List Slot × Bool:=if state l i=2 then (l.set i.toNat slot0,true) else (l,false)
def above (pins:List Int) (a:Int):Bool:=pins.all fun p=>p == 0 || decide (a<p)
def ripe (l:List Slot) (pins:List Int):Int:=match first (fun s=>s.st == 2 && above pins s.at') l 0 with
 | some i=>(i:Int)
 | none=> -1
def num (b:Bool):Int:=if b then 1 else 0
def act (l:List Slot) (x:Act):List Slot × Int:=
 if x.k=0 then take l
 else if x.k=1 then ((retire l x.slot x.at').1,num (retire l x.slot x.at').2)
 else if x.k=2 then ((free l x.slot).1,num (free l x.slot).2)
 else (l,ripe l x.pins)
def runs (l:List Slot) (xs:List Act):List Slot:=xs.foldl (fun l x=>(act l x).1) l
theorem runs_take {l:List Slot} {xs:List Act} {k:Nat} (h:k<xs.length):runs l (xs.take (k+1))=(act (runs l (xs.take k)) xs[k]).1:=by
 unfold runs
 rw[List.take_succ_eq_append_getElem h,List.foldl_append]; rfl
inductive Does (l:List Slot) (x:Act):List Slot→Int→Prop
  | takes (i:Nat) (hi:i<l.length) (h0:x.k=0) (hs:l[i].st=0):Does l x (l.set i ⟨1,0⟩) (i:Int)
  | full (h0:x.k=0):Does l x l (-1)
  | retires (i:Nat) (hi:i<l.length) (h1:x.k=1) (hx:x.slot=(i:Int)) (hs:l[i].st=1):Does l x (l.set i ⟨2,x.at'⟩) 1
  | frees (i:Nat) (hi:i<l.length) (h2:x.k=2) (hx:x.slot=(i:Int)) (hs:l[i].st=2):Does l x (l.set i slot0) 1
  | not (h:x.k=1∨x.k=2):Does l x l 0
  | asks (h0:x.k≠0) (h1:x.k≠1) (h2:x.k≠2):Does l x l (ripe l x.pins)
theorem Does.length {l m:List Slot} {x:Act} {r:Int} (h:Does l x m r):m.length=l.length:=by
 cases h <;> simp
def Ok (l:List Slot):Prop:=∀ s ∈ l,s.st=0∨s.st=1∨s.st=2
theorem Does.ok {l m:List Slot} {x:Act} {r:Int} (h:Does l x m r) (ho:Ok l):Ok m:=by
 have key:∀ (i:Nat) (s:Slot),(s.st=0∨s.st=1∨s.st=2)→Ok (l.set i s):=fun i s hs y hy=>by
  rcases List.mem_or_eq_of_mem_set hy with hy | rfl
  ·exact ho y hy
  ·exact hs
 cases h with
 | takes=>exact key _ _ (.inr (.inl rfl))
 | full=>exact ho
 | retires=>exact key _ _ (.inr (.inr rfl))
 | frees=>exact key _ _ (.inl rfl)
 | not=>exact ho
 | asks=>exact ho
def AtOk (l:List Slot) (ats:List Int):Prop:=ats.length=8∧∀ i (hi:i<l.length) (ha:i<ats.length),l[i].st=2→ats[i]=l[i].at'
theorem AtOk.set {l:List Slot} {ats:List Int} (h:AtOk l ats) {i:Nat} (s:Slot) (hs:s.st≠2):AtOk (l.set i s) ats:=by
 refine⟨h.1,fun j hj ha h2=>?_⟩
 have hj':j<l.length:=by simpa using hj
 by_cases e:i=j
 ·subst e; rw[List.getElem_set_self] at h2; exact absurd h2 hs
 ·rw[List.getElem_set_ne e] at h2 ⊢; exact h.2 j hj' ha h2
theorem AtOk.both {l:List Slot} {ats:List Int} (h:AtOk l ats) {i:Nat} (s:Slot):AtOk (l.set i s) (ats.set i s.at'):=by
 refine⟨by simpa using h.1,fun j hj ha h2=>?_⟩
 have hj':j<l.length:=by simpa using hj
 have ha':j<ats.length:=by simpa using ha
 by_cases e:i=j
 ·subst e; rw[List.getElem_set_self,List.getElem_set_self]
 ·rw[List.getElem_set_ne e] at h2 ⊢; rw[List.getElem_set_ne e]; exact h.2 j hj' ha' h2
def low:List Int→Int × Bool:=fun p=>p.foldl (fun s x=>if x≠0∧(s.2=false∨x<s.1) then (x,true) else s) (0,false)
theorem low_snoc (p:List Int) (x:Int):low (p ++ [x])=if x≠0∧((low p).2=false∨x<(low p).1) then (x,true) else low p:=by unfold low; rw[List.foldl_append]; rfl
theorem low_is (p:List Int):((low p).2=false→(low p).1=0∧∀ x ∈ p,x=0)∧((low p).2=true→(low p).1 ∈ p∧(low p).1≠0∧∀ x ∈ p,x=0∨(low p).1≤x):=by
 have key:∀ n (p:List Int),p.length=n→((low p).2=false→(low p).1=0∧∀ x ∈ p,x=0)∧((low p).2=true→(low p).1 ∈ p∧(low p).1≠0∧∀ x ∈ p,x=0∨(low p).1≤x):=by
  intro n
  induction n with
  | zero=>intro p hp; obtain rfl:=List.eq_nil_of_length_eq_zero hp; simp[low]
  | succ n ih=>
    intro p hp
    rcases List.eq_nil_or_concat p with rfl | ⟨q,x,rfl⟩
    ·simp at hp
    rw[List.concat_eq_append] at hp ⊢
    have hq:q.length=n:=by simp at hp; omega
    obtain⟨i1,i2⟩:=ih q hq
    rw[low_snoc]
    by_cases hc:x≠0∧((low q).2=false∨x<(low q).1)
    ·rw[if_pos hc]
     refine⟨(fun h=>by cases h),fun _=>⟨by simp,hc.1,fun y hy=>?_⟩⟩
     rcases List.mem_append.1 hy with hy | hy
     ·rcases hc.2 with h0 | h0
      ·exact .inl ((i1 h0).2 y hy)
      ·cases hb:(low q).2 with
       | false=>exact .inl ((i1 hb).2 y hy)
       | true=>
         rcases (i2 hb).2.2 y hy with h | h
         ·exact .inl h
         ·right; show x≤y; omega
     ·simp at hy; subst hy; exact .inr (Int.le_refl _)
    ·rw[if_neg hc]
     refine⟨fun h=>⟨(i1 h).1,fun y hy=>?_⟩,fun h=>⟨by simp[(i2 h).1],(i2 h).2.1,fun y hy=>?_⟩⟩
     ·rcases List.mem_append.1 hy with hy | hy
      ·exact (i1 h).2 y hy
      ·simp at hy; subst hy
       exact Decidable.byContradiction fun hx=>hc ⟨hx,.inl h⟩
     ·rcases List.mem_append.1 hy with hy | hy
      ·exact (i2 h).2.2 y hy
      ·simp at hy; subst hy
       by_cases hx:y=0
       ·exact .inl hx
       ·right
        exact Decidable.byContradiction fun hle=>hc ⟨hx,.inr (by omega)⟩
 exact key _ p rfl
end Go.Proofs.YtbamodkgagcmnaaGreat.Epo
set_option maxRecDepth 100000
namespace Go.Proofs.YtbamodkgagcmnaaGreat.RowG
open Go.ChangeShapes Go.WideShapes Go.RowKit Go.Shelf Go.Deep
section
variable {α:Type} {K:Kind α} {Ok:α→Prop} {P:Program} {H:Type} {enc:TypeId × Value→H} {w:World} {base:Nat} {spare:Nat→Bool} {held:Bool} {t e:TypeId}
theorem trod_rows [Inhabited α] (ht:P.underlying t=some (.slice e)) (he:P.cellsOf e=K.c) (hel:∀ n cs x,DataW.trod enc P w base spare held n e cs=some x→∃ y:α,cs=K.enc y∧Ok y)
 (n:Nat) (cs:List Value) (x:DataW H × List MemPlace) (hf:DataW.trod enc P w base spare held n t cs=some x):
 ∃ (a:Option Addr) (cap:Nat) (xs:List α),cs=[rowV a cap xs]∧Lies K w a cap xs∧∀ x ∈ xs,Ok x:=by
 rcases open_slice ht hf with⟨rfl,_⟩ | ⟨ad,len,cap,m,n',D,Pl,rfl,_,hl,hm,hmm,_,hall⟩
 ·exact⟨none,0,[],rfl,lies_nil w,fun x hx=>by cases hx⟩
 ·have hlm:len≤m:=by rw[hmm]; split <;> omega
  have each:∀ i,i<len→∃ x:α,w.cells? base (ad.add (i * K.c)) K.c=some (K.enc x)∧Ok x:=by
   intro i hi
   obtain⟨cs,h1,h2⟩:=hall i (by omega)
   obtain⟨y,rfl,ho⟩:=hel n' cs _ h2
   rw[he] at h1
   exact⟨y,h1,ho⟩
  obtain⟨q,hq⟩:=choose_lt each
  refine⟨some ad,cap,(List.range len).map q,by simp[rowV],⟨hm,by simpa using hl,fun hne=>?_⟩,?_⟩
  ·have hpos:0<len:=by
    cases len with
    | zero=>simp at hne
    | succ k=>omega
   have cell:∀ i,i<len→∀ j,j<K.c→w.cell? ((ad.add (i * K.c)).add j)=(K.enc (q i))[j]? :=fun i hi j hj=>by
    obtain⟨_,hlen,hcell⟩:=World.cells?_some (hq i hi).1
    exact hcell j hj
   obtain⟨b,off,spot⟩:=ad
   have hspot:spot=none:=by
    have h0:=cell 0 hpos 0 K.pos
    rw[List.getElem?_eq_getElem (by rw[K.len]; exact K.pos)] at h0
    simpa [Addr.add] using World.cell?_spot h0
   subst hspot
   refine⟨b,off,rfl,fun i x hi j u hj=>?_⟩
   rw[List.getElem?_map] at hi
   cases hr:(List.range len)[i]? with
   | none=>rw[hr] at hi; cases hi
   | some k=>
     rw[hr] at hi
     obtain⟨hlt,hk⟩:=List.getElem?_eq_some_iff.1 hr
     rw[List.getElem_range] at hk
     subst hk
     simp at hi
     subst hi
     have hlt':i<len:=by simpa using hlt
     have hjl:j<K.c:=by rw[← K.len (q i)]; exact (List.getElem?_eq_some_iff.1 hj).1
     have:=cell i hlt' j hjl
     rw[Addr.add_lit,Addr.add_lit,hj] at this
     exact this
  ·intro x hx
   obtain⟨i,hi,rfl⟩:=List.mem_map.1 hx
   exact (hq i (List.mem_range.1 hi)).2
end
end Go.Proofs.YtbamodkgagcmnaaGreat.RowG
namespace Go.Proofs.YtbamodkgagcmnaaGreat.Epo
open Go.ChangeShapes Go.WideShapes Go.RowKit Go.Shelf Go.Deep RowG
structure ActM where
 k:Int
 slot:Int
 at':Int
 p:Option Addr
 c:Nat
 pins:List Int
instance :Inhabited ActM:=⟨⟨0,0,0,none,0,[]⟩⟩
abbrev ActM.act (x:ActM):Act:=⟨x.k,x.slot,x.at',x.pins⟩
section
variable {P:Program} {H:Type} {enc:TypeId × Value→H} {w:World} {base:Nat} {spare:Nat→Bool} {held:Bool} {e ti ts:TypeId} {f0 f1 f2 f3:Field}
end
end Go.Proofs.YtbamodkgagcmnaaGreat.Epo
set_option maxRecDepth 100000
namespace Go.Proofs.YtbamodkgagcmnaaGreat.Mdo
open Go.ChangeShapes Go.WideShapes Go.RowKit Go.Shelf Go.Deep RowG
def bkK:Kind (Int × Int):=⟨2,fun x=>[.int .i64 x.1,.int .i64 x.2],by decide,fun _=>rfl,fun x u hu=>by
 simp at hu; rcases hu with rfl | rfl <;> rfl⟩
def BkOk (x:Int × Int):Prop:=(Lit.int .i64 x.1).wf=true∧(Lit.int .i64 x.2).wf=true
structure StM where
 kd:Int
 pkt:ByteArray
 p:Option Addr
 c:Nat
 pool:List (Int × Int)
 sh:Int
 now:Int
instance :Inhabited StM:=⟨⟨0,⟨#[]⟩,none,0,[],0,0⟩⟩
abbrev stV (x:StM):Value:=.agg #[.int .i64 x.kd,.string x.pkt,.slice x.p x.pool.length x.c,.int .i64 x.sh,.int .i64 x.now]
def stK:Kind StM:=⟨5,fun x=>[.int .i64 x.kd,.string x.pkt,.slice x.p x.pool.length x.c,.int .i64 x.sh,.int .i64 x.now],by decide,fun _=>rfl,fun x u hu=>by
 simp at hu; rcases hu with rfl | rfl | rfl | rfl | rfl <;> rfl⟩
def opK:Kind StM:=⟨4,fun x=>[.int .i64 x.kd,.string x.pkt,.slice x.p x.pool.length x.c,.int .i64 x.sh],by decide,fun _=>rfl,fun x u hu=>by
 simp at hu; rcases hu with rfl | rfl | rfl | rfl <;> rfl⟩
structure StOk (w:World) (x:StM):Prop where
 kd:(Lit.int .i64 x.kd).wf=true
 pkt:x.pkt.size≤maxLen
 lies:RowG.Lies bkK w x.p x.c x.pool
 pool:∀ y ∈ x.pool,BkOk y
 sh:(Lit.int .i64 x.sh).wf=true
 now:(Lit.int .i64 x.now).wf=true
theorem pol_lies {W:World} {a:Option Addr} {c:Nat} {z:List (Int × Int)} (h:RowG.Lies bkK W a c z):Pol.Lies W a c z:=
 ⟨h.max,h.len,fun hn=>by
   obtain⟨b,off,e,hc⟩:=h.cell hn
   exact⟨b,off,e,fun i x hi=>⟨hc i x hi 0 _ rfl,hc i x hi 1 _ rfl⟩⟩⟩
section
variable {P:Program} {H:Type} {enc:TypeId × Value→H} {w:World} {base:Nat} {spare:Nat→Bool} {held:Bool} {e eo ti ts tl tb:TypeId} {f0 f1 f2 f3 h0 h1 g0' g1':Field}
theorem trod_bk (hu:P.underlying tb=some (.struct #[g0',g1'])) (ce:P.cellsOf tb=2) (hi:P.underlying ti=some (.int .i64)) (ci:P.cellsOf ti=1)
 (t0:g0'.type=ti∧g0'.offset=0) (t1:g1'.type=ti∧g1'.offset=1)
 (n:Nat) (cs:List Value) (x:DataW H × List MemPlace) (h:DataW.trod enc P w base spare held n tb cs=some x):∃ y:Int × Int,cs=bkK.enc y∧BkOk y:=by
 obtain⟨ys,k,_,rfl,hl,hn,hf⟩:=DataW.trod_struct hu h
 rw[ce] at hl
 match cs,hl with
 | [c0,c1],_=>
   match ys,hn with
   | [y0,y1],_=>
     have g0:=hf 0 g0' rfl
     have g1:=hf 1 g1' rfl
     rw[t0.1,t0.2,ci] at g0
     rw[t1.1,t1.2,ci] at g1
     obtain⟨A,e0,_,w0⟩:=DataW.trod_int hi (x:=y0) g0
     obtain⟨B,e1,_,w1⟩:=DataW.trod_int hi (x:=y1) g1
     simp at e0 e1
     subst e0; subst e1
     exact⟨(A,B),rfl,w0,w1⟩
theorem trod_op (hu:P.underlying eo=some (.struct #[f0,f1,f2,f3])) (ce:P.cellsOf eo=4) (hi:P.underlying ti=some (.int .i64)) (ci:P.cellsOf ti=1) (ht:P.underlying ts=some .string) (ct:P.cellsOf ts=1) (hs:P.underlying tl=some (.slice tb)) (cs':P.cellsOf tl=1)
 (hb:P.underlying tb=some (.struct #[g0',g1'])) (cb:P.cellsOf tb=2) (s0:g0'.type=ti∧g0'.offset=0) (s1:g1'.type=ti∧g1'.offset=1)
 (t0:f0.type=ti∧f0.offset=0) (t1:f1.type=ts∧f1.offset=1) (t2:f2.type=tl∧f2.offset=2) (t3:f3.type=ti∧f3.offset=3)
 (n:Nat) (cs:List Value) (x:DataW H × List MemPlace) (h:DataW.trod enc P w base spare held n eo cs=some x):∃ (kd:Int) (pkt:ByteArray) (p:Option Addr) (c:Nat) (z:List (Int × Int)) (sh:Int),cs=[.int .i64 kd,.string pkt,.slice p z.length c,.int .i64 sh]∧(Lit.int .i64 kd).wf=true∧pkt.size≤maxLen∧RowG.Lies bkK w p c z∧(∀ y ∈ z,BkOk y)∧(Lit.int .i64 sh).wf=true:=by
 obtain⟨ys,k,_,rfl,hl,hn,hf⟩:=DataW.trod_struct hu h
 rw[ce] at hl
 match cs,hl with
 | [c0,c1,c2,c3],_=>
   match ys,hn with
   | [y0,y1,y2,y3],_=>
     have g0:=hf 0 f0 rfl
     have g1:=hf 1 f1 rfl
     have g2:=hf 2 f2 rfl
     have g3:=hf 3 f3 rfl
     rw[t0.1,t0.2,ci] at g0
     rw[t1.1,t1.2,ct] at g1
     rw[t2.1,t2.2,cs'] at g2
     rw[t3.1,t3.2,ci] at g3
     obtain⟨A,e0,_,w0⟩:=DataW.trod_int hi (x:=y0) g0
     obtain⟨s,e1,_,w1⟩:=DataW.trod_string ht (x:=y1) g1
     obtain⟨p,c,l,e2,h2,o2⟩:=trod_rows (K:=bkK) (Ok:=BkOk) hs cb (trod_bk hb cb hi ci s0 s1) _ _ y2 g2
     obtain⟨B,e3,_,w3⟩:=DataW.trod_int hi (x:=y3) g3
     simp at e0 e1 e2 e3
     subst e0; subst e1; subst e2; subst e3
     exact⟨A,s,p,c,l,B,rfl,w0,w1,h2,o2,w3⟩
theorem trod_st (hue:P.underlying e=some (.struct #[h0,h1])) (cee:P.cellsOf e=5) (q0:h0.type=eo∧h0.offset=0) (q1:h1.type=ti∧h1.offset=4)
 (hu:P.underlying eo=some (.struct #[f0,f1,f2,f3])) (ce:P.cellsOf eo=4) (hi:P.underlying ti=some (.int .i64)) (ci:P.cellsOf ti=1) (ht:P.underlying ts=some .string) (ct:P.cellsOf ts=1) (hs:P.underlying tl=some (.slice tb)) (cs':P.cellsOf tl=1)
 (hb:P.underlying tb=some (.struct #[g0',g1'])) (cb:P.cellsOf tb=2) (s0:g0'.type=ti∧g0'.offset=0) (s1:g1'.type=ti∧g1'.offset=1)
 (t0:f0.type=ti∧f0.offset=0) (t1:f1.type=ts∧f1.offset=1) (t2:f2.type=tl∧f2.offset=2) (t3:f3.type=ti∧f3.offset=3)
 (n:Nat) (cs:List Value) (x:DataW H × List MemPlace) (h:DataW.trod enc P w base spare held n e cs=some x):∃ y:StM,cs=stK.enc y∧StOk w y:=by
 obtain⟨ys,k,_,rfl,hl,hn,hf⟩:=DataW.trod_struct hue h
 rw[cee] at hl
 match cs,hl with
 | [c0,c1,c2,c3,c4],_=>
   match ys,hn with
   | [y0,y1],_=>
     have g0:=hf 0 h0 rfl
     have g1:=hf 1 h1 rfl
     rw[q0.1,q0.2,ce] at g0
     rw[q1.1,q1.2,ci] at g1
     obtain⟨kd,pkt,p,c,z,sh,hc,w0,w1,w2,w3,w4⟩:=trod_op hu ce hi ci ht ct hs cs' hb cb s0 s1 t0 t1 t2 t3 _ _ y0 g0
     obtain⟨T,e1,_,w5⟩:=DataW.trod_int hi (x:=y1) g1
     simp at hc e1
     obtain⟨rfl,rfl,rfl,rfl⟩:=hc
     subst e1
     exact⟨⟨kd,pkt,p,c,z,sh,T⟩,rfl,w0,w1,w2,w3,w4,w5⟩
end
section
variable {H:Type} {enc:TypeId × Value→H} {w:World} {base:Nat} {spare:Nat→Bool} {held:Bool}
theorem laidOut:laidOutB Tryz.prog=true:=by kernel_rfl
theorem st_size:Tryz.prog.cellsOf 44=5:=by kernel_rfl
theorem op_size:Tryz.prog.cellsOf 42=4:=by kernel_rfl
theorem trod_st17 (n:Nat) (cs:List Value) (x:DataW H × List MemPlace) (h:DataW.trod enc Tryz.prog w base spare held n 44 cs=some x):∃ y:StM,cs=stK.enc y∧StOk w y:=
 trod_st (eo:=42) (ti:=3) (ts:=9) (tl:=32) (tb:=83) rfl st_size ⟨rfl,rfl⟩ ⟨rfl,rfl⟩ rfl op_size rfl rfl rfl rfl rfl rfl rfl rfl ⟨rfl,rfl⟩ ⟨rfl,rfl⟩ ⟨rfl,rfl⟩ ⟨rfl,rfl⟩ ⟨rfl,rfl⟩ ⟨rfl,rfl⟩ n cs x h
theorem open_steps {r:Reach} {b0:Nat} {v:Value} {d:DataW H} {ps:List MemPlace} (hv:Value.okWide Tryz.prog w r b0 24 v) (h:DataW.Trod enc Tryz.prog w base spare held 24 v d ps):
 ∃ (a:Option Addr) (cap:Nat) (T:List StM),v=rowV a cap T∧Lies stK w a cap T∧∀ x ∈ T,StOk w x:=
 open_rows Tryz.underlying24 st_size trod_st17 hv h
structure CfgOk (W S cap idle K:Int):Prop where
 W:(Lit.int .i64 W).wf=true
 S:(Lit.int .i64 S).wf=true
 cap:(Lit.int .i64 cap).wf=true
 idle:(Lit.int .i64 idle).wf=true
 K:(Lit.int .i64 K).wf=true
theorem cfg_size:Tryz.prog.cellsOf 23=5:=by kernel_rfl
theorem int_size:Tryz.prog.cellsOf 3=1:=by kernel_rfl
theorem cfg_under:∃ f0 f1 f2 f3 f4:Field,Tryz.prog.underlying 23=some (.struct #[f0,f1,f2,f3,f4])∧(f0.type=3∧f0.offset=0)∧(f1.type=3∧f1.offset=1)∧(f2.type=3∧f2.offset=2)∧(f3.type=3∧f3.offset=3)∧(f4.type=3∧f4.offset=4):=
 ⟨_,_,_,_,_,Tryz.underlying23,⟨rfl,rfl⟩,⟨rfl,rfl⟩,⟨rfl,rfl⟩,⟨rfl,rfl⟩,⟨rfl,rfl⟩⟩
theorem open_cfg {r:Reach} {b0:Nat} {v:Value} {d:DataW H} {ps:List MemPlace} (hv:Value.okWide Tryz.prog w r b0 23 v) (h:DataW.Trod enc Tryz.prog w base spare held 23 v d ps):
 ∃ W S cap idle K:Int,v=.agg #[.int .i64 W,.int .i64 S,.int .i64 cap,.int .i64 idle,.int .i64 K]∧CfgOk W S cap idle K:=by
 obtain⟨cs,rfl,hz⟩:=okWide_struct Tryz.underlying23 hv
 obtain⟨fuel,hf⟩:=h
 obtain⟨f0,f1,f2,f3,f4,hu,⟨t0,o0⟩,⟨t1,o1⟩,⟨t2,o2⟩,⟨t3,o3⟩,⟨t4,o4⟩⟩:=cfg_under
 obtain⟨ys,k,_,_,hl,hn,hf⟩:=DataW.trod_struct hu hf
 rw[cfg_size] at hl
 obtain⟨l⟩:=cs
 simp only[Value.cells] at hl hf
 match l,hl with
 | [c0,c1,c2,c3,c4],_=>
   match ys,hn with
   | [y0,y1,y2,y3,y4],_=>
     have g0:=hf 0 f0 rfl
     have g1:=hf 1 f1 rfl
     have g2:=hf 2 f2 rfl
     have g3:=hf 3 f3 rfl
     have g4:=hf 4 f4 rfl
     rw[t0,o0,int_size] at g0
     rw[t1,o1,int_size] at g1
     rw[t2,o2,int_size] at g2
     rw[t3,o3,int_size] at g3
     rw[t4,o4,int_size] at g4
     obtain⟨A,e0,_,w0⟩:=DataW.trod_int Tryz.underlying3 (x:=y0) g0
     obtain⟨B,e1,_,w1⟩:=DataW.trod_int Tryz.underlying3 (x:=y1) g1
     obtain⟨C,e2,_,w2⟩:=DataW.trod_int Tryz.underlying3 (x:=y2) g2
     obtain⟨D,e3,_,w3⟩:=DataW.trod_int Tryz.underlying3 (x:=y3) g3
     obtain⟨E,e4,_,w4⟩:=DataW.trod_int Tryz.underlying3 (x:=y4) g4
     simp at e0 e1 e2 e3 e4
     subst e0 e1 e2 e3 e4
     exact⟨A,B,C,D,E,rfl,w0,w1,w2,w3,w4⟩
end
end Go.Proofs.YtbamodkgagcmnaaGreat.Mdo
