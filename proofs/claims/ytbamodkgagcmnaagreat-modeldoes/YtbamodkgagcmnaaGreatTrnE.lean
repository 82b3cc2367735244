/-
  Tables of flows, plain facts: what sweeping some places, all places, in parts and again comes to.
-/
import Derived.Test.YtbamodkgagcmnaaGreatBTabE
set_option maxRecDepth 100000
namespace Go.Proofs.YtbamodkgagcmnaaGreat.Tab
def norm (n:Nat) (h:Int):Nat:=if 0≤h∧h<n then h.toNat else 0
def span (m:Int) (n:Nat):Nat:=(min (max m 0) n).toNat
def places (n h m:Nat):List Nat:=(List.range m).map fun i=>(h+i) % n
def nextP (n h m:Nat):Nat:=if n=0 then 0 else (h+m) % n
theorem norm_lt {n:Nat} (h:Int) (hn:0<n):norm n h<n:=by
 unfold norm
 split <;> omega
theorem norm_nat {n h:Nat} (hh:h<n):norm n (h:Int)=h:=by
 unfold norm
 rw[if_pos (by omega)]
 omega
theorem norm_zero (h:Int):norm 0 h=0:=by
 unfold norm
 split <;> omega
theorem span_le (m:Int) (n:Nat):span m n≤n:=by unfold span; omega
theorem nextP_lt {n h m:Nat} (hn:0<n):nextP n h m<n:=by
 unfold nextP
 rw[if_neg (by omega)]
 exact Nat.mod_lt _ hn
theorem places_mem {n h m a:Nat} (hm:m≤n) (ha:a ∈ places n h m):a<n:=by
 unfold places at ha
 rw[List.mem_map] at ha
 obtain⟨i,hi,rfl⟩:=ha
 exact Nat.mod_lt _ (by have:=List.mem_range.1 hi; omega)
theorem places_succ (n h m:Nat):places n h (m+1)=places n h m ++ [(h+m) % n]:=by simp[places,List.range_succ]
theorem places_zero (n h:Nat):places n h 0=[]:=rfl
theorem places_all {n a:Nat} (h:Nat) (ha:a<n):a ∈ places n h n:=way_mem.2 ha
theorem places_app {n h m k:Nat} (hn:0<n):places n h (m+k)=places n h m ++ places n (nextP n h m) k:=by
 induction k with
 | zero=>simp[places_zero]
 | succ k ih=>
   rw[← Nat.add_assoc,places_succ,ih,places_succ,List.append_assoc]
   congr 3
   unfold nextP
   rw[if_neg (by omega),Nat.mod_add_mod,Nat.add_assoc]
theorem nextP_app {n h m k:Nat}:nextP n (nextP n h m) k=nextP n h (m+k):=by
 unfold nextP
 split
 ·rfl
 ·rw[Nat.mod_add_mod,Nat.add_assoc]
section
variable {home:ByteArray→Nat→Nat} {now later:Int} {T U:List Ent}
def stepT (home:ByteArray→Nat→Nat) (now:Int) (l:List Nat) (T:List Ent):List Ent:=if 0<(sweep now l T).2 then settle home (sweep now l T).1 else T
def dueN (now:Int) (l:List Nat) (T:List Ent):Nat:=(sweep now l T).2
theorem stepT_few {l:List Nat} (hl:∀ b ∈ l,b<T.length) (h:2 * count 2 T+2 * dueN now l T≤T.length):stepT home now l T=(sweep now l T).1:=by
 unfold stepT
 split
 ·refine settle_few ?_
  rw[sweep_tombs now l T hl,sweep_length]
  unfold dueN at h
  omega
 ·rename_i hz
  exact (sweep_zero now l T (by omega)).symm
theorem stepT_zero (l:List Nat) (h:(sweep now l T).2=0):stepT home now l T=T:=by
 unfold stepT
 rw[if_neg (by omega)]
structure Stepped (home:ByteArray→Nat→Nat) (now:Int) (T U:List Ent) (n:Nat):Prop where
 len:U.length=T.length
 right:Right home U
 gone:∀ k,find home T k=none→find home U k=none
 kept:∀ k a,find home T k=some a→(∃ b,find home U k=some b∧ent U b=ent T a)∨(find home U k=none∧Due (ent T a) now∧0<n)
 cnt:count 1 U+n=count 1 T
theorem stepped (hr:Right home T) (l:List Nat) (hl:∀ a ∈ l,a<T.length):Stepped home now T (stepT home now l T) (dueN now l T):=by
 have hS:=sweep_right (now:=now) hr l hl
 unfold stepT dueN
 split
 ·obtain⟨s1,s2,s3,-,s5⟩:=settle_same hS.right
  refine⟨by rw[s1,hS.len],s2,fun k hk=>(s5 k).1.1 (hS.gone k hk),fun k a hk=>?_,by rw[s3]; exact hS.cnt⟩
  rcases hS.kept k a hk with⟨h1,h2⟩ | ⟨h1,h2,h3⟩
  ·cases hf:find home (settle home (sweep now l T).1) k with
   | none=>rw[(s5 k).1.2 hf] at h1; cases h1
   | some b=>exact .inl ⟨b,rfl,by rw[(s5 k).2 a b h1 hf,h2]⟩
  ·exact .inr ⟨(s5 k).1.1 h1,h2,h3⟩
 ·rename_i hz
  have hz':(sweep now l T).2=0:=by omega
  refine⟨rfl,hr,fun k hk=>hk,fun k a hk=>.inl ⟨a,hk,rfl⟩,by omega⟩
theorem settle_from (hr:Right home T) {e:Ent} (he:e.st=1) {a:Nat} (ha:a<T.length) (hx:ent (settle home T) a=e):∃ b,b<T.length∧ent T b=e:=by
 unfold settle at hx
 split at hx
 ·have hm:=(hr.tidyHas.same e he).1 ⟨a,ha,hx⟩
  obtain⟨b,hb,hbe⟩:=List.getElem_of_mem (List.mem_filter.1 hm).1
  exact⟨b,hb,by rw[ent_at hb,hbe]⟩
 ·exact⟨a,ha,hx⟩
theorem all_not_due (hr:Right home T) (h:Nat) (a:Nat) (ha:a<T.length):¬ Due (ent (stepT home now (places T.length h T.length) T) a) now:=by
 have hl:∀ b ∈ places T.length h T.length,b<T.length:=fun b hb=>places_mem (Nat.le_refl _) hb
 have hn:∀ b,b<T.length→¬ Due (ent (sweep now (places T.length h T.length) T).1 b) now:=fun b hb=>sweep_not_due now _ T b hl (.inl (places_all h hb))
 have hS:=sweep_right (now:=now) hr _ hl
 unfold stepT
 split
 ·intro hd
  obtain⟨b,hb,e⟩:=settle_from hS.right hd.1 (a:=a) (by rw[hS.len]; exact ha) rfl
  rw[hS.len] at hb
  exact hn b hb (by rw[e]; exact hd)
 ·rename_i hz
  have:=hn a ha
  rwa [sweep_zero now _ T (by omega)] at this
theorem all_again (hr:Right home T):dueN now (places T.length 0 T.length) (stepT home now (places T.length 0 T.length) T)=0∧stepT home now (places T.length 0 T.length) (stepT home now (places T.length 0 T.length) T)=stepT home now (places T.length 0 T.length) T:=by
 have h0:sweep now (places T.length 0 T.length) (stepT home now (places T.length 0 T.length) T)=(stepT home now (places T.length 0 T.length) T,0):=
  sweep_none now _ _ fun a ha=>all_not_due hr 0 a (places_mem (Nat.le_refl _) ha)
 exact⟨by unfold dueN; rw[h0],stepT_zero _ (by rw[h0])⟩
theorem all_found (hr:Right home T) (k:ByteArray):(find home (stepT home now (places T.length 0 T.length) T) k≠none↔∃ a,find home T k=some a∧¬ Due (ent T a) now)∧
 ∀ a b,find home T k=some a→find home (stepT home now (places T.length 0 T.length) T) k=some b→ent (stepT home now (places T.length 0 T.length) T) b=ent T a:=by
 have hl:∀ b ∈ places T.length 0 T.length,b<T.length:=fun b hb=>places_mem (Nat.le_refl _) hb
 have hS:=stepped (now:=now) hr _ hl
 have key:∀ a b,find home T k=some a→find home (stepT home now (places T.length 0 T.length) T) k=some b→ent (stepT home now (places T.length 0 T.length) T) b=ent T a:=by
  intro a b h1 h2
  rcases hS.kept k a h1 with⟨c,h3,h4⟩ | ⟨h3,_,_⟩
  ·rw[h2] at h3; cases h3; exact h4
  ·rw[h2] at h3; cases h3
 refine⟨⟨fun hn=>?_,fun⟨a,h1,h2⟩ hn=>?_⟩,key⟩
 ·cases hf:find home T k with
  | none=>exact absurd (hS.gone k hf) hn
  | some a=>
    refine⟨a,rfl,fun hd=>?_⟩
    cases hg:find home (stepT home now (places T.length 0 T.length) T) k with
    | none=>exact hn hg
    | some b=>
      have hb:=(find_some hg).1
      rw[hS.len] at hb
      exact all_not_due (now:=now) hr 0 b hb (by rw[key a b hf hg]; exact hd)
 ·rcases hS.kept k a h1 with⟨c,h3,_⟩ | ⟨_,h4,_⟩
  ·rw[hn] at h3; cases h3
  ·exact h2 h4
theorem step_parts (hn:0<T.length) {h m k:Nat} (hmk:m+k≤T.length) (hf:2 * count 2 T+2 * dueN now (places T.length h (m+k)) T≤T.length):
 dueN now (places T.length h m) T+dueN now (places T.length (nextP T.length h m) k) (stepT home now (places T.length h m) T)=dueN now (places T.length h (m+k)) T∧
 stepT home now (places T.length (nextP T.length h m) k) (stepT home now (places T.length h m) T)=stepT home now (places T.length h (m+k)) T:=by
 have hl1:∀ b ∈ places T.length h m,b<T.length:=fun b hb=>places_mem (by omega) hb
 have hl2:∀ b ∈ places T.length (nextP T.length h m) k,b<T.length:=fun b hb=>places_mem (by omega) hb
 have hl3:∀ b ∈ places T.length h (m+k),b<T.length:=fun b hb=>places_mem hmk hb
 have happ:=sweep_append now (places T.length (nextP T.length h m) k) (places T.length h m) T
 rw[← places_app hn] at happ
 have hd:dueN now (places T.length h (m+k)) T=(sweep now (places T.length h m) T).2+(sweep now (places T.length (nextP T.length h m) k) (sweep now (places T.length h m) T).1).2:=by unfold dueN; rw[happ]
 have e1:stepT home now (places T.length h m) T=(sweep now (places T.length h m) T).1:=stepT_few hl1 (by unfold dueN at hd hf ⊢; omega)
 have e3:stepT home now (places T.length h (m+k)) T=(sweep now (places T.length h (m+k)) T).1:=stepT_few hl3 hf
 have hlen:=sweep_length now (places T.length h m) T
 have e2:stepT home now (places T.length (nextP T.length h m) k) (sweep now (places T.length h m) T).1=(sweep now (places T.length (nextP T.length h m) k) (sweep now (places T.length h m) T).1).1:=by
  refine stepT_few (by rw[hlen]; exact hl2) ?_
  rw[sweep_tombs now _ T hl1,hlen]
  unfold dueN at hd hf ⊢
  omega
 rw[e1,e2,e3,hd,happ]
 exact⟨rfl,rfl⟩
end
end Go.Proofs.YtbamodkgagcmnaaGreat.Tab
set_option maxRecDepth 100000
namespace Go.Proofs.YtbamodkgagcmnaaGreat.Mod
open Go Tab
abbrev Bk:=Int × Int
structure Ans where
 err:Int
 backend:Int
 made:Bool
 count:Int
deriving DecidableEq
def hasId (p:List Bk) (id:Int):Bool:=p.any fun x=>x.1 == id
section
variable (home:ByteArray→Nat→Nat) (pick:List Bk→ByteArray→Int)
def known (T:List Ent) (p:List Bk) (k:ByteArray) (now:Int):Option Int:=match find home T k with
 | some a=>if now≤(ent T a).dl∧hasId p (ent T a).be=true then some (ent T a).be else none
 | none=>none
def del (T:List Ent) (k:ByteArray):List Ent:=match find home T k with
 | some a=>Tab.settle home (T.set a tomb)
 | none=>T
def deals (T:List Ent) (p:List Bk) (k:ByteArray) (closing:Bool) (now dl:Int):List Ent × Ans:=
 if known home T p k now=none∧p=[] then (T,⟨11,0,false,0⟩)
 else if closing=true then (del home T k,⟨0,(known home T p k now).getD (pick p k),false,0⟩)
 else match put home T k ((known home T p k now).getD (pick p k)) dl with
  | some U=>(U,⟨0,(known home T p k now).getD (pick p k),(known home T p k now).isNone,0⟩)
  | none=>(T,⟨12,0,false,0⟩)
variable {home pick} {T U:List Ent} {p:List Bk} {k:ByteArray} {now dl:Int}
theorem known_some {id:Int} (h:known home T p k now=some id):∃ a,find home T k=some a∧now≤(ent T a).dl∧hasId p id=true∧(ent T a).be=id:=by
 unfold known at h
 split at h
 ·rename_i a ha
  split at h
  ·rename_i hc
   simp only[Option.some.injEq] at h
   subst h
   exact⟨a,ha,hc.1,hc.2,rfl⟩
  ·cases h
 ·cases h
theorem known_yes {a:Nat} (h:find home T k=some a) (h1:now≤(ent T a).dl) (h2:hasId p (ent T a).be=true):known home T p k now=some (ent T a).be:=by
 unfold known; rw[h]; exact if_pos ⟨h1,h2⟩
theorem known_no {a:Nat} (h:find home T k=some a) (h1:¬ (now≤(ent T a).dl∧hasId p (ent T a).be=true)):known home T p k now=none:=by
 unfold known; rw[h]; exact if_neg h1
theorem deals_none (h:known home T p k now=none) (hp:p=[]) (c:Bool) (dl:Int):deals home pick T p k c now dl=(T,⟨11,0,false,0⟩):=by
 unfold deals; rw[if_pos ⟨h,hp⟩]
theorem deals_closes (h:¬ (known home T p k now=none∧p=[])) (dl:Int):deals home pick T p k true now dl=(del home T k,⟨0,(known home T p k now).getD (pick p k),false,0⟩):=by
 unfold deals; rw[if_neg h,if_pos rfl]
theorem deals_put (h:¬ (known home T p k now=none∧p=[])) (hu:put home T k ((known home T p k now).getD (pick p k)) dl=some U):deals home pick T p k false now dl=(U,⟨0,(known home T p k now).getD (pick p k),(known home T p k now).isNone,0⟩):=by
 unfold deals; rw[if_neg h,if_neg (by decide),hu]
theorem deals_full (h:¬ (known home T p k now=none∧p=[])) (hu:put home T k ((known home T p k now).getD (pick p k)) dl=none):deals home pick T p k false now dl=(T,⟨12,0,false,0⟩):=by
 unfold deals; rw[if_neg h,if_neg (by decide),hu]
theorem deals_in (hpick:p≠[]→hasId p (pick p k)=true) (h:¬ (known home T p k now=none∧p=[])):hasId p ((known home T p k now).getD (pick p k))=true:=by
 cases hk:known home T p k now with
 | some id=>obtain⟨_,_,_,h1,_⟩:=known_some hk; exact h1
 | none=>exact hpick fun e=>h ⟨hk,e⟩
theorem del_right (hr:Right home T):Right home (del home T k)∧find home (del home T k) k=none:=by
 unfold del
 split
 ·rename_i a ha
  obtain⟨h1,h2⟩:=hr.bury ha
  obtain⟨_,s2,_,_,s5⟩:=settle_same h1
  exact⟨s2,(s5 k).1.1 h2⟩
 ·rename_i ha; exact⟨hr,ha⟩
theorem makes (hpick:p≠[]→hasId p (pick p k)=true) {u:List Ent} {a:Ans} {c:Bool} (h:deals home pick T p k c now dl=(u,a)):
 (a.err≠0∧u=T∧a.made=false∧((a.err=11∧p=[])∨(a.err=12∧find home T k=none)))∨
 (a.err=0∧hasId p a.backend=true∧(a.made=true→c=false∧a.backend=pick p k)∧(c=true→u=del home T k∧(find home u k=none∨¬ Right home T))∧
   (c=false→put home T k a.backend dl=some u∧(find home T k=none→a.made=true)∧∃ q,q<u.length∧find home u k=some q∧ent u q=live k a.backend dl)):=by
 by_cases hn:known home T p k now=none∧p=[]
 ·rw[deals_none hn.1 hn.2] at h
  injection h with h1 h2; subst h1; subst h2
  exact .inl ⟨by decide,rfl,rfl,.inl ⟨rfl,hn.2⟩⟩
 have hin:=deals_in hpick hn
 cases c with
 | true=>
   rw[deals_closes hn] at h
   injection h with h1 h2; subst h1; subst h2
   refine .inr ⟨rfl,hin,(fun h=>by cases h),fun _=>⟨rfl,?_⟩,(fun h=>by cases h)⟩
   by_cases hr:Right home T
   ·exact .inl (del_right hr).2
   ·exact .inr hr
 | false=>
   cases hu:put home T k ((known home T p k now).getD (pick p k)) dl with
   | none=>
     rw[deals_full hn hu] at h
     injection h with h1 h2; subst h1; subst h2
     exact .inl ⟨by decide,rfl,rfl,.inr ⟨rfl,(put_none hu).1⟩⟩
   | some U=>
     rw[deals_put hn hu] at h
     injection h with h1 h2; subst h1; subst h2
     refine .inr ⟨rfl,hin,fun hm=>⟨rfl,?_⟩,fun h=>(by cases h),fun _=>⟨hu,fun hf=>?_,?_⟩⟩
     ·have:known home T p k now=none:=by simpa using hm
      show (known home T p k now).getD (pick p k)=_
      rw[this]; rfl
     ·show (known home T p k now).isNone=true
      unfold known; rw[hf]; rfl
     ·obtain⟨q,hq,e,hf,_⟩:=put_some hu
      refine⟨q,by rw[put_length hu]; exact hq,hf,?_⟩
      rw[e,ent_set _ _ _ hq,if_pos rfl]
theorem deals_keys (hr:Right home T) {u:List Ent} {a:Ans} {c:Bool} (h:deals home pick T p k c now dl=(u,a)):
 Right home u∧u.length=T.length∧∀ q,q<u.length→(ent u q).st=1→(ent u q).key=k∨find home T (ent u q).key≠none:=by
 have same:∀ q,q<T.length→(ent T q).st=1→(ent T q).key=k∨find home T (ent T q).key≠none:=fun q hq hs=>.inr (by rw[hr q hq hs]; simp)
 by_cases hn:known home T p k now=none∧p=[]
 ·rw[deals_none hn.1 hn.2] at h
  injection h with h1 h2; subst h1; subst h2
  exact⟨hr,rfl,same⟩
 cases c with
 | true=>
   rw[deals_closes hn] at h
   injection h with h1 h2; subst h1; subst h2
   unfold del
   split
   ·rename_i b hb
    have hB:=hr.bury hb
    obtain⟨s1,s2,_,_,_⟩:=settle_same hB.1
    refine⟨s2,by rw[s1,List.length_set],fun q hq hs=>?_⟩
    obtain⟨e,he,hx⟩:=settle_from hB.1 hs (by rw[s1] at hq; exact hq) rfl
    rw[List.length_set] at he
    rw[← hx] at hs ⊢
    obtain⟨_,h2⟩:=bury_ent hb hs
    rw[h2] at hs ⊢
    exact same e he hs
   ·exact⟨hr,rfl,same⟩
 | false=>
   cases hu:put home T k ((known home T p k now).getD (pick p k)) dl with
   | none=>
     rw[deals_full hn hu] at h
     injection h with h1 h2; subst h1; subst h2
     exact⟨hr,rfl,same⟩
   | some U=>
     rw[deals_put hn hu] at h
     injection h with h1 h2; subst h1; subst h2
     refine⟨hr.puts hu,put_length hu,fun q hq hs=>?_⟩
     by_cases hk:(ent U q).key=k
     ·exact .inl hk
     ·right
      have hh:Hit (ent U q) (ent U q).key:=⟨hs,rfl⟩
      have ht:=put_ent hu (Ne.symm hk) hh
      rw[put_length hu] at hq
      have:find home T (ent U q).key=some q:=hr.finds hq ht
      rw[this]; simp
end
end Go.Proofs.YtbamodkgagcmnaaGreat.Mod
set_option maxRecDepth 100000
namespace Go.Proofs.YtbamodkgagcmnaaGreat.Mod
open Go Tab
structure Op where
 kind:Int
 flow:Option (ByteArray × Bool)
 pool:List Bk
 shard:Int
 now:Int
 dl:Int
structure Mo where
 pool:List Bk
 tables:List (List Ent)
 places:List Nat
def total (ts:List (List Ent)):Nat:=(ts.map (count 1)).sum
abbrev looks (T:List Ent) (place:Nat):List Nat:=places T.length (norm T.length (place:Int)) (span 4 T.length)
def nextOf (T:List Ent) (place:Nat):Nat:=nextP T.length (norm T.length (place:Int)) (span 4 T.length)
section
variable (home:ByteArray→Nat→Nat) (pick:List Bk→ByteArray→Int) (shardOf:ByteArray→Nat→Nat) (good:List Bk→Bool)
def doOp (m:Mo) (o:Op):Mo × Ans:=
 if o.kind=0 then match o.flow with
  | none=>(m,⟨9,0,false,0⟩)
  | some (k,c)=>
    let i:=shardOf k m.tables.length
    let r:=deals home pick (m.tables.getD i []) m.pool k c o.now o.dl
    (⟨m.pool,m.tables.set i r.1,m.places⟩,r.2)
 else if o.kind=1 then if good o.pool=true then (⟨o.pool,m.tables,m.places⟩,⟨0,0,false,0⟩) else (m,⟨10,0,false,0⟩)
 else if o.kind=2 then
  if 0≤o.shard∧o.shard<(m.tables.length:Int) then
   let T:=m.tables.getD o.shard.toNat []
   let p:=m.places.getD o.shard.toNat 0
   (⟨m.pool,m.tables.set o.shard.toNat (Tab.stepT home o.now (looks T p) T),m.places.set o.shard.toNat (nextOf T p)⟩,⟨0,0,false,(dueN o.now (looks T p) T:Nat)⟩)
  else (m,⟨1,0,false,0⟩)
 else if o.kind=3 then (m,⟨0,0,false,(total m.tables:Nat)⟩)
 else (m,⟨1,0,false,0⟩)
def runs (m:Mo) (l:List Op):Mo:=l.foldl (fun m o=>(doOp home pick shardOf good m o).1) m
def new (n cap:Nat):Mo:=⟨[],List.replicate n (Tab.new cap),List.replicate n 0⟩
structure Inv (n cap:Nat) (m:Mo):Prop where
 len:m.tables.length=n
 places:m.places.length=n
 cap:∀ T ∈ m.tables,T.length=cap
 right:∀ T ∈ m.tables,Right home T
 shard:∀ i (hi:i<m.tables.length) q,q<(m.tables[i]).length→(ent m.tables[i] q).st=1→shardOf (ent m.tables[i] q).key n=i
 pool:good m.pool=true
variable {home pick shardOf good}
theorem runs_take {m:Mo} {l:List Op} {k:Nat} (h:k<l.length):runs home pick shardOf good m (l.take (k+1))=(doOp home pick shardOf good (runs home pick shardOf good m (l.take k)) l[k]).1:=by
 unfold runs
 rw[List.take_succ_eq_append_getElem h,List.foldl_append]; rfl
theorem inv_new (n cap:Nat) (hg:good []=true):Inv home shardOf good n cap (new n cap):=by
 refine⟨by simp[new],by simp[new],fun T hT=>?_,fun T hT=>?_,fun i hi q hq hs=>?_,hg⟩
 ·rw[List.eq_of_mem_replicate hT]; simp[Tab.new]
 ·rw[List.eq_of_mem_replicate hT]; exact (has_new home cap).right
 ·simp only[new,List.getElem_replicate] at hs
  rw[new_ent] at hs
  exact absurd hs (by decide)
variable {n cap:Nat} {m:Mo}
theorem Inv.at (h:Inv home shardOf good n cap m) {i:Nat} (hi:i<n):∃ hi':i<m.tables.length,m.tables.getD i []=m.tables[i]∧Right home m.tables[i]∧(m.tables[i]).length=cap:=by
 have hi':i<m.tables.length:=by rw[h.len]; exact hi
 exact⟨hi',by rw[List.getD_eq_getElem?_getD,List.getElem?_eq_getElem hi']; rfl,h.right _ (List.getElem_mem hi'),h.cap _ (List.getElem_mem hi')⟩
theorem Inv.table (h:Inv home shardOf good n cap m) {i:Nat} {U:List Ent} (ps:List Nat) (hps:ps.length=n) (hr:Right home U) (hc:U.length=cap) (hs:∀ q,q<U.length→(ent U q).st=1→shardOf (ent U q).key n=i):
 Inv home shardOf good n cap ⟨m.pool,m.tables.set i U,ps⟩:=by
 refine⟨by simpa using h.len,hps,fun T hT=>?_,fun T hT=>?_,fun j hj q hq h1=>?_,h.pool⟩
 ·rcases List.mem_or_eq_of_mem_set hT with hT | rfl
  ·exact h.cap T hT
  ·exact hc
 ·rcases List.mem_or_eq_of_mem_set hT with hT | rfl
  ·exact h.right T hT
  ·exact hr
 ·have hj':j<m.tables.length:=by simpa using hj
  by_cases e:i=j
  ·subst e
   simp only[List.getElem_set_self] at hq h1 ⊢
   exact hs q hq h1
  ·simp only[List.getElem_set_ne e] at hq h1 ⊢
   exact h.shard j hj' q hq h1
theorem find_live {T:List Ent} {k:ByteArray} (h:find home T k≠none):∃ q,q<T.length∧Hit (ent T q) k:=by
 cases hf:find home T k with
 | none=>exact absurd hf h
 | some q=>exact⟨q,find_some hf⟩
theorem inv_do (hsh:∀ k,shardOf k n<n∨n=0) (h:Inv home shardOf good n cap m) (hn:0<n) (o:Op):Inv home shardOf good n cap (doOp home pick shardOf good m o).1:=by
 unfold doOp
 split
 ·split
  ·exact h
  ·rename_i k c hfl
   simp only[h.len]
   have hi:shardOf k n<n:=by rcases hsh k with h' | h' <;> omega
   obtain⟨hi',e,hr,hc⟩:=h.at hi
   rw[e]
   generalize hd:deals home pick m.tables[shardOf k n] m.pool k c o.now o.dl=r
   obtain⟨u,a⟩:=r
   obtain⟨k1,k2,k3⟩:=deals_keys hr hd
   refine h.table _ h.places k1 (k2.trans hc) fun q hq hs=>?_
   rcases k3 q hq hs with hk | hk
   ·rw[show (ent u q).key=k from hk]
   ·obtain⟨b,hb,hh⟩:=find_live hk
    have:=h.shard _ hi' b hb hh.1
    rw[hh.2] at this
    exact this
 split
 ·split
  ·rename_i hg
   exact⟨h.len,h.places,h.cap,h.right,h.shard,hg⟩
  ·exact h
 split
 ·split
  ·rename_i hs
   have hi:o.shard.toNat<n:=by rw[h.len] at hs; omega
   obtain⟨hi',e,hr,hc⟩:=h.at hi
   simp only[e]
   have st:=stepped (now:=o.now) hr (looks m.tables[o.shard.toNat] (m.places.getD o.shard.toNat 0)) (fun a ha=>places_mem (span_le _ _) ha)
   refine h.table _ (by simpa using h.places) st.right (st.len.trans hc) fun q hq h1=>?_
   have hf:=st.right q hq h1
   cases hft:find home m.tables[o.shard.toNat] (ent (Tab.stepT home o.now (looks m.tables[o.shard.toNat] (m.places.getD o.shard.toNat 0)) m.tables[o.shard.toNat]) q).key with
   | none=>
     rw[st.gone _ hft] at hf; cases hf
   | some b=>
     obtain⟨hb,hh⟩:=find_some hft
     have:=h.shard _ hi' b hb hh.1
     rw[hh.2] at this
     exact this
  ·exact h
 split
 ·exact h
 ·exact h
end
def fresh (now:Int) (T:List Ent):Nat:=(T.filter fun e=>e.st == 1 && decide (now≤e.dl)).length
theorem fresh_le (now:Int) (T:List Ent):fresh now T≤count 1 T:=by
 unfold fresh count
 induction T with
 | nil=>exact Nat.le_refl _
 | cons e T ih=>
   rw[List.filter_cons,List.filter_cons]
   by_cases h1:e.st == 1
   ·by_cases h2:now≤e.dl
    ·rw[if_pos (by simp only[h1,decide_eq_true h2,Bool.and_self]),if_pos h1]; simp only[List.length_cons]; omega
    ·rw[if_neg (by simp only[decide_eq_false h2,Bool.and_false]; decide),if_pos h1]; simp only[List.length_cons]; omega
   ·rw[if_neg (by simp only[Bool.not_eq_true] at h1; rw[h1]; simp),if_neg h1]; exact ih
section
variable {home:ByteArray→Nat→Nat} {now:Int} {T U:List Ent}
end
end Go.Proofs.YtbamodkgagcmnaaGreat.Mod
set_option maxRecDepth 100000
namespace Go.Proofs.YtbamodkgagcmnaaGreat.Trn
open Go.RowKit Go.Shelf RowG
structure Turned (S:Nat→Prop) (W W':World):Prop where
 os:W'.os=W.os
 tape:W'.tape=W.tape
 output:W'.output=W.output
 size:W.heap.size≤W'.heap.size
 rest:∀ k,k<W.heap.size→¬ S k→W'.heap[k]? =W.heap[k]?
theorem Turned.refl (S:Nat→Prop) (W:World):Turned S W W:=⟨rfl,rfl,rfl,Nat.le_refl _,fun _ _ _=>rfl⟩
theorem Turned.trans {S:Nat→Prop} {A B C:World} (h:Turned S A B) (k:Turned S B C):Turned S A C:=
 ⟨k.os.trans h.os,k.tape.trans h.tape,k.output.trans h.output,Nat.le_trans h.size k.size,fun i hi hn=>(k.rest i (Nat.lt_of_lt_of_le hi h.size) hn).trans (h.rest i hi hn)⟩
theorem Turned.mono {S S':Nat→Prop} {A B:World} (h:Turned S A B) (hs:∀ k,S k→S' k):Turned S' A B:=
 ⟨h.os,h.tape,h.output,h.size,fun i hi hn=>h.rest i hi fun hk=>hn (hs i hk)⟩
theorem Turned.setCell {S:Nat→Prop} {A B:World} (h:Turned S A B) {a:Addr} (ha:S a.block) (v:Value):Turned S A (B.setCell a v):=
 h.trans ⟨rfl,rfl,rfl,by simp[World.setCell],fun k _ hn=>Below.heap_setCell _ _ _ _ fun e=>hn (e ▸ ha)⟩
theorem Turned.of_below {S:Nat→Prop} {A B:World} (h:Below A.heap.size A B):Turned S A B:=⟨h.os,h.tape,h.output,h.size,fun k hk _=>h.block k hk⟩
theorem Turned.below {S:Nat→Prop} {A B W:World} {n:Nat} (hb:Below n W A) (h:Turned S A B) (hn:n≤A.heap.size) (hs:∀ k,S k→n≤k):Below n W B:=
 hb.trans ⟨h.os,h.tape,h.output,h.size,fun k hk=>h.rest k (by omega) fun hk'=>by have:=hs k hk'; omega⟩
theorem Turned.lies {S:Nat→Prop} {α:Type} {K:Kind α} {W W':World} {a:Option Addr} {cap:Nat} {xs:List α} (h:Turned S W W') (hl:Lies K W a cap xs) (ha:xs≠[]→∀ b off,a=some ⟨b,off,none⟩→¬ S b):Lies K W' a cap xs:=
 ⟨hl.max,hl.len,fun hn=>by
   obtain⟨b,off,e,hc⟩:=hl.cell hn
   refine⟨b,off,e,fun i x hi j u hj=>?_⟩
   have c0:=hc i x hi j u hj
   exact (World.cell?_of_block (w:=W) (h.rest b (World.block_lt_of_cell? W _ c0) (ha hn b off e))).trans c0⟩
theorem heap_lt {W:World} {k:Nat} {o:Obj} (h:W.heap[k]? =some o):k<W.heap.size:=by
 rcases Nat.lt_or_ge k W.heap.size with h' | h'
 ·exact h'
 ·rw[Array.getElem?_eq_none h'] at h; cases h
theorem row_turned {α:Type} {K:Kind α} {T:TypeId} {W W':World} {g cap:Nat} {xs:List α} (h:Row K T W g cap xs) (e:W'.heap[g]? =W.heap[g]?):Row K T W' g cap xs:=by
 obtain⟨cur,hg,r⟩:=h
 exact⟨cur,e.trans hg,r⟩
theorem own_same {α:Type} {K:Kind α} {T:TypeId} {B:Nat} {W W':World} {v:Value} {xs:List α} (h:RowG.Own K T B W v xs) (hs:∀ g,v.ownBlock=some g→W'.heap[g]? =W.heap[g]?):RowG.Own K T B W' v xs:=by
 refine⟨h.1,?_⟩
 rcases h.2 with h0 | ⟨g,cap,cur,hv,hb,hg,r⟩
 ·exact .inl h0
 ·exact .inr ⟨g,cap,cur,hv,hb,(hs g (by rw[hv]; rfl)).trans hg,r⟩
theorem lies_lt {α:Type} {K:Kind α} {W:World} {a:Option Addr} {cap:Nat} {xs:List α} (hl:Lies K W a cap xs) (hn:xs≠[]) {b off:Nat} (e:a=some ⟨b,off,none⟩):b<W.heap.size:=by
 obtain⟨b',off',e',hc⟩:=hl.cell hn
 rw[e] at e'; cases e'
 obtain⟨x,hx⟩:∃ x,xs[0]? =some x:=by
  cases xs with
  | nil=>exact absurd rfl hn
  | cons x _=>exact⟨x,rfl⟩
 have h0:0<(K.enc x).length:=by rw[K.len]; exact K.pos
 exact World.block_lt_of_cell? W _ (hc 0 x hx 0 _ (List.getElem?_eq_getElem h0))
theorem box2_cells {W:World} {a:Nat} {x y:Value} {S:TypeId} (h:W.heap[a]? =some (.cells #[x,y] S (0,0))):
 W.cell? ⟨a,0,none⟩=some x∧W.cell? ⟨a,1,none⟩=some y∧W.frozen? ⟨a,0,none⟩=false∧W.frozen? ⟨a,1,none⟩=false:=by
 refine⟨?_,?_,?_,?_⟩ <;> simp[World.cell?,World.frozen?,h]
theorem box3_cells {W:World} {a:Nat} {x y z:Value} {S:TypeId} (h:W.heap[a]? =some (.cells #[x,y,z] S (0,0))):
 (W.cell? ⟨a,0,none⟩=some x∧W.cell? ⟨a,1,none⟩=some y∧W.cell? ⟨a,2,none⟩=some z)∧(W.frozen? ⟨a,0,none⟩=false∧W.frozen? ⟨a,1,none⟩=false∧W.frozen? ⟨a,2,none⟩=false):=by
 refine⟨⟨?_,?_,?_⟩,?_,?_,?_⟩ <;> simp[World.cell?,World.frozen?,h]
theorem Turned.cell {S:Nat→Prop} {W W':World} {a:Addr} {v:Value} (h:Turned S W W') (hc:W.cell? a=some v) (ha:¬ S a.block):W'.cell? a=some v:=
 (World.cell?_of_block (w:=W) (h.rest a.block (World.block_lt_of_cell? W _ hc) ha)).trans hc
end Go.Proofs.YtbamodkgagcmnaaGreat.Trn
