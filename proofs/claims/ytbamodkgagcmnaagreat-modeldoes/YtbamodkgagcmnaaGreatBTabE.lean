/-
  Tables of flows, plain facts: ways, what is found, where there is room, what is put, buried and tidied.
-/
import Derived.Test.YtbamodkgagcmnaaGreatProg
import Derived.WalkKit
import Derived.WalkMore
import Derived.OwnWalk
import Derived.OwnWalkIn
import Derived.Below
import Derived.Lib.Hide
import Derived.Shelf.Abstract
import Derived.RangeFuncNested
import Derived.Lib.SliceRun
import Derived.Laws.AppendOwn
import Derived.Deep.Slices
import Derived.ProofKit
import Derived.OpenShut
import Derived.SizedLaws
import Derived.ChangeMaps5
import Derived.Deep.Strs
import Derived.Carry
import Derived.Laws.MakeOwn
set_option maxRecDepth 100000
namespace Go.Proofs.YtbamodkgagcmnaaGreat.Tab
structure Ent where
 st:Int
 key:ByteArray
 be:Int
 dl:Int
deriving DecidableEq
def ent0:Ent:=⟨0,⟨#[]⟩,0,0⟩
def ent (T:List Ent) (a:Nat):Ent:=T[a]?.getD ent0
def Hit (e:Ent) (k:ByteArray):Prop:=e.st=1∧e.key=k
instance (e:Ent) (k:ByteArray):Decidable (Hit e k):=inferInstanceAs (Decidable (_∧_))
def wayOf (n h:Nat):List Nat:=(List.range n).map fun i=>(h+i) % n
theorem way_mem {n h a:Nat}:a ∈ wayOf n h↔a<n:=by
 unfold wayOf
 rw[List.mem_map]
 constructor
 ·rintro⟨i,hi,rfl⟩
  exact Nat.mod_lt _ (by have:=List.mem_range.1 hi; omega)
 ·intro ha
  have hn:0<n:=by omega
  have hh:=Nat.mod_lt h hn
  refine⟨(a+n - h % n) % n,List.mem_range.2 (Nat.mod_lt _ hn),?_⟩
  rw[Nat.add_mod,Nat.mod_mod]
  rcases Nat.lt_or_ge a (h % n) with h1 | h1
  ·rw[Nat.mod_eq_of_lt (show a+n - h % n<n by omega),show h % n+(a+n - h % n)=a+n by omega,Nat.add_mod_right,Nat.mod_eq_of_lt ha]
  ·rw[show a+n - h % n=(a - h % n)+n by omega,Nat.add_mod_right,Nat.mod_eq_of_lt (show a - h % n<n by omega),show h % n+(a - h % n)=a by omega,Nat.mod_eq_of_lt ha]
def findP (T:List Ent) (k:ByteArray):List Nat→Option Nat
 | []=>none
 | a :: l=>if (ent T a).st=0 then none else if Hit (ent T a) k then some a else findP T k l
def roomP (T:List Ent):List Nat→Option Nat
 | []=>none
 | a :: l=>if (ent T a).st=1 then roomP T l else some a
theorem findP_some {T:List Ent} {k:ByteArray}:∀ {l:List Nat} {a:Nat},findP T k l=some a→a ∈ l∧Hit (ent T a) k
 | b :: l,a,h=>by
   unfold findP at h
   split at h
   ·cases h
   ·split at h
    ·rename_i hh; cases h; exact⟨by simp,hh⟩
    ·obtain⟨h1,h2⟩:=findP_some h; exact⟨by simp[h1],h2⟩
theorem findP_none {T:List Ent} {k:ByteArray}:∀ {l:List Nat},(∀ a ∈ l,¬ Hit (ent T a) k)→findP T k l=none
 | [],_=>rfl
 | b :: l,h=>by
   unfold findP
   split
   ·rfl
   ·rw[if_neg (h b (by simp))]
    exact findP_none fun a ha=>h a (by simp[ha])
theorem roomP_some {T:List Ent}:∀ {l:List Nat} {a:Nat},roomP T l=some a→a ∈ l∧(ent T a).st≠1
 | b :: l,a,h=>by
   unfold roomP at h
   split at h
   ·obtain⟨h1,h2⟩:=roomP_some h; exact⟨by simp[h1],h2⟩
   ·rename_i hh; cases h; exact⟨by simp,hh⟩
theorem roomP_none {T:List Ent}:∀ {l:List Nat},roomP T l=none↔∀ a ∈ l,(ent T a).st=1
 | []=>by simp[roomP]
 | b :: l=>by
   unfold roomP
   split
   ·rename_i hh
    rw[roomP_none]; simp[hh]
   ·rename_i hh
    constructor
    ·intro h; cases h
    ·intro h; exact absurd (h b (by simp)) hh
theorem ent_set (T:List Ent) (a:Nat) (e:Ent) (ha:a<T.length) (b:Nat):ent (T.set a e) b=if b=a then e else ent T b:=by
 unfold ent
 by_cases h:b=a
 ·subst h; rw[if_pos rfl,List.getElem?_set_self ha]; rfl
 ·rw[if_neg h,List.getElem?_set_ne (Ne.symm h)]
theorem ent_at {T:List Ent} {a:Nat} (ha:a<T.length):ent T a=T[a]:=by unfold ent; rw[List.getElem?_eq_getElem ha]; rfl
def Pass (e:Ent) (k:ByteArray):Prop:=e.st≠0∧¬ Hit e k
theorem findP_pass {T:List Ent} {k:ByteArray} {a:Nat} {e:Ent} (ha:a<T.length) (h1:Pass (ent T a) k) (h2:Pass e k):∀ l:List Nat,findP (T.set a e) k l=findP T k l
 | []=>rfl
 | b :: l=>by
   unfold findP
   rw[ent_set T a e ha,findP_pass ha h1 h2 l]
   by_cases hb:b=a
   ·subst hb
    rw[if_pos rfl,if_neg h2.1,if_neg h2.2,if_neg h1.1,if_neg h1.2]
   ·rw[if_neg hb]
theorem findP_keep {T:List Ent} {k:ByteArray} {a:Nat} {e:Ent} (ha:a<T.length) (h1:(ent T a).st≠1) (h2:Pass e k):∀ {l:List Nat} {b:Nat},findP T k l=some b→findP (T.set a e) k l=some b
 | c :: l,b,h=>by
   unfold findP at h ⊢
   rw[ent_set T a e ha]
   by_cases hc:c=a
   ·subst hc
    rw[if_pos rfl,if_neg h2.1,if_neg h2.2]
    split at h
    ·cases h
    ·rw[if_neg (fun hh=>h1 hh.1)] at h
     exact findP_keep ha h1 h2 h
   ·rw[if_neg hc]
    split at h
    ·cases h
    ·rename_i h0
     rw[if_neg h0]
     split at h
     ·rename_i hh; rw[if_pos hh]; exact h
     ·rename_i hh; rw[if_neg hh]; exact findP_keep ha h1 h2 h
theorem findP_room {T:List Ent} {k:ByteArray} {e:Ent} (he:Hit e k):∀ {l:List Nat} {a:Nat},a<T.length→findP T k l=none→roomP T l=some a→findP (T.set a e) k l=some a
 | c :: l,a,ha,hf,hr=>by
   have h0:e.st≠0:=by rw[he.1]; decide
   unfold findP at hf ⊢
   unfold roomP at hr
   rw[ent_set T a e ha]
   by_cases hc:c=a
   ·subst hc
    rw[if_pos rfl,if_neg h0,if_pos he]
   ·rw[if_neg hc]
    split at hr
    ·rename_i h1
     have hn:¬ (ent T c).st=0:=by rw[h1]; decide
     rw[if_neg hn] at hf ⊢
     split at hf
     ·cases hf
     ·rename_i hh
      rw[if_neg hh]
      exact findP_room he ha hf hr
    ·cases hr; exact absurd rfl hc
theorem findP_again {T:List Ent} {k:ByteArray} {e:Ent} (he:Hit e k):∀ {l:List Nat} {a:Nat},a<T.length→findP T k l=some a→findP (T.set a e) k l=some a
 | c :: l,a,ha,hf=>by
   have h0:e.st≠0:=by rw[he.1]; decide
   unfold findP at hf ⊢
   rw[ent_set T a e ha]
   by_cases hc:c=a
   ·subst hc
    rw[if_pos rfl,if_neg h0,if_pos he]
   ·rw[if_neg hc]
    split at hf
    ·cases hf
    ·rename_i hn
     rw[if_neg hn]
     split at hf
     ·cases hf; exact absurd rfl hc
     ·rename_i hh
      rw[if_neg hh]
      exact findP_again he ha hf
def count (s:Int) (T:List Ent):Nat:=(T.filter fun e=>e.st == s).length
theorem count_set (s:Int) (e:Ent):∀ (T:List Ent) (a:Nat),a<T.length→count s (T.set a e)+(if (ent T a).st=s then 1 else 0)=count s T+(if e.st=s then 1 else 0)
 | [],a,h=>absurd h (by simp)
 | x :: T,0,_=>by
   have hx:ent (x :: T) 0=x:=rfl
   rw[hx,List.set_cons_zero]
   unfold count
   rw[List.filter_cons,List.filter_cons]
   by_cases h1:e.st=s <;> by_cases h2:x.st=s <;> simp[h1,h2]
 | x :: T,a+1,h=>by
   have ih:=count_set s e T a (by simpa using h)
   have hx:ent (x :: T) (a+1)=ent T a:=rfl
   rw[hx,List.set_cons_succ]
   unfold count at ih ⊢
   have e1:∀ l:List Ent,((x :: l).filter fun e=>e.st == s).length=(l.filter fun e=>e.st == s).length+(if x.st=s then 1 else 0):=by
    intro l
    rw[List.filter_cons]
    by_cases h2:x.st=s <;> simp[h2]
   rw[e1,e1]
   omega
theorem count_le (s:Int) (T:List Ent):count s T≤T.length:=List.length_filter_le _ _
theorem count_all {s:Int} {T:List Ent}:count s T=T.length↔∀ a,a<T.length→(ent T a).st=s:=by
 unfold count
 rw[List.length_filter_eq_length_iff]
 constructor
 ·intro h a ha
  have:=h T[a] (List.getElem_mem ha)
  rw[ent_at ha]; simpa using this
 ·intro h e he
  obtain⟨a,ha,rfl⟩:=List.getElem_of_mem he
  have:=h a ha
  rw[ent_at ha] at this; simpa using this
section
variable (home:ByteArray→Nat→Nat)
def find (T:List Ent) (k:ByteArray):Option Nat:=findP T k (wayOf T.length (home k T.length))
def room (T:List Ent) (k:ByteArray):Option Nat:=match find home T k with
 | some _=>none
 | none=>roomP T (wayOf T.length (home k T.length))
variable {home} {T:List Ent} {k:ByteArray} {a:Nat} {e:Ent}
theorem find_some (h:find home T k=some a):a<T.length∧Hit (ent T a) k:=by
 obtain⟨h1,h2⟩:=findP_some h
 exact⟨way_mem.1 h1,h2⟩
theorem find_none (h:∀ a,a<T.length→¬ Hit (ent T a) k):find home T k=none:=findP_none fun a ha=>h a (way_mem.1 ha)
theorem room_some (h:room home T k=some a):a<T.length∧(ent T a).st≠1∧find home T k=none∧roomP T (wayOf T.length (home k T.length))=some a:=by
 unfold room at h
 split at h
 ·cases h
 ·rename_i hf
  obtain⟨h1,h2⟩:=roomP_some h
  exact⟨way_mem.1 h1,h2,hf,h⟩
theorem room_none (hf:find home T k=none) (h:room home T k=none):∀ a,a<T.length→(ent T a).st=1:=by
 unfold room at h
 rw[hf] at h
 exact fun a ha=>roomP_none.1 h a (way_mem.2 ha)
theorem find_pass (ha:a<T.length) (h1:Pass (ent T a) k) (h2:Pass e k):find home (T.set a e) k=find home T k:=by
 unfold find; rw[List.length_set]; exact findP_pass ha h1 h2 _
theorem find_keep {b:Nat} (ha:a<T.length) (h1:(ent T a).st≠1) (h2:Pass e k) (h:find home T k=some b):find home (T.set a e) k=some b:=by
 unfold find; rw[List.length_set]; exact findP_keep ha h1 h2 h
theorem find_room (he:Hit e k) (h:room home T k=some a):find home (T.set a e) k=some a:=by
 obtain⟨h1,_,h3,h4⟩:=room_some h
 unfold find; rw[List.length_set]; exact findP_room he h1 h3 h4
theorem find_again (he:Hit e k) (h:find home T k=some a):find home (T.set a e) k=some a:=by
 obtain⟨h1,_⟩:=find_some h
 unfold find at h ⊢; rw[List.length_set]; exact findP_again he h1 h
end
end Go.Proofs.YtbamodkgagcmnaaGreat.Tab
namespace Go.Proofs.YtbamodkgagcmnaaGreat.Tab
def live (k:ByteArray) (b d:Int):Ent:=⟨1,k,b,d⟩
def tomb:Ent:=⟨2,⟨#[]⟩,0,0⟩
theorem hit_live (k:ByteArray) (b d:Int):Hit (live k b d) k:=⟨rfl,rfl⟩
theorem pass_live {k o:ByteArray} (b d:Int) (h:k≠o):Pass (live k b d) o:=⟨by show (1:Int)≠0; decide,fun hh=>h hh.2⟩
theorem pass_tomb (o:ByteArray):Pass tomb o:=⟨by show (2:Int)≠0; decide,fun hh=>by have:=hh.1; revert this; show (2:Int)=1→False; decide⟩
theorem pass_hit {e:Ent} {k o:ByteArray} (h:Hit e k) (ho:k≠o):Pass e o:=⟨by rw[h.1]; decide,fun hh=>ho (h.2.symm.trans hh.2)⟩
theorem live_of {e:Ent} (h:e.st=1):live e.key e.be e.dl=e:=by cases e; simp only at h; subst h; rfl
section
variable {home:ByteArray→Nat→Nat} {T U:List Ent} {k o:ByteArray} {a b:Nat} {be dl:Int}
def Right (home:ByteArray→Nat→Nat) (T:List Ent):Prop:=∀ a,a<T.length→(ent T a).st=1→find home T (ent T a).key=some a
theorem Right.finds (h:Right home T) (ha:a<T.length) (hh:Hit (ent T a) k):find home T k=some a:=by rw[← hh.2]; exact h a ha hh.1
theorem Right.one (h:Right home T) (ha:a<T.length) (hb:b<T.length) (h1:Hit (ent T a) k) (h2:Hit (ent T b) k):a=b:=by
 have:=h.finds ha h1
 rw[h.finds hb h2] at this
 exact (Option.some.inj this).symm
theorem Right.absent (h:Right home T):find home T k=none↔∀ a,a<T.length→¬ Hit (ent T a) k:=
 ⟨fun hn a ha hh=>(by rw[h.finds ha hh] at hn; cases hn),fun hn=>find_none hn⟩
def put (home:ByteArray→Nat→Nat) (T:List Ent) (k:ByteArray) (be dl:Int):Option (List Ent):=match find home T k with
 | some a=>some (T.set a (live k be dl))
 | none=>match room home T k with
   | some a=>some (T.set a (live k be dl))
   | none=>none
theorem put_none (h:put home T k be dl=none):find home T k=none∧∀ a,a<T.length→(ent T a).st=1:=by
 unfold put at h
 split at h
 ·cases h
 ·rename_i hf
  split at h
  ·cases h
  ·rename_i hr; exact⟨hf,room_none hf hr⟩
theorem put_some (h:put home T k be dl=some U):∃ a,a<T.length∧U=T.set a (live k be dl)∧find home U k=some a∧((ent T a).st≠1∧find home T k=none∨Hit (ent T a) k∧find home T k=some a):=by
 unfold put at h
 split at h
 ·rename_i a hf
  cases h
  obtain⟨h1,h2⟩:=find_some hf
  exact⟨a,h1,rfl,find_again (hit_live k be dl) hf,.inr ⟨h2,hf⟩⟩
 ·rename_i hf
  split at h
  ·rename_i a hr
   cases h
   obtain⟨h1,h2,_,_⟩:=room_some hr
   exact⟨a,h1,rfl,find_room (hit_live k be dl) hr,.inl ⟨h2,hf⟩⟩
  ·cases h
theorem put_length (h:put home T k be dl=some U):U.length=T.length:=by
 obtain⟨a,_,rfl,_⟩:=put_some h; simp
theorem put_other (h:put home T k be dl=some U) (ho:k≠o) (hf:find home T o=some b):find home U o=some b∧ent U b=ent T b:=by
 obtain⟨a,ha,rfl,_,hc⟩:=put_some h
 obtain⟨hb,hh⟩:=find_some hf
 have hab:b≠a:=by
  rintro rfl
  rcases hc with⟨h1,_⟩ | ⟨h1,_⟩
  ·exact h1 hh.1
  ·exact ho (h1.2.symm.trans hh.2)
 refine⟨?_,by rw[ent_set T a _ ha,if_neg hab]⟩
 rcases hc with⟨h1,_⟩ | ⟨h1,_⟩
 ·exact find_keep ha h1 (pass_live be dl ho) hf
 ·rw[find_pass ha (pass_hit h1 ho) (pass_live be dl ho)]; exact hf
theorem put_ent (h:put home T k be dl=some U) (ho:k≠o):Hit (ent U a) o→Hit (ent T a) o:=by
 obtain⟨c,hc,rfl,_,_⟩:=put_some h
 rw[ent_set T c _ hc]
 split
 ·intro hh; exact absurd hh.2 ho
 ·exact id
theorem Right.puts (hr:Right home T) (h:put home T k be dl=some U):Right home U:=by
 intro b hb hl
 rw[put_length h] at hb
 by_cases hk:k=(ent U b).key
 ·obtain⟨a,ha,e,hf,hc⟩:=put_some h
  rw[← hk,hf]
  congr 1
  by_cases hab:a=b
  ·exact hab
  ·exfalso
   have hbT:ent U b=ent T b:=by rw[e,ent_set T a _ ha,if_neg (Ne.symm hab)]
   have hhit:Hit (ent T b) k:=⟨by rw[← hbT]; exact hl,by rw[← hbT]; exact hk.symm⟩
   rcases hc with⟨_,hn⟩ | ⟨h1,_⟩
   ·rw[hr.finds hb hhit] at hn; cases hn
   ·exact hab (hr.one ha hb h1 hhit)
 ·have hT:=put_ent (o:=(ent U b).key) h hk ⟨hl,rfl⟩
  exact (put_other h hk (hr.finds hb hT)).1
theorem put_count (h:put home T k be dl=some U):count 1 U=count 1 T+(if (find home T k).isSome then 0 else 1):=by
 obtain⟨a,ha,rfl,_,hc⟩:=put_some h
 have:=count_set 1 (live k be dl) T a ha
 rw[if_pos (show (live k be dl).st=1 from rfl)] at this
 rcases hc with⟨h1,hn⟩ | ⟨h1,hn⟩
 ·rw[if_neg h1] at this
  rw[hn]; simpa using this
 ·rw[if_pos h1.1] at this
  rw[hn]; simp; omega
theorem put_room (h:find home T k≠none∨count 1 T<T.length):∃ U,put home T k be dl=some U:=by
 cases hp:put home T k be dl with
 | some U=>exact⟨U,rfl⟩
 | none=>
   obtain⟨hf,hall⟩:=put_none hp
   rcases h with h | h
   ·exact absurd hf h
   ·have:=count_all.2 hall
    omega
theorem bury_other (hf:find home T k=some a) (ho:k≠o):find home (T.set a tomb) o=find home T o:=by
 obtain⟨ha,hh⟩:=find_some hf
 exact find_pass ha (pass_hit hh ho) (pass_tomb o)
theorem bury_count (hf:find home T k=some a):count 1 (T.set a tomb)+1=count 1 T:=by
 obtain⟨ha,hh⟩:=find_some hf
 have:=count_set 1 tomb T a ha
 rw[if_pos hh.1,if_neg (by show ¬ (2:Int)=1; decide)] at this
 exact this
theorem bury_ent (hf:find home T k=some a) (h:(ent (T.set a tomb) b).st=1):b≠a∧ent (T.set a tomb) b=ent T b:=by
 obtain⟨ha,_⟩:=find_some hf
 rw[ent_set T a _ ha] at h ⊢
 split at h
 ·exact absurd h (by show ¬ (2:Int)=1; decide)
 ·rename_i hne; exact⟨hne,by rw[if_neg hne]⟩
theorem Right.bury (hr:Right home T) (hf:find home T k=some a):Right home (T.set a tomb)∧find home (T.set a tomb) k=none:=by
 obtain⟨ha,hh⟩:=find_some hf
 have hno:∀ b,b<T.length→(ent (T.set a tomb) b).st=1→(ent (T.set a tomb) b).key≠k:=by
  intro b hb hl hk
  obtain⟨hne,he⟩:=bury_ent hf hl
  exact hne (hr.one hb ha ⟨by rw[← he]; exact hl,by rw[← he]; exact hk⟩ hh)
 constructor
 ·intro b hb hl
  rw[List.length_set] at hb
  obtain⟨_,he⟩:=bury_ent hf hl
  rw[bury_other hf (Ne.symm (hno b hb hl))]
  exact hr.finds hb ⟨by rw[← he]; exact hl,by rw[he]⟩
 ·exact find_none fun b hb hh'=>hno b (by simpa using hb) hh'.1 hh'.2
def new (n:Nat):List Ent:=List.replicate n ent0
theorem new_ent (n a:Nat):ent (new n) a=ent0:=by
 unfold ent new
 rw[List.getElem?_replicate]
 split <;> rfl
structure Has (home:ByteArray→Nat→Nat) (n:Nat) (E:List Ent) (T:List Ent):Prop where
 len:T.length=n
 right:Right home T
 st:∀ a,a<n→(ent T a).st=0∨(ent T a).st=1
 same:∀ e:Ent,e.st=1→((∃ a,a<n∧ent T a=e)↔e ∈ E)
 cnt:count 1 T=E.length
theorem has_new (home:ByteArray→Nat→Nat) (n:Nat):Has home n [] (new n) where
 len:=by simp[new]
 right a _ h:=by rw[new_ent] at h; exact absurd h (by decide)
 st a _:=.inl (by rw[new_ent]; rfl)
 same e he:=by
  constructor
  ·rintro⟨a,_,rfl⟩; rw[new_ent] at he; exact absurd he (by decide)
  ·intro h; cases h
 cnt:=by
  unfold count new
  rw[List.filter_replicate,if_neg (by decide)]
theorem Has.more {n:Nat} {E:List Ent} (h:Has home n E T) (e:Ent) (he:e.st=1) (hk:∀ x ∈ E,x.key≠e.key) (hn:E.length<n):
 ∃ U,Tab.put home T e.key e.be e.dl=some U∧Has home n (E ++ [e]) U:=by
 have hf:find home T e.key=none:=find_none fun a ha hh=>hk _ ((h.same _ hh.1).1 ⟨a,by rw[← h.len]; exact ha,rfl⟩) hh.2
 obtain⟨U,hU⟩:=put_room (home:=home) (T:=T) (k:=e.key) (be:=e.be) (dl:=e.dl) (.inr (by rw[h.cnt,h.len]; exact hn))
 refine⟨U,hU,(put_length hU).trans h.len,h.right.puts hU,?_,?_,?_⟩
 ·intro b hb
  obtain⟨a,ha,rfl,_⟩:=put_some hU
  rw[ent_set T a _ ha]
  split
  ·exact .inr rfl
  ·exact h.st b hb
 ·intro x hx
  obtain⟨a,ha,rfl,_,hc⟩:=put_some hU
  rw[live_of he]
  rcases hc with⟨h1,_⟩ | ⟨_,h2⟩
  ·rw[List.mem_append,List.mem_singleton,← h.same x hx]
   constructor
   ·rintro⟨b,hb,hbx⟩
    rw[ent_set T a _ ha] at hbx
    split at hbx
    ·exact .inr hbx.symm
    ·exact .inl ⟨b,hb,hbx⟩
   ·rintro (⟨b,hb,hbx⟩ | rfl)
    ·refine⟨b,hb,?_⟩
     rw[ent_set T a _ ha,if_neg (fun hba=>?_)]
     ·exact hbx
     ·subst hba; rw[hbx] at h1; exact h1 hx
    ·exact⟨a,by rw[← h.len]; exact ha,by rw[ent_set T a _ ha,if_pos rfl]⟩
  ·rw[hf] at h2; cases h2
 ·rw[put_count hU,hf,h.cnt]; simp
def fill (home:ByteArray→Nat→Nat) (n:Nat) (E:List Ent):List Ent:=E.foldl (fun out e=>(put home out e.key e.be e.dl).getD out) (new n)
theorem fill_has (n:Nat) (E:List Ent) (hE:∀ x ∈ E,x.st=1) (hk:(E.map (·.key)).Nodup) (hn:E.length≤n):Has home n E (fill home n E):=by
 have key:∀ (R D out:List Ent),(∀ x ∈ D ++ R,x.st=1)→((D ++ R).map (·.key)).Nodup→(D ++ R).length≤n→Has home n D out→Has home n (D ++ R) (R.foldl (fun out e=>(Tab.put home out e.key e.be e.dl).getD out) out):=by
  intro R
  induction R with
  | nil=>intro D out _ _ _ h; rw[List.append_nil]; exact h
  | cons e R ih=>
    intro D out hs hd hl h
    have hne:∀ x ∈ D,x.key≠e.key:=by
     intro x hx he
     rw[List.map_append,List.nodup_append] at hd
     exact hd.2.2 _ (List.mem_map.2 ⟨x,hx,rfl⟩) _ (List.mem_map.2 ⟨e,by simp,rfl⟩) he
    obtain⟨U,hU,hH⟩:=h.more e (hs e (by simp)) hne (by simp at hl; omega)
    rw[List.foldl_cons,hU]
    have:=ih (D ++ [e]) U (by simpa using hs) (by simpa using hd) (by simpa using hl) hH
    simpa using this
 exact key E [] (new n) (by simpa using hE) (by simpa using hk) (by simpa using hn) (has_new home n)
theorem Right.keys (h:Right home T):((T.filter fun e=>e.st == 1).map (·.key)).Nodup:=by
 rw[List.Nodup,List.pairwise_map,List.pairwise_filter,List.pairwise_iff_getElem]
 intro i j hi hj hij h1 h2 he
 have:=h.one (a:=i) (b:=j) (k:=T[i].key) hi hj (by rw[ent_at hi]; exact⟨by simpa using h1,rfl⟩) (by rw[ent_at hj]; exact⟨by simpa using h2,he.symm⟩)
 omega
def tidy (home:ByteArray→Nat→Nat) (T:List Ent):List Ent:=fill home T.length (T.filter fun e=>e.st == 1)
theorem Right.tidyHas (h:Right home T):Has home T.length (T.filter fun e=>e.st == 1) (tidy home T):=
 fill_has T.length _ (fun x hx=>by simpa using (List.mem_filter.1 hx).2) h.keys (List.length_filter_le _ _)
theorem Right.tidied (h:Right home T) (k:ByteArray):(find home T k=none↔find home (Tab.tidy home T) k=none)∧∀ a b,find home T k=some a→find home (Tab.tidy home T) k=some b→ent (Tab.tidy home T) b=ent T a:=by
 have hH:=h.tidyHas
 have iff1:∀ e:Ent,e.st=1→((∃ a,a<T.length∧ent (Tab.tidy home T) a=e)↔∃ a,a<T.length∧ent T a=e):=by
  intro e he
  rw[hH.same e he,List.mem_filter]
  constructor
  ·rintro⟨hm,_⟩
   obtain⟨a,ha,rfl⟩:=List.getElem_of_mem hm
   exact⟨a,ha,ent_at ha⟩
  ·rintro⟨a,ha,rfl⟩
   exact⟨by rw[ent_at ha]; exact List.getElem_mem ha,by simpa using he⟩
 constructor
 ·rw[h.absent,hH.right.absent,hH.len]
  constructor
  ·intro hn a ha hh
   obtain⟨b,hb,e⟩:=(iff1 _ hh.1).1 ⟨a,ha,rfl⟩
   exact hn b hb (by rw[e]; exact hh)
  ·intro hn a ha hh
   obtain⟨b,hb,e⟩:=(iff1 _ hh.1).2 ⟨a,ha,rfl⟩
   exact hn b hb (by rw[e]; exact hh)
 ·intro a b ha hb
  obtain⟨ha1,ha2⟩:=find_some ha
  obtain⟨hb1,hb2⟩:=find_some hb
  rw[hH.len] at hb1
  obtain⟨c,hc,e⟩:=(iff1 _ hb2.1).1 ⟨b,hb1,rfl⟩
  have:c=a:=h.one hc ha1 (by rw[e]; exact hb2) ha2
  subst this
  exact e.symm
end
end Go.Proofs.YtbamodkgagcmnaaGreat.Tab
namespace Go.Proofs.YtbamodkgagcmnaaGreat.Tab
def Due (e:Ent) (now:Int):Prop:=e.st=1∧e.dl<now
instance (e:Ent) (now:Int):Decidable (Due e now):=inferInstanceAs (Decidable (_∧_))
theorem not_due_tomb (now:Int):¬ Due tomb now:=fun h=>absurd h.1 (by decide)
def sweep (now:Int):List Nat→List Ent→List Ent × Nat
 | [],T=>(T,0)
 | a :: l,T=>if Due (ent T a) now then ((sweep now l (T.set a tomb)).1,(sweep now l (T.set a tomb)).2+1) else sweep now l T
section
variable {home:ByteArray→Nat→Nat} {now:Int}
theorem sweep_length (now:Int):∀ (l:List Nat) (T:List Ent),(sweep now l T).1.length=T.length
 | [],T=>rfl
 | a :: l,T=>by
   unfold sweep
   split
   ·show (sweep now l (T.set a tomb)).1.length=_
    rw[sweep_length now l]; simp
   ·exact sweep_length now l T
theorem sweep_cons (now:Int) (a:Nat) (l:List Nat) (T:List Ent):sweep now (a :: l) T=if Due (ent T a) now then ((sweep now l (T.set a tomb)).1,(sweep now l (T.set a tomb)).2+1) else sweep now l T:=rfl
theorem sweep_append (now:Int) (m:List Nat):∀ (l:List Nat) (T:List Ent),sweep now (l ++ m) T=((sweep now m (sweep now l T).1).1,(sweep now l T).2+(sweep now m (sweep now l T).1).2)
 | [],T=>by simp[sweep]
 | a :: l,T=>by
   rw[List.cons_append,sweep_cons,sweep_cons]
   by_cases h:Due (ent T a) now
   ·rw[if_pos h,if_pos h,sweep_append now m l]
    refine Prod.ext rfl ?_
    show (sweep now l (T.set a tomb)).2+(sweep now m (sweep now l (T.set a tomb)).1).2+1=(sweep now l (T.set a tomb)).2+1+(sweep now m (sweep now l (T.set a tomb)).1).2
    omega
   ·rw[if_neg h,if_neg h]; exact sweep_append now m l T
structure Swept (home:ByteArray→Nat→Nat) (now:Int) (T U:List Ent) (n:Nat):Prop where
 len:U.length=T.length
 right:Right home U
 gone:∀ k,find home T k=none→find home U k=none
 kept:∀ k a,find home T k=some a→(find home U k=some a∧ent U a=ent T a)∨(find home U k=none∧Due (ent T a) now∧0<n)
 cnt:count 1 U+n=count 1 T
theorem swept (T:List Ent):∀ (l:List Nat) (U:List Ent) (n:Nat),(∀ a ∈ l,a<T.length)→Swept home now T U n→Swept home now T (sweep now l U).1 (n+(sweep now l U).2)
 | [],U,n,_,h=>h
 | a :: l,U,n,hl,h=>by
   unfold sweep
   have ha:a<U.length:=by rw[h.len]; exact hl a (by simp)
   split
   ·rename_i hd
    have hf:find home U (ent U a).key=some a:=h.right.finds ha ⟨hd.1,rfl⟩
    obtain⟨hr,hn⟩:=h.right.bury hf
    have:=swept T l (U.set a tomb) (n+1) (fun b hb=>hl b (by simp[hb])) ⟨by rw[List.length_set,h.len],hr,?_,?_,?_⟩
    ·simpa [Nat.add_assoc,Nat.add_comm 1] using this
    ·intro k hk
     by_cases hkk:(ent U a).key=k
     ·rw[← hkk]; exact hn
     ·rw[bury_other hf hkk]; exact h.gone k hk
    ·intro k b hb
     rcases h.kept k b hb with⟨h1,h2⟩ | ⟨h1,h2,h3⟩
     ·by_cases hkk:(ent U a).key=k
      ·have hab:a=b:=by rw[← hkk,hf] at h1; exact Option.some.inj h1
       subst hab
       exact .inr ⟨by rw[← hkk]; exact hn,by rw[← h2]; exact hd,by omega⟩
      ·refine .inl ⟨by rw[bury_other hf hkk]; exact h1,?_⟩
       rw[ent_set U a _ ha,if_neg (fun e=>?_),h2]
       subst e
       exact hkk (find_some h1).2.2
     ·refine .inr ⟨?_,h2,by omega⟩
      by_cases hkk:(ent U a).key=k
      ·rw[← hkk]; exact hn
      ·rw[bury_other hf hkk]; exact h1
    ·have:=bury_count hf
     have:=h.cnt
     omega
   ·exact swept T l U n (fun b hb=>hl b (by simp[hb])) h
theorem sweep_right {T:List Ent} (hr:Right home T) (l:List Nat) (hl:∀ a ∈ l,a<T.length):Swept home now T (sweep now l T).1 (sweep now l T).2:=by
 have:=swept (home:=home) (now:=now) T l T 0 hl ⟨rfl,hr,fun _ h=>h,fun k a h=>.inl ⟨h,rfl⟩,by omega⟩
 simpa using this
theorem sweep_not_due (now:Int):∀ (l:List Nat) (T:List Ent) (a:Nat),(∀ b ∈ l,b<T.length)→(a ∈ l∨¬ Due (ent T a) now)→¬ Due (ent (sweep now l T).1 a) now
 | [],T,a,_,h=>h.elim (fun h=>by cases h) id
 | b :: l,T,a,hl,h=>by
   unfold sweep
   have hb:b<T.length:=hl b (by simp)
   split
   ·refine sweep_not_due now l (T.set b tomb) a (fun c hc=>by rw[List.length_set]; exact hl c (by simp[hc])) ?_
    rw[ent_set T b _ hb]
    by_cases hab:a=b
    ·right; rw[if_pos hab]; exact not_due_tomb now
    ·rw[if_neg hab]
     rcases h with h | h
     ·left; exact (List.mem_cons.1 h).resolve_left hab
     ·exact .inr h
   ·rename_i hd
    refine sweep_not_due now l T a (fun c hc=>hl c (by simp[hc])) ?_
    rcases h with h | h
    ·rcases List.mem_cons.1 h with rfl | h
     ·exact .inr hd
     ·exact .inl h
    ·exact .inr h
theorem sweep_none (now:Int):∀ (l:List Nat) (T:List Ent),(∀ a ∈ l,¬ Due (ent T a) now)→sweep now l T=(T,0)
 | [],_,_=>rfl
 | a :: l,T,h=>by
   unfold sweep
   rw[if_neg (h a (by simp))]
   exact sweep_none now l T fun b hb=>h b (by simp[hb])
theorem sweep_zero (now:Int):∀ (l:List Nat) (T:List Ent),(sweep now l T).2=0→(sweep now l T).1=T
 | [],_,_=>rfl
 | a :: l,T,h=>by
   unfold sweep at h ⊢
   split at h
   ·exact absurd h (by simp)
   ·rename_i hd; rw[if_neg hd]; exact sweep_zero now l T h
theorem sweep_tombs (now:Int):∀ (l:List Nat) (T:List Ent),(∀ b ∈ l,b<T.length)→count 2 (sweep now l T).1=count 2 T+(sweep now l T).2
 | [],_,_=>rfl
 | a :: l,T,hl=>by
   unfold sweep
   have ha:a<T.length:=hl a (by simp)
   split
   ·rename_i hd
    have h1:=sweep_tombs now l (T.set a tomb) (fun c hc=>by rw[List.length_set]; exact hl c (by simp[hc]))
    have h2:=count_set 2 tomb T a ha
    rw[if_neg (by rw[hd.1]; decide),if_pos (by show (2:Int)=2; rfl)] at h2
    show count 2 (sweep now l (T.set a tomb)).1=count 2 T+((sweep now l (T.set a tomb)).2+1)
    omega
   ·exact sweep_tombs now l T fun b hb=>hl b (by simp[hb])
def settle (home:ByteArray→Nat→Nat) (T:List Ent):List Ent:=if T.length<2 * count 2 T then tidy home T else T
theorem settle_few {T:List Ent} (h:2 * count 2 T≤T.length):settle home T=T:=if_neg (by omega)
theorem settle_same {T:List Ent} (hr:Right home T):(settle home T).length=T.length∧Right home (settle home T)∧count 1 (settle home T)=count 1 T∧2 * count 2 (settle home T)≤T.length∧
 ∀ k,(find home T k=none↔find home (settle home T) k=none)∧∀ a b,find home T k=some a→find home (settle home T) k=some b→ent (settle home T) b=ent T a:=by
 unfold settle
 split
 ·have hH:=hr.tidyHas
  refine⟨hH.len,hH.right,hH.cnt,?_,fun k=>hr.tidied k⟩
  have:count 2 (tidy home T)=0:=by
   unfold count
   rw[List.length_eq_zero_iff,List.filter_eq_nil_iff]
   intro e he
   obtain⟨a,ha,rfl⟩:=List.getElem_of_mem he
   have h2:=hH.st a (by rw[← hH.len]; exact ha)
   rw[ent_at ha] at h2
   rcases h2 with h2 | h2 <;> simp[h2]
  omega
 ·rename_i h
  refine⟨rfl,hr,rfl,by omega,fun k=>⟨Iff.rfl,fun a b h1 h2=>?_⟩⟩
  rw[h1] at h2; cases h2; rfl
end
end Go.Proofs.YtbamodkgagcmnaaGreat.Tab
namespace Go.Proofs.YtbamodkgagcmnaaGreat.Tab
def zOf:Option Nat→Int
 | some a=>(a:Int)
 | none=> -1
section
variable {home:ByteArray→Nat→Nat} {n m:Nat} {k o:ByteArray} {b d:Int}
end
end Go.Proofs.YtbamodkgagcmnaaGreat.Tab
namespace Go.Proofs.YtbamodkgagcmnaaGreat.RowG
open Go.RowKit Go.Shelf Go.WideShapes Go.ChangeShapes Go.Deep
structure Kind (α:Type) where
 c:Nat
 enc:α→List Value
 pos:0<c
 len:∀ x,(enc x).length=c
 one:∀ x,∀ u ∈ enc x,u.oneCell'=true
abbrev rowV {α:Type} (a:Option Addr) (cap:Nat) (xs:List α):Value:=.slice a xs.length cap
section
variable {α:Type} (K:Kind α)
structure Lies (W:World) (a:Option Addr) (cap:Nat) (xs:List α):Prop where
 max:cap≤maxLen
 len:xs.length≤cap
 cell:xs≠[]→∃ b off,a=some ⟨b,off,none⟩∧∀ i x,xs[i]? =some x→∀ j u,(K.enc x)[j]? =some u→W.cell? ⟨b,off+i * K.c+j,none⟩=some u
def flat (xs:List α):List Value:=xs.flatMap K.enc
def Own (T:TypeId) (B:Nat) (W:World) (v:Value) (xs:List α):Prop:=W.ownsRow B T K.c v xs.length (flat K xs)
def Row (T:TypeId) (W:World) (g cap:Nat) (xs:List α):Prop:=
 ∃ cur:Array Value,W.heap[g]? =some (.cells cur T (0,0))∧xs.length≤cap∧cap≤maxLen∧cur.size=cap * K.c∧cur.toList.take (xs.length * K.c)=flat K xs
end
theorem below2 {w0 w1 w2:World} (h1:Below w0.heap.size w0 w1) (h2:Below w1.heap.size w1 w2):Below w0.heap.size w0 w2:=h1.trans (h2.mono h1.size)
theorem grown_none {W W':World} (hb:Below W.heap.size W W'):W.grownBy W' none:=⟨hb.os,hb.tape,hb.output,hb.size,fun k hk _=>hb.block k hk⟩
theorem add_at (g j:Nat):(⟨g,0,none⟩:Addr).add j=⟨g,0+j,none⟩:=by cases j <;> simp[Addr.add]
section
variable {α:Type} {K:Kind α} {T:TypeId} {W W':World} {a:Option Addr} {cap:Nat} {xs:List α}
theorem Lies.kept (h:Lies K W a cap xs) (hb:Below W.heap.size W W'):Lies K W' a cap xs:=
 ⟨h.max,h.len,fun hn=>by
   obtain⟨b,off,e,hc⟩:=h.cell hn
   refine⟨b,off,e,fun i x hi j u hj=>?_⟩
   have c0:=hc i x hi j u hj
   exact (hb.cell (World.block_lt_of_cell? W _ c0)).trans c0⟩
theorem lies_nil (W:World):Lies K W none 0 []:=⟨by unfold maxLen; omega,Nat.le_refl _,fun h=>absurd rfl h⟩
theorem Lies.at (h:Lies K W a cap xs) {k:Nat} (hk:k<xs.length):∃ b off,a=some ⟨b,off,none⟩∧∀ j u,(K.enc xs[k])[j]? =some u→W.cell? ⟨b,off+k * K.c+j,none⟩=some u:=by
 obtain⟨b,off,e,hc⟩:=h.cell (fun e=>by rw[e] at hk; exact absurd hk (by simp))
 exact⟨b,off,e,hc k _ (List.getElem?_eq_getElem hk)⟩
theorem Lies.take (h:Lies K W a cap xs) (n:Nat):Lies K W a cap (xs.take n):=
 ⟨h.max,Nat.le_trans (by simp; omega) h.len,fun hn=>by
   obtain⟨b,off,e,hc⟩:=h.cell (fun e=>by rw[e] at hn; simp at hn)
   refine⟨b,off,e,fun i x hi=>hc i x ?_⟩
   rw[List.getElem?_take] at hi
   split at hi
   ·exact hi
   ·cases hi⟩
theorem Lies.drop {b off:Nat} (h:Lies K W (some ⟨b,off,none⟩) cap xs) (n:Nat):Lies K W (some ⟨b,off+n * K.c,none⟩) (cap - n) (xs.drop n):=
 ⟨by have:=h.max; omega,by have:=h.len; simp; omega,fun hn=>by
   obtain⟨b',off',e,hc⟩:=h.cell (fun e=>by rw[e] at hn; simp at hn)
   cases e
   refine⟨b,_,rfl,fun i x hi j u hj=>?_⟩
   rw[List.getElem?_drop] at hi
   have:=hc (n+i) x hi j u hj
   rwa [Nat.add_mul,← Nat.add_assoc] at this⟩
theorem flat_cons (x:α) (xs:List α):flat K (x :: xs)=K.enc x ++ flat K xs:=by simp[flat]
theorem flat_append (xs ys:List α):flat K (xs ++ ys)=flat K xs ++ flat K ys:=by simp[flat]
theorem flat_length (xs:List α):(flat K xs).length=xs.length * K.c:=by
 induction xs with
 | nil=>simp[flat]
 | cons x xs ih=>rw[flat_cons,List.length_append,ih,K.len,List.length_cons,Nat.add_mul]; omega
theorem flat_more (xs:List α) (y:α):flat K (xs ++ [y])=flat K xs ++ K.enc y:=by simp[flat]
theorem flat_get (xs:List α):∀ (i:Nat) (x:α),xs[i]? =some x→∀ j u,(K.enc x)[j]? =some u→(flat K xs)[i * K.c+j]? =some u:=by
 induction xs with
 | nil=>intro i x h; simp at h
 | cons y xs ih=>
   intro i x h j u hj
   rw[flat_cons]
   have hjl:j<K.c:=by rw[← K.len x]; exact (List.getElem?_eq_some_iff.1 hj).1
   cases i with
   | zero=>
     simp at h; subst h
     rw[Nat.zero_mul,Nat.zero_add,List.getElem?_append_left (by rw[K.len]; exact hjl)]; exact hj
   | succ i=>
     have:=ih i x (by simpa using h) j u hj
     rw[List.getElem?_append_right (by rw[K.len,Nat.add_mul]; omega),K.len,Nat.add_mul]
     rw[show i * K.c+1 * K.c+j - K.c=i * K.c+j by omega]
     exact this
theorem flat_one (xs:List α):∀ u ∈ flat K xs,u.oneCell'=true:=by
 intro u hu
 obtain⟨x,_,hx⟩:=List.mem_flatMap.1 hu
 exact K.one x u hx
theorem flat_lies {b off:Nat} (h:Lies K W (some ⟨b,off,none⟩) cap xs) (j:Nat) (u:Value) (hj:(flat K xs)[j]? =some u):W.cell? ⟨b,off+j,none⟩=some u:=by
 have hl:j<xs.length * K.c:=by rw[← flat_length]; exact (List.getElem?_eq_some_iff.1 hj).1
 have hk:j / K.c<xs.length:=by rw[Nat.div_lt_iff_lt_mul K.pos]; exact hl
 have hm:j % K.c<K.c:=Nat.mod_lt _ K.pos
 have ed:j / K.c * K.c+j % K.c=j:=by rw[Nat.mul_comm]; exact Nat.div_add_mod j K.c
 obtain⟨b',off',e,hc⟩:=h.cell (fun e=>by rw[e] at hk; exact absurd hk (by simp))
 cases e
 have hjm:(K.enc xs[j / K.c])[j % K.c]? =some ((K.enc xs[j / K.c])[j % K.c]'(by rw[K.len]; exact hm)):=List.getElem?_eq_getElem _
 have f:=flat_get xs (j / K.c) _ (List.getElem?_eq_getElem hk) (j % K.c) _ hjm
 have c0:=hc (j / K.c) _ (List.getElem?_eq_getElem hk) (j % K.c) _ hjm
 rw[ed] at f
 rw[Nat.add_assoc,ed] at c0
 rw[f] at hj
 rw[c0]; exact hj
theorem own_nil (B:Nat) (W:World):Own K T B W (.slice none 0 0) []:=World.ownsRow_nil W B _ _
theorem Own.kept {B:Nat} {v:Value} (h:Own K T B W v xs) (hb:Below W.heap.size W W'):Own K T B W' v xs:=
 World.ownsRow.kept h (grown_none hb) (by cases v.ownBlock <;> simp)
theorem own_less {B B':Nat} {v:Value} (hB:B≤B') (h:Own K T B' W v xs):Own K T B W v xs:=by
 refine⟨h.1,?_⟩
 rcases h.2 with h0 | ⟨g,cap,cur,hv,hb,r⟩
 ·exact .inl h0
 ·exact .inr ⟨g,cap,cur,hv,Nat.le_trans hB hb,r⟩
theorem Own.lies {B:Nat} {v:Value} (h:Own K T B W v xs):∃ a cap,v=rowV a cap xs∧Lies K W a cap xs:=by
 rcases h.2 with⟨rfl,h0⟩ | ⟨g,cap,cur,rfl,hb,hg,hn,hm,hs,htake⟩
 ·have:xs=[]:=List.eq_nil_of_length_eq_zero h0
  subst this
  exact⟨none,0,rfl,lies_nil W⟩
 ·refine⟨some ⟨g,0,none⟩,cap,rfl,hm,hn,fun _=>⟨g,0,rfl,fun i x hi j u hj=>?_⟩⟩
  have c0:=World.ownsRow.cells h (g:=g) rfl _ _ (flat_get xs i x hi j u hj)
  rw[add_at,← Nat.add_assoc] at c0
  exact c0
theorem own_ne {B:Nat} {v:Value} (h:Own K T B W v xs) {j:Nat} {o:Obj} (hj:W.heap[j]? =some o) (hno:∀ cur,o≠.cells cur T (0,0)):v.ownBlock=none∨v.ownBlock≠some j:=by
 rcases h.2 with⟨rfl,_⟩ | ⟨g,cap,cur,rfl,_,hg,_⟩
 ·exact .inl rfl
 ·refine .inr fun e=>?_
  have e':g=j:=by simpa [Value.ownBlock] using e
  subst e'; rw[hg] at hj; cases hj; exact hno cur rfl
theorem Own.row {B:Nat} {v:Value} (h:Own K T B W v xs) (hn:xs≠[]):∃ g cap,v=rowV (some ⟨g,0,none⟩) cap xs∧B≤g∧Row K T W g cap xs:=by
 rcases h.2 with⟨_,h0⟩ | ⟨g,cap,cur,rfl,hb,r⟩
 ·exact absurd (List.eq_nil_of_length_eq_zero h0) hn
 ·exact⟨g,cap,rfl,hb,cur,r⟩
variable {g:Nat}
theorem Row.own {B:Nat} (h:Row K T W g cap xs) (hB:B≤g):Own K T B W (rowV (some ⟨g,0,none⟩) cap xs) xs:=by
 obtain⟨cur,r⟩:=h
 exact⟨flat_length xs,.inr ⟨g,cap,cur,rfl,hB,r⟩⟩
theorem Row.lt (h:Row K T W g cap xs):g<W.heap.size:=by
 obtain⟨cur,hg,_⟩:=h
 rcases Nat.lt_or_ge g W.heap.size with h | h
 ·exact h
 ·rw[Array.getElem?_eq_none h] at hg; cases hg
theorem Row.len (h:Row K T W g cap xs):xs.length≤cap∧cap≤maxLen:=by
 obtain⟨cur,_,h1,h2,_⟩:=h; exact⟨h1,h2⟩
theorem Row.kept (h:Row K T W g cap xs) (hb:Below W.heap.size W W'):Row K T W' g cap xs:=by
 have hl:=h.lt
 obtain⟨cur,hg,r⟩:=h
 exact⟨cur,(hb.block g hl).trans hg,r⟩
theorem Row.cell (h:Row K T W g cap xs) {i:Nat} (hi:i<xs.length) {j:Nat} {u:Value} (hj:(K.enc xs[i])[j]? =some u):W.cell? ⟨g,i * K.c+j,none⟩=some u:=by
 obtain⟨cur,hg,h1,h2,h3,h4⟩:=h
 have f:=flat_get xs i _ (List.getElem?_eq_getElem hi) j u hj
 have hl:i * K.c+j<xs.length * K.c:=by rw[← flat_length]; exact (List.getElem?_eq_some_iff.1 f).1
 rw[← h4,List.getElem?_take_of_lt hl,Array.getElem?_toList] at f
 simp[World.cell?,hg,f]
theorem Row.free (h:Row K T W g cap xs) (o:Nat):W.frozen? ⟨g,o,none⟩=false:=by
 obtain⟨cur,hg,_⟩:=h
 simp[World.frozen?,hg]
theorem Row.lies (h:Row K T W g cap xs):Lies K W (some ⟨g,0,none⟩) cap xs:=
 ⟨h.len.2,h.len.1,fun _=>⟨g,0,rfl,fun i x hi j u hj=>by
   obtain⟨hl,e⟩:=List.getElem?_eq_some_iff.1 hi
   rw[Nat.zero_add]; exact h.cell hl (by rw[e]; exact hj)⟩⟩
def putC (W:World) (g:Nat):Nat→List Value→World
 | _,[]=>W
 | o,u :: us=>putC (W.setCell ⟨g,o,none⟩ u) g (o+1) us
def setC (l:Array Value):Nat→List Value→Array Value
 | _,[]=>l
 | o,u :: us=>setC (l.setIfInBounds o u) (o+1) us
theorem putC_heap (us:List Value):∀ (W:World) (o:Nat) (cur:Array Value),W.heap[g]? =some (.cells cur T (0,0))→(putC W g o us).heap[g]? =some (.cells (setC cur o us) T (0,0)):=by
 induction us with
 | nil=>intro W o cur h; exact h
 | cons u us ih=>intro W o cur h; exact ih _ _ _ (heap_setCell_same _ _ _ _ _ _ h)
theorem setC_size (us:List Value):∀ (o:Nat) (cur:Array Value),(setC cur o us).size=cur.size:=by
 induction us with
 | nil=>intro o cur; rfl
 | cons u us ih=>intro o cur; show (setC (cur.setIfInBounds o u) (o+1) us).size=_; rw[ih]; simp
theorem setC_get (us:List Value):∀ (o:Nat) (cur:Array Value) (m:Nat),(setC cur o us).toList[m]? =if o≤m∧m<o+us.length∧m<cur.size then us[m - o]? else cur.toList[m]? :=by
 induction us with
 | nil=>intro o cur m; rw[if_neg (by simp; omega)]; rfl
 | cons u us ih=>
   intro o cur m
   show (setC (cur.setIfInBounds o u) (o+1) us).toList[m]? =_
   rw[ih,Array.size_setIfInBounds,Array.toList_setIfInBounds,List.length_cons]
   by_cases h0:m=o
   ·subst h0
    rw[if_neg (by omega)]
    by_cases hc:m<cur.size
    ·rw[if_pos ⟨Nat.le_refl _,by omega,hc⟩,List.getElem?_set_self (by simpa using hc)]; simp
    ·rw[if_neg (by omega),List.getElem?_eq_none (by simp; omega),List.getElem?_eq_none (by simp; omega)]
   ·rw[List.getElem?_set_ne (Ne.symm h0)]
    by_cases hc:o+1≤m∧m<o+1+us.length∧m<cur.size
    ·rw[if_pos hc,if_pos (by omega),show m - o=(m - (o+1))+1 by omega,List.getElem?_cons_succ]
    ·rw[if_neg hc,if_neg (by omega)]
theorem flat_set (xs:List α):∀ (i:Nat) (x:α) (m:Nat),i<xs.length→(flat K (xs.set i x))[m]? =if i * K.c≤m∧m<i * K.c+K.c then (K.enc x)[m - i * K.c]? else (flat K xs)[m]? :=by
 induction xs with
 | nil=>intro i x m h; simp at h
 | cons y xs ih=>
   intro i x m hi
   cases i with
   | zero=>
     rw[List.set_cons_zero,flat_cons,flat_cons,Nat.zero_mul,Nat.zero_add,Nat.sub_zero]
     by_cases h:m<K.c
     ·rw[if_pos ⟨Nat.zero_le _,h⟩,List.getElem?_append_left (by rw[K.len]; exact h)]
     ·rw[if_neg (by omega),List.getElem?_append_right (by rw[K.len]; omega),List.getElem?_append_right (by rw[K.len]; omega),K.len,K.len]
   | succ i=>
     rw[List.set_cons_succ,flat_cons,flat_cons,Nat.add_mul,Nat.one_mul]
     by_cases h:m<K.c
     ·rw[List.getElem?_append_left (by rw[K.len]; exact h),List.getElem?_append_left (by rw[K.len]; exact h),if_neg (by omega)]
     ·rw[List.getElem?_append_right (by rw[K.len]; omega),List.getElem?_append_right (by rw[K.len]; omega),K.len,ih i x _ (by simpa using hi)]
      by_cases h2:i * K.c+K.c≤m∧m<i * K.c+K.c+K.c
      ·rw[if_pos (by omega),if_pos h2,show m - K.c - i * K.c=m - (i * K.c+K.c) by omega]
      ·rw[if_neg (by omega),if_neg h2]
theorem Row.put (h:Row K T W g cap xs) {i:Nat} (hi:i<xs.length) (x:α):Row K T (putC W g (i * K.c) (K.enc x)) g cap (xs.set i x):=by
 obtain⟨cur,hg,h1,h2,h3,h4⟩:=h
 have hic:i * K.c+K.c≤xs.length * K.c:=by
  have:=Nat.mul_le_mul_right K.c (show i+1≤xs.length by omega)
  rwa [Nat.add_mul,Nat.one_mul] at this
 have hcc:xs.length * K.c≤cap * K.c:=Nat.mul_le_mul_right _ h1
 refine⟨setC cur (i * K.c) (K.enc x),putC_heap _ _ _ _ hg,by simpa using h1,h2,by rw[setC_size]; exact h3,?_⟩
 apply List.ext_getElem?
 intro m
 rw[flat_set xs i x m hi,List.length_set]
 by_cases hm:m<xs.length * K.c
 ·rw[List.getElem?_take_of_lt hm,setC_get,K.len]
  by_cases hc:i * K.c≤m∧m<i * K.c+K.c
  ·rw[if_pos ⟨hc.1,hc.2,by omega⟩,if_pos hc]
  ·rw[if_neg (by omega),if_neg hc,← h4,List.getElem?_take_of_lt hm]
 ·rw[List.getElem?_eq_none (by simp; omega),if_neg (by omega),List.getElem?_eq_none (by rw[flat_length]; omega)]
theorem Row.put_other (h:Row K T W g cap xs) {a:Addr} (ha:g≠a.block) (v:Value):Row K T (W.setCell a v) g cap xs:=by
 obtain⟨cur,hg,r⟩:=h
 exact⟨cur,(heap_setCell_other _ _ _ _ ha).trans hg,r⟩
theorem Row.cut (h:Row K T W g cap xs) (i:Nat):Row K T W g cap (xs.take i):=by
 obtain⟨cur,hg,h1,h2,h3,h4⟩:=h
 have hl:(xs.take i).length≤xs.length:=by simp; omega
 refine⟨cur,hg,by omega,h2,h3,?_⟩
 have e:flat K (xs.take i)=(flat K xs).take ((xs.take i).length * K.c):=by
  have e1:flat K xs=flat K (xs.take i) ++ flat K (xs.drop i):=by rw[← flat_append,List.take_append_drop]
  rw[e1]
  exact (List.take_left' (flat_length (xs.take i))).symm
 rw[e,← h4,List.take_take]
 congr 1
 exact (Nat.min_eq_left (Nat.mul_le_mul_right _ hl)).symm
theorem below_putC (us:List Value):∀ {B:Nat} {w W:World} (_:Below B w W) {g:Nat} (_:B≤g) (o:Nat),Below B w (putC W g o us):=by
 induction us with
 | nil=>intro B w W h g hg o; exact h
 | cons u us ih=>intro B w W h g hg o; exact ih (h.setCell (p:=⟨g,o,none⟩) hg _) hg _
theorem row_new (W:World) (cs:Array Value) (n:Nat) (xs:List α) (hn:xs.length=n) (hm:n≤maxLen) (hc:cs.toList=flat K xs):Row K T (W.alloc (.cells cs T)) W.heap.size n xs:=by
 have hs:cs.size=n * K.c:=by rw[← Array.length_toList,hc,flat_length,hn]
 exact⟨cs,World.alloc_heap_new W _,by omega,hm,hs,by rw[hn,← hs,← Array.length_toList,List.take_length]; exact hc⟩
theorem made_flat (z:Array Value) (x:α) (hz:z.toList=K.enc x):∀ n:Nat,(madeCells z (n * K.c)).toList=flat K (List.replicate n x):=by
 intro n
 have hzs:z.size=K.c:=by rw[← Array.length_toList,hz,K.len]
 apply List.ext_getElem?
 intro m
 by_cases hm:m<n * K.c
 ·have hr:m % K.c<K.c:=Nat.mod_lt _ K.pos
  have hd:m / K.c<n:=by rw[Nat.div_lt_iff_lt_mul K.pos]; exact hm
  have hx:(K.enc x)[m % K.c]? =some ((K.enc x)[m % K.c]'(by rw[K.len]; exact hr)):=List.getElem?_eq_getElem _
  have f:=flat_get (K:=K) (List.replicate n x) (m / K.c) x (by simp[hd]) (m % K.c) _ hx
  have ed:m / K.c * K.c+m % K.c=m:=by rw[Nat.mul_comm]; exact Nat.div_add_mod m K.c
  rw[ed] at f
  rw[f,← hx,← hz]
  unfold madeCells
  simp[hm,hzs,hr]
 ·rw[List.getElem?_eq_none (by unfold madeCells; simp; omega),List.getElem?_eq_none (by rw[flat_length]; simp; omega)]
end
section
variable {α:Type} {K:Kind α} {P:Program} {S T:TypeId} {bytes:Nat} {z:Value}
theorem wpList_more (hu:P.underlying S=some (.slice T)) (hinfo:(P.info? T).map (fun i=>(i.zero,i.size,i.bytes))=some (some z,K.c,bytes)) (hz:z.cells.size=K.c)
 {w:World} {ops:Array Oper} {rest:List Oper} {o:Oper} {a:Act} {Q:Exit→Act→World→Prop} (hgd:o.guard=none) (s x:Operand)
 (ho:o.op=.call { callee:=.builtin .append,args:=#[s,x],argTypes:=#[S,S] }) (B g:Nat) (xs:List α) (y:α) (v:Value) (hs:a.eval s=v) (hx:a.eval x=.slice (some ⟨g,0,none⟩) 1 1)
 (hown:Own K T B w v xs) (hy:∀ j u,(K.enc y)[j]? =some u→w.cell? ⟨g,j,none⟩=some u) (hm:xs.length+1≤maxLen) (hl:(xs.length+1) * bytes≤140737488355328) (hB:B≤w.heap.size)
 (h:∀ v' w',Hid (Own K T B w' v' (xs ++ [y]))→Hid (Below B w w')→wpList P ops Q rest (a.put o.dst v') w'):wpList P ops Q (o :: rest) a w:=by
 obtain⟨i0,hi,hz0,hz1,hz2⟩:=info_parts hinfo
 refine wpList_append_own _ hgd s x S ho B T i0 z K.c bytes hu hi hz0 hz1 hz2 hz K.pos v xs.length (flat K xs) hs hown ⟨g,0,none⟩ 1 1 (K.enc y) hx ?c0 ?c1 ?c2 hm hl hB ?_
 case c0=>rw[K.len,Nat.one_mul]
 case c1=>intro j u hj; rw[add_at,Nat.zero_add]; exact hy j u hj
 case c2=>exact K.one y
 intro v' w' h1 h2 _
 refine h v' w' ?_ ?_
 ·show Own K T B w' v' (xs ++ [y])
  unfold Own
  rw[flat_more,List.length_append]
  exact h1
 ·exact (Below.refl B w).grown h2 hB (fun k hk=>(World.ownsRow.lt hown k hk).1)
theorem wpList_join (hu:P.underlying S=some (.slice T)) (hinfo:(P.info? T).map (fun i=>(i.zero,i.size,i.bytes))=some (some z,K.c,bytes)) (hz:z.cells.size=K.c)
 {w:World} {ops:Array Oper} {rest:List Oper} {o:Oper} {a:Act} {Q:Exit→Act→World→Prop} (hgd:o.guard=none) (s x:Operand)
 (ho:o.op=.call { callee:=.builtin .append,args:=#[s,x],argTypes:=#[S,S] }) (B:Nat) (xs ys:List α) (v:Value) (b off c:Nat) (hs:a.eval s=v) (hx:a.eval x=.slice (some ⟨b,off,none⟩) ys.length c)
 (hown:Own K T B w v xs) (hy:Lies K w (some ⟨b,off,none⟩) c ys) (hm:xs.length+ys.length≤maxLen) (hl:(xs.length+ys.length) * bytes≤140737488355328) (hB:B≤w.heap.size)
 (h:∀ v' w',Hid (Own K T B w' v' (xs ++ ys))→Hid (Below B w w')→wpList P ops Q rest (a.put o.dst v') w'):wpList P ops Q (o :: rest) a w:=by
 obtain⟨i0,hi,hz0,hz1,hz2⟩:=info_parts hinfo
 refine wpList_append_own _ hgd s x S ho B T i0 z K.c bytes hu hi hz0 hz1 hz2 hz K.pos v xs.length (flat K xs) hs hown ⟨b,off,none⟩ ys.length c (flat K ys) hx ?c0 ?c1 ?c2 hm hl hB ?_
 case c0=>exact flat_length ys
 case c1=>intro j u hj; rw[Addr.add_lit]; exact flat_lies hy j u hj
 case c2=>exact flat_one ys
 intro v' w' h1 h2 _
 refine h v' w' ?_ ?_
 ·show Own K T B w' v' (xs ++ ys)
  unfold Own
  rw[flat_append,List.length_append]
  exact h1
 ·exact (Below.refl B w).grown h2 hB (fun k hk=>(World.ownsRow.lt hown k hk).1)
end
end Go.Proofs.YtbamodkgagcmnaaGreat.RowG
namespace Go.Proofs.YtbamodkgagcmnaaGreat.RowG
open Go.RowKit Go.Shelf Go.WideShapes Go.ChangeShapes Go.Deep
section
variable {α:Type} {K:Kind α} {Ok:α→Prop} {P:Program} {H:Type} {enc:TypeId × Value→H} {w:World} {base:Nat} {spare:Nat→Bool} {held:Bool} {t e:TypeId}
theorem open_rows [Inhabited α] (ht:P.underlying t=some (.slice e)) (he:P.cellsOf e=K.c) (hel:∀ n cs x,DataW.trod enc P w base spare held n e cs=some x→∃ y:α,cs=K.enc y∧Ok y)
 {r:Reach} {b0:Nat} {v:Value} {d:DataW H} {ps:List MemPlace} (hv:Value.okWide P w r b0 t v) (h:DataW.Trod enc P w base spare held t v d ps):
 ∃ (a:Option Addr) (cap:Nat) (xs:List α),v=rowV a cap xs∧Lies K w a cap xs∧∀ x ∈ xs,Ok x:=by
 obtain⟨a,len,cap,rfl⟩:=okWide_slice ht hv
 obtain⟨fuel,hf⟩:=h
 rcases open_slice ht hf with⟨hc,_⟩ | ⟨ad,l,c,m,n,D,Pl,hc,_,hl,hm,hmm,_,hall⟩
 ·simp[Value.cells] at hc
  obtain⟨rfl,rfl,rfl⟩:=hc
  exact⟨none,0,[],rfl,lies_nil w,fun x hx=>by cases hx⟩
 ·simp[Value.cells] at hc
  obtain⟨rfl,rfl,rfl⟩:=hc
  have hlm:len≤m:=by rw[hmm]; split <;> omega
  have each:∀ i,i<len→∃ x:α,w.cells? base (ad.add (i * K.c)) K.c=some (K.enc x)∧Ok x:=by
   intro i hi
   obtain⟨cs,h1,h2⟩:=hall i (by omega)
   obtain⟨y,rfl,ho⟩:=hel n cs _ h2
   rw[he] at h1
   exact⟨y,h1,ho⟩
  obtain⟨q,hq⟩:=choose_lt each
  refine⟨some ad,cap,(List.range len).map q,by simp[rowV],⟨hm,by simpa using hl,fun hne=>?_⟩,?_⟩
  ·have hpos:0<len:=by
    cases len with
    | zero=>simp at hne
    | succ k=>omega
   have cell:∀ i,i<len→∀ j,j<K.c→w.cell? ((ad.add (i * K.c)).add j)=(K.enc (q i))[j]? :=fun i hi j hj=>by
    obtain⟨_,hlen,hcell⟩:=World.cells?_some (hq i hi).1
    exact hcell j hj
   obtain⟨b,off,spot⟩:=ad
   have hspot:spot=none:=by
    have h0:=cell 0 hpos 0 K.pos
    rw[List.getElem?_eq_getElem (by rw[K.len]; exact K.pos)] at h0
    simpa [Addr.add] using World.cell?_spot h0
   subst hspot
   refine⟨b,off,rfl,fun i x hi j u hj=>?_⟩
   rw[List.getElem?_map] at hi
   cases hr:(List.range len)[i]? with
   | none=>rw[hr] at hi; cases hi
   | some k=>
     rw[hr] at hi
     obtain⟨hlt,hk⟩:=List.getElem?_eq_some_iff.1 hr
     rw[List.getElem_range] at hk
     subst hk
     simp at hi
     subst hi
     have hlt':i<len:=by simpa using hlt
     have hjl:j<K.c:=by rw[← K.len (q i)]; exact (List.getElem?_eq_some_iff.1 hj).1
     have:=cell i hlt' j hjl
     rw[Addr.add_lit,Addr.add_lit,hj] at this
     exact this
  ·intro x hx
   obtain⟨i,hi,rfl⟩:=List.mem_map.1 hx
   exact (hq i (List.mem_range.1 hi)).2
end
instance :Inhabited Tab.Ent:=⟨Tab.ent0⟩
def entK:Kind Tab.Ent:=⟨4,fun x=>[.int .i64 x.st,.string x.key,.int .i64 x.be,.int .i64 x.dl],by decide,fun _=>rfl,fun x u hu=>by
 simp at hu; rcases hu with rfl | rfl | rfl | rfl <;> rfl⟩
structure EntOk (x:Tab.Ent):Prop where
 st:(Lit.int .i64 x.st).wf=true
 key:x.key.size≤maxLen
 be:(Lit.int .i64 x.be).wf=true
 dl:(Lit.int .i64 x.dl).wf=true
section
variable {P:Program} {H:Type} {enc:TypeId × Value→H} {w:World} {base:Nat} {spare:Nat→Bool} {held:Bool} {e ti ts:TypeId} {f0 f1 f2 f3:Field}
theorem Lies.ent {W:World} {a:Option Addr} {cap:Nat} {T:List Tab.Ent} (h:Lies entK W a cap T) {k:Nat} (hk:k<T.length):
 ∃ b off,a=some ⟨b,off,none⟩∧W.cell? ⟨b,off+k * 4,none⟩=some (.int .i64 T[k].st)∧W.cell? ⟨b,off+k * 4+1,none⟩=some (.string T[k].key)∧W.cell? ⟨b,off+k * 4+2,none⟩=some (.int .i64 T[k].be)∧W.cell? ⟨b,off+k * 4+3,none⟩=some (.int .i64 T[k].dl):=by
 obtain⟨b,off,e,hc⟩:=h.at hk
 exact⟨b,off,e,hc 0 _ rfl,hc 1 _ rfl,hc 2 _ rfl,hc 3 _ rfl⟩
def put4 (W:World) (g i:Nat) (x:Tab.Ent):World:=(((W.setCell ⟨g,i * 4,none⟩ (.int .i64 x.st)).setCell ⟨g,i * 4+1,none⟩ (.string x.key)).setCell ⟨g,i * 4+2,none⟩ (.int .i64 x.be)).setCell ⟨g,i * 4+3,none⟩ (.int .i64 x.dl)
theorem Row.put4 {Ty:TypeId} {W:World} {g cap:Nat} {T:List Tab.Ent} (h:Row entK Ty W g cap T) {i:Nat} (hi:i<T.length) (x:Tab.Ent):Row entK Ty (put4 W g i x) g cap (T.set i x):=h.put hi x
theorem below_put4 {B:Nat} {w W:World} (h:Below B w W) {g:Nat} (hg:B≤g) (i:Nat) (x:Tab.Ent):Below B w (put4 W g i x):=below_putC (entK.enc x) h hg (i * 4)
theorem Row.ent {Ty:TypeId} {W:World} {g cap:Nat} {T:List Tab.Ent} (h:Row entK Ty W g cap T) {k:Nat} (hk:k<T.length):
 W.cell? ⟨g,k * 4,none⟩=some (.int .i64 T[k].st)∧W.cell? ⟨g,k * 4+1,none⟩=some (.string T[k].key)∧W.cell? ⟨g,k * 4+2,none⟩=some (.int .i64 T[k].be)∧W.cell? ⟨g,k * 4+3,none⟩=some (.int .i64 T[k].dl):=
 ⟨h.cell hk (j:=0) rfl,h.cell hk (j:=1) rfl,h.cell hk (j:=2) rfl,h.cell hk (j:=3) rfl⟩
end
end Go.Proofs.YtbamodkgagcmnaaGreat.RowG
namespace Go.Proofs.YtbamodkgagcmnaaGreat.Ste
open Go.ChangeShapes Go.WideShapes Go.RowKit RowG
variable {H:Type} {enc:TypeId × Value→H} {w:World} {base:Nat} {spare:Nat→Bool} {held:Bool}
theorem laidOut:laidOutB Tryz.prog=true:=by kernel_rfl
theorem int_size:Tryz.prog.cellsOf 3=1:=by kernel_rfl
theorem str_size:Tryz.prog.cellsOf 9=1:=by kernel_rfl
theorem info_ent:(Tryz.prog.info? 66).map (fun i=>(i.zero,i.size,i.bytes))=some (some (.agg #[.int .i64 0,.string ⟨#[]⟩,.int .i64 0,.int .i64 0]),entK.c,40):=by kernel_rfl
end Go.Proofs.YtbamodkgagcmnaaGreat.Ste
namespace Go.Proofs.YtbamodkgagcmnaaGreat.Ste
open Go.RowKit Go.Shelf Go.WideShapes RowG Tab
abbrev zeroC:Array Value:=#[.int .i64 0,.string ⟨#[]⟩,.int .i64 0,.int .i64 0]
theorem run_new (n:Nat) (hn:n≤1000000000) (W:World):(Instr.makeSlice 50 (.int .i64 (n:Int)) (.int .i64 (n:Int))).run Tryz.prog W=.ok (.slice (some ⟨W.heap.size,0,none⟩) n n) (W.alloc (.cells (madeCells zeroC (n * 4)) 66)):=by
 obtain⟨i0,hi,hz0,hz1,hz2⟩:=info_parts info_ent
 have:=run_make (P:=Tryz.prog) W 50 66 i0 (.agg zeroC) Tryz.underlying50 hi hz0 .i64 .i64 n n (by omega) (Int.le_refl _) (by rw[hz2]; omega) (by omega)
 rw[hz1,show entK.c=4 from rfl,show (Value.agg zeroC).cells=zeroC from rfl] at this
 simpa using this
theorem row_new (w:World) (n:Nat) (h:n≤maxLen):Row entK 66 (w.alloc (.cells (madeCells zeroC (n * 4)) 66)) w.heap.size n (List.replicate n ent0):=
 ⟨_,World.alloc_heap_new w _,by simp,h,by simp[madeCells]; rfl,by
   rw[show n * 4=n * entK.c from rfl,made_flat (K:=entK) zeroC ent0 rfl,List.take_of_length_le (by rw[flat_length]; simp)]⟩
end Go.Proofs.YtbamodkgagcmnaaGreat.Ste
