/-
  Package model: what New makes as one thing in memory: its block, its shards' row, the pool and the tables that they name; has, at.
-/
import Derived.Test.YtbamodkgagcmnaaGreatTrnE
import Derived.Test.YtbamodkgagcmnaaGreatBTabE
import Derived.Test.YtbamodkgagcmnaaGreatBPolE
import Derived.WalkMore
import Derived.BigQuiet
import Derived.WalkSmall
import Derived.Lib.Hide
import Derived.RangeFuncNested
import Derived.RangeFuncBound
import Derived.RangeFuncCalls
import Derived.RangeFuncLeaves
import Derived.Shelf.Abstract
import Derived.Shelf.RegionOpen
import Derived.WalkKit
import Derived.OwnWalkIn
import Derived.TacticsInMore
import Derived.LoopNIn
import Derived.LoopIn
import Derived.BigRegionIn
import Derived.Laws.BitsAllLaws
import Derived.Test.YtbamodkgagcmnaaGreatProg
set_option maxRecDepth 100000
namespace Go.Proofs.YtbamodkgagcmnaaGreat.Mdl
open Go.RowKit Go.Shelf RowG Trn
open Pol (polV)
open Go.Proofs.YtbamodkgagcmnaaGreat.Mod (Bk Mo)
attribute [local go_sem] Oper.semAt_some
structure ShM where
 p:Option Addr
 c:Nat
 T:List Tab.Ent
 n:Nat
instance :Inhabited ShM:=⟨⟨none,0,[],0⟩⟩
abbrev shV (x:ShM):Value:=.agg #[rowV x.p x.c x.T,.int .i64 (x.n:Nat)]
def shK:Kind ShM:=⟨2,fun x=>[rowV x.p x.c x.T,.int .i64 (x.n:Nat)],by decide,fun _=>rfl,fun x u hu=>by
 simp at hu; rcases hu with rfl | rfl <;> rfl⟩
structure ShM.Good (W:World) (x:ShM):Prop where
 lies:Lies entK W x.p x.c x.T
 len:x.T.length≤64
 keys:∀ y ∈ x.T,y.key.size≤60
 small:x.n≤64
theorem ShM.Good.kept {W W':World} {x:ShM} (h:x.Good W) (hb:Below W.heap.size W W'):x.Good W':=⟨h.lies.kept hb,h.len,h.keys,h.small⟩
structure Foot where
 p:Nat
 g:Nat
def Foot.has (f:Foot) (k:Nat):Prop:=k=f.p∨k=f.g
def Foot.from' (f:Foot) (B:Nat):Prop:=B≤f.p∧B≤f.g
abbrev Foot.v (f:Foot):Value:=.pointer (some ⟨f.p,0,none⟩)
abbrev boxC (idle:Int) (pa:Option Addr) (pc:Nat) (P:List Bk) (g n sc:Nat):Array Value:=#[.int .i64 idle,polV pa pc P,.slice (some ⟨g,0,none⟩) n sc]
structure Lay (W:World) (f:Foot) (idle:Int) (pa:Option Addr) (pc:Nat) (P:List Bk) (sc:Nat) (m:List ShM):Prop where
 box:W.heap[f.p]? =some (.cells (boxC idle pa pc P f.g m.length sc) 89 (0,0))
 row:Row shK 92 W f.g sc m
 even:∀ k v,W.cell? ⟨f.g,2 * k,none⟩=some v→∃ a n c,v=.slice a n c
 odd:∀ k v,W.cell? ⟨f.g,2 * k+1,none⟩=some v→∃ n,v=.int .i64 n
 pool:Pol.Lies W pa pc P
 few:P.length≤32
 good:∀ x ∈ m,x.Good W
 many:m.length≤16
 ne:f.p≠f.g
def plain (P:List Bk) (m:List ShM):Mo:=⟨P,m.map (·.T),m.map (·.n)⟩
def Held (W:World) (f:Foot) (idle:Int) (mo:Mo):Prop:=∃ pa pc P sc m,mo=plain P m∧Lay W f idle pa pc P sc m
section
variable {W W':World} {f:Foot} {idle:Int} {pa:Option Addr} {pc:Nat} {P:List Bk} {sc:Nat} {m:List ShM} {mo:Mo}
theorem Lay.kept (h:Lay W f idle pa pc P sc m) (hb:Below W.heap.size W W'):Lay W' f idle pa pc P sc m:=by
 have hlt:=h.row.lt
 have e:W'.heap[f.g]? =W.heap[f.g]? :=hb.block f.g hlt
 have cell:∀ k,W'.cell? ⟨f.g,k,none⟩=W.cell? ⟨f.g,k,none⟩:=fun k=>World.cell?_of_block (w:=W) e
 exact⟨(hb.block f.p (heap_lt h.box)).trans h.box,h.row.kept hb,fun k v hv=>h.even k v (by rwa [cell] at hv),fun k v hv=>h.odd k v (by rwa [cell] at hv),h.pool.kept hb,h.few,fun x hx=>(h.good x hx).kept hb,h.many,h.ne⟩
theorem Held.kept (h:Held W f idle mo) (hb:Below W.heap.size W W'):Held W' f idle mo:=by
 obtain⟨pa,pc,P,sc,m,e,hl⟩:=h
 exact⟨pa,pc,P,sc,m,e,hl.kept hb⟩
theorem Held.beside {S:Nat→Prop} (h:Held W f idle mo) (ht:Turned S W W') (hs:∀ k,k<W.heap.size→¬ S k):Held W' f idle mo:=
 h.kept ⟨ht.os,ht.tape,ht.output,ht.size,fun k hk=>ht.rest k hk (hs k hk)⟩
theorem Lay.tab_apart (h:Lay W f idle pa pc P sc m) {a:Option Addr} {cap:Nat} {T:List Tab.Ent} (hl:Lies entK W a cap T) (hn:T≠[]) (b off:Nat) (e:a=some ⟨b,off,none⟩):¬ f.has b:=by
 obtain⟨b',off',e',hc⟩:=hl.cell hn
 rw[e] at e'; cases e'
 cases T with
 | nil=>exact absurd rfl hn
 | cons y T=>
   have c1:W.cell? ⟨b,off+1,none⟩=some (.string y.key):=by
    have:=hc 0 y rfl 1 (.string y.key) rfl
    simpa using this
   rintro (rfl | rfl)
   ·have hb:=h.box
    simp[World.cell?,hb] at c1
    match off,c1 with
    | 0,c1=>simp at c1
    | 1,c1=>simp at c1
    | (n+2),c1=>simp at c1
   ·rcases Nat.mod_two_eq_zero_or_one (off+1) with h2 | h2
    ·obtain⟨a,n,c,e⟩:=h.even ((off+1) / 2) (.string y.key) (by rw[show 2 * ((off+1) / 2)=off+1 by omega]; exact c1)
     cases e
    ·obtain⟨n,e⟩:=h.odd ((off+1) / 2) (.string y.key) (by rw[show 2 * ((off+1) / 2)+1=off+1 by omega]; exact c1)
     cases e
theorem Lay.pool_apart (h:Lay W f idle pa pc P sc m) {a:Option Addr} {cap:Nat} {z:List Bk} (hl:Pol.Lies W a cap z) (hn:z≠[]) (b off:Nat) (e:a=some ⟨b,off,none⟩):¬ f.has b:=by
 obtain⟨b',off',e',hc⟩:=hl.cell hn
 rw[e] at e'; cases e'
 cases z with
 | nil=>exact absurd rfl hn
 | cons y z=>
   obtain⟨c0,c1⟩:=hc 0 y rfl
   rw[Nat.zero_mul,Nat.add_zero] at c0 c1
   rintro (rfl | rfl)
   ·have hb:=h.box
    simp[World.cell?,hb] at c0 c1
    match off,c0,c1 with
    | 0,c0,c1=>simp at c1
    | 1,c0,c1=>simp at c0
    | 2,c0,c1=>simp at c0
    | (n+3),c0,c1=>simp at c0
   ·rcases Nat.mod_two_eq_zero_or_one off with h2 | h2
    ·obtain⟨a,n,c,e⟩:=h.even (off / 2) _ (by rw[show 2 * (off / 2)=off by omega]; exact c0)
     cases e
    ·obtain⟨a,n,c,e⟩:=h.even ((off+1) / 2) _ (by rw[show 2 * ((off+1) / 2)=off+1 by omega]; exact c1)
     cases e
theorem pol_turned {S:Nat→Prop} {a:Option Addr} {cap:Nat} {xs:List Bk} (h:Turned S W W') (hl:Pol.Lies W a cap xs) (ha:xs≠[]→∀ b off,a=some ⟨b,off,none⟩→¬ S b):Pol.Lies W' a cap xs:=
 ⟨hl.max,hl.len,fun hn=>by
   obtain⟨b,off,e,hc⟩:=hl.cell hn
   refine⟨b,off,e,fun i x hi=>?_⟩
   obtain⟨c0,c1⟩:=hc i x hi
   exact⟨h.cell c0 (ha hn b off e),h.cell c1 (ha hn b off e)⟩⟩
theorem ShM.Good.turned {x:ShM} (hx:x.Good W) (h:Lay W f idle pa pc P sc m) (ht:Turned f.has W W'):x.Good W':=
 ⟨ht.lies hx.lies fun hn b off e=>h.tab_apart hx.lies hn b off e,hx.len,hx.keys,hx.small⟩
theorem Lay.cells (h:Lay W f idle pa pc P sc m):(W.cell? ⟨f.p,0,none⟩=some (.int .i64 idle)∧W.cell? ⟨f.p,1,none⟩=some (polV pa pc P)∧W.cell? ⟨f.p,2,none⟩=some (.slice (some ⟨f.g,0,none⟩) m.length sc))∧(W.frozen? ⟨f.p,0,none⟩=false∧W.frozen? ⟨f.p,1,none⟩=false∧W.frozen? ⟨f.p,2,none⟩=false):=box3_cells h.box
theorem Lay.shard (h:Lay W f idle pa pc P sc m) {k:Nat} (hk:k<m.length):(W.cell? ⟨f.g,k * 2,none⟩=some (rowV m[k].p m[k].c m[k].T)∧W.cell? ⟨f.g,k * 2+1,none⟩=some (.int .i64 (m[k].n:Nat)))∧∀ o,W.frozen? ⟨f.g,o,none⟩=false:=
 ⟨⟨h.row.cell hk (j:=0) (u:=rowV m[k].p m[k].c m[k].T) rfl,h.row.cell hk (j:=1) (u:=.int .i64 (m[k].n:Nat)) rfl⟩,fun o=>h.row.free o⟩
def putW (W:World) (g k:Nat) (x:ShM):World:=(W.setCell ⟨g,k * 2,none⟩ (rowV x.p x.c x.T)).setCell ⟨g,k * 2+1,none⟩ (.int .i64 (x.n:Nat))
theorem putW_turned (W:World) (f:Foot) (k:Nat) (x:ShM):Turned f.has W (putW W f.g k x):=((Turned.refl f.has W).setCell (a:=⟨f.g,k * 2,none⟩) (.inr rfl) _).setCell (a:=⟨f.g,k * 2+1,none⟩) (.inr rfl) _
theorem cell_set {W:World} {b:Nat} {cs:Array Value} {t:TypeId} (hg:W.heap[b]? =some (.cells cs t (0,0))) (i j:Nat) (v u:Value) (h:(W.setCell ⟨b,i,none⟩ v).cell? ⟨b,j,none⟩=some u):(j=i∧u=v)∨W.cell? ⟨b,j,none⟩=some u:=by
 have h1:=heap_setCell_same W b i cs t v hg
 simp only[World.cell?,h1] at h
 by_cases e:j=i
 ·subst e
  left
  refine⟨rfl,?_⟩
  by_cases hl:j<cs.size
  ·simp[hl] at h
   exact h.symm
  ·simp[hl] at h
 ·right
  rw[Array.getElem?_setIfInBounds_ne (fun e'=>e e'.symm)] at h
  simpa [World.cell?,hg] using h
theorem Lay.put (h:Lay W f idle pa pc P sc m) {k:Nat} (hk:k<m.length) {x:ShM} (hx:x.Good W):Lay (putW W f.g k x) f idle pa pc P sc (m.set k x):=by
 have ht:=putW_turned W f k x
 have eb:(putW W f.g k x).heap[f.p]? =W.heap[f.p]? :=by
  unfold putW
  rw[heap_setCell_other _ ⟨f.g,k * 2+1,none⟩ f.p _ h.ne,heap_setCell_other _ ⟨f.g,k * 2,none⟩ f.p _ h.ne]
 obtain⟨cur,hg,-⟩:=h.row
 have hg2:=heap_setCell_same W f.g (k * 2) cur _ (rowV x.p x.c x.T) hg
 refine⟨?_,h.row.put hk x,fun j v hv=>?_,fun j v hv=>?_,pol_turned ht h.pool fun hn b off e=>h.pool_apart h.pool hn b off e,h.few,fun y hy=>?_,by simpa using h.many,h.ne⟩
 ·rw[eb,h.box,List.length_set]
 ·unfold putW at hv
  rcases cell_set hg2 _ _ _ _ hv with⟨e,rfl⟩ | hv
  ·omega
  ·rcases cell_set hg _ _ _ _ hv with⟨e,rfl⟩ | hv
   ·exact⟨_,_,_,rfl⟩
   ·exact h.even j v hv
 ·unfold putW at hv
  rcases cell_set hg2 _ _ _ _ hv with⟨e,rfl⟩ | hv
  ·exact⟨_,rfl⟩
  ·rcases cell_set hg _ _ _ _ hv with⟨e,rfl⟩ | hv
   ·omega
   ·exact h.odd j v hv
 ·rcases List.mem_or_eq_of_mem_set hy with hy | rfl
  ·exact (h.good y hy).turned h ht
  ·exact hx.turned h ht
theorem Lay.pools (h:Lay W f idle pa pc P sc m) {pa':Option Addr} {pc':Nat} {P':List Bk} (hp:Pol.Lies W pa' pc' P') (hl:P'.length≤32):Lay (W.setCell ⟨f.p,1,none⟩ (polV pa' pc' P')) f idle pa' pc' P' sc m∧Turned f.has W (W.setCell ⟨f.p,1,none⟩ (polV pa' pc' P')):=by
 have ht:Turned f.has W (W.setCell ⟨f.p,1,none⟩ (polV pa' pc' P')):=(Turned.refl f.has W).setCell (a:=⟨f.p,1,none⟩) (.inl rfl) _
 have e:(W.setCell ⟨f.p,1,none⟩ (polV pa' pc' P')).heap[f.g]? =W.heap[f.g]? :=heap_setCell_other _ ⟨f.p,1,none⟩ f.g _ (Ne.symm h.ne)
 have cell:∀ k,(W.setCell ⟨f.p,1,none⟩ (polV pa' pc' P')).cell? ⟨f.g,k,none⟩=W.cell? ⟨f.g,k,none⟩:=fun k=>World.cell?_of_block (w:=W) e
 refine⟨⟨?_,row_turned h.row e,fun k v hv=>h.even k v (by rwa [cell] at hv),fun k v hv=>h.odd k v (by rwa [cell] at hv),pol_turned ht hp fun hn b off e=>h.pool_apart hp hn b off e,hl,fun x hx=>(h.good x hx).turned h ht,h.many,h.ne⟩,ht⟩
 have:=heap_setCell_same _ f.p 1 _ _ (polV pa' pc' P') h.box
 simpa using this
end
end Go.Proofs.YtbamodkgagcmnaaGreat.Mdl
set_option maxRecDepth 100000
namespace Go.Proofs.YtbamodkgagcmnaaGreat.Mod
open Go.RowKit Go.Shelf Go.WideShapes RowG Trn
attribute [local go_sem] Oper.semAt_some
abbrev ansV (x:Ans):Value:=.agg #[.int .i64 x.err,.int .i64 x.backend,.bool x.made,.int .i64 x.count]
abbrev ansC (x:Ans):Array Value:=#[.int .i64 x.err,.int .i64 x.backend,.bool x.made,.int .i64 x.count]
def AnsBox (W:World) (g:Nat) (x:Ans):Prop:=W.heap[g]? =some (.cells (ansC x) 39 (0,0))
def putAns (W:World) (g:Nat) (x:Ans):World:=(((W.setCell ⟨g,0,none⟩ (.int .i64 x.err)).setCell ⟨g,1,none⟩ (.int .i64 x.backend)).setCell ⟨g,2,none⟩ (.bool x.made)).setCell ⟨g,3,none⟩ (.int .i64 x.count)
theorem AnsBox.cells {W:World} {g:Nat} {x:Ans} (h:AnsBox W g x):(W.cell? ⟨g,0,none⟩=some (.int .i64 x.err)∧W.cell? ⟨g,1,none⟩=some (.int .i64 x.backend)∧W.cell? ⟨g,2,none⟩=some (.bool x.made)∧W.cell? ⟨g,3,none⟩=some (.int .i64 x.count))∧(∀ o,W.frozen? ⟨g,o,none⟩=false):=by
 unfold AnsBox at h
 refine⟨⟨?_,?_,?_,?_⟩,fun o=>?_⟩ <;> simp[World.cell?,World.frozen?,h]
theorem AnsBox.put {W:World} {g:Nat} {x:Ans} (h:AnsBox W g x) (y:Ans):AnsBox (putAns W g y) g y:=by
 have h1:=heap_setCell_same _ g 0 _ _ (.int .i64 y.err) h
 have h2:=heap_setCell_same _ g 1 _ _ (.int .i64 y.backend) h1
 have h3:=heap_setCell_same _ g 2 _ _ (.bool y.made) h2
 have h4:=heap_setCell_same _ g 3 _ _ (.int .i64 y.count) h3
 exact h4
theorem AnsBox.kept {W W':World} {g:Nat} {x:Ans} (h:AnsBox W g x) (hb:Below W.heap.size W W'):AnsBox W' g x:=(hb.block g (heap_lt h)).trans h
theorem putAns_turned (W:World) (g:Nat) (y:Ans):Turned (fun k=>k=g) W (putAns W g y):=
 ((((Turned.refl (fun k=>k=g) W).setCell (a:=⟨g,0,none⟩) rfl _).setCell (a:=⟨g,1,none⟩) rfl _).setCell (a:=⟨g,2,none⟩) rfl _).setCell (a:=⟨g,3,none⟩) rfl _
def TabIs (W:World) (v:Value) (T:List Tab.Ent):Prop:=∃ a cap,v=rowV a cap T∧Lies entK W a cap T
theorem TabIs.kept {W W':World} {v:Value} {T:List Tab.Ent} (h:TabIs W v T) (hb:Below W.heap.size W W'):TabIs W' v T:=by
 obtain⟨a,cap,e,hl⟩:=h
 exact⟨a,cap,e,hl.kept hb⟩
theorem tab_apart {W:World} {g:Nat} {x:Ans} (h:AnsBox W g x) {a:Option Addr} {cap:Nat} {T:List Tab.Ent} (hl:Lies entK W a cap T) (hn:T≠[]) (b off:Nat) (e:a=some ⟨b,off,none⟩):b≠g:=by
 intro hb
 obtain⟨b',off',e',hc⟩:=hl.cell hn
 rw[e] at e'; cases e'
 subst hb
 cases T with
 | nil=>exact hn rfl
 | cons y T=>
   have c1:=hc 0 y rfl 1 _ rfl
   unfold AnsBox at h
   simp[World.cell?,h] at c1
   match off,c1 with
   | 0,c1=>simp at c1
   | 1,c1=>simp at c1
   | 2,c1=>simp at c1
   | (n+3),c1=>simp at c1
theorem TabIs.turned {W:World} {g:Nat} {x:Ans} {v:Value} {T:List Tab.Ent} (h:TabIs W v T) (hx:AnsBox W g x) (y:Ans):TabIs (putAns W g y) v T:=by
 obtain⟨a,cap,e,hl⟩:=h
 exact⟨a,cap,e,(putAns_turned W g y).lies hl fun hn b off e=>tab_apart hx hl hn b off e⟩
def Deals (r:List Tab.Ent × Ans) (w:World) (e:Ending) (W':World):Prop:=∃ v,e=.returned (.tuple #[v,ansV r.2])∧TabIs W' v r.1∧Below w.heap.size w W'
theorem Deals.of {w W:World} {g:Nat} {x:Ans} {v:Value} {r:List Tab.Ent × Ans} {T:List Tab.Ent} {y:Ans} (he:r=(T,y)) (hg:w.heap.size≤g) (hb:Below w.heap.size w W) (hx:AnsBox W g x) (hv:TabIs W v T):Deals r w (.returned (.tuple #[v,ansV y])) (putAns W g y):=by
 subst he
 exact⟨v,rfl,hv.turned hx y,(putAns_turned W g y).below hb hb.size fun k hk=>by subst hk; exact hg⟩
def shardZ (s:Nat) (n:Int):Int:=if n<1 then 0 else ((s / 4294967296 % n.toNat:Nat):Int)
set_option maxHeartbeats 400000 in
theorem refShard_any (k:ByteArray) (s:Nat) (hs:s<18446744073709551616) (n:Int) (hn:(Lit.int .i64 n).wf=true) (w:World) (hS:Calls Tryz.prog 62 #[.string k] w fun e W'=>e=.returned (.int .u64 (s:Nat))∧w=W'):
 Calls Tryz.prog 27 #[.string k,.int .i64 n] w fun e W'=>e=.returned (.int .i64 (shardZ s n))∧W'=w:=by
 have hr: -9223372036854775808≤n∧n≤9223372036854775807:=by simpa [Lit.wf,IntKind.min,IntKind.max,IntKind.signed,IntKind.bits] using hn
 have HS:=Lib.hid hS
 clear hn hS
 by_cases h1:n<1
 ·have d1:decide (n<1)=true:=decide_eq_true h1
  have HV:=Lib.hid (show shardZ s n=0 from if_pos h1)
  go_enter Tryz.func27,Tryz.ntmps27
  go_wp2_with fail
  go_ret
  exact⟨by rw[HV.out]; rfl,rfl⟩
 ·have d1:decide (n<1)=false:=decide_eq_false h1
  obtain⟨m,rfl⟩:=Int.eq_ofNat_of_zero_le (show 0≤n by omega)
  have HV:=Lib.hid (show shardZ s (m:Int)=((s / 4294967296 % m:Nat):Int) by unfold shardZ; rw[if_neg h1,Int.toNat_natCast])
  obtain⟨q,hq⟩:∃ q,s / 4294967296=q:=⟨_,rfl⟩
  obtain⟨r,hrm⟩:∃ r,q % m=r:=⟨_,rfl⟩
  have hql:q<4294967296:=by omega
  have hrl:r<m:=by rw[← hrm]; exact Nat.mod_lt _ (by omega)
  have e1:(s:Int).tdiv 4294967296=(q:Int):=by rw[← hq]; rfl
  have e2:(q:Int).tmod (m:Int)=(r:Int):=by rw[← hrm]; rfl
  have e3:IntKind.u64.wrap (q:Int)=(q:Int):=by rw[IntKind.wrap_u64]; omega
  have e4:IntKind.u64.wrap (m:Int)=(m:Int):=by rw[IntKind.wrap_u64]; omega
  have e5:IntKind.u64.wrap (r:Int)=(r:Int):=by rw[IntKind.wrap_u64]; omega
  have e6:IntKind.i64.wrap (r:Int)=(r:Int):=by rw[IntKind.wrap_i64]; omega
  have hm0:((m:Int) == 0)=false:=beq_false_of_ne (by omega)
  rw[hq,hrm] at HV
  clear hq hrm hs
  go_enter Tryz.func27,Tryz.ntmps27
  go_wp2_with fail
  refine HS.out.mono ?_
  rintro e w1 ⟨rfl,rfl⟩
  go_wp2_with fail
  go_ret
  exact⟨by rw[HV.out]; rfl,rfl⟩
section
variable (home:ByteArray→Nat→Nat) (a:Option Addr) (cap:Nat) (T:List Tab.Ent) (pa:Option Addr) (pc:Nat) (P:List (Int × Int)) (k:ByteArray) (c:Bool) (now idle:Int) (w:World) (s:Nat) (fd:Int→Int) (pk:Int)
structure Asked:Prop where
 tab:Lies entK w a cap T
 find:∀ W,Below w.heap.size w W→Calls Tryz.prog 59 #[rowV a cap T,.string k] W fun e W'=>e=.returned (.int .i64 (Tab.zOf (Tab.find home T k)))∧W'=W
 has:∀ id W,Below w.heap.size w W→Calls Tryz.prog 60 #[.slice pa P.length pc,.int .i64 id] W fun e W'=>e=.returned (.int .i64 (fd id))∧W'=W
 is:∀ id,hasId P id=decide (0≤fd id)
 sum:∀ W,Below w.heap.size w W→Calls Tryz.prog 62 #[.string k] W fun e W'=>e=.returned (.int .u64 (s:Nat))∧W'=W
 pick:∀ W,Below w.heap.size w W→Calls Tryz.prog 61 #[.slice pa P.length pc,.int .u64 (s:Nat)] W fun e W'=>e=.returned (.int .i64 pk)∧Below W.heap.size W W'
 del:∀ W,Below w.heap.size w W→Calls Tryz.prog 63 #[rowV a cap T,.string k] W fun e W'=>∃ v b,e=.returned (.tuple #[v,.bool b])∧TabIs W' v (del home T k)∧Below W.heap.size W W'
 put:∀ id dl W,Below w.heap.size w W→Calls Tryz.prog 64 #[rowV a cap T,.string k,.int .i64 id,.int .i64 dl] W fun e W'=>∃ v,e=.returned (.tuple #[v,.int .i64 (if (Tab.put home T k id dl).isSome then 0 else 12)])∧TabIs W' v ((Tab.put home T k id dl).getD T)∧Below W.heap.size W W'
end
variable {home:ByteArray→Nat→Nat} {a:Option Addr} {cap:Nat} {T:List Tab.Ent} {pa:Option Addr} {pc:Nat} {P:List (Int × Int)} {k:ByteArray} {w:World} {s:Nat} {fd:Int→Int} {pk:Int}
theorem below_ans (w:World):AnsBox (w.alloc (.cells #[.int .i64 0,.int .i64 0,.bool false,.int .i64 0] 39)) w.heap.size ⟨0,0,false,0⟩∧Below w.heap.size w (w.alloc (.cells #[.int .i64 0,.int .i64 0,.bool false,.int .i64 0] 39)):=
 ⟨World.alloc_heap_new w _,(Below.refl _ w).alloc (Nat.le_refl _) _⟩
end Go.Proofs.YtbamodkgagcmnaaGreat.Mod
set_option maxRecDepth 100000
namespace Go.Proofs.YtbamodkgagcmnaaGreat.Fnv
def nx (h:Nat) (b:UInt8):Nat:=(h ^^^ b.toNat) * 1099511628211 % 18446744073709551616
def jn (h:Nat) (l:List UInt8):Nat:=l.foldl nx h
theorem nx_lt (h:Nat) (b:UInt8):nx h b<18446744073709551616:=Nat.mod_lt _ (by decide)
theorem fold_snoc (f:Nat→UInt8→Nat) (h:Nat) (l:List UInt8) (b:UInt8):(l ++ [b]).foldl f h=f (l.foldl f h) b:=by simp
theorem jn_snoc (h:Nat) (l:List UInt8) (b:UInt8):jn h (l ++ [b])=nx (jn h l) b:=fold_snoc nx h l b
theorem jn_lt (h:Nat) (l:List UInt8) (hh:h<18446744073709551616):jn h l<18446744073709551616:=by
 induction l generalizing h with
 | nil=>exact hh
 | cons b l ih=>exact ih _ (nx_lt h b)
end Go.Proofs.YtbamodkgagcmnaaGreat.Fnv
namespace Go.Proofs.YtbamodkgagcmnaaGreat.Fnv
open Go.RowKit Go.Shelf
attribute [local go_sem] Oper.semAt_some
theorem u64_mod (x:Nat):IntKind.u64.wrap (x:Int)=((x % 18446744073709551616:Nat):Int):=by
 simp[IntKind.wrap,IntKind.signed,IntKind.bits]
theorem step_nx (h:Nat) (b:UInt8) (hh:h<18446744073709551616):
 IntKind.u64.wrap (bits .xor .u64 (h:Int) (IntKind.u64.wrap (b.toNat:Int)) * 1099511628211)=((nx h b:Nat):Int):=by
 have hb:=b.toNat_lt
 rw[u64_mod b.toNat,Nat.mod_eq_of_lt (by omega),u64_xor_nat _ _ hh (by omega)]
 exact u64_mod ((h ^^^ b.toNat) * 1099511628211)
set_option maxHeartbeats 400000 in
theorem next_in (F:Fence) (m:Nat) (hf:F.fn 110) (hro:F.round=none) (h:Nat) (b:UInt8) (hh:h<18446744073709551616) (w:World):
 CallsIn F m Tryz.prog 110 #[.int .u64 (h:Int),.int .u8 (b.toNat:Int)] w fun e w'=>e=.returned (.int .u64 (nx h b:Nat))∧w=w':=by
 refine callsIn_of_wp Tryz.func110 rfl hf ?_ hro
 simp only[Tryz.ntmps110,List.size_toArray,List.length_cons,List.length_nil,Nat.reduceAdd,Nat.reduceSub,Array.replicate_succ,Array.replicate_zero,List.push_toArray,List.append_toArray,List.nil_append,List.cons_append]
 gi_wp2
 go_ret
 exact⟨by rw[step_nx h b hh]; rfl,rfl⟩
set_option maxHeartbeats 400000 in
theorem octets_in (F:Fence) (m:Nat) (hf:F.fn 109) (hro:F.round=none) (s:ByteArray) (w:World):
 CallsIn F m Tryz.prog 109 #[.string s] w fun e w'=>
  e=.returned (.func (.func 155) #[] #[.pointer (some ⟨w.heap.size,0,none⟩)])∧w'=w.alloc (.cells #[.string s] 9):=by
 refine callsIn_of_wp Tryz.func109 rfl hf ?_ hro
 simp only[Tryz.ntmps109,List.size_toArray,List.length_cons,List.length_nil,Nat.reduceAdd,Nat.reduceSub,Array.replicate_succ,Array.replicate_zero,List.push_toArray,List.append_toArray,List.nil_append,List.cons_append]
 gi_wp2
 go_ret
 exact⟨rfl,rfl⟩
def KeepsCell (b:Nat) (W W':World):Prop:=∀ v,W.cell? ⟨b,0,none⟩=some v→W'.cell? ⟨b,0,none⟩=some v
theorem keepsCell_t {b:Nat} {A B C:World} (h:KeepsCell b A B) (k:KeepsCell b B C):KeepsCell b A C:=fun v hv=>k v (h v hv)
theorem keepsCell_b {b:Nat} {w:World} (W:World) (l:Nat) (o o':Obj) (_:w.heap.size≤l) (h:W.heap[l]? =some o) (hc:o.isCells=false) (_:o.isWalk=false):KeepsCell b W (W.putObj l o'):=
 fun _ hv=>cell_kept hv (grownBy_putObj' W l o') (fun r e=>by cases e; exact⟨o,h,hc⟩)
theorem take_snoc (s:ByteArray) (k:Nat) (h:k<s.size):s.data.toList.take (k+1)=s.data.toList.take k ++ [s[k]]:=by
 have h4:k<s.data.toList.length:=by rw[Array.length_toList]; exact h
 rw[List.take_succ_eq_append_getElem h4]; rfl
theorem take_len (s:ByteArray) (k:Nat) (h:k≤s.size):(s.data.toList.take k).length=k:=by
 rw[List.length_take,Array.length_toList]; exact Nat.min_eq_left h
set_option maxRecDepth 100000 in
set_option maxHeartbeats 2000000 in
theorem octets1_in (F:Fence) (m:Nat) (hf:F.fn 155) (hro:F.round=none) (hm:1≤m) (l B:Nat) (s:ByteArray) (hs:s.size≤4611686018427387904)
 (J Jx:List UInt8→World→Prop)
 (hY:∀ pre x W,J pre W→pre.length<s.size→YieldAt F (m - 1) Tryz.prog l #[.int .u8 (x.toNat:Int)] W fun e W'=>
   (e=.returned (.bool true)∧J (pre ++ [x]) W'∧KeepsCell B W W')∨(e=.returned (.bool false)∧Jx (pre ++ [x]) W'))
 (W:World) (hc:W.cell? ⟨B,0,none⟩=some (.string s)) (h0:J [] W):
 CallsIn F m Tryz.prog 155 #[.func (.yield l) #[] #[],.pointer (some ⟨B,0,none⟩)] W fun e W'=>(∃ v,e=.returned v)∧
  ((∃ ys,ys=s.data.toList∧J ys W')∨(∃ pre:List UInt8,pre.length≤s.size∧Jx pre W')):=by
 refine callsIn_of_wp Tryz.func155 rfl hf ?_ hro
 simp only[Tryz.ntmps155,List.size_toArray,List.length_cons,List.length_nil,Nat.reduceAdd,Nat.reduceSub,Array.replicate_succ,Array.replicate_zero,List.push_toArray,List.append_toArray,List.nil_append,List.cons_append]
 gi_wp2
 gi_loopw [6] (fun i wr=>∃ k:Nat,k≤s.size∧i=.int .i64 k∧J (s.data.toList.take k) wr∧wr.cell? ⟨B,0,none⟩=some (.string s))
  (fun i _=>s.size - (intOf i).toNat)
 case atStart=>exact⟨0,Nat.zero_le _,rfl,h0,hc⟩
 case round=>
  obtain⟨k,hk,rfl,hJs,hcx⟩:=hrel
  by_cases hlt:k<s.size
  ·obtain⟨fn,tmps,assign,body,hy,hR⟩:=hY _ s[k] wr hJs (by rw[take_len s k hk]; exact hlt)
   gi_wp2
   refine hR.mono ?_
   rintro e W3 (⟨rfl,hJ3,hk3⟩ | ⟨rfl,hJx3⟩)
   ·have hc3:=hk3 _ hcx
    gi_wp2
    go_roundw
    case rel=>exact⟨k+1,by omega,by simp,by rw[take_snoc s k hlt]; exact hJ3,hc3⟩
    case measure=>simp[intOf]; omega
   ·gi_wp2
    refine bodyPost_ret (results_none rfl _ _ _) rfl ?_
    exact⟨⟨_,rfl⟩,.inr ⟨_,by rw[List.length_append,take_len s k hk,List.length_singleton]; omega,hJx3⟩⟩
  ·obtain rfl:k=s.size:=by omega
   gi_wp2
   go_end0
   exact⟨⟨_,rfl⟩,.inl ⟨_,by rw[List.take_of_length_le (by rw[Array.length_toList]; exact Nat.le_refl _)],hJs⟩⟩
theorem octets_stops (F:Fence) (m:Nat) (hf:F.fn 155) (hro:F.round=none) (hm:1≤m) (B:Nat) (s:ByteArray) (hs:s.size≤4611686018427387904) (w:World) (hB:B<w.heap.size)
 (hc:w.cell? ⟨B,0,none⟩=some (.string s)):
 SeqStopsK F m Tryz.prog 155 #[.pointer (some ⟨B,0,none⟩)] (fun x:UInt8=>#[Value.int .u8 (x.toNat:Int)]) (KeepsCell B) (fun ys=>ys=s.data.toList) (fun pre=>pre.length≤s.size) s.size w:=fun l J Jx W hW _ _ hY h0=>
 octets1_in F m hf hro hm l B s hs J Jx hY W ((hW.cell (p:=⟨B,0,none⟩) hB).trans hc) h0
theorem cell_new_o (W:World) (v:Value) (t:TypeId):(W.alloc (.cells #[v] t)).cell? ⟨W.heap.size,0,none⟩=some v∧(W.alloc (.cells #[v] t)).frozen? ⟨W.heap.size,0,none⟩=false:=
 ⟨(Boxed.new W t v).cell,(Boxed.new W t v).frozen⟩
theorem cell_alloc_o {W:World} {a:Addr} {v:Value} (o:Obj) (h:W.cell? a=some v):(W.alloc o).cell? a=some v:=cell_kept h (World.grownBy_alloc W o none) (fun r e=>by cases e)
theorem frozen_alloc_o {W:World} {a:Addr} {v:Value} (o:Obj) (h:W.cell? a=some v) (hf:W.frozen? a=false):(W.alloc o).frozen? a=false:=(frozen_kept h (World.grownBy_alloc W o none) (fun r e=>by cases e)).trans hf
end Go.Proofs.YtbamodkgagcmnaaGreat.Fnv
namespace Go.Proofs.YtbamodkgagcmnaaGreat.Fnv
open Go.RowKit Go.Shelf
attribute [local go_sem] Oper.semAt_some
set_option maxRecDepth 100000 in
set_option maxHeartbeats 2000000 in
theorem fold_in (F:Fence) (m:Nat) (h17:F.fn 108) (h16:F.fn 110) (h19:F.fn 155) (hro:F.round=none) (hm:3≤m) (B:Nat) (s:ByteArray) (h:Nat) (hs:s.size≤4611686018427387904) (hh:h<18446744073709551616) (w:World) (hB:B<w.heap.size)
 (hc:w.cell? ⟨B,0,none⟩=some (.string s)):
 CallsIn F m Tryz.prog 108 #[.int .u64 (h:Int),.func (.func 155) #[] #[.pointer (some ⟨B,0,none⟩)],.func (.func 110) #[] #[]] w fun e W'=>
  e=.returned (.int .u64 (jn h s.data.toList:Nat))∧Below w.heap.size w W':=by
 have h1:1≤m:=by omega
 refine callsIn_of_wp_marks Tryz.func108 rfl h17 ?_ hro
 simp only[Tryz.ntmps108,List.size_toArray,List.length_cons,List.length_nil,Nat.reduceAdd,Nat.reduceSub,Array.replicate_succ,Array.replicate_zero,List.push_toArray,List.append_toArray,List.nil_append,List.cons_append]
 gi_wp2
 have c0:=cell_new_o w (.int .u64 (h:Int)) 163
 have c1:=cell_new_o (w.alloc (.cells #[.int .u64 (h:Int)] 163)) (.func (.func 110) #[] #[]) 168
 simp only[World.size_alloc] at c1
 have k0:=cell_alloc_o (.cells #[.func (.func 110) #[] #[]] 168) c0.1
 have f0:=frozen_alloc_o (.cells #[.func (.func 110) #[] #[]] 168) c0.1 c0.2
 have k1:=c1.1
 have kB:=cell_alloc_o (.cells #[.func (.func 110) #[] #[]] 168) (cell_alloc_o (.cells #[.int .u64 (h:Int)] 163) hc)
 have hB0:Below w.heap.size w ((w.alloc (.cells #[.int .u64 (h:Int)] 163)).alloc (.cells #[.func (.func 110) #[] #[]] 168)):=
  ((Below.refl _ w).alloc (Nat.le_refl _) _).alloc (by simp) _
 generalize hW0:((w.alloc (.cells #[.int .u64 (h:Int)] 163)).alloc (.cells #[.func (.func 110) #[] #[]] 168))=W0 at *
 have hsz:W0.heap.size=w.heap.size+2:=by rw[← hW0]; simp
 have HS:=Lib.hid hsz
 have HW:=Lib.hid hW0
 clear c0 c1 hW0
 refine wpIn_rangeFunc_ownF hro h1 (gf:=155) (lb:=#[.pointer (some ⟨B,0,none⟩)]) rfl h19 (enters_of Tryz.func155 (by kernel_rfl) rfl)
  (octets_stops F (m - 1) h19 hro (by omega) B s hs W0 (by omega) kB) keepsCell_t keepsCell_b (Below.refl _ _) (fun _=>rfl)
  (fun pre W=>(W.cell? ⟨w.heap.size,0,none⟩=some (.int .u64 (jn h pre:Nat))∧W.frozen? ⟨w.heap.size,0,none⟩=false∧W.cell? ⟨w.heap.size+1,0,none⟩=some (.func (.func 110) #[] #[]))∧Below w.heap.size w W)
  (fun _ _ _=>False)
  (OwnFrom.and (Own.from (fun s A B row hs hg hr=>⟨cell_kept hs.1 hg hr,(frozen_kept hs.1 hg hr).trans hs.2.1,cell_kept hs.2.2 hg hr⟩) _) (ownFrom_below (Nat.le_refl _) (by omega)))
  (fun _ _ _ _ _ hs _ _=>hs)
  ⟨⟨k0,f0,k1⟩,hB0⟩
  (fun x=> { tmps:=#[.int .u64 (h:Int),.func (.func 155) #[] #[.pointer (some ⟨B,0,none⟩)],.func (.func 110) #[] #[],.pointer (some ⟨w.heap.size,0,none⟩),undef,.pointer (some ⟨w.heap.size+1,0,none⟩),.int .u64 0,.int .u8 (x.toNat:Int),.func (.func 155) #[] #[.pointer (some ⟨B,0,none⟩)],.int .u8 (x.toNat:Int),undef,undef,undef,undef,undef],defers:=[] }) ?assign ?body ?done ?stop
 case assign=>
  intro l x W K hK
  gi_wp2
  exact hK
 case body=>
  rintro l pre x W ⟨⟨hch,hfh,hcs⟩,hB⟩ hlen
  have hjl:=jn_lt h pre hh
  have HJ:=Lib.hid (jn_snoc h pre x)
  have h2:1≤m - 1 - 1:=by omega
  clear k0 k1 f0 kB hB0 hc
  gi_wp2_with (gi_at_call 110; refine (CallsIn.inRound l (next_in F _ h16 hro _ _ hjl _)).mono ?_; rintro e w' ⟨rfl,rfl⟩)
  refine⟨KeepsOthers.setCell _ _ _,fun v hv=>?_,⟨?_,?_,?_⟩,?_⟩
  ·exact (World.cell?_setCell_other _ _ _ _ (by simp)).trans hv
  ·rw[HJ.out]; exact World.cell?_setCell_same' _ _ _ (by rw[hch]; rfl)
  ·rw[World.frozen?_setCell]; exact hfh
  ·exact (World.cell?_setCell_other _ _ _ _ (by simp)).trans hcs
  ·exact hB.setCell (p:=⟨w.heap.size,0,none⟩) (by simp) _
 case done=>
  rintro D ys W hD rfl ⟨⟨hch,_,_⟩,hB⟩ hK
  gi_wp2
  refine⟨by simp,.inl ⟨_,_,rfl,run_takeDeferred hK,?_⟩⟩
  refine⟨.int .u64 (jn h s.data.toList:Nat),by simp[results,Tryz.results108,go_sem],rfl,hB.trans (belowK_b (w:=w) (Nat.le_refl _) W D _ _ (by omega) hK rfl rfl)⟩
 case stop=>
  rintro D c pre W _ _ h _
  exact h.elim
set_option maxHeartbeats 800000 in
theorem Join_in (F:Fence) (m:Nat) (h12:F.fn 73) (h17:F.fn 108) (h18:F.fn 109) (h16:F.fn 110) (h19:F.fn 155) (hro:F.round=none) (hm:4≤m) (s:ByteArray) (h:Nat) (hs:s.size≤4611686018427387904) (hh:h<18446744073709551616) (w:World):
 CallsIn F m Tryz.prog 73 #[.int .u64 (h:Int),.string s] w fun e W'=>
  e=.returned (.int .u64 (jn h s.data.toList:Nat))∧Below w.heap.size w W':=by
 have h1:1≤m:=by omega
 refine callsIn_of_wp Tryz.func73 rfl h12 ?_ hro
 simp only[Tryz.ntmps73,List.size_toArray,List.length_cons,List.length_nil,Nat.reduceAdd,Nat.reduceSub,Array.replicate_succ,Array.replicate_zero,List.push_toArray,List.append_toArray,List.nil_append,List.cons_append]
 have hb0:Below w.heap.size w (w.alloc (.cells #[.string s] 9)):=(Below.refl _ w).alloc (Nat.le_refl _) _
 have HB:=Lib.hid hb0
 clear hb0
 gi_wp2_with (first | (gi_at_call 109; refine (octets_in F (m - 1) h18 hro _ _).mono ?_; rintro e w' ⟨rfl,rfl⟩) | (gi_at_call 108; refine (fold_in F (m - 1) h17 h16 h19 hro (by omega) w.heap.size s h hs hh _ (by simp) (cell_new_o w _ _).1).mono ?_; rintro e w' ⟨rfl,hb⟩))
 go_ret
 exact⟨rfl,HB.out.trans (hb.mono HB.out.size)⟩
theorem Join_any (h:Nat) (s:ByteArray) (w:World) (hs:s.size≤4611686018427387904) (hh:h<18446744073709551616):
 Calls Tryz.prog 73 #[.int .u64 (h:Int),.string s] w fun e W'=>e=.returned (.int .u64 (jn h s.data.toList:Nat))∧Below w.heap.size w W':=
 (callsIn_wide (n:=4)).1 (Join_in Fence.wide 4 trivial trivial trivial trivial trivial rfl (by omega) s h hs hh w)
set_option maxHeartbeats 800000 in
theorem Sum_any (s:ByteArray) (w:World) (hs:s.size≤4611686018427387904):
 Calls Tryz.prog 32 #[.string s] w fun e W'=>e=.returned (.int .u64 (jn 14695981039346656037 s.data.toList:Nat))∧Below w.heap.size w W':=by
 go_enter Tryz.func32,Tryz.ntmps32
 go_wp2_with fail
 refine (Join_any 14695981039346656037 s _ hs (by decide)).mono ?_
 rintro e w1 ⟨rfl,hb⟩
 go_wp2_with fail
 go_ret
 exact⟨rfl,hb⟩
end Go.Proofs.YtbamodkgagcmnaaGreat.Fnv
namespace Go.Proofs.YtbamodkgagcmnaaGreat.Fnv
open Go.RowKit Go.Shelf
set_option maxHeartbeats 800000 in
theorem refNext_any (h:Nat) (b:UInt8) (w:World) (hh:h<18446744073709551616):
 Calls Tryz.prog 150 #[.int .u64 (h:Int),.int .u8 (b.toNat:Int)] w fun e W'=>e=.returned (.int .u64 (nx h b:Nat))∧w=W':=by
 go_enter Tryz.func150,Tryz.ntmps150
 go_wp2
 go_ret
 exact⟨by rw[step_nx h b hh]; rfl,rfl⟩
set_option maxRecDepth 100000 in
set_option maxHeartbeats 800000 in
theorem refJoin_any (h:Nat) (s:ByteArray) (w:World) (hs:s.size≤4611686018427387904) (hh:h<18446744073709551616):
 Calls Tryz.prog 101 #[.int .u64 (h:Int),.string s] w fun e W'=>e=.returned (.int .u64 (jn h s.data.toList:Nat))∧w=W':=by
 go_enter Tryz.func101,Tryz.ntmps101
 go_wp2
 go_loop [0,5] (fun v i=>∃ k:Nat,k≤s.size∧i=.int .i64 k∧v=.int .u64 (jn h (s.data.toList.take k):Nat)) (fun _ i=>s.size - (intOf i).toNat)
 case atStart=>exact⟨0,Nat.zero_le _,rfl,rfl⟩
 case round=>
  obtain⟨k,hk,rfl,rfl⟩:=hrel
  by_cases hlt:k<s.size
  ·have hl:=jn_lt h (s.data.toList.take k) hh
   have HS:=Lib.hid ((congrArg (jn h) (take_snoc s k hlt)).trans (jn_snoc _ _ _))
   generalize jn h (s.data.toList.take k)=q at *
   go_wp2_with fail
   refine (refNext_any q s[k] _ hl).mono ?_
   rintro e w1 ⟨rfl,rfl⟩
   rw[← HS.out]
   go_wp2_with fail
   exact⟨⟨k+1,by omega,by go_num,rfl⟩,by simp[intOf]; omega⟩
  ·go_wp2_with fail
   go_ret
   exact⟨by rw[show k=s.size by omega,List.take_of_length_le (by rw[Array.length_toList]; exact Nat.le_refl _)]; rfl,rfl⟩
set_option maxHeartbeats 800000 in
theorem refSum_any (s:ByteArray) (w:World) (hs:s.size≤4611686018427387904):
 Calls Tryz.prog 62 #[.string s] w fun e W'=>e=.returned (.int .u64 (jn 14695981039346656037 s.data.toList:Nat))∧w=W':=by
 go_enter Tryz.func62,Tryz.ntmps62
 go_wp2_with fail
 refine (refJoin_any 14695981039346656037 s _ hs (by decide)).mono ?_
 rintro e w1 ⟨rfl,rfl⟩
 go_wp2_with fail
 go_ret
 exact⟨rfl,rfl⟩
end Go.Proofs.YtbamodkgagcmnaaGreat.Fnv
