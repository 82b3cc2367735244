/-
  Package model beside the document's model: what lies where while both do the same operations (law ModelDoes).
-/
import Derived.Test.YtbamodkgagcmnaaGreatMdlTE
import Derived.Test.YtbamodkgagcmnaaGreatModNE
import Derived.Test.YtbamodkgagcmnaaGreatRgnQE
set_option maxRecDepth 100000
namespace Go.Proofs.YtbamodkgagcmnaaGreat.Mdl
open Go.RowKit Go.Shelf RowG Trn Rgn
open Pol (polV chk)
open Prb (home)
open Tab (Ent)
open Mdo (StM stV stK StOk pol_lies)
open Go.Proofs.YtbamodkgagcmnaaGreat.Mod (Bk Mo Ans ansV ansC AnsBox Cfg cfgV okB MoIs ModIs ModBox modV modC moV opV opC From bkM TabM tabK tabV sl Done)
attribute [local go_sem] Oper.semAt_some
theorem good_pos {z:List Bk} (h:goodB z=true) {x:Bk} (hx:z[0]? =some x):1≤x.2:=(((good_iff z).2 h).2 0 x hx).2.2.1
theorem pol_first {W:World} {a:Option Addr} {cap:Nat} {z:List Bk} (hl:Pol.Lies W a cap z) (hn:z≠[]):∃ b off x,a=some ⟨b,off,none⟩∧z[0]? =some x∧W.cell? ⟨b,off,none⟩=some (.int .i64 x.1)∧W.cell? ⟨b,off+1,none⟩=some (.int .i64 x.2):=by
 obtain⟨b,off,e,hc⟩:=hl.cell hn
 cases z with
 | nil=>exact absurd rfl hn
 | cons x z=>
   obtain⟨c0,c1⟩:=hc 0 x rfl
   rw[Nat.zero_mul,Nat.add_zero] at c0 c1
   exact⟨b,off,x,e,rfl,c0,c1⟩
theorem pol_ans {W:World} {g:Nat} (hx:AnsBox W g ⟨0,0,false,0⟩) {a:Option Addr} {cap:Nat} {z:List Bk} (hg:goodB z=true) (hl:Pol.Lies W a cap z) (hn:z≠[]) (b off:Nat) (e:a=some ⟨b,off,none⟩):b≠g:=by
 obtain⟨b',off',x,e',h0,c0,c1⟩:=pol_first hl hn
 rw[e] at e'; cases e'
 rintro rfl
 have hp:=good_pos hg h0
 unfold AnsBox at hx
 simp[World.cell?,hx] at c0 c1
 match off,c0,c1 with
 | 0,c0,c1=>simp at c1; omega
 | 1,c0,c1=>simp at c1
 | 2,c0,c1=>simp at c0
 | (n+3),c0,c1=>simp at c1
section
variable {wb wr W W':World} {f:Foot} {idle:Int} {mo:Mo}
theorem Held.laid (h:Held W f idle mo) (hg:goodB mo.pool=true) {g:Nat} (hx:AnsBox W g ⟨0,0,false,0⟩) (n1:g≠f.p) (n2:g≠f.g) (ht:Turned (· =g) W W'):Held W' f idle mo:=by
 obtain⟨pa,pc,P,sc,m,rfl,hl⟩:=h
 have e:W'.heap[f.g]? =W.heap[f.g]? :=ht.rest f.g hl.row.lt (Ne.symm n2)
 have cell:∀ k,W'.cell? ⟨f.g,k,none⟩=W.cell? ⟨f.g,k,none⟩:=fun k=>World.cell?_of_block (w:=W) e
 exact⟨pa,pc,P,sc,m,rfl,(ht.rest f.p (heap_lt hl.box) (Ne.symm n1)).trans hl.box,row_turned hl.row e,fun k v hv=>hl.even k v (by rwa [cell] at hv),fun k v hv=>hl.odd k v (by rwa [cell] at hv),pol_turned ht hl.pool fun hn b off e=>pol_ans hx hg hl.pool hn b off e,hl.few,
  fun x hx'=>⟨ht.lies (hl.good x hx').lies fun hn b off e=>Mod.tab_apart hx (hl.good x hx').lies hn b off e,(hl.good x hx').len,(hl.good x hx').keys,(hl.good x hx').small⟩,hl.many,hl.ne⟩
theorem Stand.laid (h:Stand wb W f idle mo []) (hg:goodB mo.pool=true) {g:Nat} (hx:AnsBox W g ⟨0,0,false,0⟩) (n1:g≠f.p) (n2:g≠f.g) (hge:wb.heap.size≤g) (ht:Turned (· =g) W W'):Stand wb W' f idle mo []:=
 ⟨h.held.laid hg hx n1 n2 ht,ht.below h.below h.below.size (fun k hk=>by rw[show k=g from hk]; exact hge),h.from',h.some,fun q hq=>by cases hq⟩
def Free (f:Foot) (g:Nat) (k:Nat):Prop:=k≠g∧¬ f.has k
def RefAt (f:Foot) (g:Nat) (W:World) (c:Cfg) (mo:Mo):Prop:=∃ pa pc ta tc ts la lc,ModBox W g c (sl pa mo.pool.length pc) (rowV ta tc ts) (sl la mo.places.length lc)∧ModIs (Free f g) W c mo pa pc ta tc ts la lc
variable {g:Nat} {c:Cfg} {mo2:Mo}
theorem RefAt.kept (h:RefAt f g W c mo) (hb:Below W.heap.size W W'):RefAt f g W' c mo:=by
 obtain⟨pa,pc,ta,tc,ts,la,lc,h1,h2⟩:=h
 exact⟨pa,pc,ta,tc,ts,la,lc,h1.kept hb (heap_lt h1),h2.kept hb⟩
theorem RefAt.over (h:RefAt f g W c mo) (hS:Held W f idle mo2) (hf:¬ f.has g) (ht:Turned f.has W W'):RefAt f g W' c mo:=by
 obtain⟨pa,pc,ta,tc,ts,la,lc,h1,h2⟩:=h
 obtain⟨pa',pc',P',sc',m',-,hl⟩:=hS
 exact⟨pa,pc,ta,tc,ts,la,lc,(ht.rest g (heap_lt h1) hf).trans h1,ht.lies h2.pool fun hn _ _ e=>(h2.fromP hn _ e).2,ht.lies h2.row fun _ _ _ e=>(h2.fromT _ e).2,h2.tabs,fun x hx=>ht.lies (h2.each x hx) fun hn b off e=>hl.tab_apart (h2.each x hx) hn b off e,ht.lies h2.places fun _ _ _ e=>(h2.fromL _ e).2,h2.fromT,h2.fromL,h2.fromP⟩
structure DoSt (wb wr:World) (f:Foot) (idle:Int) (mo2:Mo) (y:Ans) (vals:Nat→Value) (d:Nat→Bool) (v:Nat→Value) (W:World):Prop where
 pure:∀ i,i<11→d i=true→v i=vals i
 below:d 11=false→Below wr.heap.size wr W
 call:d 11=true→v 11=ansV y∧Stand wb W f idle mo2 []∧Turned f.has wr W
 box0:d 12=true→d 13=false→∃ g,v 12=.pointer (some ⟨g,0,none⟩)∧wr.heap.size≤g∧AnsBox W g ⟨0,0,false,0⟩
 box1:d 13=true→∃ g,v 12=.pointer (some ⟨g,0,none⟩)∧wr.heap.size≤g∧AnsBox W g y
variable {y:Ans} {vals:Nat→Value} {d:Nat→Bool} {v:Nat→Value} {F0:Nat→Prop}
theorem DoSt.start (wb wr:World) (f:Foot) (idle:Int) (mo2:Mo) (y:Ans) (vals:Nat→Value) (v:Nat→Value):DoSt wb wr f idle mo2 y vals (fun _=>false) v wr.drew:=
 ⟨fun _ _ e=>(by cases e),fun _=>(Below.refl _ wr).drew,fun e=>(by cases e),fun e=>(by cases e),fun e=>(by cases e)⟩
theorem DoSt.same (h:DoSt wb wr f idle mo2 y vals d v W) {i:Nat} (hi:i<11) {u:Value} (hu:u=vals i):DoSt wb wr f idle mo2 y vals (upd d i) (upv v i u) W:=by
 have e:∀ k,11≤k→upd d i k=d k:=fun k hk=>upd_other d (by omega)
 have e':∀ k,11≤k→upv v i u k=v k:=fun k hk=>upv_other v _ (by omega)
 refine⟨fun k hk hd=>?_,?_,?_,?_,?_⟩
 ·by_cases hki:k=i
  ·subst hki; rw[upv_same]; exact hu
  ·rw[upd_other d hki] at hd; rw[upv_other v _ hki]; exact h.pure k hk hd
 ·rw[e 11 (by omega)]; exact h.below
 ·rw[e 11 (by omega),e' 11 (by omega)]; exact h.call
 ·rw[e 12 (by omega),e 13 (by omega),e' 12 (by omega)]; exact h.box0
 ·rw[e 13 (by omega),e' 12 (by omega)]; exact h.box1
theorem DoSt.called (h:DoSt wb wr f idle mo2 y vals d v W) (hf:f.p<wr.heap.size∧f.g<wr.heap.size) (d11:d 11=false) (d13:d 13=false) (hs:Stand wb W' f idle mo2 []) (ht:Turned f.has W W'):DoSt wb wr f idle mo2 y vals (upd d 11) (upv v 11 (ansV y)) W':=by
 have hB:=h.below d11
 refine⟨fun k hk hd=>?_,fun e=>?_,fun _=>⟨upv_same _ _ _,hs,(Turned.of_below hB).trans ht⟩,fun e1 e2=>?_,fun e=>?_⟩
 ·rw[upd_other d (by omega)] at hd; rw[upv_other v _ (by omega)]; exact h.pure k hk hd
 ·rw[upd_same] at e; cases e
 ·rw[upd_other d (by decide)] at e1
  obtain⟨g,eg,hg,hx⟩:=h.box0 e1 d13
  exact⟨g,by rw[upv_other v _ (by decide)]; exact eg,hg,(ht.rest g (heap_lt hx) (by rintro (e | e) <;> omega)).trans hx⟩
 ·rw[upd_other d (by decide),d13] at e; cases e
theorem DoSt.boxed (h:DoSt wb wr f idle mo2 y vals d v W) (d13:d 13=false):DoSt wb wr f idle mo2 y vals (upd d 12) (upv v 12 (.pointer (some ⟨W.heap.size,0,none⟩))) (W.alloc (.cells (ansC ⟨0,0,false,0⟩) 39)):=by
 have hb:Below W.heap.size W (W.alloc (.cells (ansC ⟨0,0,false,0⟩) 39)):=(Below.refl _ W).alloc (Nat.le_refl _) _
 have hsz:wr.heap.size≤W.heap.size:=by
  cases e:d 11 with
  | false=>exact (h.below e).size
  | true=>exact (h.call e).2.2.size
 refine⟨fun k hk hd=>?_,fun e=>?_,fun e=>?_,fun _ _=>⟨W.heap.size,upv_same _ _ _,hsz,World.alloc_heap_new W _⟩,fun e=>?_⟩
 ·rw[upd_other d (by omega)] at hd; rw[upv_other v _ (by omega)]; exact h.pure k hk hd
 ·rw[upd_other d (by decide)] at e; exact below2 (h.below e) hb
 ·rw[upd_other d (by decide)] at e
  obtain⟨e1,e2,e3⟩:=h.call e
  exact⟨by rw[upv_other v _ (by decide)]; exact e1,e2.more hb,e3.trans (.of_below hb)⟩
 ·rw[upd_other d (by decide),d13] at e; cases e
theorem DoSt.laid (h:DoSt wb wr f idle mo2 y vals d v W) (hf:f.p<wr.heap.size∧f.g<wr.heap.size) (hwb:wb.heap.size≤wr.heap.size) (hgood:goodB mo2.pool=true) (d11:d 11=true) (d12:d 12=true) (d13:d 13=false) {g:Nat} (hg:v 12=.pointer (some ⟨g,0,none⟩)) (hst:Stored g 39 (ansC y) W W') (u:Value):
 DoSt wb wr f idle mo2 y vals (upd d 13) (upv v 13 u) W':=by
 obtain⟨e1,e2,e3⟩:=h.call d11
 obtain⟨g',eg,hge,hx⟩:=h.box0 d12 d13
 rw[hg] at eg; cases eg
 have ht:Turned (· =g) W W':=⟨hst.os,hst.tape,hst.output,by rw[hst.size]; exact Nat.le_refl _,fun k _ hk=>hst.rest k hk⟩
 refine⟨fun k hk hd=>?_,fun e=>?_,fun _=>⟨by rw[upv_other v _ (by decide)]; exact e1,e2.laid hgood hx (by omega) (by omega) (by omega) ht,⟨ht.os.trans e3.os,ht.tape.trans e3.tape,ht.output.trans e3.output,Nat.le_trans e3.size ht.size,fun k hk hn=>(hst.rest k (by omega)).trans (e3.rest k hk hn)⟩⟩,fun _ e=>?_,fun _=>⟨g,by rw[upv_other v _ (by decide)]; exact hg,hge,hst.new⟩⟩
 ·rw[upd_other d (by omega)] at hd; rw[upv_other v _ (by omega)]; exact h.pure k hk hd
 ·rw[upd_other d (by decide),d11] at e; cases e
 ·rw[upd_same] at e; cases e
def RefF (F0:Nat→Prop) (d:Nat→Bool) (v:Nat→Value) (k:Nat):Prop:=F0 k∧(∀ g,d 15=true→v 15=.pointer (some ⟨g,0,none⟩)→k≠g)∧(∀ g,d 16=true→v 16=.pointer (some ⟨g,0,none⟩)→k≠g)
structure ReSt (F0:Nat→Prop) (wr:World) (c:Cfg) (mo2:Mo) (y:Ans) (vals:Nat→Value) (d:Nat→Bool) (v:Nat→Value) (W:World):Prop where
 pure:∀ i,i<11→d i=true→v i=vals i
 below:Below wr.heap.size wr W
 call:d 11=true→∃ u,v 11=.tuple #[u,ansV y]∧MoIs (RefF F0 d v) W u c mo2
 moved:d 12=true→v 12=v 11
 first:d 13=true→∀ u,v 11=.tuple #[u,ansV y]→v 13=u
 second:d 14=true→v 14=ansV y
 boxM:d 15=true→∃ g,v 15=.pointer (some ⟨g,0,none⟩)∧wr.heap.size≤g∧(d 17=false→ModBox W g ⟨0,0,0,0,0⟩ (sl none 0 0) (sl none 0 0) (sl none 0 0))∧(d 17=true→W.heap[g]? =some (.cells (v 13).cells 36 (0,0)))
 boxA:d 16=true→∃ g,v 16=.pointer (some ⟨g,0,none⟩)∧wr.heap.size≤g∧(d 18=false→AnsBox W g ⟨0,0,false,0⟩)∧(d 18=true→AnsBox W g y)
theorem ModIs.other {F F':Nat→Prop} {pa:Option Addr} {pc:Nat} {ta:Option Addr} {tc:Nat} {ts:List TabM} {la:Option Addr} {lc:Nat} (h:ModIs F W c mo pa pc ta tc ts la lc) (hT:From F ta→From F' ta) (hL:From F la→From F' la) (hP:mo.pool≠[]→From F pa→From F' pa):ModIs F' W c mo pa pc ta tc ts la lc:=⟨h.pool,h.row,h.tabs,h.each,h.places,hT h.fromT,hL h.fromL,fun hn=>hP hn (h.fromP hn)⟩
theorem ModIs.beside {F:Nat→Prop} {pa:Option Addr} {pc:Nat} {ta:Option Addr} {tc:Nat} {ts:List TabM} {la:Option Addr} {lc:Nat} (h:ModIs F W c mo pa pc ta tc ts la lc) (ht:Turned (· =g) W W') (hF:∀ k,F k→k≠g) (he:∀ x ∈ ts,x.T≠[]→∀ b off,x.p=some ⟨b,off,none⟩→b≠g):ModIs F W' c mo pa pc ta tc ts la lc:=
 ⟨ht.lies h.pool fun hn _ _ e=>hF _ (h.fromP hn _ e),ht.lies h.row fun _ _ _ e=>hF _ (h.fromT _ e),h.tabs,fun x hx=>ht.lies (h.each x hx) (he x hx),ht.lies h.places fun _ _ _ e=>hF _ (h.fromL _ e),h.fromT,h.fromL,h.fromP⟩
theorem ReSt.start (F0:Nat→Prop) (wr:World) (c:Cfg) (mo2:Mo) (y:Ans) (vals v:Nat→Value):ReSt F0 wr c mo2 y vals (fun _=>false) v wr.drew:=
 ⟨fun _ _ e=>(by cases e),(Below.refl _ wr).drew,fun e=>(by cases e),fun e=>(by cases e),fun e=>(by cases e),fun e=>(by cases e),fun e=>(by cases e),fun e=>(by cases e)⟩
theorem RefF.upd {k i:Nat} {u:Value} (h:RefF F0 d v k) (h15:i≠15) (h16:i≠16):RefF F0 (upd d i) (upv v i u) k:=by
 refine⟨h.1,?_,?_⟩
 ·rw[upd_other d (Ne.symm h15),upv_other v _ (Ne.symm h15)]; exact h.2.1
 ·rw[upd_other d (Ne.symm h16),upv_other v _ (Ne.symm h16)]; exact h.2.2
theorem MoIs.upd {i:Nat} {u s:Value} (h:MoIs (RefF F0 d v) W s c mo2) (h15:i≠15) (h16:i≠16):MoIs (RefF F0 (Rgn.upd d i) (upv v i u)) W s c mo2:=by
 obtain⟨pa,pc,ta,tc,ts,la,lc,e,h⟩:=h
 exact⟨pa,pc,ta,tc,ts,la,lc,e,ModIs.other h (fun hf q hq=>(hf q hq).upd h15 h16) (fun hf q hq=>(hf q hq).upd h15 h16) (fun _ hf q hq=>(hf q hq).upd h15 h16)⟩
theorem MoIs.kept {F:Nat→Prop} {s:Value} (h:MoIs F W s c mo2) (hb:Below W.heap.size W W'):MoIs F W' s c mo2:=by
 obtain⟨pa,pc,ta,tc,ts,la,lc,e,h⟩:=h
 exact⟨pa,pc,ta,tc,ts,la,lc,e,h.kept hb⟩
theorem ReSt.same (h:ReSt F0 wr c mo2 y vals d v W) {i:Nat} (hi:i<11) {u:Value} (hu:u=vals i):ReSt F0 wr c mo2 y vals (upd d i) (upv v i u) W:=by
 have e:∀ k,11≤k→upd d i k=d k:=fun k hk=>upd_other d (by omega)
 have e':∀ k,11≤k→upv v i u k=v k:=fun k hk=>upv_other v _ (by omega)
 refine⟨fun k hk hd=>?_,h.below,?_,?_,?_,?_,?_,?_⟩
 ·by_cases hki:k=i
  ·subst hki; rw[upv_same]; exact hu
  ·rw[upd_other d hki] at hd; rw[upv_other v _ hki]; exact h.pure k hk hd
 ·rw[e 11 (by omega),e' 11 (by omega)]
  intro h11
  obtain⟨s,es,hs⟩:=h.call h11
  exact⟨s,es,MoIs.upd hs (by omega) (by omega)⟩
 ·rw[e 12 (by omega),e' 12 (by omega),e' 11 (by omega)]; exact h.moved
 ·rw[e 13 (by omega),e' 13 (by omega),e' 11 (by omega)]; exact h.first
 ·rw[e 14 (by omega),e' 14 (by omega)]; exact h.second
 ·rw[e 15 (by omega),e 17 (by omega),e' 15 (by omega),e' 13 (by omega)]; exact h.boxM
 ·rw[e 16 (by omega),e 18 (by omega),e' 16 (by omega)]; exact h.boxA
theorem ModIs.lt {F:Nat→Prop} {pa:Option Addr} {pc:Nat} {ta:Option Addr} {tc:Nat} {ts:List TabM} {la:Option Addr} {lc:Nat} (h:ModIs F W c mo pa pc ta tc ts la lc) (hne:mo.tables≠[]∧mo.places≠[]):From (fun k=>k<W.heap.size) ta∧From (fun k=>k<W.heap.size) la∧(mo.pool≠[]→From (fun k=>k<W.heap.size) pa):=by
 have n1:ts≠[]:=fun e=>hne.1 (by rw[← h.tabs,e]; rfl)
 have n2:(mo.places.map fun (n:Nat)=>(n:Int))≠[]:=fun e=>hne.2 (by simpa using e)
 refine⟨fun q hq=>?_,fun q hq=>?_,fun hn q hq=>?_⟩
 ·obtain⟨b,off,e,-⟩:=h.row.cell n1
  rw[hq] at e; cases e; exact lies_lt h.row n1 hq
 ·obtain⟨b,off,e,-⟩:=h.places.cell n2
  rw[hq] at e; cases e; exact lies_lt h.places n2 hq
 ·obtain⟨b,off,e,-⟩:=h.pool.cell hn
  rw[hq] at e; cases e; exact lies_lt h.pool hn hq
theorem ReSt.box_ge (h:ReSt F0 wr c mo2 y vals d v W):(∀ g,d 15=true→v 15=.pointer (some ⟨g,0,none⟩)→wr.heap.size≤g)∧(∀ g,d 16=true→v 16=.pointer (some ⟨g,0,none⟩)→wr.heap.size≤g):=by
 refine⟨fun g h1 h2=>?_,fun g h1 h2=>?_⟩
 ·obtain⟨g',e,hg,-⟩:=h.boxM h1
  rw[h2] at e; cases e; exact hg
 ·obtain⟨g',e,hg,-⟩:=h.boxA h1
  rw[h2] at e; cases e; exact hg
theorem ReSt.box_lt (h:ReSt F0 wr c mo2 y vals d v W) (d17:d 17=false) (d18:d 18=false):(∀ g,d 15=true→v 15=.pointer (some ⟨g,0,none⟩)→g<W.heap.size)∧(∀ g,d 16=true→v 16=.pointer (some ⟨g,0,none⟩)→g<W.heap.size):=by
 refine⟨fun g h1 h2=>?_,fun g h1 h2=>?_⟩
 ·obtain⟨g',e,-,hx,-⟩:=h.boxM h1
  rw[h2] at e; cases e; exact heap_lt (hx d17)
 ·obtain⟨g',e,-,hx,-⟩:=h.boxA h1
  rw[h2] at e; cases e; exact heap_lt (hx d18)
theorem ReSt.given (h:ReSt F0 wr c mo2 y vals d v W) {mo1:Mo} {pa:Option Addr} {pc:Nat} {ta:Option Addr} {tc:Nat} {ts:List TabM} {la:Option Addr} {lc:Nat} (hM:ModIs F0 wr c mo1 pa pc ta tc ts la lc) (hne:mo1.tables≠[]∧mo1.places≠[]):ModIs (RefF F0 d v) W c mo1 pa pc ta tc ts la lc:=by
 obtain⟨l1,l2,l3⟩:=ModIs.lt hM hne
 have hg:=h.box_ge
 have key:∀ {a:Option Addr},From (fun k=>k<wr.heap.size) a→From F0 a→From (RefF F0 d v) a:=fun hl hf q hq=>
  ⟨hf q hq,fun g h1 h2 e=>by have:=hg.1 g h1 h2; have:=hl q hq; omega,fun g h1 h2 e=>by have:=hg.2 g h1 h2; have:=hl q hq; omega⟩
 exact ModIs.other (hM.kept h.below) (key l1) (key l2) (fun hn=>key (l3 hn))
theorem ReSt.fresh (h:ReSt F0 wr c mo2 y vals d v W) (d17:d 17=false) (d18:d 18=false) (hF:∀ k,wr.heap.size≤k→F0 k):∀ k,W.heap.size≤k→RefF F0 d v k:=by
 have hg:=h.box_lt d17 d18
 intro k hk
 exact⟨hF k (Nat.le_trans h.below.size hk),fun g h1 h2 e=>by have:=hg.1 g h1 h2; omega,fun g h1 h2 e=>by have:=hg.2 g h1 h2; omega⟩
theorem ReSt.called (h:ReSt F0 wr c mo2 y vals d v W) (d12:d 12=false) (d13:d 13=false) (d14:d 14=false) (d17:d 17=false) (d18:d 18=false) {u:Value} (hu:MoIs (RefF F0 d v) W' u c mo2) (hb:Below W.heap.size W W'):ReSt F0 wr c mo2 y vals (upd d 11) (upv v 11 (.tuple #[u,ansV y])) W':=by
 have o:∀ k,k≠11→upd d 11 k=d k:=fun k hk=>upd_other d hk
 have o':∀ k,k≠11→upv v 11 (.tuple #[u,ansV y]) k=v k:=fun k hk=>upv_other v _ hk
 refine⟨fun k hk hd=>?_,below2 h.below hb,fun _=>⟨u,upv_same _ _ _,MoIs.upd hu (by decide) (by decide)⟩,fun e=>?_,fun e=>?_,fun e=>?_,fun e=>?_,fun e=>?_⟩
 ·rw[o k (by omega)] at hd; rw[o' k (by omega)]; exact h.pure k hk hd
 ·rw[o 12 (by decide),d12] at e; cases e
 ·rw[o 13 (by decide),d13] at e; cases e
 ·rw[o 14 (by decide),d14] at e; cases e
 ·rw[o 15 (by decide)] at e
  obtain⟨g,e1,e2,e3,e4⟩:=h.boxM e
  refine⟨g,by rw[o' 15 (by decide)]; exact e1,e2,fun _=>(e3 d17).kept hb (heap_lt (e3 d17)),fun e5=>?_⟩
  rw[o 17 (by decide),d17] at e5; cases e5
 ·rw[o 16 (by decide)] at e
  obtain⟨g,e1,e2,e3,e4⟩:=h.boxA e
  refine⟨g,by rw[o' 16 (by decide)]; exact e1,e2,fun _=>(e3 d18).kept hb,fun e5=>?_⟩
  rw[o 18 (by decide),d18] at e5; cases e5
theorem ReSt.parted (h:ReSt F0 wr c mo2 y vals d v W) {i:Nat} (hi:i=12∨i=13∨i=14) (d17:i≠14→d 17=false) {u:Value} (h12:i=12→u=v 11) (h13:i=13→∀ s,v 11=.tuple #[s,ansV y]→u=s) (h14:i=14→u=ansV y):ReSt F0 wr c mo2 y vals (upd d i) (upv v i u) W:=by
 have o:∀ k,k≠i→upd d i k=d k:=fun k hk=>upd_other d hk
 have o':∀ k,k≠i→upv v i u k=v k:=fun k hk=>upv_other v _ hk
 have n11:(11:Nat)≠i:=by omega
 have n15:(15:Nat)≠i:=by omega
 have n16:(16:Nat)≠i:=by omega
 have n17:(17:Nat)≠i:=by omega
 have n18:(18:Nat)≠i:=by omega
 refine⟨fun k hk hd=>?_,h.below,fun e=>?_,fun e=>?_,fun e s hs=>?_,fun e=>?_,fun e=>?_,fun e=>?_⟩
 ·rw[o k (by omega)] at hd; rw[o' k (by omega)]; exact h.pure k hk hd
 ·rw[o 11 n11] at e
  obtain⟨s,e1,e2⟩:=h.call e
  exact⟨s,by rw[o' 11 n11]; exact e1,MoIs.upd e2 (Ne.symm n15) (Ne.symm n16)⟩
 ·rw[o' 11 n11]
  by_cases e':i=12
  ·subst e'; rw[upv_same]; exact h12 rfl
  ·rw[o 12 (Ne.symm e')] at e; rw[o' 12 (Ne.symm e')]; exact h.moved e
 ·rw[o' 11 n11] at hs
  by_cases e':i=13
  ·subst e'; rw[upv_same]; exact h13 rfl s hs
  ·rw[o 13 (Ne.symm e')] at e; rw[o' 13 (Ne.symm e')]; exact h.first e s hs
 ·by_cases e':i=14
  ·subst e'; rw[upv_same]; exact h14 rfl
  ·rw[o 14 (Ne.symm e')] at e; rw[o' 14 (Ne.symm e')]; exact h.second e
 ·rw[o 15 n15] at e
  obtain⟨g,e1,e2,e3,e4⟩:=h.boxM e
  refine⟨g,by rw[o' 15 n15]; exact e1,e2,fun e5=>e3 (by rwa [o 17 n17] at e5),fun e5=>?_⟩
  rw[o 17 n17] at e5
  by_cases e':i=14
  ·rw[o' 13 (by omega)]; exact e4 e5
  ·rw[d17 e'] at e5; cases e5
 ·rw[o 16 n16,o 18 n18,o' 16 n16] at *
  exact h.boxA e
theorem MoIs.made {i:Nat} (hi:i=15∨i=16) {u s:Value} {F:Nat→Prop} (h:MoIs (RefF F d v) W s c mo2) (hne:mo2.tables≠[]∧mo2.places≠[]) (hu:u=.pointer (some ⟨W.heap.size,0,none⟩)):MoIs (RefF F (Rgn.upd d i) (upv v i u)) W s c mo2:=by
 obtain⟨pa,pc,ta,tc,ts,la,lc,e,h⟩:=h
 obtain⟨l1,l2,l3⟩:=ModIs.lt h hne
 have key:∀ {a:Option Addr},From (fun k=>k<W.heap.size) a→From (RefF F d v) a→From (RefF F (Rgn.upd d i) (upv v i u)) a:=fun hl hf q hq=>by
  have h1:=hf q hq
  have h2:=hl q hq
  refine⟨h1.1,fun g e1 e2=>?_,fun g e1 e2=>?_⟩
  ·by_cases e:15=i
   ·subst e; rw[upv_same,hu] at e2; cases e2; exact Nat.ne_of_lt h2
   ·rw[upd_other d e] at e1; rw[upv_other v _ e] at e2; exact h1.2.1 g e1 e2
  ·by_cases e:16=i
   ·subst e; rw[upv_same,hu] at e2; cases e2; exact Nat.ne_of_lt h2
   ·rw[upd_other d e] at e1; rw[upv_other v _ e] at e2; exact h1.2.2 g e1 e2
 exact⟨pa,pc,ta,tc,ts,la,lc,e,ModIs.other h (key l1) (key l2) (fun hn=>key (l3 hn))⟩
theorem ReSt.madeM (h:ReSt F0 wr c mo2 y vals d v W) (hne:mo2.tables≠[]∧mo2.places≠[]) (d17:d 17=false):ReSt F0 wr c mo2 y vals (upd d 15) (upv v 15 (.pointer (some ⟨W.heap.size,0,none⟩))) (W.alloc (.cells (modC ⟨0,0,0,0,0⟩ (sl none 0 0) (sl none 0 0) (sl none 0 0)) 36)):=by
 have hb:Below W.heap.size W (W.alloc (.cells (modC ⟨0,0,0,0,0⟩ (sl none 0 0) (sl none 0 0) (sl none 0 0)) 36)):=(Below.refl _ W).alloc (Nat.le_refl _) _
 have hx:ModBox (W.alloc (.cells (modC ⟨0,0,0,0,0⟩ (sl none 0 0) (sl none 0 0) (sl none 0 0)) 36)) W.heap.size ⟨0,0,0,0,0⟩ (sl none 0 0) (sl none 0 0) (sl none 0 0):=World.alloc_heap_new W _
 generalize W.alloc (.cells (modC ⟨0,0,0,0,0⟩ (sl none 0 0) (sl none 0 0) (sl none 0 0)) 36)=W' at *
 have o:∀ k,k≠15→upd d 15 k=d k:=fun k hk=>upd_other d hk
 have o':∀ k,k≠15→upv v 15 (Value.pointer (some ⟨W.heap.size,0,none⟩)) k=v k:=fun k hk=>upv_other v _ hk
 refine⟨fun k hk hd=>?_,below2 h.below hb,fun e=>?_,fun e=>?_,fun e=>?_,fun e=>?_,fun _=>⟨W.heap.size,upv_same _ _ _,h.below.size,fun _=>hx,fun e=>?_⟩,fun e=>?_⟩
 ·rw[o k (by omega)] at hd; rw[o' k (by omega)]; exact h.pure k hk hd
 ·rw[o 11 (by decide)] at e
  obtain⟨s,e1,e2⟩:=h.call e
  exact⟨s,by rw[o' 11 (by decide)]; exact e1,MoIs.kept (MoIs.made (.inl rfl) e2 hne rfl) hb⟩
 ·rw[o 12 (by decide)] at e; rw[o' 12 (by decide),o' 11 (by decide)]; exact h.moved e
 ·rw[o 13 (by decide)] at e; rw[o' 13 (by decide),o' 11 (by decide)]; exact h.first e
 ·rw[o 14 (by decide)] at e; rw[o' 14 (by decide)]; exact h.second e
 ·rw[o 17 (by decide),d17] at e; cases e
 ·rw[o 16 (by decide)] at e
  obtain⟨g,e1,e2,e3,e4⟩:=h.boxA e
  exact⟨g,by rw[o' 16 (by decide)]; exact e1,e2,fun e5=>(e3 (by rwa [o 18 (by decide)] at e5)).kept hb,fun e5=>(e4 (by rwa [o 18 (by decide)] at e5)).kept hb⟩
theorem ReSt.madeA (h:ReSt F0 wr c mo2 y vals d v W) (hne:mo2.tables≠[]∧mo2.places≠[]) (d17:d 17=false) (d18:d 18=false):ReSt F0 wr c mo2 y vals (upd d 16) (upv v 16 (.pointer (some ⟨W.heap.size,0,none⟩))) (W.alloc (.cells (ansC ⟨0,0,false,0⟩) 39)):=by
 have hb:Below W.heap.size W (W.alloc (.cells (ansC ⟨0,0,false,0⟩) 39)):=(Below.refl _ W).alloc (Nat.le_refl _) _
 have hx:AnsBox (W.alloc (.cells (ansC ⟨0,0,false,0⟩) 39)) W.heap.size ⟨0,0,false,0⟩:=World.alloc_heap_new W _
 generalize W.alloc (.cells (ansC ⟨0,0,false,0⟩) 39)=W' at *
 have o:∀ k,k≠16→upd d 16 k=d k:=fun k hk=>upd_other d hk
 have o':∀ k,k≠16→upv v 16 (Value.pointer (some ⟨W.heap.size,0,none⟩)) k=v k:=fun k hk=>upv_other v _ hk
 refine⟨fun k hk hd=>?_,below2 h.below hb,fun e=>?_,fun e=>?_,fun e=>?_,fun e=>?_,fun e=>?_,fun _=>⟨W.heap.size,upv_same _ _ _,h.below.size,fun _=>hx,fun e=>?_⟩⟩
 ·rw[o k (by omega)] at hd; rw[o' k (by omega)]; exact h.pure k hk hd
 ·rw[o 11 (by decide)] at e
  obtain⟨s,e1,e2⟩:=h.call e
  exact⟨s,by rw[o' 11 (by decide)]; exact e1,MoIs.kept (MoIs.made (.inr rfl) e2 hne rfl) hb⟩
 ·rw[o 12 (by decide)] at e; rw[o' 12 (by decide),o' 11 (by decide)]; exact h.moved e
 ·rw[o 13 (by decide)] at e; rw[o' 13 (by decide),o' 11 (by decide)]; exact h.first e
 ·rw[o 14 (by decide)] at e; rw[o' 14 (by decide)]; exact h.second e
 ·rw[o 15 (by decide)] at e
  obtain⟨g,e1,e2,e3,e4⟩:=h.boxM e
  refine⟨g,by rw[o' 15 (by decide)]; exact e1,e2,fun _=>(e3 d17).kept hb (heap_lt (e3 d17)),fun e5=>?_⟩
  rw[o 17 (by decide),d17] at e5; cases e5
 ·rw[o 18 (by decide),d18] at e; cases e
theorem ReSt.laidM (h:ReSt F0 wr c mo2 y vals d v W) (d11:d 11=true) (d15:d 15=true) (d17:d 17=false) {g:Nat} (hg:v 15=.pointer (some ⟨g,0,none⟩)) (hst:Stored g 36 (v 13).cells W W') (u:Value):ReSt F0 wr c mo2 y vals (upd d 17) (upv v 17 u) W':=by
 obtain⟨g',e1,hge,hx,-⟩:=h.boxM d15
 rw[hg] at e1; cases e1
 have hx:=hx d17
 have ht:Turned (· =g) W W':=⟨hst.os,hst.tape,hst.output,by rw[hst.size]; exact Nat.le_refl _,fun k _ hk=>hst.rest k hk⟩
 have o:∀ k,k≠17→upd d 17 k=d k:=fun k hk=>upd_other d hk
 have o':∀ k,k≠17→upv v 17 u k=v k:=fun k hk=>upv_other v _ hk
 refine⟨fun k hk hd=>?_,ht.below h.below h.below.size (fun k hk=>by rw[show k=g from hk]; exact hge),fun e=>?_,fun e=>?_,fun e=>?_,fun e=>?_,fun _=>⟨g,by rw[o' 15 (by decide)]; exact hg,hge,fun e=>?_,fun _=>by rw[o' 13 (by decide)]; exact hst.new⟩,fun e=>?_⟩
 ·rw[o k (by omega)] at hd; rw[o' k (by omega)]; exact h.pure k hk hd
 ·obtain⟨s,e1,pa,pc,ta,tc,ts,la,lc,e2,e3⟩:=h.call d11
  refine⟨s,by rw[o' 11 (by decide)]; exact e1,MoIs.upd ⟨pa,pc,ta,tc,ts,la,lc,e2,ModIs.beside e3 ht (fun k hk=>hk.2.1 g d15 hg) fun x hx' hn b off e=>Mod.mod_apart' hx rfl rfl rfl (e3.each x hx') hn b off e⟩ (by decide) (by decide)⟩
 ·rw[o 12 (by decide)] at e; rw[o' 12 (by decide),o' 11 (by decide)]; exact h.moved e
 ·rw[o 13 (by decide)] at e; rw[o' 13 (by decide),o' 11 (by decide)]; exact h.first e
 ·rw[o 14 (by decide)] at e; rw[o' 14 (by decide)]; exact h.second e
 ·rw[upd_same] at e; cases e
 ·rw[o 16 (by decide)] at e
  obtain⟨g2,e1,e2,e3,e4⟩:=h.boxA e
  have far:∀ x,AnsBox W g2 x→AnsBox W' g2 x:=fun x hx2=>(hst.rest g2 (by
   rintro rfl
   unfold AnsBox at hx2
   unfold ModBox at hx
   rw[hx] at hx2
   simp at hx2)).trans hx2
  exact⟨g2,by rw[o' 16 (by decide)]; exact e1,e2,fun e5=>far _ (e3 (by rwa [o 18 (by decide)] at e5)),fun e5=>far _ (e4 (by rwa [o 18 (by decide)] at e5))⟩
theorem ReSt.laidA (h:ReSt F0 wr c mo2 y vals d v W) (d11:d 11=true) (d16:d 16=true) (d18:d 18=false) {g:Nat} (hg:v 16=.pointer (some ⟨g,0,none⟩)) (hst:Stored g 39 (ansC y) W W') (u:Value):ReSt F0 wr c mo2 y vals (upd d 18) (upv v 18 u) W':=by
 obtain⟨g',e1,hge,hx,-⟩:=h.boxA d16
 rw[hg] at e1; cases e1
 have hx:=hx d18
 have ht:Turned (· =g) W W':=⟨hst.os,hst.tape,hst.output,by rw[hst.size]; exact Nat.le_refl _,fun k _ hk=>hst.rest k hk⟩
 have o:∀ k,k≠18→upd d 18 k=d k:=fun k hk=>upd_other d hk
 have o':∀ k,k≠18→upv v 18 u k=v k:=fun k hk=>upv_other v _ hk
 refine⟨fun k hk hd=>?_,ht.below h.below h.below.size (fun k hk=>by rw[show k=g from hk]; exact hge),fun e=>?_,fun e=>?_,fun e=>?_,fun e=>?_,fun e=>?_,fun _=>⟨g,by rw[o' 16 (by decide)]; exact hg,hge,fun e=>?_,fun _=>hst.new⟩⟩
 ·rw[o k (by omega)] at hd; rw[o' k (by omega)]; exact h.pure k hk hd
 ·obtain⟨s,e1,pa,pc,ta,tc,ts,la,lc,e2,e3⟩:=h.call d11
  refine⟨s,by rw[o' 11 (by decide)]; exact e1,MoIs.upd ⟨pa,pc,ta,tc,ts,la,lc,e2,ModIs.beside e3 ht (fun k hk=>hk.2.2 g d16 hg) fun x hx' hn b off e=>Mod.tab_apart hx (e3.each x hx') hn b off e⟩ (by decide) (by decide)⟩
 ·rw[o 12 (by decide)] at e; rw[o' 12 (by decide),o' 11 (by decide)]; exact h.moved e
 ·rw[o 13 (by decide)] at e; rw[o' 13 (by decide),o' 11 (by decide)]; exact h.first e
 ·rw[o 14 (by decide)] at e; rw[o' 14 (by decide)]; exact h.second e
 ·rw[o 15 (by decide)] at e
  obtain⟨g2,e1,e2,e3,e4⟩:=h.boxM e
  have far:∀ cs,W.heap[g2]? =some (.cells cs 36 (0,0))→W'.heap[g2]? =some (.cells cs 36 (0,0)):=fun cs hx2=>(hst.rest g2 (by
   rintro rfl
   unfold AnsBox at hx
   rw[hx] at hx2
   simp at hx2)).trans hx2
  refine⟨g2,by rw[o' 15 (by decide)]; exact e1,e2,fun e5=>far _ (e3 (by rwa [o 17 (by decide)] at e5)),fun e5=>?_⟩
  rw[o' 13 (by decide)]
  exact far _ (e4 (by rwa [o 17 (by decide)] at e5))
 ·rw[upd_same] at e; cases e
theorem arg_from {w:World} {x:StM} (h:StOk w x) (hn:x.pool≠[]):From (fun k=>k<w.heap.size) x.p:=fun q hq=>by
 obtain⟨b,off,e,-⟩:=h.lies.cell hn
 rw[hq] at e; cases e
 exact lies_lt h.lies hn hq
theorem ReSt.arg (h:ReSt F0 wr c mo2 y vals d v W) {a:Option Addr} {n0:Nat} (ha:From (fun k=>k<n0) a) (hn:n0≤wr.heap.size) (hF:∀ k,k<n0→F0 k):From (RefF F0 d v) a:=by
 have hg:=h.box_ge
 exact fun q hq=>⟨hF _ (ha q hq),fun g h1 h2 e=>by have:=hg.1 g h1 h2; have:=ha q hq; omega,fun g h1 h2 e=>by have:=hg.2 g h1 h2; have:=ha q hq; omega⟩
theorem ref_new {pa:Option Addr} {pc:Nat} {ta:Option Addr} {tc:Nat} {ts:List TabM} {la:Option Addr} {lc:Nat} (h:ModIs (fun k=>¬ f.has k) W c mo pa pc ta tc ts la lc) (hne:mo.tables≠[]∧mo.places≠[]):RefAt f W.heap.size (W.alloc (.cells (modC c (sl pa mo.pool.length pc) (rowV ta tc ts) (sl la mo.places.length lc)) 36)) c mo:=by
 obtain⟨l1,l2,l3⟩:=ModIs.lt h hne
 have key:∀ {a:Option Addr},From (fun k=>k<W.heap.size) a→From (fun k=>¬ f.has k) a→From (Free f W.heap.size) a:=fun hl hf q hq=>⟨Nat.ne_of_lt (hl q hq),hf q hq⟩
 exact⟨pa,pc,ta,tc,ts,la,lc,World.alloc_heap_new W _,(ModIs.other h (key l1) (key l2) (fun hn=>key (l3 hn))).kept ((Below.refl _ W).alloc (Nat.le_refl _) _)⟩
theorem RefAt.copied {pv tv lv:Value} {pa' ta' la':Option Addr} {pn' pc' tn' tc' ln' lc':Nat} (h8:ModBox W g c (sl pa' pn' pc') (sl ta' tn' tc') (sl la' ln' lc')) {pa:Option Addr} {pc:Nat} {ta:Option Addr} {tc:Nat} {ts:List TabM} {la:Option Addr} {lc:Nat} (h:ModIs (Free f g) W c mo pa pc ta tc ts la lc) (hp:pv=sl pa mo.pool.length pc) (ht:tv=rowV ta tc ts) (hl:lv=sl la mo.places.length lc):RefAt f g (Mod.putMod W g c pv tv lv) c mo:=by
 subst hp ht hl
 exact⟨pa,pc,ta,tc,ts,la,lc,h8.put,ModIs.beside h (Mod.mod_turned W g c _ _ _) (fun k hk=>hk.1) fun x hx hn b off e=>Mod.mod_apart h8 (h.each x hx) hn b off e⟩
theorem Held.copied (h:Held W f idle mo) (hg:¬ f.has g) {pv tv lv:Value} {pa' ta' la':Option Addr} {pn' pc' tn' tc' ln' lc':Nat} (h8:ModBox W g c (sl pa' pn' pc') (sl ta' tn' tc') (sl la' ln' lc')):Held (Mod.putMod W g c pv tv lv) f idle mo:=by
 have ht:=Mod.mod_turned W g c pv tv lv
 have n1:f.p≠g:=fun e=>hg (.inl e.symm)
 have n2:f.g≠g:=fun e=>hg (.inr e.symm)
 have h9:ModBox (Mod.putMod W g c pv tv lv) g c pv tv lv:=h8.put
 obtain⟨pa,pc,P,sc,m,rfl,hl⟩:=h
 generalize Mod.putMod W g c pv tv lv=W' at *
 have e:W'.heap[f.g]? =W.heap[f.g]? :=ht.rest f.g hl.row.lt n2
 have cell:∀ k,W'.cell? ⟨f.g,k,none⟩=W.cell? ⟨f.g,k,none⟩:=fun k=>World.cell?_of_block (w:=W) e
 have num:∀ (b o:Nat) (x:Int),W.cell? ⟨b,o,none⟩=some (.int .i64 x)→W'.cell? ⟨b,o,none⟩=some (.int .i64 x):=by
  intro b o x hx
  by_cases hb:b=g
  ·subst hb
   unfold ModBox at h8 h9
   simp[World.cell?,h8] at hx
   simp[World.cell?,h9]
   match o,hx with
   | 0,hx=>simpa using hx
   | 1,hx=>simpa using hx
   | 2,hx=>simpa using hx
   | 3,hx=>simpa using hx
   | 4,hx=>simpa using hx
   | 5,hx=>simp at hx
   | 6,hx=>simp at hx
   | 7,hx=>simp at hx
   | (o+8),hx=>simp at hx
  ·exact (World.cell?_of_block (w:=W) (ht.rest b (World.block_lt_of_cell? W _ hx) hb)).trans hx
 refine⟨pa,pc,P,sc,m,rfl,(ht.rest f.p (heap_lt hl.box) n1).trans hl.box,row_turned hl.row e,fun k v hv=>hl.even k v (by rwa [cell] at hv),fun k v hv=>hl.odd k v (by rwa [cell] at hv),⟨hl.pool.max,hl.pool.len,fun hn=>?_⟩,hl.few,
  fun x hx'=>⟨ht.lies (hl.good x hx').lies fun hn b off e=>Mod.mod_apart h8 (hl.good x hx').lies hn b off e,(hl.good x hx').len,(hl.good x hx').keys,(hl.good x hx').small⟩,hl.many,hl.ne⟩
 obtain⟨b,off,e,hc⟩:=hl.pool.cell hn
 exact⟨b,off,e,fun i x hi=>⟨num _ _ _ (hc i x hi).1,num _ _ _ (hc i x hi).2⟩⟩
theorem Stand.copied (h:Stand wb W f idle mo []) (hg:¬ f.has g) (hge:wb.heap.size≤g) {pv tv lv:Value} {pa' ta' la':Option Addr} {pn' pc' tn' tc' ln' lc':Nat} (h8:ModBox W g c (sl pa' pn' pc') (sl ta' tn' tc') (sl la' ln' lc')):Stand wb (Mod.putMod W g c pv tv lv) f idle mo []:=
 ⟨h.held.copied hg h8,Mod.putMod_below h.below hge _ _ _ _,h.from',h.some,fun q hq=>by cases hq⟩
theorem held_short (h:Held W f idle mo):∀ T ∈ mo.tables,Flo.Short 60 T:=by
 obtain⟨pa,pc,P,sc,m,rfl,hl⟩:=h
 intro T hT
 obtain⟨x,hx,rfl⟩:=List.mem_map.1 hT
 exact (hl.good x hx).keys
theorem inv_ne {n cap:Nat} (h:Mod.Inv home shardN goodB n cap mo) (hn:0<n):mo.tables≠[]∧mo.places≠[]:=
 ⟨fun e=>by have:=h.len; rw[e] at this; simp at this; omega,fun e=>by have:=h.places; rw[e] at this; simp at this; omega⟩
end
theorem turn_both {w0 wb W:World} {f:Foot} {idle:Int} {n cap:Nat} {g:ByteArray→Option (ByteArray × Bool)} {L:List StM} {k:Nat} {c:Cfg} (hS:Stand wb W f idle (goes (Mod.new n cap) ((opsOf g idle L).take k)) []) (hk:k<L.length) (hst:∀ x ∈ L,StOk w0 x) (hw:Below w0.heap.size w0 wb) (hg:∀ s,s.size≤1099511627776→FlowIs s (g s)∧RefFlow s (g s)) (hz:∀ x ∈ L,x.pkt.size≤100) (hn:0<n) (h16:n≤16) (h64:cap≤64) (hcS:c.S=(n:Int)) (hci:c.idle=idle):
 ∃ (mo mo2:Mo) (y:Ans) (x:StM),goes (Mod.new n cap) ((opsOf g idle L).take k)=mo∧goes (Mod.new n cap) ((opsOf g idle L).take (k+1))=mo2∧L[k]=x∧
  (∀ W,Stand wb W f idle mo []→Calls Tryz.prog 17 #[f.v,opV x.kd x.pkt x.p x.pool.length x.c x.sh,.int .i64 x.now] W fun e W'=>e=.returned (ansV y)∧Stand wb W' f idle mo2 []∧Turned f.has W W')∧
  (∀ W (F:Nat→Prop) v,MoIs F W v c mo→(∀ k,W.heap.size≤k→F k)→Below wb.heap.size wb W→(x.pool≠[]→From F x.p)→Calls Tryz.prog 18 #[v,opV x.kd x.pkt x.p x.pool.length x.c x.sh,.int .i64 x.now] W (Done F c (mo2,y) W))∧
  Mod.Inv home shardN goodB n cap mo∧Mod.Inv home shardN goodB n cap mo2∧(x.pool≠[]→From (fun k=>k<w0.heap.size) x.p):=by
 have hm:=List.getElem_mem hk
 have hI:=Mdl.inv_new hn (cap:=cap) ((opsOf g idle L).take k)
 have hI2:=Mdl.inv_new hn (cap:=cap) ((opsOf g idle L).take (k+1))
 have hgn:=goes_next (g:=g) (idle:=idle) hk (Mod.new n cap)
 have hx:=hst _ hm
 have hp:=hz _ hm
 have hK:=held_short hS.held
 have hfl:=hg L[k].pkt (by omega)
 refine⟨_,_,(step (goes (Mod.new n cap) ((opsOf g idle L).take k)) (opSt g idle L[k])).2,_,rfl,rfl,rfl,fun W hS=>?_,fun W F v hv hF hb hO=>?_,hI,hI2,fun hn=>arg_from hx hn⟩
 ·have:=do_stand hS L[k].kd L[k].pkt L[k].p L[k].pool L[k].c L[k].sh L[k].now (pol_lies ((hx.lies.kept hw).kept hS.below)) (g L[k].pkt) hfl.1
  rw[hgn]
  exact this
 ·have:=refDo_told hv hF hI hn h16 h64 hcS hK L[k].kd L[k].pkt L[k].p L[k].pool L[k].c L[k].sh L[k].now (pol_lies ((hx.lies.kept hw).kept hb)) hO hfl.2
  rw[hgn]
  rw[hci] at this
  exact this
def doVals (a b':Value) (k b off:Nat) (x:StM):Nat→Value
 | 0=>a
 | 1=>b'
 | 2=>.int .i64 (k:Int)
 | 3=>.pointer (some ⟨b,off+k * 5,none⟩)
 | 4=>.pointer (some ⟨b,off+k * 5,none⟩)
 | 5=>opV x.kd x.pkt x.p x.pool.length x.c x.sh
 | 6=>b'
 | 7=>.int .i64 (k:Int)
 | 8=>.pointer (some ⟨b,off+k * 5,none⟩)
 | 9=>.pointer (some ⟨b,off+k * 5+4,none⟩)
 | 10=>.int .i64 x.now
 | _=>undef
end Go.Proofs.YtbamodkgagcmnaaGreat.Mdl
