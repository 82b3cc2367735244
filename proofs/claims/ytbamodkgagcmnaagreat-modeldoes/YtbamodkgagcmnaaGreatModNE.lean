/-
  The document's New (package gangplankref17), given what New of a table tells.
-/
import Derived.Test.YtbamodkgagcmnaaGreatModME
import Derived.Test.YtbamodkgagcmnaaGreatRgnNE
import Derived.Test.YtbamodkgagcmnaaGreatRgnQE
import Derived.Laws.MakeOwn
import Derived.Laws.AppendOwn
import Derived.Lib.SliceRun
set_option maxRecDepth 100000
namespace Go.Proofs.YtbamodkgagcmnaaGreat.Mod
open Go.RowKit Go.Shelf Go.WideShapes RowG Trn Rgn
attribute [local go_sem] Oper.semAt_some
abbrev zeroN:Array Value:=#[.int .i64 0]
theorem run_numsN (n:Nat) (hn:n≤1000000000) (W:World):(Instr.makeSlice 34 (.int .i64 (n:Int)) (.int .i64 (n:Int))).run Tryz.prog W=.ok (.slice (some ⟨W.heap.size,0,none⟩) n n) (W.alloc (.cells (madeCells zeroN n) 3)):=by
 obtain⟨i0,hi,hz0,hz1,hz2⟩:=info_parts info_num
 have:=run_make (P:=Tryz.prog) W 34 3 i0 (.int .i64 0) Tryz.underlying34 hi hz0 .i64 .i64 n n (by omega) (Int.le_refl _) (by rw[hz2]; omega) (by omega)
 rw[hz1,Int.toNat_natCast,show n * numK.c=n from Nat.mul_one n,show (Value.int .i64 0).cells=zeroN from rfl] at this
 simpa using this
theorem row_numsN (w:World) (n:Nat) (h:n≤maxLen):Row numK 3 (w.alloc (.cells (madeCells zeroN n) 3)) w.heap.size n (List.replicate n 0):=
 ⟨_,World.alloc_heap_new w _,by simp,h,by simp[madeCells]; exact (Nat.mul_one n).symm,by
   have:=made_flat (K:=numK) zeroN (0:Int) rfl n
   rw[show n * numK.c=n from Nat.mul_one n] at this
   rw[this,List.take_of_length_le (by rw[flat_length]; simp)]⟩
def CfgBox (W:World) (q:Nat) (c:Cfg):Prop:=W.heap[q]? =some (.cells #[.int .i64 c.W,.int .i64 c.S,.int .i64 c.cap,.int .i64 c.idle,.int .i64 c.K] 23 (0,0))
theorem CfgBox.cells {W:World} {q:Nat} {c:Cfg} (h:CfgBox W q c):W.cell? ⟨q,0,none⟩=some (.int .i64 c.W)∧W.cell? ⟨q,1,none⟩=some (.int .i64 c.S)∧W.cell? ⟨q,2,none⟩=some (.int .i64 c.cap)∧W.cell? ⟨q,3,none⟩=some (.int .i64 c.idle)∧W.cell? ⟨q,4,none⟩=some (.int .i64 c.K):=by
 unfold CfgBox at h
 refine⟨?_,?_,?_,?_,?_⟩ <;> simp[World.cell?,h]
def newV (q:Nat) (c:Cfg) (n B0:Nat):Nat→World→Value→Prop
 | 0,_,v=>v=cfgV c
 | 1,_,v=>v=.pointer (some ⟨q,1,none⟩)
 | 2,_,v=>v=.int .i64 (n:Int)
 | 3,w,v=>∃ b,v=.slice (some ⟨b,0,none⟩) n n∧B0≤b∧Row numK 3 w b n (List.replicate n 0)
 | 4,w,v=>∃ b,v=modV c (sl none 0 0) (sl none 0 0) (.slice (some ⟨b,0,none⟩) n n)∧B0≤b∧Row numK 3 w b n (List.replicate n 0)
 | _,_,_=>True
theorem newV_kept (q:Nat) (c:Cfg) (n B0:Nat):∀ j w w' v,newV q c n B0 j w v→Below w.heap.size w w'→newV q c n B0 j w' v:=by
 intro j w w' v h hb
 match j with
 | 0=>exact h
 | 1=>exact h
 | 2=>exact h
 | 3=>obtain⟨b,e,h1,h2⟩:=h; exact⟨b,e,h1,h2.kept hb⟩
 | 4=>obtain⟨b,e,h1,h2⟩:=h; exact⟨b,e,h1,h2.kept hb⟩
 | j+5=>exact trivial
theorem row_apart {w:World} {b b' n:Nat} {c:Array Value} {l:List Int} (h:Row numK 3 w b n l) (h':w.heap[b']? =some (.cells c 36 (0,0))):b≠b':=by
 rintro rfl
 obtain⟨cur,hg,-⟩:=h
 rw[hg] at h'
 simp at h'
theorem newV_turn (q:Nat) (c:Cfg) (n B0:Nat):∀ j w w' b v,newV q c n B0 j w v→w.heap[b]? =some (.cells (modC ⟨0,0,0,0,0⟩ (sl none 0 0) (sl none 0 0) (sl none 0 0)) 36 (0,0))→Turned (· =b) w w'→newV q c n B0 j w' v:=by
 intro j w w' b v h hb ht
 match j with
 | 0=>exact h
 | 1=>exact h
 | 2=>exact h
 | 3=>
   obtain⟨b',e,h1,h2⟩:=h
   obtain⟨cur,hg,-⟩:=id h2
   exact⟨b',e,h1,row_turned h2 (ht.rest b' (heap_lt hg) (row_apart h2 hb))⟩
 | 4=>
   obtain⟨b',e,h1,h2⟩:=h
   obtain⟨cur,hg,-⟩:=id h2
   exact⟨b',e,h1,row_turned h2 (ht.rest b' (heap_lt hg) (row_apart h2 hb))⟩
 | j+5=>exact trivial
theorem start_boxes (w:World) (c:Cfg) {W:World} (hW:(w.alloc (.cells #[.int .i64 c.W,.int .i64 c.S,.int .i64 c.cap,.int .i64 c.idle,.int .i64 c.K] 23)).alloc (.cells (modC ⟨0,0,0,0,0⟩ (sl none 0 0) (sl none 0 0) (sl none 0 0)) 36)=W):
 CfgBox W w.heap.size c∧ModBox W (w.heap.size+1) ⟨0,0,0,0,0⟩ (sl none 0 0) (sl none 0 0) (sl none 0 0)∧Below w.heap.size w W∧W.heap.size=w.heap.size+2:=by
 have h1:=World.alloc_heap_new w (.cells #[.int .i64 c.W,.int .i64 c.S,.int .i64 c.cap,.int .i64 c.idle,.int .i64 c.K] 23)
 have s1:=World.size_alloc w (.cells #[.int .i64 c.W,.int .i64 c.S,.int .i64 c.cap,.int .i64 c.idle,.int .i64 c.K] 23)
 have b1:Below w.heap.size w (w.alloc (.cells #[.int .i64 c.W,.int .i64 c.S,.int .i64 c.cap,.int .i64 c.idle,.int .i64 c.K] 23)):=(Below.refl _ w).alloc (Nat.le_refl _) _
 generalize w.alloc (.cells #[.int .i64 c.W,.int .i64 c.S,.int .i64 c.cap,.int .i64 c.idle,.int .i64 c.K] 23)=W1 at *
 have h2:=World.alloc_heap_new W1 (.cells (modC ⟨0,0,0,0,0⟩ (sl none 0 0) (sl none 0 0) (sl none 0 0)) 36)
 have s2:=World.size_alloc W1 (.cells (modC ⟨0,0,0,0,0⟩ (sl none 0 0) (sl none 0 0) (sl none 0 0)) 36)
 have b2:Below W1.heap.size W1 (W1.alloc (.cells (modC ⟨0,0,0,0,0⟩ (sl none 0 0) (sl none 0 0) (sl none 0 0)) 36)):=(Below.refl _ W1).alloc (Nat.le_refl _) _
 generalize W1.alloc (.cells (modC ⟨0,0,0,0,0⟩ (sl none 0 0) (sl none 0 0) (sl none 0 0)) 36)=W2 at *
 subst hW
 rw[s1] at h2
 exact⟨(b2.block _ (by omega)).trans h1,h2,below2 b1 b2,by omega⟩
structure NewIs (B0 q g3 gp n cap:Nat) (c:Cfg) (W:World) (ta:Option Addr) (tc:Nat) (ts:List TabM):Prop where
 mod:ModBox W g3 c (sl none 0 0) (rowV ta tc ts) (sl (some ⟨gp,0,none⟩) n n)
 cfg:CfgBox W q c
 res:ModBox W (q+1) ⟨0,0,0,0,0⟩ (sl none 0 0) (sl none 0 0) (sl none 0 0)
 places:Row numK 3 W gp n (List.replicate n 0)
 own:RowG.Own tabK 50 B0 W (rowV ta tc ts) ts
 each:∀ x ∈ ts,∃ b,x=⟨some ⟨b,0,none⟩,cap,Tab.new cap⟩∧B0≤b∧Row entK 66 W b cap (Tab.new cap)
 size:B0≤W.heap.size
theorem row_kept {α:Type} {K:Kind α} {T:TypeId} {W W':World} {g cap:Nat} {xs:List α} (h:Row K T W g cap xs) (hb:W'.heap[g]? =W.heap[g]?):Row K T W' g cap xs:=row_turned h hb
theorem row_blk {α:Type} {K:Kind α} {T:TypeId} {W:World} {g cap:Nat} {xs:List α} (h:Row K T W g cap xs):∃ cur,W.heap[g]? =some (.cells cur T (0,0)):=by
 obtain⟨cur,hg,-⟩:=h; exact⟨cur,hg⟩
theorem own_apart {B0:Nat} {W:World} {v:Value} {ts:List TabM} (h:RowG.Own tabK 50 B0 W v ts) {b cap:Nat} {T:List Tab.Ent} (hr:Row entK 66 W b cap T):v.ownBlock≠some b:=by
 intro e
 obtain⟨cur,hg⟩:=row_blk hr
 rcases h.2 with⟨e1,_⟩ | ⟨q',cap',cur',e1,hb',hg',_⟩
 ·rw[e1] at e; cases e
 ·rw[e1] at e
  obtain rfl:q'=b:=by simpa [Value.ownBlock] using e
  rw[hg'] at hg
  simp at hg
theorem own_from' {B0:Nat} {W:World} {v:Value} {ts:List TabM} (h:RowG.Own tabK 50 B0 W v ts):∀ b,b<B0→v.ownBlock≠some b:=by
 intro b hb e
 rcases h.2 with⟨e1,_⟩ | ⟨q',cap',cur',e1,hb',hg',_⟩
 ·rw[e1] at e; cases e
 ·rw[e1] at e
  obtain rfl:q'=b:=by simpa [Value.ownBlock] using e
  omega
theorem NewIs.more {B0 q g3 gp n cap:Nat} {c:Cfg} {wr W:World} {ta:Option Addr} {tc:Nat} {ts:List TabM} (h:NewIs B0 q g3 gp n cap c wr ta tc ts) (ht:Turned (fun k=>(rowV ta tc ts).ownBlock=some k) wr W) {ta':Option Addr} {tc' b:Nat}
 (ho:RowG.Own tabK 50 B0 W (rowV ta' tc' (ts ++ [⟨some ⟨b,0,none⟩,cap,Tab.new cap⟩])) (ts ++ [⟨some ⟨b,0,none⟩,cap,Tab.new cap⟩])) (hb:B0≤b) (hr:Row entK 66 W b cap (Tab.new cap))
 (h3:g3<B0) (hq:q+1<B0) (hp:gp<B0) (n1:q≠g3) (n2:q+1≠g3) (n3:gp≠g3):
 NewIs B0 q g3 gp n cap c (W.setCell ⟨g3,6,none⟩ (rowV ta' tc' (ts ++ [⟨some ⟨b,0,none⟩,cap,Tab.new cap⟩]))) ta' tc' (ts ++ [⟨some ⟨b,0,none⟩,cap,Tab.new cap⟩]):=by
 have hs:=h.size
 have keep:∀ k,k<B0→W.heap[k]? =wr.heap[k]? :=fun k hk=>ht.rest k (by omega) (own_from' h.own k hk)
 have far:∀ k v,k≠g3→(W.setCell ⟨g3,6,none⟩ v).heap[k]? =W.heap[k]? :=fun k v hk=>Below.heap_setCell _ _ _ _ (by exact hk)
 refine⟨?_,?_,?_,?_,?_,?_,?_⟩
 ·exact ModBox.tables ((keep g3 h3).trans h.mod) _
 ·exact (far q _ n1).trans ((keep q (by omega)).trans h.cfg)
 ·exact (far (q+1) _ n2).trans ((keep (q+1) hq).trans h.res)
 ·exact row_kept h.places ((far gp _ n3).trans (keep gp hp))
 ·refine own_same ho fun k hk=>far k _ ?_
  rintro rfl
  exact own_from' ho k h3 hk
 ·intro x hx
  rcases List.mem_append.1 hx with hx | hx
  ·obtain⟨b',e,hb',hr'⟩:=h.each x hx
   obtain⟨cur,hg⟩:=row_blk hr'
   exact⟨b',e,hb',row_kept hr' ((far b' _ (by omega)).trans (ht.rest b' (heap_lt hg) (own_apart h.own hr')))⟩
  ·rw[List.mem_singleton] at hx
   exact⟨b,hx,hb,row_kept hr (far b _ (by omega))⟩
 ·have:=ht.size
  simp[World.setCell]; omega
structure MoreSt (B0 q g3 gp n cap:Nat) (c:Cfg) (wr:World) (ta:Option Addr) (tc:Nat) (ts:List TabM) (d:Nat→Bool) (x:Nat→Value) (W:World):Prop where
 x0:d 0=true→x 0=.pointer (some ⟨g3,6,none⟩)
 x1:d 1=true→x 1=rowV ta tc ts
 x2:d 2=true→x 2=.pointer (some ⟨q,2,none⟩)
 x3:d 3=true→x 3=.int .i64 (cap:Int)
 x7:d 7=true→x 7=.pointer (some ⟨g3,6,none⟩)
 below:d 6=false→Below wr.heap.size wr W
 x4:d 4=true→d 6=false→∃ b,x 4=rowV (some ⟨b,0,none⟩) cap (Tab.new cap)∧B0≤b∧Row entK 66 W b cap (Tab.new cap)
 x5:d 5=true→d 6=false→∃ b,x 5=.slice (some ⟨b,0,none⟩) 1 1∧W.cell? ⟨b,0,none⟩=some (x 4)
 x6:d 6=true→d 8=false→∃ b ta' tc',x 6=rowV ta' tc' (ts ++ [⟨some ⟨b,0,none⟩,cap,Tab.new cap⟩])∧B0≤b∧Row entK 66 W b cap (Tab.new cap)∧RowG.Own tabK 50 B0 W (rowV ta' tc' (ts ++ [⟨some ⟨b,0,none⟩,cap,Tab.new cap⟩])) (ts ++ [⟨some ⟨b,0,none⟩,cap,Tab.new cap⟩])∧Turned (fun k=>(rowV ta tc ts).ownBlock=some k) wr W
 x8:d 8=true→∃ b ta' tc',NewIs B0 q g3 gp n cap c W ta' tc' (ts ++ [⟨some ⟨b,0,none⟩,cap,Tab.new cap⟩])∧Turned (fun k=>k=g3∨(rowV ta tc ts).ownBlock=some k) wr W
theorem NewIs.is {B:Nat→Prop} {B0 q g3 gp n cap:Nat} {c:Cfg} {wr W8:World} {ta:Option Addr} {tc:Nat} {ts:List TabM} (h:NewIs B0 q g3 gp n cap c wr ta tc ts) (far:∀ j,j≠q+1→W8.heap[j]? =wr.heap[j]?) (hlen:ts.length=n) (hB:∀ k,B0≤k→B k) (n5:q+1<B0) (hgp:B gp) (hqp:gp≠q+1):
 ModIs B W8 c (new n cap) none 0 ta tc ts (some ⟨gp,0,none⟩) n:=by
 have hT:ts.map TabM.T=List.replicate n (Tab.new cap):=by
  apply List.ext_getElem
  ·simp[hlen]
  ·intro j h1 h2
   have h3:j<ts.length:=by simpa using h1
   obtain⟨b,e,-⟩:=h.each ts[j] (List.getElem_mem h3)
   rw[List.getElem_map,e,List.getElem_replicate]
 have hO:RowG.Own tabK 50 B0 W8 (rowV ta tc ts) ts:=own_same h.own fun j hj=>far j (by
  rintro rfl
  exact own_from' h.own (q+1) n5 hj)
 obtain⟨a',c',e,hl⟩:=hO.lies
 simp only[rowV,Value.slice.injEq] at e
 obtain⟨rfl,-,rfl⟩:=e
 refine⟨lies_nil _,hl,hT,fun x hx=>?_,?_,own_from hB hO,fun p hp=>?_,fun hn=>absurd rfl hn⟩
 ·obtain⟨b,e,hb,hr⟩:=h.each x hx
  subst e
  exact (row_kept hr (far b (by omega))).lies
 ·have:((new n cap).places.map fun (j:Nat)=>(j:Int))=List.replicate n 0:=by simp[new]
  rw[this]
  exact (row_kept h.places (far gp hqp)).lies
 ·cases hp
  exact hgp
section
variable {B0 q g3 gp n cap:Nat} {c:Cfg} {wr W W':World} {ta:Option Addr} {tc:Nat} {ts:List TabM} {d:Nat→Bool} {x:Nat→Value}
theorem MoreSt.same (h:MoreSt B0 q g3 gp n cap c wr ta tc ts d x W) {i:Nat} {v:Value} (h4:i≠4) (h5:i≠5) (h6:i≠6) (h8:i≠8) (v0:i=0→v=.pointer (some ⟨g3,6,none⟩)) (v1:i=1→v=rowV ta tc ts) (v2:i=2→v=.pointer (some ⟨q,2,none⟩)) (v3:i=3→v=.int .i64 (cap:Int)) (v7:i=7→v=.pointer (some ⟨g3,6,none⟩)):
 MoreSt B0 q g3 gp n cap c wr ta tc ts (upd d i) (upv x i v) W:=by
 have key:∀ (k:Nat) (u:Value),(i=k→v=u)→(d k=true→x k=u)→upd d i k=true→upv x i v k=u:=by
  intro k u hv hx hk
  by_cases e:k=i
  ·subst e; rw[upv_same]; exact hv rfl
  ·rw[upv_other x _ e]; rw[upd_other d e] at hk; exact hx hk
 have e4:upd d i 4=d 4:=upd_other d (Ne.symm h4)
 have e5:upd d i 5=d 5:=upd_other d (Ne.symm h5)
 have e6:upd d i 6=d 6:=upd_other d (Ne.symm h6)
 have e8:upd d i 8=d 8:=upd_other d (Ne.symm h8)
 have f4:upv x i v 4=x 4:=upv_other x _ (Ne.symm h4)
 have f5:upv x i v 5=x 5:=upv_other x _ (Ne.symm h5)
 have f6:upv x i v 6=x 6:=upv_other x _ (Ne.symm h6)
 refine⟨key 0 _ v0 h.x0,key 1 _ v1 h.x1,key 2 _ v2 h.x2,key 3 _ v3 h.x3,key 7 _ v7 h.x7,?_,?_,?_,?_,?_⟩
 ·rw[e6]; exact h.below
 ·rw[e4,e6,f4]; exact h.x4
 ·rw[e5,e6,f5,f4]; exact h.x5
 ·rw[e6,e8,f6]; exact h.x6
 ·rw[e8]; exact h.x8
theorem MoreSt.made (h:MoreSt B0 q g3 gp n cap c wr ta tc ts d x W) (d5:d 5=false) (d6:d 6=false) (d8:d 8=false) (hs:B0≤wr.heap.size) (hb:Below W.heap.size W W') (hr:Row entK 66 W' W.heap.size cap (Tab.new cap)):
 MoreSt B0 q g3 gp n cap c wr ta tc ts (upd d 4) (upv x 4 (rowV (some ⟨W.heap.size,0,none⟩) cap (Tab.new cap))) W':=by
 have hB:=h.below d6
 refine⟨fun e=>h.x0 e,fun e=>h.x1 e,fun e=>h.x2 e,fun e=>h.x3 e,fun e=>h.x7 e,fun _=>below2 hB hb,fun _ _=>⟨W.heap.size,rfl,Nat.le_trans hs hB.size,hr⟩,fun e=>?_,fun e=>?_,fun e=>?_⟩
 ·rw[upd_other d (by decide),d5] at e; cases e
 ·rw[upd_other d (by decide),d6] at e; cases e
 ·rw[upd_other d (by decide),d8] at e; cases e
theorem MoreSt.built (h:MoreSt B0 q g3 gp n cap c wr ta tc ts d x W) (d4:d 4=true) (d6:d 6=false) (d8:d 8=false):
 MoreSt B0 q g3 gp n cap c wr ta tc ts (upd d 5) (upv x 5 (.slice (some ⟨W.heap.size,0,none⟩) 1 1)) (W.alloc (.cells #[x 4] 50)):=by
 have hB:=h.below d6
 have hb:Below W.heap.size W (W.alloc (.cells #[x 4] 50)):=(Below.refl _ W).alloc (Nat.le_refl _) _
 refine⟨fun e=>h.x0 e,fun e=>h.x1 e,fun e=>h.x2 e,fun e=>h.x3 e,fun e=>h.x7 e,fun _=>below2 hB hb,fun _ _=>?_,fun _ _=>⟨W.heap.size,rfl,?_⟩,fun e=>?_,fun e=>?_⟩
 ·obtain⟨b,e,h1,h2⟩:=h.x4 d4 d6
  exact⟨b,e,h1,h2.kept hb⟩
 ·have:=World.alloc_heap_new W (.cells #[x 4] 50)
  unfold World.cell?
  rw[this]; rfl
 ·rw[upd_other d (by decide),d6] at e; cases e
 ·rw[upd_other d (by decide),d8] at e; cases e
theorem MoreSt.grown (h:MoreSt B0 q g3 gp n cap c wr ta tc ts d x W) (hI:NewIs B0 q g3 gp n cap c wr ta tc ts) (d6:d 6=false) (d8:d 8=false) {b:Nat} (hb:B0≤b) (hr:Row entK 66 W b cap (Tab.new cap)) {v:Value}
 (ho:RowG.Own tabK 50 B0 W' v (ts ++ [⟨some ⟨b,0,none⟩,cap,Tab.new cap⟩])) (hg:W.grownBy W' (rowV ta tc ts).ownBlock):
 MoreSt B0 q g3 gp n cap c wr ta tc ts (upd d 6) (upv x 6 v) W':=by
 have hB:=h.below d6
 have ht:Turned (fun k=>(rowV ta tc ts).ownBlock=some k) W W':=⟨hg.os,hg.tape,hg.output,hg.size,fun k hk hn=>hg.block k hk fun e=>hn e.symm⟩
 obtain⟨ta',tc',rfl,-⟩:=ho.lies
 refine⟨fun e=>h.x0 e,fun e=>h.x1 e,fun e=>h.x2 e,fun e=>h.x3 e,fun e=>h.x7 e,fun e=>?_,fun _ e=>?_,fun _ e=>?_,fun _ _=>⟨b,ta',tc',rfl,hb,?_,ho,(Turned.of_below hB).trans ht⟩,fun e=>?_⟩
 ·rw[upd_same] at e; cases e
 ·rw[upd_same] at e; cases e
 ·rw[upd_same] at e; cases e
 ·obtain⟨cur,hc⟩:=row_blk hr
  exact row_kept hr (ht.rest b (heap_lt hc) (own_apart (hI.own.kept hB) hr))
 ·rw[upd_other d (by decide),d8] at e; cases e
theorem MoreSt.laid (h:MoreSt B0 q g3 gp n cap c wr ta tc ts d x W) (hI:NewIs B0 q g3 gp n cap c wr ta tc ts) (d6:d 6=true) (d8:d 8=false) (h3:g3<B0) (hq:q+1<B0) (hp:gp<B0) (n1:q≠g3) (n2:q+1≠g3) (n3:gp≠g3) (v:Value):
 MoreSt B0 q g3 gp n cap c wr ta tc ts (upd d 8) (upv x 8 v) (W.setCell ⟨g3,6,none⟩ (x 6)):=by
 obtain⟨b,ta',tc',e6,hb,hr,ho,ht⟩:=h.x6 d6 d8
 refine⟨fun e=>h.x0 e,fun e=>h.x1 e,fun e=>h.x2 e,fun e=>h.x3 e,fun e=>h.x7 e,fun e=>?_,fun _ e=>?_,fun _ e=>?_,fun _ e=>?_,fun _=>⟨b,ta',tc',?_,?_⟩⟩
 ·rw[upd_other d (by decide),d6] at e; cases e
 ·rw[upd_other d (by decide),d6] at e; cases e
 ·rw[upd_other d (by decide),d6] at e; cases e
 ·rw[upd_same] at e; cases e
 ·rw[e6]; exact hI.more ht ho hb hr h3 hq hp n1 n2 n3
 ·exact (ht.mono fun k hk=>.inr hk).setCell (a:=⟨g3,6,none⟩) (.inl rfl) _
end
set_option maxRecDepth 100000 in
set_option maxHeartbeats 4000000 in
theorem refNew_any {B:Nat→Prop} (cW:Int) (n cap:Nat) (idle cK:Int) (hn:n≤16) (w:World) (hB:∀ k,w.heap.size≤k→B k)
 (hN:∀ W,Calls Tryz.prog 45 #[.int .i64 (cap:Int)] W fun e W'=>e=.returned (rowV (some ⟨W.heap.size,0,none⟩) cap (Tab.new cap))∧Row entK 66 W' W.heap.size cap (Tab.new cap)∧Below W.heap.size W W'):
 Calls Tryz.prog 16 #[cfgV ⟨cW,(n:Int),(cap:Int),idle,cK⟩] w fun e W'=>∃ v,e=.returned v∧MoIs B W' v ⟨cW,(n:Int),(cap:Int),idle,cK⟩ (new n cap)∧Below w.heap.size w W':=by
 obtain⟨c,hc⟩:∃ c:Cfg,(⟨cW,(n:Int),(cap:Int),idle,cK⟩:Cfg)=c:=⟨_,rfl⟩
 obtain⟨k0,k1,k2,k3⟩:=start_boxes w ⟨cW,(n:Int),(cap:Int),idle,cK⟩ rfl
 have K0:=Lib.hid k0
 have K1:=Lib.hid k1
 have K2:=Lib.hid k2
 have K3:=Lib.hid k3
 have CN:=Lib.hid hN
 have HBB:=Lib.hid hB
 have hmk:=fun W=>run_numsN n (by omega) W
 clear hN hB k0 k1 k2 k3 hc c
 go_enter Tryz.func16,Tryz.ntmps16
 go_wp2_with fail
 generalize hW0:(w.alloc (.cells #[.int .i64 cW,.int .i64 (n:Int),.int .i64 (cap:Int),.int .i64 idle,.int .i64 cK] 23)).alloc (.cells (modC ⟨0,0,0,0,0⟩ (sl none 0 0) (sl none 0 0) (sl none 0 0)) 36)=W0 at *
 clear hW0
 obtain⟨y0,y1,y2,y3,y4⟩:=K0.out.cells
 refine wp_region_new (newV w.heap.size ⟨cW,(n:Int),(cap:Int),idle,cK⟩ n W0.heap.size) 6 5 3 36 (modC ⟨0,0,0,0,0⟩ (sl none 0 0) (sl none 0 0) (sl none 0 0)) 9 (newV_kept _ _ _ _) (newV_turn _ _ _ _) (by kernel_rfl) (by kernel_rfl) (by kernel_rfl) rfl rfl (by kernel_rfl) (by kernel_rfl) ?make ?step ?store ?done (by decide)
 case make=>
  refine⟨_,rfl,rfl,fun a' w' K' hK=>?_⟩
  refine op_run (.pointer (some ⟨w'.heap.size,0,none⟩)) (w'.alloc (.cells (modC ⟨0,0,0,0,0⟩ (sl none 0 0) (sl none 0 0) (sl none 0 0)) 36)) ?_ hK
  clear hK
  simp only[List.getElem_toArray,List.getElem_cons_zero,List.getElem_cons_succ,execOp]
  go_simp
 case step=>
  intro d a W i hlt hne hnb hall hI
  replace hlt:i<7:=hlt
  have b0:=hI.below
  obtain rfl | rfl | rfl | rfl | rfl:i=0∨i=1∨i=2∨i=3∨i=4:=by omega
  ·have e1:a.tmps[1]?.getD undef=.pointer (some ⟨w.heap.size,0,none⟩):=hI.old 1 (unwritten_of (by kernel_rfl) d)
   have z0:=(b0.cell (p:=⟨w.heap.size,0,none⟩) (World.block_lt_of_cell? _ _ y0)).trans y0
   have z1:=(b0.cell (p:=⟨w.heap.size,1,none⟩) (World.block_lt_of_cell? _ _ y1)).trans y1
   have z2:=(b0.cell (p:=⟨w.heap.size,2,none⟩) (World.block_lt_of_cell? _ _ y2)).trans y2
   have z3:=(b0.cell (p:=⟨w.heap.size,3,none⟩) (World.block_lt_of_cell? _ _ y3)).trans y3
   have z4:=(b0.cell (p:=⟨w.heap.size,4,none⟩) (World.block_lt_of_cell? _ _ y4)).trans y4
   refine StepN.done rfl (wanted_free rfl) fun K hK=>?_
   refine op_run (cfgV ⟨cW,(n:Int),(cap:Int),idle,cK⟩) W ?_ (hK _ _ (Below.refl _ _) rfl)
   clear hall hI hK y0 y1 y2 y3 y4
   simp only[List.getElem_toArray,List.getElem_cons_zero,execOp,Act.eval]
   go_simp
  ·have e1:a.tmps[1]?.getD undef=.pointer (some ⟨w.heap.size,0,none⟩):=hI.old 1 (unwritten_of (by kernel_rfl) d)
   refine StepN.done rfl (wanted_free rfl) fun K hK=>?_
   refine op_run (.pointer (some ⟨w.heap.size,1,none⟩)) W ?_ (hK _ _ (Below.refl _ _) rfl)
   clear hall hI hK
   simp only[List.getElem_toArray,List.getElem_cons_zero,List.getElem_cons_succ,execOp,Act.eval]
   go_simp
  ·have e6:a.tmps[6]?.getD undef=.pointer (some ⟨w.heap.size,1,none⟩):=hI.val 1 6 rfl (hall 1 (by kernel_rfl)) (by decide)
   have z1:=(b0.cell (p:=⟨w.heap.size,1,none⟩) (World.block_lt_of_cell? _ _ y1)).trans y1
   refine StepN.done rfl (wanted_free rfl) fun K hK=>?_
   refine op_run (.int .i64 (n:Int)) W ?_ (hK _ _ (Below.refl _ _) rfl)
   clear hall hI hK
   simp only[List.getElem_toArray,List.getElem_cons_zero,List.getElem_cons_succ,execOp,Act.eval]
   go_simp
  ·have e7:a.tmps[7]?.getD undef=.int .i64 (n:Int):=hI.val 2 7 rfl (hall 2 (by kernel_rfl)) (by decide)
   have hr:=hmk W
   refine StepN.done rfl (wanted_free rfl) fun K hK=>?_
   refine op_run (.slice (some ⟨W.heap.size,0,none⟩) n n) (W.alloc (.cells (madeCells zeroN n) 3)) ?_ (hK _ _ ((Below.refl _ _).alloc (Nat.le_refl _) _) ⟨_,rfl,b0.size,row_numsN W n (by unfold maxLen; omega)⟩)
   clear hall hI hK
   simp only[List.getElem_toArray,List.getElem_cons_zero,List.getElem_cons_succ,execOp]
   go_simp
  ·have e5:a.tmps[5]?.getD undef=cfgV ⟨cW,(n:Int),(cap:Int),idle,cK⟩:=hI.val 0 5 rfl (hall 0 (by kernel_rfl)) (by decide)
   obtain⟨b,e8,hb,hr⟩:∃ b,a.tmps[8]?.getD undef=.slice (some ⟨b,0,none⟩) n n∧W0.heap.size≤b∧Row numK 3 W b n (List.replicate n 0):=hI.val 3 8 rfl (hall 3 (by kernel_rfl)) (by decide)
   refine StepN.done rfl (wanted_free rfl) fun K hK=>?_
   refine op_run (modV ⟨cW,(n:Int),(cap:Int),idle,cK⟩ (sl none 0 0) (sl none 0 0) (.slice (some ⟨b,0,none⟩) n n)) W ?_ (hK _ _ (Below.refl _ _) ⟨b,rfl,hb,hr⟩)
   clear hall hI hK hr
   simp only[List.getElem_toArray,List.getElem_cons_zero,List.getElem_cons_succ,execOp]
   go_simp
 case store=>
  intro d a W b hall e3 hb0 hI
  obtain⟨bp,e9,-⟩:∃ b,a.tmps[9]?.getD undef=modV ⟨cW,(n:Int),(cap:Int),idle,cK⟩ (sl none 0 0) (sl none 0 0) (.slice (some ⟨b,0,none⟩) n n)∧W0.heap.size≤b∧Row numK 3 W b n (List.replicate n 0):=hI.val 4 9 rfl (hall 4 (by kernel_rfl)) (by decide)
  clear hI hall
  obtain⟨⟨x0,x1,x2,x3,x4,x5,x6,x7⟩,fs⟩:=(show ModBox W b ⟨0,0,0,0,0⟩ (sl none 0 0) (sl none 0 0) (sl none 0 0) from hb0).cells
  have f0:=fs 0
  have f1:=fs 1
  have f2:=fs 2
  have f3:=fs 3
  have f4:=fs 4
  have f5:=fs 5
  have f6:=fs 6
  have f7:=fs 7
  clear fs
  refine⟨_,rfl,wanted_free rfl,fun K hK=>?_⟩
  have hs:=hK _ (show Stored b 36 (a.tmps[9]?.getD undef).cells W _ from by rw[e9]; exact stored8 hb0 (.int .i64 cW) (.int .i64 (n:Int)) (.int .i64 (cap:Int)) (.int .i64 idle) (.int .i64 cK) (sl none 0 0) (sl none 0 0) (.slice (some ⟨bp,0,none⟩) n n))
  clear hK
  unfold Oper.wp
  simp only[List.getElem_toArray,List.getElem_cons_zero,List.getElem_cons_succ,execOp]
  go_simp
  exact hs
 case done=>
  intro a W hI
  obtain⟨gp,e9,hgp,hrow⟩:∃ b,a.tmps[9]?.getD undef=modV ⟨cW,(n:Int),(cap:Int),idle,cK⟩ (sl none 0 0) (sl none 0 0) (.slice (some ⟨b,0,none⟩) n n)∧W0.heap.size≤b∧Row numK 3 W b n (List.replicate n 0):=hI.val 4 9 rfl rfl (by decide)
  obtain⟨g3,e3,hg3,hbox⟩:=hI.box rfl
  rw[if_pos rfl,e9] at hbox
  replace hbox:ModBox W g3 ⟨cW,(n:Int),(cap:Int),idle,cK⟩ (sl none 0 0) (sl none 0 0) (sl (some ⟨gp,0,none⟩) n n):=hbox
  have b0:=hI.below
  have HI0:=Lib.hid (show NewIs W.heap.size w.heap.size g3 gp n cap ⟨cW,(n:Int),(cap:Int),idle,cK⟩ W none 0 [] from
   ⟨hbox,(b0.block _ (heap_lt K0.out)).trans K0.out,K1.out.kept b0 (heap_lt K1.out),hrow,own_nil _ _,fun x hx=>absurd hx (by simp),Nat.le_refl _⟩)
  have HB0:=Lib.hid (below2 K2.out b0)
  have n0:g3<W.heap.size:=heap_lt hbox
  have n1:gp<W.heap.size:=by obtain⟨cur,hg⟩:=row_blk hrow; exact heap_lt hg
  have n2:gp≠g3:=row_apart hrow hbox
  have hk3:=K3.out
  have n3:w.heap.size≠g3:=by omega
  have n4:w.heap.size+1≠g3:=by omega
  have n5:w.heap.size+1<W.heap.size:=by omega
  obtain⟨t,df⟩:=a
  obtain rfl:df=[]:=hI.defs
  have hz:t.size=25:=hI.size
  obtain⟨e0,e1,e2,e4,e10,e11,e12,e13,e14,e15,e16,e17,e18,e19,e20,e21,e22,e23,e24,-⟩:=olds hI.old [0,1,2,4,10,11,12,13,14,15,16,17,18,19,20,21,22,23,24] (by kernel_rfl)
  have HG:=Lib.hid (show w.heap.size≤g3 by omega)
  have HGQ:=Lib.hid (show w.heap.size+2≤gp by omega)
  have HW:=Lib.hid (show w.heap.size≤W.heap.size by omega)
  clear hI hbox hrow b0 e9 hg3 hgp hmk K0 K1 K2 K3 hk3 y0 y1 y2 y3 y4
  simp only[List.getElem?_toArray,List.getElem?_cons_succ,List.getElem?_cons_zero,Option.getD_some] at e0 e1 e2 e4 e10 e11 e12 e13 e14 e15 e16 e17 e18 e19 e20 e21 e22 e23 e24
  obtain⟨ys,hy,ht⟩:=arr_slots t 25 hz
  have hl2:(slotsFrom ys 0 25).toArray=#[ys 0,ys 1,ys 2,ys 3,ys 4,ys 5,ys 6,ys 7,ys 8,ys 9,ys 10,ys 11,ys 12,ys 13,ys 14,ys 15,ys 16,ys 17,ys 18,ys 19,ys 20,ys 21,ys 22,ys 23,ys 24]:=rfl
  rw[hy] at e0 e1 e2 e4 e10 e11 e12 e13 e14 e15 e16 e17 e18 e19 e20 e21 e22 e23 e24 e3
  rw[ht,hl2,e0,e1,e2,e4,e10,e11,e12,e13,e14,e15,e16,e17,e18,e19,e20,e21,e22,e23,e24,e3]
  clear ht hl2 hz hy e0 e1 e2 e4 e10 e11 e12 e13 e14 e15 e16 e17 e18 e19 e20 e21 e22 e23 e24 e3
  have hp1:w.heap.size+1=w.heap.size+1:=rfl
  generalize hB0e:W.heap.size=B0 at *
  obtain⟨q,hq⟩:∃ q,w.heap.size=q:=⟨_,rfl⟩
  have HQ:=Lib.hid hq
  rw[hq] at HI0 n3 n4 n5 ⊢
  clear hp1 hq
  go_wp2_with fail
  go_loopw [4] (fun i W=>∃ (k:Nat) (ta:Option Addr) (tc:Nat) (ts:List TabM),k≤n∧i=.int .i64 k∧ts.length=k∧NewIs B0 q g3 gp n cap ⟨cW,(n:Int),(cap:Int),idle,cK⟩ W ta tc ts∧Below w.heap.size w W) (fun i _=>n - (intOf i).toNat)
  case atStart=>exact⟨0,_,_,_,Nat.zero_le _,rfl,rfl,HI0.out,HB0.out⟩
  case round=>
   clear HI0 HB0
   obtain⟨k,ta,tc,ts,hk,rfl,hlen,hI,hB⟩:=hrel
   have HI:=Lib.hid hI
   have HB:=Lib.hid hB
   clear hI hB
   obtain⟨y0,y1,y2,y3,y4⟩:=HI.out.cfg.cells
   by_cases hlt:k<n
   ·have hsz:=HI.out.size
    have hmod:=HI.out.mod
    go_wp2_with fail
    refine wp_region_st (MoreSt B0 q g3 gp n cap ⟨cW,(n:Int),(cap:Int),idle,cK⟩ wr ta tc ts) (by kernel_rfl) (by kernel_rfl) (by kernel_rfl) ?start ?step ?done
    case start=>exact⟨(fun e=>by cases e),(fun e=>by cases e),(fun e=>by cases e),(fun e=>by cases e),(fun e=>by cases e),(fun _=>(Below.refl _ _).drew),(fun e=>by cases e),(fun e=>by cases e),(fun e=>by cases e),(fun e=>by cases e)⟩
    case step=>
     intro d x a W i hil hd hall hI
     replace hil:i<9:=hil
     have st:=hI.st
     have w86:d 8=true→d 6=true:=fun h=>hI.shut 8 6 h (by kernel_rfl)
     have w65:d 6=true→d 5=true:=fun h=>hI.shut 6 5 h (by kernel_rfl)
     have w54:d 5=true→d 4=true:=fun h=>hI.shut 5 4 h (by kernel_rfl)
     have w43:d 4=true→d 3=true:=fun h=>hI.shut 4 3 h (by kernel_rfl)
     have w61:d 6=true→d 1=true:=fun h=>hI.shut 6 1 h (by kernel_rfl)
     have no:∀ j k,(d j=true→d k=true)→d k=false→d j=false:=fun j k h1 h2=>by
      cases h:d j with
      | false=>rfl
      | true=>rw[h1 h] at h2; cases h2
     obtain rfl | rfl | rfl | rfl | rfl | rfl | rfl | rfl | rfl:i=0∨i=1∨i=2∨i=3∨i=4∨i=5∨i=6∨i=7∨i=8:=by omega
     ·have e3:a.tmps[3]?.getD undef=.pointer (some ⟨g3,0,none⟩):=hI.old 3 (unwritten_of (by kernel_rfl) d)
      refine StepS.done rfl (wanted_free rfl) fun K hK=>?_
      refine op_run (.pointer (some ⟨g3,6,none⟩)) W ?_ (hK _ _ (st.same (by decide) (by decide) (by decide) (by decide) (fun _=>rfl) (fun e=>absurd e (by decide)) (fun e=>absurd e (by decide)) (fun e=>absurd e (by decide)) (fun e=>absurd e (by decide))))
      clear hall hI hK st y0 y1 y2 y3 y4
      simp only[List.getElem_toArray,List.getElem_cons_zero,execOp,Act.eval]
      go_simp
     ·have d6:=no 6 1 w61 hd
      have e16:a.tmps[16]?.getD undef=.pointer (some ⟨g3,6,none⟩):=(hI.val 0 16 rfl (hall 0 (by kernel_rfl))).trans (st.x0 (hall 0 (by kernel_rfl)))
      obtain⟨⟨-,-,-,-,-,-,c6,-⟩,-⟩:=(hmod.kept (st.below d6) (by omega)).cells
      refine StepS.done rfl (wanted_free rfl) fun K hK=>?_
      refine op_run (rowV ta tc ts) W ?_ (hK _ _ (st.same (by decide) (by decide) (by decide) (by decide) (fun e=>absurd e (by decide)) (fun _=>rfl) (fun e=>absurd e (by decide)) (fun e=>absurd e (by decide)) (fun e=>absurd e (by decide))))
      clear hall hI hK st y0 y1 y2 y3 y4
      simp only[List.getElem_toArray,List.getElem_cons_zero,List.getElem_cons_succ,execOp,Act.eval]
      go_simp
     ·have e1:a.tmps[1]?.getD undef=.pointer (some ⟨q,0,none⟩):=hI.old 1 (unwritten_of (by kernel_rfl) d)
      refine StepS.done rfl (wanted_free rfl) fun K hK=>?_
      refine op_run (.pointer (some ⟨q,2,none⟩)) W ?_ (hK _ _ (st.same (by decide) (by decide) (by decide) (by decide) (fun e=>absurd e (by decide)) (fun e=>absurd e (by decide)) (fun _=>rfl) (fun e=>absurd e (by decide)) (fun e=>absurd e (by decide))))
      clear hall hI hK st y0 y1 y2 y3 y4
      simp only[List.getElem_toArray,List.getElem_cons_zero,List.getElem_cons_succ,execOp,Act.eval]
      go_simp
     ·have d6:=no 6 3 (fun h=>w43 (w54 (w65 h))) hd
      have e18:a.tmps[18]?.getD undef=.pointer (some ⟨q,2,none⟩):=(hI.val 2 18 rfl (hall 2 (by kernel_rfl))).trans (st.x2 (hall 2 (by kernel_rfl)))
      have z2:=((st.below d6).cell (p:=⟨q,2,none⟩) (World.block_lt_of_cell? _ _ y2)).trans y2
      refine StepS.done rfl (wanted_free rfl) fun K hK=>?_
      refine op_run (.int .i64 (cap:Int)) W ?_ (hK _ _ (st.same (by decide) (by decide) (by decide) (by decide) (fun e=>absurd e (by decide)) (fun e=>absurd e (by decide)) (fun e=>absurd e (by decide)) (fun _=>rfl) (fun e=>absurd e (by decide))))
      clear hall hI hK st y0 y1 y2 y3 y4
      simp only[List.getElem_toArray,List.getElem_cons_zero,List.getElem_cons_succ,execOp,Act.eval]
      go_simp
     ·have d5:=no 5 4 w54 hd
      have d6:=no 6 5 w65 d5
      have d8:=no 8 6 w86 d6
      have e19:a.tmps[19]?.getD undef=.int .i64 (cap:Int):=(hI.val 3 19 rfl (hall 3 (by kernel_rfl))).trans (st.x3 (hall 3 (by kernel_rfl)))
      refine StepS.done rfl (wanted_free rfl) fun K hK=>?_
      refine op_call 45 #[.int .i64 (cap:Int)] (fun v W2=>v=rowV (some ⟨W.heap.size,0,none⟩) cap (Tab.new cap)∧Row entK 66 W2 W.heap.size cap (Tab.new cap)∧Below W.heap.size W W2) ?_ ((CN.out W).mono fun e W2 ⟨he,h1,h2⟩=>⟨_,he,rfl,h1,h2⟩) (fun v W2 ⟨hv,h1,h2⟩=>by subst hv; exact hK _ _ (st.made d5 d6 d8 hsz h2 h1))
      clear hall hI hK st y0 y1 y2 y3 y4
      simp only[List.getElem_toArray,List.getElem_cons_zero,List.getElem_cons_succ,execOp]
      go_simp
     ·have d6:=no 6 5 w65 hd
      have d8:=no 8 6 w86 d6
      have e20:a.tmps[20]?.getD undef=x 4:=hI.val 4 20 rfl (hall 4 (by kernel_rfl))
      obtain⟨b,e4,-,-⟩:=st.x4 (hall 4 (by kernel_rfl)) d6
      refine StepS.done rfl (wanted_free rfl) fun K hK=>?_
      refine op_run (.slice (some ⟨W.heap.size,0,none⟩) 1 1) (W.alloc (.cells #[x 4] 50)) ?_ (hK _ _ (st.built (hall 4 (by kernel_rfl)) d6 d8))
      rw[e4] at e20 ⊢
      clear hall hI hK st y0 y1 y2 y3 y4
      simp only[List.getElem_toArray,List.getElem_cons_zero,List.getElem_cons_succ,execOp]
      go_simp
     ·have d8:=no 8 6 w86 hd
      have e17:a.eval (.tmp 17)=rowV ta tc ts:=by rw[eval_tmp]; exact (hI.val 1 17 rfl (hall 1 (by kernel_rfl))).trans (st.x1 (hall 1 (by kernel_rfl)))
      obtain⟨b,e4,hb,hr⟩:=st.x4 (w54 (hall 5 (by kernel_rfl))) hd
      obtain⟨b2,e5,hc⟩:=st.x5 (hall 5 (by kernel_rfl)) hd
      have e21:a.eval (.tmp 21)=.slice (some ⟨b2,0,none⟩) 1 1:=by rw[eval_tmp]; exact (hI.val 5 21 rfl (hall 5 (by kernel_rfl))).trans e5
      rw[e4] at hc
      have hB:=st.below hd
      have hOw:=HI.out.own.kept hB
      obtain⟨i0,hi,hz0,hz1,hz2⟩:=info_parts info_tab
      refine StepS.done rfl (wanted_free rfl) fun K hK=>?_
      refine wp_append_own W (.tmp 17) (.tmp 21) 33 rfl B0 50 i0 (.slice none 0 0) tabK.c 24 Tryz.underlying33 hi hz0 hz1 hz2 rfl tabK.pos (rowV ta tc ts) ts.length (flat tabK ts) e17 hOw ⟨b2,0,none⟩ 1 1 (tabK.enc ⟨some ⟨b,0,none⟩,cap,Tab.new cap⟩) e21 rfl ?c1 (tabK.one _) (by unfold maxLen; omega) (by omega) (Nat.le_trans hsz hB.size) ?c2
      case c1=>
       intro j u hj
       match j,hj with
       | 0,hj=>simp[tabK] at hj; subst hj; exact hc
       | j+1,hj=>simp[tabK] at hj
      case c2=>
       intro v' W' h1 h2 _
       refine hK _ _ (st.grown HI.out hd d8 hb hr ?_ h2)
       show W'.ownsRow B0 50 tabK.c v' (ts ++ [_]).length (flat tabK (ts ++ [_]))
       rw[flat_more,List.length_append]
       exact h1
     ·have e3:a.tmps[3]?.getD undef=.pointer (some ⟨g3,0,none⟩):=hI.old 3 (unwritten_of (by kernel_rfl) d)
      refine StepS.done rfl (wanted_free rfl) fun K hK=>?_
      refine op_run (.pointer (some ⟨g3,6,none⟩)) W ?_ (hK _ _ (st.same (by decide) (by decide) (by decide) (by decide) (fun e=>absurd e (by decide)) (fun e=>absurd e (by decide)) (fun e=>absurd e (by decide)) (fun e=>absurd e (by decide)) (fun _=>rfl)))
      clear hall hI hK st y0 y1 y2 y3 y4
      simp only[List.getElem_toArray,List.getElem_cons_zero,List.getElem_cons_succ,execOp,Act.eval]
      go_simp
     ·have d6:d 6=true:=hall 6 (by kernel_rfl)
      have e23:a.tmps[23]?.getD undef=.pointer (some ⟨g3,6,none⟩):=(hI.val 7 23 rfl (hall 7 (by kernel_rfl))).trans (st.x7 (hall 7 (by kernel_rfl)))
      have e22:a.tmps[22]?.getD undef=x 6:=hI.val 6 22 rfl d6
      obtain⟨b,ta',tc',e6,-,-,-,ht⟩:=st.x6 d6 hd
      have hm:ModBox W g3 ⟨cW,(n:Int),(cap:Int),idle,cK⟩ (sl none 0 0) (rowV ta tc ts) (sl (some ⟨gp,0,none⟩) n n):=(ht.rest g3 (heap_lt hmod) (own_from' HI.out.own g3 n0)).trans hmod
      obtain⟨⟨-,-,-,-,-,-,c6,-⟩,fr⟩:=hm.cells
      have f6:=fr 6
      refine StepS.done rfl (wanted_free rfl) fun K hK=>?_
      have hs:K a (W.setCell ⟨g3,6,none⟩ (x 6)):=hK undef _ (st.laid HI.out d6 hd n0 n5 n1 n3 n4 n2 undef)
      rw[e6] at e22 hs
      clear hK hall hI st y0 y1 y2 y3 y4 fr ht hm e6
      generalize ts ++ [(⟨some ⟨b,0,none⟩,cap,Tab.new cap⟩:TabM)]=us at *
      unfold Oper.wp
      simp only[List.getElem_toArray,List.getElem_cons_zero,List.getElem_cons_succ,execOp]
      go_simp
      exact hs
    case done=>
     intro d x a W hall hI
     replace hall:∀ i,i<9→d i=true:=hall
     obtain⟨b,ta',tc',hn8,ht8⟩:=hI.st.x8 (hall 8 (by omega))
     have HI8:=Lib.hid hn8
     have HB8:=Lib.hid (ht8.below HB.out HB.out.size fun k hk=>by
      rcases hk with rfl | hk
      ·have:=HQ.out; have:=HG.out; omega
      ·have h1:B0≤k:=by
        rcases Nat.lt_or_ge k B0 with h | h
        ·exact absurd hk (own_from' HI.out.own k h)
        ·exact h
       have:=HW.out; omega)
     obtain⟨t,df⟩:=a
     obtain rfl:df=[]:=hI.defs
     have hz:t.size=25:=hI.size
     obtain⟨e0,e1,e2,e3,e4,e5,e6,e7,e8,e9,e10,e11,e12,e13,e14,e15,e24,-⟩:=olds hI.old [0,1,2,3,4,5,6,7,8,9,10,11,12,13,14,15,24] (by kernel_rfl)
     clear hI hall hn8 ht8 hmod hsz y0 y1 y2 y3 y4
     simp only[List.getElem?_toArray,List.getElem?_cons_succ,List.getElem?_cons_zero,Option.getD_some] at e0 e1 e2 e3 e4 e5 e6 e7 e8 e9 e10 e11 e12 e13 e14 e15 e24
     obtain⟨ys2,hy,ht⟩:=arr_slots t 25 hz
     have hl2:(slotsFrom ys2 0 25).toArray=#[ys2 0,ys2 1,ys2 2,ys2 3,ys2 4,ys2 5,ys2 6,ys2 7,ys2 8,ys2 9,ys2 10,ys2 11,ys2 12,ys2 13,ys2 14,ys2 15,ys2 16,ys2 17,ys2 18,ys2 19,ys2 20,ys2 21,ys2 22,ys2 23,ys2 24]:=rfl
     rw[hy] at e0 e1 e2 e3 e4 e5 e6 e7 e8 e9 e10 e11 e12 e13 e14 e15 e24
     rw[ht,hl2,e0,e1,e2,e3,e4,e5,e6,e7,e8,e9,e10,e11,e12,e13,e14,e15,e24]
     clear ht hl2 hz hy e0 e1 e2 e3 e4 e5 e6 e7 e8 e9 e10 e11 e12 e13 e14 e15 e24
     go_wp2_with fail
     exact⟨⟨k+1,ta',tc',_,hlt,by go_num,by simp[hlen],HI8.out,HB8.out⟩,by simp[intOf]; omega⟩
   ·obtain rfl:k=n:=by omega
    have M3:=HI.out.mod
    have R0:=HI.out.res
    obtain⟨⟨x0,x1,x2,x3,x4,x5,x6,x7⟩,-⟩:=M3.cells
    obtain⟨⟨r0,r1,r2,r3,r4,r5,r6,r7⟩,fs⟩:=R0.cells
    have f0:=fs 0
    have f1:=fs 1
    have f2:=fs 2
    have f3:=fs 3
    have f4:=fs 4
    have f5:=fs 5
    have f6:=fs 6
    have f7:=fs 7
    clear fs
    have HM:=Lib.hid (R0.put (c:=⟨cW,(k:Int),(cap:Int),idle,cK⟩) (pv:=sl none 0 0) (tv:=rowV ta tc ts) (lv:=sl (some ⟨gp,0,none⟩) k k))
    have far:∀ j,j≠q+1→(putMod wr (q+1) ⟨cW,(k:Int),(cap:Int),idle,cK⟩ (sl none 0 0) (rowV ta tc ts) (sl (some ⟨gp,0,none⟩) k k)).heap[j]? =wr.heap[j]? :=fun j hj=>mod_rest wr (q+1) _ _ _ _ j hj
    have HBL:=Lib.hid (putMod_below HB.out (show w.heap.size≤q+1 by have:=HQ.out; omega) ⟨cW,(k:Int),(cap:Int),idle,cK⟩ (sl none 0 0) (rowV ta tc ts) (sl (some ⟨gp,0,none⟩) k k))
    have HMI:=Lib.hid (HI.out.is (W8:=putMod wr (q+1) ⟨cW,(k:Int),(cap:Int),idle,cK⟩ (sl none 0 0) (rowV ta tc ts) (sl (some ⟨gp,0,none⟩) k k)) far hlen (B:=B) (fun j hj=>HBB.out j (by have:=HW.out; omega)) n5 (HBB.out gp (by have:=HGQ.out; omega)) (by have:=HGQ.out; have:=HQ.out; omega))
    clear M3 R0 far hlen
    go_wp2
    obtain⟨⟨s0,s1,s2,s3,s4,s5,s6,s7⟩,-⟩:=HM.out.cells
    unfold putMod at s0 s1 s2 s3 s4 s5 s6 s7
    dsimp only at s0 s1 s2 s3 s4 s5 s6 s7
    clear x0 x1 x2 x3 x4 x5 x6 x7 r0 r1 r2 r3 r4 r5 r6 r7 f0 f1 f2 f3 f4 f5 f6 f7 y0 y1 y2 y3 y4
    refine bodyPost_ret (v:=modV ⟨cW,(k:Int),(cap:Int),idle,cK⟩ (sl none 0 0) (rowV ta tc ts) (sl (some ⟨gp,0,none⟩) k k)) ?q1 rfl ?q2
    case q1=>
     simp only[results,Tryz.results16]
     simp[go_sem,s0,s1,s2,s3,s4,s5,s6,s7]
    case q2=>
     refine⟨_,rfl,⟨none,0,ta,tc,ts,some ⟨gp,0,none⟩,k,?_,HMI.out⟩,HBL.out⟩
     show _=modV _ (sl none 0 0) _ (sl _ (new k cap).places.length k)
     rw[show (new k cap).places.length=k by simp[new]]
end Go.Proofs.YtbamodkgagcmnaaGreat.Mod
