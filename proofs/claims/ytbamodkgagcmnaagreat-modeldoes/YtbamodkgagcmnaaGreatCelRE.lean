/-
  The document's model (package gangplankref17): in, Check, Small.
-/
import Derived.Test.YtbamodkgagcmnaaGreatBTabE
import Derived.WalkMore
import Derived.Lib.Hide
import Derived.Below
import Derived.Test.YtbamodkgagcmnaaGreatBFnvE
import Derived.WalkKit
set_option maxRecDepth 100000
namespace Go.Proofs.YtbamodkgagcmnaaGreat.Mod
open Go.RowKit Go.Shelf Go.WideShapes
attribute [local go_sem] Oper.semAt_some
structure Cfg where
 W:Int
 S:Int
 cap:Int
 idle:Int
 K:Int
deriving DecidableEq
abbrev cfgV (c:Cfg):Value:=.agg #[.int .i64 c.W,.int .i64 c.S,.int .i64 c.cap,.int .i64 c.idle,.int .i64 c.K]
def inB (n lo hi:Int):Bool:=decide (lo≤n∧n≤hi)
def okB (c:Cfg):Bool:=inB c.W 1 64 && (inB c.S 1 16 && (inB c.cap 1 64 && (inB c.idle 0 1000000 && inB c.K 2 8)))
def smallB (c:Cfg):Bool:=decide (c.W≤6) && (decide (c.S≤6) && decide (c.cap≤12))
set_option maxHeartbeats 400000 in
theorem refin_any (n lo hi:Int) (w:World):Calls Tryz.prog 44 #[.int .i64 n,.int .i64 lo,.int .i64 hi] w fun e W'=>e=.returned (.bool (inB n lo hi))∧W'=w:=by
 by_cases h0:lo≤n
 ·by_cases h1:n≤hi
  ·have d0:decide (lo≤n)=true:=decide_eq_true h0
   have d1:decide (n≤hi)=true:=decide_eq_true h1
   have HS:=Lib.hid (show inB n lo hi=true by unfold inB; exact decide_eq_true ⟨h0,h1⟩)
   go_enter Tryz.func44,Tryz.ntmps44
   go_wp2_with fail
   go_ret
   exact⟨by rw[HS.out]; rfl,rfl⟩
  ·have d0:decide (lo≤n)=true:=decide_eq_true h0
   have d1:decide (n≤hi)=false:=decide_eq_false h1
   have HS:=Lib.hid (show inB n lo hi=false by unfold inB; exact decide_eq_false fun e=>h1 e.2)
   go_enter Tryz.func44,Tryz.ntmps44
   go_wp2_with fail
   go_ret
   exact⟨by rw[HS.out]; rfl,rfl⟩
 ·have d0:decide (lo≤n)=false:=decide_eq_false h0
  have HS:=Lib.hid (show inB n lo hi=false by unfold inB; exact decide_eq_false fun e=>h0 e.1)
  go_enter Tryz.func44,Tryz.ntmps44
  go_wp2_with fail
  go_ret
  exact⟨by rw[HS.out]; rfl,rfl⟩
set_option maxHeartbeats 400000 in
theorem refSmall_any (c:Cfg) (w:World):Calls Tryz.prog 41 #[cfgV c] w fun e W'=>e=.returned (.bool (smallB c))∧Below w.heap.size w W':=by
 obtain⟨W,S,cap,idle,K⟩:=c
 have HS:=Lib.hid (show smallB ⟨W,S,cap,idle,K⟩=(decide (W≤6) && (decide (S≤6) && decide (cap≤12))) from rfl)
 cases d0:decide (W≤6) <;> cases d1:decide (S≤6) <;> cases d2:decide (cap≤12) <;> rw[d0,d1,d2] at HS <;>
  (go_enter Tryz.func41,Tryz.ntmps41
   go_wp2
   go_ret
   exact⟨by rw[HS.out]; rfl,by first | exact Below.refl _ _ | exact (Below.refl _ w).alloc (Nat.le_refl _) _⟩)
def errOf (b:Bool):Int:=if b=true then 0 else 1
set_option maxHeartbeats 1000000 in
theorem refCheck_any (c:Cfg) (w:World):Calls Tryz.prog 14 #[cfgV c] w fun e W'=>e=.returned (.int .i64 (errOf (okB c)))∧Below w.heap.size w W':=by
 obtain⟨W,S,cap,idle,K⟩:=c
 have S1:=Lib.hid (refin_any W 1 64)
 have S2:=Lib.hid (refin_any S 1 16)
 have S3:=Lib.hid (refin_any cap 1 64)
 have S4:=Lib.hid (refin_any idle 0 1000000)
 have S5:=Lib.hid (refin_any K 2 8)
 have HS:=Lib.hid (show okB ⟨W,S,cap,idle,K⟩=(inB W 1 64 && (inB S 1 16 && (inB cap 1 64 && (inB idle 0 1000000 && inB K 2 8)))) from rfl)
 cases h1:inB W 1 64 with
 | false=>
   simp only[h1] at S1
   have HE:=Lib.hid (show okB ⟨W,S,cap,idle,K⟩=false by rw[HS.out,h1]; rfl)
   clear HS h1
   go_enter Tryz.func14,Tryz.ntmps14
   go_wp2_with fail
   refine (S1.out _).mono ?_
   rintro e w1 ⟨rfl,rfl⟩
   go_wp2_with fail
   go_ret
   exact⟨by rw[HE.out]; rfl,by first | exact Below.refl _ _ | exact (Below.refl _ _).alloc (Nat.le_refl _) _⟩
 | true=>
   cases h2:inB S 1 16 with
   | false=>
     simp only[h1] at S1
     simp only[h2] at S2
     have HE:=Lib.hid (show okB ⟨W,S,cap,idle,K⟩=false by rw[HS.out,h1,h2]; rfl)
     clear HS h1 h2
     go_enter Tryz.func14,Tryz.ntmps14
     go_wp2_with fail
     refine (S1.out _).mono ?_
     rintro e w1 ⟨rfl,rfl⟩
     go_wp2_with fail
     refine (S2.out _).mono ?_
     rintro e w2 ⟨rfl,rfl⟩
     go_wp2_with fail
     go_ret
     exact⟨by rw[HE.out]; rfl,by first | exact Below.refl _ _ | exact (Below.refl _ _).alloc (Nat.le_refl _) _⟩
   | true=>
     cases h3:inB cap 1 64 with
     | false=>
       simp only[h1] at S1
       simp only[h2] at S2
       simp only[h3] at S3
       have HE:=Lib.hid (show okB ⟨W,S,cap,idle,K⟩=false by rw[HS.out,h1,h2,h3]; rfl)
       clear HS h1 h2 h3
       go_enter Tryz.func14,Tryz.ntmps14
       go_wp2_with fail
       refine (S1.out _).mono ?_
       rintro e w1 ⟨rfl,rfl⟩
       go_wp2_with fail
       refine (S2.out _).mono ?_
       rintro e w2 ⟨rfl,rfl⟩
       go_wp2_with fail
       refine (S3.out _).mono ?_
       rintro e w3 ⟨rfl,rfl⟩
       go_wp2_with fail
       go_ret
       exact⟨by rw[HE.out]; rfl,by first | exact Below.refl _ _ | exact (Below.refl _ _).alloc (Nat.le_refl _) _⟩
     | true=>
       cases h4:inB idle 0 1000000 with
       | false=>
         simp only[h1] at S1
         simp only[h2] at S2
         simp only[h3] at S3
         simp only[h4] at S4
         have HE:=Lib.hid (show okB ⟨W,S,cap,idle,K⟩=false by rw[HS.out,h1,h2,h3,h4]; rfl)
         clear HS h1 h2 h3 h4
         go_enter Tryz.func14,Tryz.ntmps14
         go_wp2_with fail
         refine (S1.out _).mono ?_
         rintro e w1 ⟨rfl,rfl⟩
         go_wp2_with fail
         refine (S2.out _).mono ?_
         rintro e w2 ⟨rfl,rfl⟩
         go_wp2_with fail
         refine (S3.out _).mono ?_
         rintro e w3 ⟨rfl,rfl⟩
         go_wp2_with fail
         refine (S4.out _).mono ?_
         rintro e w4 ⟨rfl,rfl⟩
         go_wp2_with fail
         go_ret
         exact⟨by rw[HE.out]; rfl,by first | exact Below.refl _ _ | exact (Below.refl _ _).alloc (Nat.le_refl _) _⟩
       | true=>
         cases h5:inB K 2 8 with
         | false=>
           simp only[h1] at S1
           simp only[h2] at S2
           simp only[h3] at S3
           simp only[h4] at S4
           simp only[h5] at S5
           have HE:=Lib.hid (show okB ⟨W,S,cap,idle,K⟩=false by rw[HS.out,h1,h2,h3,h4,h5]; rfl)
           clear HS h1 h2 h3 h4 h5
           go_enter Tryz.func14,Tryz.ntmps14
           go_wp2_with fail
           refine (S1.out _).mono ?_
           rintro e w1 ⟨rfl,rfl⟩
           go_wp2_with fail
           refine (S2.out _).mono ?_
           rintro e w2 ⟨rfl,rfl⟩
           go_wp2_with fail
           refine (S3.out _).mono ?_
           rintro e w3 ⟨rfl,rfl⟩
           go_wp2_with fail
           refine (S4.out _).mono ?_
           rintro e w4 ⟨rfl,rfl⟩
           go_wp2_with fail
           refine (S5.out _).mono ?_
           rintro e w5 ⟨rfl,rfl⟩
           go_wp2_with fail
           go_ret
           exact⟨by rw[HE.out]; rfl,by first | exact Below.refl _ _ | exact (Below.refl _ _).alloc (Nat.le_refl _) _⟩
         | true=>
           simp only[h1] at S1
           simp only[h2] at S2
           simp only[h3] at S3
           simp only[h4] at S4
           simp only[h5] at S5
           have HE:=Lib.hid (show okB ⟨W,S,cap,idle,K⟩=true by rw[HS.out,h1,h2,h3,h4,h5]; rfl)
           clear HS h1 h2 h3 h4 h5
           go_enter Tryz.func14,Tryz.ntmps14
           go_wp2_with fail
           refine (S1.out _).mono ?_
           rintro e w1 ⟨rfl,rfl⟩
           go_wp2_with fail
           refine (S2.out _).mono ?_
           rintro e w2 ⟨rfl,rfl⟩
           go_wp2_with fail
           refine (S3.out _).mono ?_
           rintro e w3 ⟨rfl,rfl⟩
           go_wp2_with fail
           refine (S4.out _).mono ?_
           rintro e w4 ⟨rfl,rfl⟩
           go_wp2_with fail
           refine (S5.out _).mono ?_
           rintro e w5 ⟨rfl,rfl⟩
           go_wp2_with fail
           go_ret
           exact⟨by rw[HE.out]; rfl,by first | exact Below.refl _ _ | exact (Below.refl _ _).alloc (Nat.le_refl _) _⟩
end Go.Proofs.YtbamodkgagcmnaaGreat.Mod
set_option maxRecDepth 100000
namespace Go.Proofs.YtbamodkgagcmnaaGreat.Mod
open Go.RowKit Go.Shelf Go.WideShapes RowG Trn
attribute [local go_sem] Oper.semAt_some
structure TabM where
 p:Option Addr
 c:Nat
 T:List Tab.Ent
instance :Inhabited TabM:=⟨⟨none,0,[]⟩⟩
abbrev tabV (x:TabM):Value:=rowV x.p x.c x.T
def tabK:Kind TabM:=⟨1,fun x=>[tabV x],by decide,fun _=>rfl,fun x u hu=>by
 simp at hu; subst hu; rfl⟩
theorem info_tab:(Tryz.prog.info? 50).map (fun i=>(i.zero,i.size,i.bytes))=some (some (.slice none 0 0),tabK.c,24):=by kernel_rfl
abbrev modC (c:Cfg) (pv tv lv:Value):Array Value:=#[.int .i64 c.W,.int .i64 c.S,.int .i64 c.cap,.int .i64 c.idle,.int .i64 c.K,pv,tv,lv]
abbrev modV (c:Cfg) (pv tv lv:Value):Value:=.agg (modC c pv tv lv)
abbrev sl (a:Option Addr) (n c:Nat):Value:=.slice a n c
def ModBox (W:World) (g:Nat) (c:Cfg) (pv tv lv:Value):Prop:=W.heap[g]? =some (.cells (modC c pv tv lv) 36 (0,0))
theorem ModBox.cells {W:World} {g:Nat} {c:Cfg} {pv tv lv:Value} (h:ModBox W g c pv tv lv):(W.cell? ⟨g,0,none⟩=some (.int .i64 c.W)∧W.cell? ⟨g,1,none⟩=some (.int .i64 c.S)∧W.cell? ⟨g,2,none⟩=some (.int .i64 c.cap)∧W.cell? ⟨g,3,none⟩=some (.int .i64 c.idle)∧W.cell? ⟨g,4,none⟩=some (.int .i64 c.K)∧W.cell? ⟨g,5,none⟩=some (pv)∧W.cell? ⟨g,6,none⟩=some (tv)∧W.cell? ⟨g,7,none⟩=some (lv))∧(∀ o,W.frozen? ⟨g,o,none⟩=false):=by
 unfold ModBox at h
 refine⟨⟨?_,?_,?_,?_,?_,?_,?_,?_⟩,fun o=>?_⟩ <;> simp[World.cell?,World.frozen?,h]
theorem ModBox.kept {W W':World} {g:Nat} {c:Cfg} {pv tv lv:Value} (h:ModBox W g c pv tv lv) {n:Nat} (hb:Below n W W') (hg:g<n):ModBox W' g c pv tv lv:=(hb.block g hg).trans h
theorem ModBox.tables {W:World} {g:Nat} {c:Cfg} {pv tv lv:Value} (h:ModBox W g c pv tv lv) (v:Value):ModBox (W.setCell ⟨g,6,none⟩ v) g c pv v lv:=heap_setCell_same _ g 6 _ _ v h
theorem ModBox.beside {W:World} {g g' o:Nat} {c:Cfg} {pv tv lv:Value} (h:ModBox W g c pv tv lv) (hg:g'≠g) (v:Value):ModBox (W.setCell ⟨g',o,none⟩ v) g c pv tv lv:=(Below.heap_setCell _ _ _ _ fun e=>hg e.symm).trans h
def putMod (W:World) (g:Nat) (c:Cfg) (pv tv lv:Value):World:=((((((((W.setCell ⟨g,0,none⟩ (.int .i64 c.W)).setCell ⟨g,1,none⟩ (.int .i64 c.S)).setCell ⟨g,2,none⟩ (.int .i64 c.cap)).setCell ⟨g,3,none⟩ (.int .i64 c.idle)).setCell ⟨g,4,none⟩ (.int .i64 c.K)).setCell ⟨g,5,none⟩ (pv)).setCell ⟨g,6,none⟩ (tv)).setCell ⟨g,7,none⟩ (lv))
theorem ModBox.put {W:World} {g:Nat} {c c':Cfg} {pv tv lv pv' tv' lv':Value} (h:ModBox W g c' pv' tv' lv'):ModBox (putMod W g c pv tv lv) g c pv tv lv:=by
 have h0:=heap_setCell_same _ g 0 _ _ (.int .i64 c.W) h
 have h1:=heap_setCell_same _ g 1 _ _ (.int .i64 c.S) h0
 have h2:=heap_setCell_same _ g 2 _ _ (.int .i64 c.cap) h1
 have h3:=heap_setCell_same _ g 3 _ _ (.int .i64 c.idle) h2
 have h4:=heap_setCell_same _ g 4 _ _ (.int .i64 c.K) h3
 have h5:=heap_setCell_same _ g 5 _ _ pv h4
 have h6:=heap_setCell_same _ g 6 _ _ tv h5
 have h7:=heap_setCell_same _ g 7 _ _ lv h6
 unfold ModBox putMod
 rw[h7]
 simp
theorem putMod_below {n:Nat} {w W:World} (hb:Below n w W) {g:Nat} (hg:n≤g) (c:Cfg) (pv tv lv:Value):Below n w (putMod W g c pv tv lv):=
 (((((((hb.setCell (p:=⟨g,0,none⟩) hg _).setCell (p:=⟨g,1,none⟩) hg _).setCell (p:=⟨g,2,none⟩) hg _).setCell (p:=⟨g,3,none⟩) hg _).setCell (p:=⟨g,4,none⟩) hg _).setCell (p:=⟨g,5,none⟩) hg _).setCell (p:=⟨g,6,none⟩) hg _).setCell (p:=⟨g,7,none⟩) hg _
theorem mod_rest (W:World) (g:Nat) (c:Cfg) (pv tv lv:Value) (k:Nat) (hk:k≠g):(putMod W g c pv tv lv).heap[k]? =W.heap[k]? :=by
 have h:Turned (fun k=>k=g) W (putMod W g c pv tv lv):=((((((((Turned.refl (fun k=>k=g) W).setCell (a:=⟨g,0,none⟩) rfl _).setCell (a:=⟨g,1,none⟩) rfl _).setCell (a:=⟨g,2,none⟩) rfl _).setCell (a:=⟨g,3,none⟩) rfl _).setCell (a:=⟨g,4,none⟩) rfl _).setCell (a:=⟨g,5,none⟩) rfl _).setCell (a:=⟨g,6,none⟩) rfl _).setCell (a:=⟨g,7,none⟩) rfl _
 by_cases hl:k<W.heap.size
 ·exact h.rest k hl hk
 ·have e:(putMod W g c pv tv lv).heap.size=W.heap.size:=by simp[putMod,World.setCell]
  rw[Array.getElem?_eq_none (by omega),Array.getElem?_eq_none (by omega)]
theorem new_mods (w:World) (c:Cfg) (pv tv lv:Value) {W:World} (hW:(w.alloc (.cells (modC c pv tv lv) 36)).alloc (.cells (modC ⟨0,0,0,0,0⟩ (sl none 0 0) (sl none 0 0) (sl none 0 0)) 36)=W):
 ModBox W w.heap.size c pv tv lv∧ModBox W (w.heap.size+1) ⟨0,0,0,0,0⟩ (sl none 0 0) (sl none 0 0) (sl none 0 0)∧Below w.heap.size w W∧W.heap.size=w.heap.size+2:=by
 have h1:=World.alloc_heap_new w (.cells (modC c pv tv lv) 36)
 have s1:=World.size_alloc w (.cells (modC c pv tv lv) 36)
 have b1:Below w.heap.size w (w.alloc (.cells (modC c pv tv lv) 36)):=(Below.refl _ w).alloc (Nat.le_refl _) _
 generalize w.alloc (.cells (modC c pv tv lv) 36)=W1 at *
 have h2:=World.alloc_heap_new W1 (.cells (modC ⟨0,0,0,0,0⟩ (sl none 0 0) (sl none 0 0) (sl none 0 0)) 36)
 have s2:=World.size_alloc W1 (.cells (modC ⟨0,0,0,0,0⟩ (sl none 0 0) (sl none 0 0) (sl none 0 0)) 36)
 have b2:Below W1.heap.size W1 (W1.alloc (.cells (modC ⟨0,0,0,0,0⟩ (sl none 0 0) (sl none 0 0) (sl none 0 0)) 36)):=(Below.refl _ W1).alloc (Nat.le_refl _) _
 generalize W1.alloc (.cells (modC ⟨0,0,0,0,0⟩ (sl none 0 0) (sl none 0 0) (sl none 0 0)) 36)=W2 at *
 subst hW
 rw[s1] at h2
 exact⟨(b2.block _ (by omega)).trans h1,h2,below2 b1 b2,by omega⟩
def setZ (ts:List TabM) (i:Int) (x:TabM):List TabM:=if 0≤i then ts.set i.toNat x else ts
theorem setZ_length (ts:List TabM) (i:Int) (x:TabM):(setZ ts i x).length=ts.length:=by unfold setZ; split <;> simp
theorem setZ_at {ts:List TabM} {i:Int} {x:TabM} {k:Nat} (hk:k<ts.length):(setZ ts i x)[k]? =some (if (k:Int)=i then x else ts[k]):=by
 unfold setZ
 by_cases h:(k:Int)=i
 ·subst h
  rw[if_pos (by omega),if_pos rfl,Int.toNat_natCast,List.getElem?_set_self hk]
 ·rw[if_neg h]
  split
  ·rw[List.getElem?_set_ne (by omega),List.getElem?_eq_getElem hk]
  ·rw[List.getElem?_eq_getElem hk]
theorem take_more {α:Type} {T:List α} {k:Nat} {x:α} (h:T[k]? =some x):T.take (k+1)=T.take k ++ [x]:=by rw[List.take_add_one,h]; rfl
theorem tab_cell {W:World} {a:Option Addr} {cap:Nat} {ts:List TabM} (h:Lies tabK W a cap ts) {k:Nat} (hk:k<ts.length):∃ b off,a=some ⟨b,off,none⟩∧W.cell? ⟨b,off+k,none⟩=some (tabV ts[k]):=by
 obtain⟨b,off,e,hc⟩:=h.at hk
 refine⟨b,off,e,?_⟩
 have:=hc 0 _ rfl
 rwa [show off+k * tabK.c+0=off+k by rw[show k * tabK.c=k from Nat.mul_one k]; rfl] at this
set_option maxRecDepth 100000 in
set_option maxHeartbeats 2000000 in
theorem refwithTable_any (c:Cfg) (pa:Option Addr) (pn pc:Nat) (ta:Option Addr) (tc:Nat) (ts:List TabM) (la:Option Addr) (ln lc:Nat) (i:Int) (x:TabM) (w:World) (hT:Lies tabK w ta tc ts) (hl:ts.length≤1000000):
 Calls Tryz.prog 48 #[modV c (sl pa pn pc) (rowV ta tc ts) (sl la ln lc),.int .i64 i,tabV x] w fun e W'=>∃ v,e=.returned (modV c (sl pa pn pc) v (sl la ln lc))∧RowG.Own tabK 50 w.heap.size W' v (setZ ts i x)∧Below w.heap.size w W':=by
 obtain⟨m1,m2,b0,hz⟩:=new_mods w c (sl pa pn pc) (rowV ta tc ts) (sl la ln lc) rfl
 have hTk:=hT.kept b0
 have SL:=Lib.hid (setZ_length ts i x)
 have SA:=Lib.hid (fun k (hk:k<ts.length)=>setZ_at (i:=i) (x:=x) hk)
 have hm:=hT.max
 have hn:=hT.len
 unfold maxLen at hm
 generalize setZ ts i x=us at *
 have M1:=Lib.hid m1
 have M2:=Lib.hid m2
 have B0:=Lib.hid b0
 have HT:=Lib.hid hTk
 have HZ:=Lib.hid hz
 clear m1 m2 b0 hTk hT hz
 go_enter Tryz.func48,Tryz.ntmps48
 go_wp2
 generalize hW0:(w.alloc (.cells (modC c (sl pa pn pc) (rowV ta tc ts) (sl la ln lc)) 36)).alloc (.cells (modC ⟨0,0,0,0,0⟩ (sl none 0 0) (sl none 0 0) (sl none 0 0)) 36)=W0 at *
 clear hW0
 go_loopw [7,8] (fun o q W=>∃ k:Nat,k≤ts.length∧q=.int .i64 k∧RowG.Own tabK 50 (w.heap.size+2) W o (us.take k)∧Below (w.heap.size+2) W0 W) (fun _ q _=>ts.length - (intOf q).toNat)
 case atStart=>exact⟨0,Nat.zero_le _,rfl,own_nil _ _,Below.refl _ _⟩
 case round=>
  obtain⟨k,hk,rfl,ho,hB⟩:=hrel
  have HO:=Lib.hid ho
  have HB:=Lib.hid hB
  have hs:=Lib.hid (show w.heap.size+2≤wr.heap.size by have:=hB.size; rw[HZ.out] at this; exact this)
  obtain⟨⟨x0,x1,x2,x3,x4,x5,x6,x7⟩,fr⟩:=(M1.out.kept hB (by omega)).cells
  clear ho
  by_cases hlt:k<ts.length
  ·clear hB
   have HL:=Lib.hid (show (us.take k).length=k by rw[List.length_take,SL.out]; omega)
   have HN:=Lib.hid (take_more (SA.out k hlt))
   generalize us.take k=os at *
   by_cases hi:(k:Int)=i
   ·have HS:=Lib.hid (show us.take (k+1)=os ++ [x] by rw[HN.out,if_pos hi])
    have e0:((k:Int) == i)=true:=beq_iff_eq.2 hi
    have al:=Lib.hid (show Below wr.heap.size wr (wr.alloc (.cells #[tabV x] 50)) from (Below.refl _ wr).alloc (Nat.le_refl _) _)
    clear hi HN
    go_wp2_with (at_builtin; refine wpList_more Tryz.underlying33 info_tab rfl rfl _ _ rfl (w.heap.size+2) wr.heap.size os x _ rfl rfl (HO.out.kept al.out) ?c0 ?c1 ?c2 ?c3 ?_)
    case c0=>
     intro j u hj
     match j,hj with
     | 0,hj=>simp[tabK] at hj; subst hj; simp
    case c1=>rw[HL.out]; unfold maxLen; omega
    case c2=>rw[HL.out]; omega
    case c3=>have:=hs.out; simp; omega
    intro v' w1 ho hb
    have HB1:=Lib.hid ((HB.out.alloc hs.out (.cells #[tabV x] 50)).trans hb.out)
    have HO1:=Lib.hid ho.out
    clear hb ho
    go_wp2
    refine⟨⟨k+1,hlt,by go_num,by rw[HS.out]; exact HO1.out,HB1.out⟩,by simp[intOf]; omega⟩
   ·have HS:=Lib.hid (show us.take (k+1)=os ++ [ts[k]] by rw[HN.out,if_neg hi])
    have e0:((k:Int) == i)=false:=beq_false_of_ne hi
    obtain⟨b,off,rfl,c0⟩:=tab_cell (HT.out.kept (HB.out.mono (by rw[HZ.out]; exact Nat.le_refl _))) hlt
    have al:=Lib.hid (show Below wr.heap.size wr (wr.alloc (.cells #[tabV ts[k]] 50)) from (Below.refl _ wr).alloc (Nat.le_refl _) _)
    clear hi HN
    generalize ts[k]=y at *
    go_wp2_with (at_builtin; refine wpList_more Tryz.underlying33 info_tab rfl rfl _ _ rfl (w.heap.size+2) wr.heap.size os y _ rfl rfl (HO.out.kept al.out) ?c0 ?c1 ?c2 ?c3 ?_)
    case c0=>
     intro j u hj
     match j,hj with
     | 0,hj=>simp[tabK] at hj; subst hj; simp
    case c1=>rw[HL.out]; unfold maxLen; omega
    case c2=>rw[HL.out]; omega
    case c3=>have:=hs.out; simp; omega
    intro v' w1 ho hb
    have HB1:=Lib.hid ((HB.out.alloc hs.out (.cells #[tabV y] 50)).trans hb.out)
    have HO1:=Lib.hid ho.out
    clear hb ho
    go_wp2
    refine⟨⟨k+1,hlt,by go_num,by rw[HS.out]; exact HO1.out,HB1.out⟩,by simp[intOf]; omega⟩
  ·obtain rfl:k=ts.length:=by omega
   have HU:=Lib.hid (show us.take ts.length=us by rw[← SL.out]; exact List.take_length)
   rw[HU.out] at HO
   have M1':=M1.out.kept hB (by omega)
   have M2':=M2.out.kept hB (by omega)
   obtain⟨⟨y0,y1,y2,y3,y4,y5,y6,y7⟩,fs⟩:=M2'.cells
   have f6:=fr 6
   have g0:=fs 0
   have g1:=fs 1
   have g2:=fs 2
   have g3:=fs 3
   have g4:=fs 4
   have g5:=fs 5
   have g6:=fs 6
   have g7:=fs 7
   clear hB fr fs
   obtain⟨oa,oc,rfl,-⟩:=HO.out.lies
   have HM:=Lib.hid (((M2'.beside (g':=w.heap.size) (o:=6) (by omega) (rowV oa oc us))).put (c:=c) (pv:=sl pa pn pc) (tv:=rowV oa oc us) (lv:=sl la ln lc))
   have HBB:=Lib.hid (putMod_below ((B0.out.trans (HB.out.mono (by omega))).setCell (p:=⟨w.heap.size,6,none⟩) (Nat.le_refl _) (rowV oa oc us)) (Nat.le_succ _) c (sl pa pn pc) (rowV oa oc us) (sl la ln lc))
   have OW:=Lib.hid (show RowG.Own tabK 50 w.heap.size (putMod (wr.setCell ⟨w.heap.size,6,none⟩ (rowV oa oc us)) (w.heap.size+1) c (sl pa pn pc) (rowV oa oc us) (sl la ln lc)) (rowV oa oc us) us from
    own_less (Nat.le_add_right _ 2) (own_same HO.out fun g hg=>by
     have hge:w.heap.size+2≤g:=by
      rcases HO.out.2 with⟨e,_⟩ | ⟨g',cap',cur,e,hb',_⟩
      ·rw[e] at hg; cases hg
      ·rw[e] at hg
       obtain rfl:g'=g:=by simpa [Value.ownBlock] using hg
       exact hb'
     exact mod_rest (wr.setCell ⟨w.heap.size,6,none⟩ (rowV oa oc us)) (w.heap.size+1) c _ _ _ g (by omega) |>.trans (Below.heap_setCell _ _ _ _ (by show g≠w.heap.size; omega))))
   clear M1' M2' HO HB B0 HT SL SA HU M1 M2
   go_wp2
   obtain⟨⟨z0,z1,z2,z3,z4,z5,z6,z7⟩,-⟩:=HM.out.cells
   unfold putMod at z0 z1 z2 z3 z4 z5 z6 z7
   clear x0 x1 x2 x3 x4 x5 x6 x7 y0 y1 y2 y3 y4 y5 y6 y7 f6 g0 g1 g2 g3 g4 g5 g6 g7
   refine bodyPost_ret (v:=modV c (sl pa pn pc) (rowV oa oc us) (sl la ln lc)) ?q1 rfl ?q2
   case q1=>
    simp only[results,Tryz.results48]
    simp[go_sem,z0,z1,z2,z3,z4,z5,z6,z7]
   case q2=>exact⟨_,rfl,OW.out,HBB.out⟩
end Go.Proofs.YtbamodkgagcmnaaGreat.Mod
set_option maxRecDepth 100000
namespace Go.Proofs.YtbamodkgagcmnaaGreat.Cel
open Go
structure Act where
 k:Int
 i:Int
 a:Int
 b:Int
structure Told where
 n:Int
 ok:Bool
deriving DecidableEq
structure St where
 cells:List Int
 locks:List Int
 shared:Nat
abbrev wr (n:Int):Int:=IntKind.i64.wrap n
def size (n:Int):Nat:=(min (max n 0) 1024).toNat
def new (n m:Int):St:=⟨List.replicate (size n) 0,List.replicate (size m) (-1),0⟩
def Has (l:List Int) (i:Int):Prop:=0≤i∧i<(l.length:Int)
instance (l:List Int) (i:Int):Decidable (Has l i):=inferInstanceAs (Decidable (_∧_))
def at' (l:List Int) (i:Int):Int:=l.getD i.toNat 0
theorem Has.lt {l:List Int} {i:Int} (h:Has l i):i.toNat<l.length:=by have:=h.1; have:=h.2; omega
def load (s:St) (i:Int):St × Int:=if Has s.cells i then (⟨s.cells,s.locks,s.shared+1⟩,at' s.cells i) else (s,0)
def store (s:St) (i v:Int):St:=if Has s.cells i then ⟨s.cells.set i.toNat v,s.locks,s.shared+1⟩ else s
def add (s:St) (i d:Int):St × Int:=if Has s.cells i then (⟨s.cells.set i.toNat (wr (at' s.cells i+d)),s.locks,s.shared+1⟩,wr (at' s.cells i+d)) else (s,0)
def swap (s:St) (i o v:Int):St × Bool:=if Has s.cells i then (if at' s.cells i=o then (⟨s.cells.set i.toNat v,s.locks,s.shared+1⟩,true) else (⟨s.cells,s.locks,s.shared+1⟩,false)) else (s,false)
def lock (s:St) (i who:Int):St × Bool:=if Has s.locks i then (if at' s.locks i<0∧0≤who then (⟨s.cells,s.locks.set i.toNat who,s.shared+1⟩,true) else (⟨s.cells,s.locks,s.shared+1⟩,false)) else (s,false)
def unlock (s:St) (i who:Int):St × Bool:=if Has s.locks i then (if 0≤at' s.locks i∧at' s.locks i=who then (⟨s.cells,s.locks.set i.toNat (-1),s.shared+1⟩,true) else (⟨s.cells,s.locks,s.shared+1⟩,false)) else (s,false)
def owner (s:St) (i:Int):Int:=if Has s.locks i then at' s.locks i else -1
def act (s:St) (x:Act):St × Told:=
 if x.k=0 then ((load s x.i).1,⟨(load s x.i).2,false⟩)
 else if x.k=1 then (store s x.i x.a,⟨0,false⟩)
 else if x.k=2 then ((add s x.i x.a).1,⟨(add s x.i x.a).2,false⟩)
 else if x.k=3 then ((swap s x.i x.a x.b).1,⟨0,(swap s x.i x.a x.b).2⟩)
 else if x.k=4 then ((lock s x.i x.a).1,⟨0,(lock s x.i x.a).2⟩)
 else if x.k=5 then ((unlock s x.i x.a).1,⟨0,(unlock s x.i x.a).2⟩)
 else (s,⟨owner s x.i,false⟩)
def runs (s:St) (l:List Act):St:=l.foldl (fun s x=>(act s x).1) s
theorem runs_snoc (s:St) (l:List Act) (x:Act):runs s (l ++ [x])=(act (runs s l) x).1:=by simp[runs]
theorem runs_take {s:St} {l:List Act} {k:Nat} (h:k<l.length):runs s (l.take (k+1))=(act (runs s (l.take k)) l[k]).1:=by
 rw[List.take_succ_eq_append_getElem h,runs_snoc]
structure Keeps (s t:St):Prop where
 cells:t.cells.length=s.cells.length
 locks:t.locks.length=s.locks.length
 shared:s.shared≤t.shared∧t.shared≤s.shared+1
 own:(∀ x ∈ s.locks,-1≤x)→∀ x ∈ t.locks,-1≤x
theorem Keeps.refl (s:St):Keeps s s:=⟨rfl,rfl,⟨Nat.le_refl _,by omega⟩,id⟩
theorem keeps_set {s:St} {n:Nat} {v:Int} {L:List Int} {i:Nat} (hv: -1≤v) (hL:L=s.locks.set i v∨L=s.locks) {C:List Int} (hC:C.length=s.cells.length) (hn:n=s.shared+1):Keeps s ⟨C,L,n⟩:=by
 refine⟨hC,?_,⟨by show s.shared≤n; omega,by show n≤s.shared+1; omega⟩,fun h x hx=>?_⟩
 ·rcases hL with rfl | rfl
  ·simp
  ·rfl
 ·rcases hL with rfl | rfl
  ·rcases List.mem_or_eq_of_mem_set hx with hx | rfl
   ·exact h x hx
   ·exact hv
  ·exact h x hx
theorem act_keeps (s:St) (x:Act):Keeps s (act s x).1:=by
 unfold act
 split
 ·unfold load; split
  ·exact keeps_set (i:=0) (v:=0) (by omega) (.inr rfl) rfl rfl
  ·exact Keeps.refl s
 split
 ·unfold store; split
  ·exact keeps_set (i:=0) (v:=0) (by omega) (.inr rfl) (by simp) rfl
  ·exact Keeps.refl s
 split
 ·unfold add; split
  ·exact keeps_set (i:=0) (v:=0) (by omega) (.inr rfl) (by simp) rfl
  ·exact Keeps.refl s
 split
 ·unfold swap; split
  ·split
   ·exact keeps_set (i:=0) (v:=0) (by omega) (.inr rfl) (by simp) rfl
   ·exact keeps_set (i:=0) (v:=0) (by omega) (.inr rfl) rfl rfl
  ·exact Keeps.refl s
 split
 ·unfold lock; split
  ·split
   ·rename_i h
    exact keeps_set (i:=x.i.toNat) (v:=x.a) (by have:=h.2; omega) (.inl rfl) rfl rfl
   ·exact keeps_set (i:=0) (v:=0) (by omega) (.inr rfl) rfl rfl
  ·exact Keeps.refl s
 split
 ·unfold unlock; split
  ·split
   ·exact keeps_set (i:=x.i.toNat) (v:= -1) (by omega) (.inl rfl) rfl rfl
   ·exact keeps_set (i:=0) (v:=0) (by omega) (.inr rfl) rfl rfl
  ·exact Keeps.refl s
 ·exact Keeps.refl s
theorem Has.set {l:List Int} {i:Int} (h:Has l i) (j:Nat) (v:Int):Has (l.set j v) i:=⟨h.1,by rw[List.length_set]; exact h.2⟩
structure Ran (s t:St) (n:Nat):Prop where
 cells:t.cells.length=s.cells.length
 locks:t.locks.length=s.locks.length
 shared:s.shared≤t.shared∧t.shared≤s.shared+n
 own:(∀ x ∈ s.locks,-1≤x)→∀ x ∈ t.locks,-1≤x
theorem Ran.more {s t:St} {n:Nat} (h:Ran s t n) (x:Act):Ran s (act t x).1 (n+1):=by
 have k:=act_keeps t x
 refine⟨k.cells.trans h.cells,k.locks.trans h.locks,⟨by have:=h.shared; have:=k.shared; omega,by have:=h.shared; have:=k.shared; omega⟩,fun ho=>k.own (h.own ho)⟩
theorem Ran.wide {s t:St} {n m:Nat} (h:Ran s t n) (hm:n≤m):Ran s t m:=⟨h.cells,h.locks,⟨h.shared.1,by have:=h.shared; omega⟩,h.own⟩
end Go.Proofs.YtbamodkgagcmnaaGreat.Cel
set_option maxRecDepth 100000
namespace Go.Proofs.YtbamodkgagcmnaaGreat.RowG
open Go.ChangeShapes Go.WideShapes Go.RowKit
instance :Inhabited Cel.Act:=⟨⟨0,0,0,0⟩⟩
def actK:Kind Cel.Act:=⟨4,fun x=>[.int .i64 x.k,.int .i64 x.i,.int .i64 x.a,.int .i64 x.b],by decide,fun _=>rfl,fun x u hu=>by
 simp at hu; rcases hu with rfl | rfl | rfl | rfl <;> rfl⟩
def numK:Kind Int:=⟨1,fun x=>[.int .i64 x],by decide,fun _=>rfl,fun x u hu=>by
 simp at hu; rcases hu with rfl; rfl⟩
section
variable {P:Program} {H:Type} {enc:TypeId × Value→H} {w:World} {base:Nat} {spare:Nat→Bool} {held:Bool} {e ti:TypeId} {f0 f1 f2 f3:Field}
theorem Lies.act {W:World} {a:Option Addr} {cap:Nat} {T:List Cel.Act} (h:Lies actK W a cap T) {k:Nat} (hk:k<T.length):
 ∃ b off,a=some ⟨b,off,none⟩∧W.cell? ⟨b,off+k * 4,none⟩=some (.int .i64 T[k].k)∧W.cell? ⟨b,off+k * 4+1,none⟩=some (.int .i64 T[k].i)∧W.cell? ⟨b,off+k * 4+2,none⟩=some (.int .i64 T[k].a)∧W.cell? ⟨b,off+k * 4+3,none⟩=some (.int .i64 T[k].b):=by
 obtain⟨b,off,e,hc⟩:=h.at hk
 exact⟨b,off,e,hc 0 _ rfl,hc 1 _ rfl,hc 2 _ rfl,hc 3 _ rfl⟩
theorem Lies.num {W:World} {a:Option Addr} {cap:Nat} {T:List Int} (h:Lies numK W a cap T) {k:Nat} (hk:k<T.length):∃ b off,a=some ⟨b,off,none⟩∧W.cell? ⟨b,off+k,none⟩=some (.int .i64 T[k]):=by
 obtain⟨b,off,e,hc⟩:=h.at hk
 refine⟨b,off,e,?_⟩
 have:=hc 0 _ rfl
 simpa [numK] using this
theorem Row.num {Ty:TypeId} {W:World} {g cap:Nat} {T:List Int} (h:Row numK Ty W g cap T) {k:Nat} (hk:k<T.length):W.cell? ⟨g,k,none⟩=some (.int .i64 T[k]):=by
 have:=h.cell hk (j:=0) rfl
 simpa [numK] using this
theorem Row.put1 {Ty:TypeId} {W:World} {g cap:Nat} {T:List Int} (h:Row numK Ty W g cap T) {k:Nat} (hk:k<T.length) (x:Int):Row numK Ty (W.setCell ⟨g,k,none⟩ (.int .i64 x)) g cap (T.set k x):=by
 have:=h.put hk x
 simpa [numK,putC] using this
end
end Go.Proofs.YtbamodkgagcmnaaGreat.RowG
