/-
  The document's Do (package gangplankref17), given what its callees tell: a packet that is one.
-/
import Derived.Test.YtbamodkgagcmnaaGreatModKE
import Derived.Test.YtbamodkgagcmnaaGreatRgnZbE
import Derived.Test.YtbamodkgagcmnaaGreatRgnYE
set_option maxRecDepth 100000
namespace Go.Proofs.YtbamodkgagcmnaaGreat.Mod
open Go.RowKit Go.Shelf Go.WideShapes RowG Trn Rgn
attribute [local go_sem] Oper.semAt_some
def disV (g hf:Nat) (c:Cfg) (b off tc:Nat) (ts:List TabM) (ii:Nat) (x:TabM) (pa:Option Addr) (pn pc:Nat) (k:ByteArray) (cl:Bool) (now:Int) (U:List Tab.Ent) (y:Ans):Nat→Nat→Nat→World→Value→Prop
 | 0,_,_,_,v=>v=.pointer (some ⟨g,6,none⟩)
 | 1,_,_,_,v=>v=rowV (some ⟨b,off,none⟩) tc ts
 | 2,_,_,_,v=>v=.pointer (some ⟨hf,1,none⟩)
 | 3,_,_,_,v=>v=.int .i64 (ii:Nat)
 | 4,_,_,_,v=>v=.pointer (some ⟨b,off+ii,none⟩)
 | 5,_,_,_,v=>v=tabV x
 | 6,_,_,_,v=>v=.pointer (some ⟨g,5,none⟩)
 | 7,_,_,_,v=>v=sl pa pn pc
 | 8,_,_,_,v=>v=.pointer (some ⟨hf,0,none⟩)
 | 9,_,_,_,v=>v=.string k
 | 10,_,_,_,v=>v=.pointer (some ⟨hf,2,none⟩)
 | 11,_,_,_,v=>v=.bool cl
 | 12,_,_,_,v=>v=.int .i64 now
 | 13,_,_,_,v=>v=.pointer (some ⟨g,0,none⟩)
 | 14,_,_,_,v=>v=.pointer (some ⟨g,3,none⟩)
 | 15,_,_,_,v=>v=.int .i64 c.idle
 | 16,_,_,w,v=>∃ u,v=.tuple #[u,ansV y]∧TabIs w u U
 | 17,_,_,w,v=>∃ u,v=.tuple #[u,ansV y]∧TabIs w u U
 | 18,_,_,w,v=>TabIs w v U
 | 19,_,_,_,v=>v=ansV y
 | 20,lo,hi,w,v=>v=.pointer (some ⟨lo,0,none⟩)∧AnsBox w lo ⟨0,0,false,0⟩∧lo<hi
 | _,_,_,w,v=>TabIs w v U
theorem disV_kept (g hf:Nat) (c:Cfg) (b off tc:Nat) (ts:List TabM) (ii:Nat) (x:TabM) (pa:Option Addr) (pn pc:Nat) (k:ByteArray) (cl:Bool) (now:Int) (U:List Tab.Ent) (y:Ans):∀ i lo hi w w' v,disV g hf c b off tc ts ii x pa pn pc k cl now U y i lo hi w v→Below w.heap.size w w'→disV g hf c b off tc ts ii x pa pn pc k cl now U y i lo hi w' v:=by
 intro i lo hi w w' v h hb
 match i with
 | 0=>exact h
 | 1=>exact h
 | 2=>exact h
 | 3=>exact h
 | 4=>exact h
 | 5=>exact h
 | 6=>exact h
 | 7=>exact h
 | 8=>exact h
 | 9=>exact h
 | 10=>exact h
 | 11=>exact h
 | 12=>exact h
 | 13=>exact h
 | 14=>exact h
 | 15=>exact h
 | 16=>obtain⟨u,e,h⟩:=h; exact⟨u,e,h.kept hb⟩
 | 17=>obtain⟨u,e,h⟩:=h; exact⟨u,e,h.kept hb⟩
 | 18=>exact TabIs.kept h hb
 | 19=>exact h
 | 20=>exact⟨h.1,h.2.1.kept hb,h.2.2⟩
 | i+21=>exact TabIs.kept h hb
def storeB (s:Nat):Bool:=s == 6 || s == 7
def boxB (g2 g3 s:Nat):Nat:=if s=6 then g2 else g3
theorem store_is {s:Nat} (h:storeB s=true):s=6∨s=7:=by
 unfold storeB at h
 simpa using h
def outV (hf ii g:Nat) (c:Cfg) (pa:Option Addr) (pn pc b off tc:Nat) (ts:List TabM) (la:Option Addr) (ln lc:Nat) (av:Option Addr) (cv:Nat) (U:List Tab.Ent) (y:Ans):Nat→World→Value→Prop
 | 0,_,v=>v=modV c (sl pa pn pc) (rowV (some ⟨b,off,none⟩) tc ts) (sl la ln lc)
 | 1,_,v=>v=.pointer (some ⟨hf,1,none⟩)
 | 2,_,v=>v=.int .i64 (ii:Nat)
 | 3,_,v=>v=rowV av cv U
 | 4,w,v=>∃ u,v=modV c (sl pa pn pc) u (sl la ln lc)∧RowG.Own tabK 50 (g+4) w u (setZ ts (ii:Int) ⟨av,cv,U⟩)
 | 5,_,v=>v=ansV y
 | _,_,_=>True
theorem outV_turn (hf ii g g2 g3:Nat) (c:Cfg) (pa:Option Addr) (pn pc b off tc:Nat) (ts:List TabM) (la:Option Addr) (ln lc:Nat) (av:Option Addr) (cv:Nat) (U:List Tab.Ent) (y:Ans) (h2:g2<g+4) (h3:g3<g+4):∀ j w w' v,outV hf ii g c pa pn pc b off tc ts la ln lc av cv U y j w v→Turned (fun k=>∃ s,storeB s=true∧k=boxB g2 g3 s) w w'→outV hf ii g c pa pn pc b off tc ts la ln lc av cv U y j w' v:=by
 intro j w w' v h ht
 match j with
 | 0=>exact h
 | 1=>exact h
 | 2=>exact h
 | 3=>exact h
 | 4=>
   obtain⟨u,e,ho⟩:=h
   refine⟨u,e,own_same ho fun q hq=>?_⟩
   rcases ho.2 with⟨e,_⟩ | ⟨q',cap',cur,e,hb',hg',_⟩
   ·rw[e] at hq; cases hq
   ·rw[e] at hq
    obtain rfl:q'=q:=by simpa [Value.ownBlock] using hq
    refine ht.rest q' (heap_lt hg') ?_
    rintro⟨s,hs,hk⟩
    unfold boxB at hk
    split at hk <;> omega
 | 5=>exact h
 | j+6=>exact trivial
section
variable {B:Nat→Prop} (c:Cfg) (m:Mo) (pa:Option Addr) (pc:Nat) (ta:Option Addr) (tc:Nat) (ts:List TabM) (la:Option Addr) (lc:Nat) (w:World)
set_option maxRecDepth 100000 in
set_option maxHeartbeats 8000000 in
theorem do_packet (h:ModIs B w c m pa pc ta tc ts la lc) (pkt:ByteArray) (oa:Option Addr) (on oc:Nat) (shard now:Int) (k:ByteArray) (cl:Bool) (ii:Nat) (hii:ii<ts.length) (hl:ts.length≤1000000) (hB:∀ k,w.heap.size≤k→B k) (U:List Tab.Ent) (y:Ans)
 (hR:∀ W,Calls Tryz.prog 47 #[.string pkt,.int .i64 c.S] W fun e W'=>e=.returned (flowV k (ii:Nat) cl 0)∧Below W.heap.size W W')
 (hD:∀ W,Below w.heap.size w W→Calls Tryz.prog 25 #[tabV ts[ii],sl pa m.pool.length pc,.string k,.bool cl,.int .i64 now,.int .i64 c.idle] W (Deals (U,y) W)):
 Calls Tryz.prog 18 #[moV c m pa pc ta tc ts la lc,opV 0 pkt oa on oc shard,.int .i64 now] w (Done B c (⟨m.pool,m.tables.set ii U,m.places⟩,y) w):=by
 have HM:=Lib.hid h
 have hbx:=new_boxes w c (sl pa m.pool.length pc) (rowV ta tc ts) (sl la m.places.length lc) 0 pkt oa on oc shard rfl
 have CR:=Lib.hid hR
 have HD:=Lib.hid hD
 have HBB:=Lib.hid hB
 have HTS:=Lib.hid (show ∀ y:TabM,y.T=U→(setZ ts (ii:Int) y).map TabM.T=m.tables.set ii U from fun y hy=>by
  unfold setZ
  rw[if_pos (by omega),Int.toNat_natCast,List.map_set,h.tabs,hy])
 obtain⟨b,off,rfl,q00⟩:=tab_cell (h.row.kept hbx.below) hii
 have hmx:=h.row.max
 have hln:=h.row.len
 unfold maxLen at hmx
 have hi0:(ii:Int)<(ts.length:Int):=by omega
 generalize hxx:ts[ii]=x at *
 have Q00:=Lib.hid q00
 have HBL:=Lib.hid (show b<w.heap.size from lies_lt h.row (fun e=>by rw[e] at hii; exact absurd hii (by simp)) rfl)
 clear h hR hD hB hxx q00
 go_enter Tryz.func18,Tryz.ntmps18
 go_wp2_with fail
 refine (CR.out _).mono ?_
 rintro e w1 ⟨rfl,hb⟩
 have HX1:=hbx.kept hb
 have al:=(Below.refl w1.heap.size w1).alloc (Nat.le_refl _) (.cells (flowC k (ii:Nat) cl 0) 104)
 have HX:=Lib.hid (HX1.kept al)
 have q0:=((below2 hb al).cell (World.block_lt_of_cell? _ _ Q00.out)).trans Q00.out
 have HF:=Lib.hid (show FlowBox (w1.alloc (.cells (flowC k (ii:Nat) cl 0) 104)) w1.heap.size k (ii:Nat) cl 0 from World.alloc_heap_new w1 _)
 have hgt:=HX1.size
 clear CR hb hbx HX1 al Q00
 obtain⟨⟨x0,x1,x2,x3,x4,x5,x6,x7⟩,-⟩:=HX.out.mod.cells
 obtain⟨⟨v0,v1,v2,v3⟩,-⟩:=HF.out.cells
 go_wp2_with fail
 generalize hW2:w1.alloc (.cells (flowC k (ii:Nat) cl 0) 104)=W2 at *
 generalize hhf:w1.heap.size=hf at *
 clear hW2 hhf
 refine wp_region_box (disV w.heap.size hf c b off tc ts ii x pa m.pool.length pc k cl now U y) (disV_kept _ _ _ _ _ _ _ _ _ _ _ _ _ _ _ _ _) (by kernel_rfl) (by kernel_rfl) (by kernel_rfl) 22 (fun _=>20) (fun _=>39) (fun _=>53) (fun _=>false) (by kernel_rfl) (by decide) ?box ?bd ?step ?late ?store ?done
 case box=>
  intro i lo hi W v h1 h2 hv
  have hv:_∧AnsBox W lo _∧lo<hi:=hv
  exact⟨hv.2.2,heap_lt hv.2.1⟩
 case bd=>
  intro i h1 h2
  rfl
 case step=>
  intro d lo hi a W i hlu hall hI
  have b0:=hI.below
  obtain rfl | rfl | rfl | rfl | rfl | rfl | rfl | rfl | rfl | rfl | rfl | rfl | rfl | rfl | rfl | rfl | rfl | rfl | rfl | rfl | rfl | rfl:i=0∨i=1∨i=2∨i=3∨i=4∨i=5∨i=6∨i=7∨i=8∨i=9∨i=10∨i=11∨i=12∨i=13∨i=14∨i=15∨i=16∨i=17∨i=18∨i=19∨i=20∨i=21:=by omega
  ·have e3:a.tmps[3]?.getD undef=.pointer (some ⟨w.heap.size,0,none⟩):=hI.old 3 (unwritten_of (by kernel_rfl) _)
   refine StepX.done rfl (wanted_free rfl) fun K hK=>?_
   refine op_run (.pointer (some ⟨w.heap.size,6,none⟩)) W ?_ (hK _ _ (Below.refl _ _) rfl)
   clear hall hI hK
   simp only[List.getElem_toArray,List.getElem_cons_zero,execOp,Act.eval]
   go_simp
  ·have e35:a.tmps[35]?.getD undef=.pointer (some ⟨w.heap.size,6,none⟩):=hI.val 0 35 rfl (hall 0 (by decide) (by kernel_rfl))
   have kx6:=(b0.cell (p:=⟨w.heap.size,6,none⟩) (World.block_lt_of_cell? _ _ x6)).trans x6
   refine StepX.done rfl (wanted_free rfl) fun K hK=>?_
   refine op_run (rowV (some ⟨b,off,none⟩) tc ts) W ?_ (hK _ _ (Below.refl _ _) rfl)
   clear hall hI hK
   simp only[List.getElem_toArray,List.getElem_cons_zero,List.getElem_cons_succ,execOp,Act.eval]
   go_simp
  ·have e8:a.tmps[8]?.getD undef=.pointer (some ⟨hf,0,none⟩):=hI.old 8 (unwritten_of (by kernel_rfl) _)
   refine StepX.done rfl (wanted_free rfl) fun K hK=>?_
   refine op_run (.pointer (some ⟨hf,1,none⟩)) W ?_ (hK _ _ (Below.refl _ _) rfl)
   clear hall hI hK
   simp only[List.getElem_toArray,List.getElem_cons_zero,List.getElem_cons_succ,execOp,Act.eval]
   go_simp
  ·have e37:a.tmps[37]?.getD undef=.pointer (some ⟨hf,1,none⟩):=hI.val 2 37 rfl (hall 2 (by decide) (by kernel_rfl))
   have kv1:=(b0.cell (p:=⟨hf,1,none⟩) (World.block_lt_of_cell? _ _ v1)).trans v1
   refine StepX.done rfl (wanted_free rfl) fun K hK=>?_
   refine op_run (.int .i64 (ii:Nat)) W ?_ (hK _ _ (Below.refl _ _) rfl)
   clear hall hI hK
   simp only[List.getElem_toArray,List.getElem_cons_zero,List.getElem_cons_succ,execOp,Act.eval]
   go_simp
  ·have e36:a.tmps[36]?.getD undef=rowV (some ⟨b,off,none⟩) tc ts:=hI.val 1 36 rfl (hall 1 (by decide) (by kernel_rfl))
   have e38:a.tmps[38]?.getD undef=.int .i64 (ii:Nat):=hI.val 3 38 rfl (hall 3 (by decide) (by kernel_rfl))
   refine StepX.done rfl (wanted_free rfl) fun K hK=>?_
   refine op_run (.pointer (some ⟨b,off+ii,none⟩)) W ?_ (hK _ _ (Below.refl _ _) rfl)
   clear hall hI hK
   simp only[List.getElem_toArray,List.getElem_cons_zero,List.getElem_cons_succ,execOp,Act.eval]
   go_simp
  ·have e39:a.tmps[39]?.getD undef=.pointer (some ⟨b,off+ii,none⟩):=hI.val 4 39 rfl (hall 4 (by decide) (by kernel_rfl))
   have kq0:=(b0.cell (p:=⟨b,off+ii,none⟩) (World.block_lt_of_cell? _ _ q0)).trans q0
   refine StepX.done rfl (wanted_free rfl) fun K hK=>?_
   refine op_run (tabV x) W ?_ (hK _ _ (Below.refl _ _) rfl)
   clear hall hI hK
   simp only[List.getElem_toArray,List.getElem_cons_zero,List.getElem_cons_succ,execOp,Act.eval]
   go_simp
  ·have e3:a.tmps[3]?.getD undef=.pointer (some ⟨w.heap.size,0,none⟩):=hI.old 3 (unwritten_of (by kernel_rfl) _)
   refine StepX.done rfl (wanted_free rfl) fun K hK=>?_
   refine op_run (.pointer (some ⟨w.heap.size,5,none⟩)) W ?_ (hK _ _ (Below.refl _ _) rfl)
   clear hall hI hK
   simp only[List.getElem_toArray,List.getElem_cons_zero,List.getElem_cons_succ,execOp,Act.eval]
   go_simp
  ·have e41:a.tmps[41]?.getD undef=.pointer (some ⟨w.heap.size,5,none⟩):=hI.val 6 41 rfl (hall 6 (by decide) (by kernel_rfl))
   have kx5:=(b0.cell (p:=⟨w.heap.size,5,none⟩) (World.block_lt_of_cell? _ _ x5)).trans x5
   refine StepX.done rfl (wanted_free rfl) fun K hK=>?_
   refine op_run (sl pa m.pool.length pc) W ?_ (hK _ _ (Below.refl _ _) rfl)
   clear hall hI hK
   simp only[List.getElem_toArray,List.getElem_cons_zero,List.getElem_cons_succ,execOp,Act.eval]
   go_simp
  ·have e8:a.tmps[8]?.getD undef=.pointer (some ⟨hf,0,none⟩):=hI.old 8 (unwritten_of (by kernel_rfl) _)
   refine StepX.done rfl (wanted_free rfl) fun K hK=>?_
   refine op_run (.pointer (some ⟨hf,0,none⟩)) W ?_ (hK _ _ (Below.refl _ _) rfl)
   clear hall hI hK
   simp only[List.getElem_toArray,List.getElem_cons_zero,List.getElem_cons_succ,execOp,Act.eval]
   go_simp
  ·have e43:a.tmps[43]?.getD undef=.pointer (some ⟨hf,0,none⟩):=hI.val 8 43 rfl (hall 8 (by decide) (by kernel_rfl))
   have kv0:=(b0.cell (p:=⟨hf,0,none⟩) (World.block_lt_of_cell? _ _ v0)).trans v0
   refine StepX.done rfl (wanted_free rfl) fun K hK=>?_
   refine op_run (.string k) W ?_ (hK _ _ (Below.refl _ _) rfl)
   clear hall hI hK
   simp only[List.getElem_toArray,List.getElem_cons_zero,List.getElem_cons_succ,execOp,Act.eval]
   go_simp
  ·have e8:a.tmps[8]?.getD undef=.pointer (some ⟨hf,0,none⟩):=hI.old 8 (unwritten_of (by kernel_rfl) _)
   refine StepX.done rfl (wanted_free rfl) fun K hK=>?_
   refine op_run (.pointer (some ⟨hf,2,none⟩)) W ?_ (hK _ _ (Below.refl _ _) rfl)
   clear hall hI hK
   simp only[List.getElem_toArray,List.getElem_cons_zero,List.getElem_cons_succ,execOp,Act.eval]
   go_simp
  ·have e45:a.tmps[45]?.getD undef=.pointer (some ⟨hf,2,none⟩):=hI.val 10 45 rfl (hall 10 (by decide) (by kernel_rfl))
   have kv2:=(b0.cell (p:=⟨hf,2,none⟩) (World.block_lt_of_cell? _ _ v2)).trans v2
   refine StepX.done rfl (wanted_free rfl) fun K hK=>?_
   refine op_run (.bool cl) W ?_ (hK _ _ (Below.refl _ _) rfl)
   clear hall hI hK
   simp only[List.getElem_toArray,List.getElem_cons_zero,List.getElem_cons_succ,execOp,Act.eval]
   go_simp
  ·have e2:a.tmps[2]?.getD undef=.int .i64 now:=hI.old 2 (unwritten_of (by kernel_rfl) _)
   refine StepX.done rfl (wanted_free rfl) fun K hK=>?_
   exact op_move rfl (hK _ _ (Below.refl _ _) e2)
  ·have e3:a.tmps[3]?.getD undef=.pointer (some ⟨w.heap.size,0,none⟩):=hI.old 3 (unwritten_of (by kernel_rfl) _)
   refine StepX.done rfl (wanted_free rfl) fun K hK=>?_
   refine op_run (.pointer (some ⟨w.heap.size,0,none⟩)) W ?_ (hK _ _ (Below.refl _ _) rfl)
   clear hall hI hK
   simp only[List.getElem_toArray,List.getElem_cons_zero,List.getElem_cons_succ,execOp,Act.eval]
   go_simp
  ·have e48:a.tmps[48]?.getD undef=.pointer (some ⟨w.heap.size,0,none⟩):=hI.val 13 48 rfl (hall 13 (by decide) (by kernel_rfl))
   refine StepX.done rfl (wanted_free rfl) fun K hK=>?_
   refine op_run (.pointer (some ⟨w.heap.size,3,none⟩)) W ?_ (hK _ _ (Below.refl _ _) rfl)
   clear hall hI hK
   simp only[List.getElem_toArray,List.getElem_cons_zero,List.getElem_cons_succ,execOp,Act.eval]
   go_simp
  ·have e49:a.tmps[49]?.getD undef=.pointer (some ⟨w.heap.size,3,none⟩):=hI.val 14 49 rfl (hall 14 (by decide) (by kernel_rfl))
   have kx3:=(b0.cell (p:=⟨w.heap.size,3,none⟩) (World.block_lt_of_cell? _ _ x3)).trans x3
   refine StepX.done rfl (wanted_free rfl) fun K hK=>?_
   refine op_run (.int .i64 c.idle) W ?_ (hK _ _ (Below.refl _ _) rfl)
   clear hall hI hK
   simp only[List.getElem_toArray,List.getElem_cons_zero,List.getElem_cons_succ,execOp,Act.eval]
   go_simp
  ·have e40:a.tmps[40]?.getD undef=tabV x:=hI.val 5 40 rfl (hall 5 (by decide) (by kernel_rfl))
   have e42:a.tmps[42]?.getD undef=sl pa m.pool.length pc:=hI.val 7 42 rfl (hall 7 (by decide) (by kernel_rfl))
   have e44:a.tmps[44]?.getD undef=.string k:=hI.val 9 44 rfl (hall 9 (by decide) (by kernel_rfl))
   have e46:a.tmps[46]?.getD undef=.bool cl:=hI.val 11 46 rfl (hall 11 (by decide) (by kernel_rfl))
   have e47:a.tmps[47]?.getD undef=.int .i64 now:=hI.val 12 47 rfl (hall 12 (by decide) (by kernel_rfl))
   have e50:a.tmps[50]?.getD undef=.int .i64 c.idle:=hI.val 15 50 rfl (hall 15 (by decide) (by kernel_rfl))
   have CD:=HD.out W (below2 HX.out.below b0)
   refine StepX.done rfl (wanted_free rfl) fun K hK=>?_
   refine op_call 25 #[tabV x,sl pa m.pool.length pc,.string k,.bool cl,.int .i64 now,.int .i64 c.idle] (fun v W2=>(∃ u,v=.tuple #[u,ansV y]∧TabIs W2 u U)∧Below W.heap.size W W2) ?_ (CD.mono fun e W2 ⟨u,he,hu,hb⟩=>⟨_,he,⟨u,rfl,hu⟩,hb⟩) (fun v W2 ⟨h1,h2⟩=>hK v W2 h2 h1)
   clear hall hI hK CD
   simp only[List.getElem_toArray,List.getElem_cons_zero,List.getElem_cons_succ,execOp]
   go_simp
  ·have f0:=hI.val 16 51 rfl (hall 16 (by decide) (by kernel_rfl))
   refine StepX.done rfl (wanted_free rfl) fun K hK=>?_
   exact op_move rfl (hK _ _ (Below.refl _ _) f0)
  ·obtain⟨u,e34,h1⟩:∃ u,a.tmps[34]?.getD undef=.tuple #[u,ansV y]∧TabIs W u U:=hI.val 17 34 rfl (hall 17 (by decide) (by kernel_rfl))
   refine StepX.done rfl (wanted_free rfl) fun K hK=>?_
   refine op_run (u) W ?_ (hK _ _ (Below.refl _ _) h1)
   clear hall hI hK h1
   simp only[List.getElem_toArray,List.getElem_cons_zero,List.getElem_cons_succ,execOp,Act.eval]
   go_simp
  ·obtain⟨u,e34,h1⟩:∃ u,a.tmps[34]?.getD undef=.tuple #[u,ansV y]∧TabIs W u U:=hI.val 17 34 rfl (hall 17 (by decide) (by kernel_rfl))
   refine StepX.done rfl (wanted_free rfl) fun K hK=>?_
   refine op_run (ansV y) W ?_ (hK _ _ (Below.refl _ _) rfl)
   clear hall hI hK h1
   simp only[List.getElem_toArray,List.getElem_cons_zero,List.getElem_cons_succ,execOp,Act.eval]
   go_simp
  ·refine StepX.done rfl (wanted_free rfl) fun K hK=>?_
   refine op_run (.pointer (some ⟨W.heap.size,0,none⟩)) (W.alloc (.cells (ansC ⟨0,0,false,0⟩) 39)) ?_ (hK _ _ ((Below.refl _ _).alloc (Nat.le_refl _) _) ⟨rfl,World.alloc_heap_new W _,by simp⟩)
   clear hall hI hK
   simp only[List.getElem_toArray,List.getElem_cons_zero,List.getElem_cons_succ,execOp]
   go_simp
  ·have f0:=hI.val 18 52 rfl (hall 18 (by decide) (by kernel_rfl))
   refine StepX.done rfl (wanted_free rfl) fun K hK=>?_
   exact op_assign rfl (hK _ _ (Below.refl _ _) f0)
 case late=>
  intro d lo hi a W w7 i hlu hlt8
  cases hlt8
 case store=>
  intro d lo hi a W w7 i hm hn hall hI hw
  have hn:i<23:=hn
  obtain rfl:i=22:=by omega
  obtain⟨e10,h10,-⟩:a.tmps[10]?.getD undef=.pointer (some ⟨lo 20,0,none⟩)∧AnsBox W (lo 20) ⟨0,0,false,0⟩∧lo 20<hi 20:=hI.val 20 10 rfl (hall 20 (by decide) (by kernel_rfl))
  have e53:a.tmps[53]?.getD undef=ansV y:=hI.val 19 53 rfl (hall 19 (by decide) (by kernel_rfl))
  clear hI
  have h9:AnsBox w7 (lo 20) ⟨0,0,false,0⟩:=hw.trans h10
  obtain⟨⟨c0,c1,c2,c3⟩,fr⟩:=h9.cells
  have f0:=fr 0
  have f1:=fr 1
  have f2:=fr 2
  have f3:=fr 3
  clear fr
  refine⟨_,rfl,wanted_free rfl,fun K hK=>?_⟩
  have hs:=hK _ (show Stored (lo 20) 39 (a.tmps[53]?.getD undef).cells w7 _ from by rw[e53]; exact stored4 h9 (.int .i64 y.err) (.int .i64 y.backend) (.bool y.made) (.int .i64 y.count))
  clear hK
  unfold Oper.wp
  simp only[List.getElem_toArray,List.getElem_cons_zero,List.getElem_cons_succ,execOp]
  go_simp
  exact hs
 case done=>
  intro lo hi a W w7 hI hM
  obtain⟨e10,h10,l20⟩:a.tmps[10]?.getD undef=.pointer (some ⟨lo 20,0,none⟩)∧AnsBox W (lo 20) ⟨0,0,false,0⟩∧lo 20<hi 20:=hI.val 20 10 rfl rfl
  have e53:a.tmps[53]?.getD undef=ansV y:=hI.val 19 53 rfl rfl
  obtain⟨av,cv,e9,hU⟩:TabIs W (a.tmps[9]?.getD undef) U:=hI.val 21 9 rfl rfl
  have g20:=(hI.lim 20 rfl).1
  have d20:AnsBox w7 (lo 20) y:=(hM.done 22 (by decide) (by decide) rfl).trans (by show some (Obj.cells (a.tmps[53]?.getD undef).cells _ _)=_; rw[e53]; rfl)
  have hr:∀ k,k≠lo 20→w7.heap[k]? =W.heap[k]? :=fun k h1=>hM.rest k fun j hj1 hj2 _=>by
   have hj2:j<23:=hj2
   obtain rfl:j=22:=by omega
   exact h1
  have hb7:Below W2.heap.size W2 w7:=⟨hM.os.trans hI.below.os,hM.tape.trans hI.below.tape,hM.output.trans hI.below.output,by rw[hM.size]; exact hI.below.size,fun k hk=>(hr k (by omega)).trans (hI.below.block k hk)⟩
  have ht7:Turned (fun k=>k=lo 20) W w7:=⟨hM.os,hM.tape,hM.output,by rw[hM.size]; exact Nat.le_refl _,fun k _ hk=>hr k hk⟩
  have U7:=Lib.hid (ht7.lies hU fun hn b off e=>tab_apart h10 hU hn b off e)
  have D7:=Lib.hid d20
  have HX7:=Lib.hid (HX.out.kept hb7)
  have HF7:=Lib.hid (HF.out.kept hb7)
  have n1:hf≠w.heap.size+2:=by omega
  have n2:hf≠w.heap.size+3:=by omega
  have hs2:=HX.out.size
  have n3:lo 20≠w.heap.size+2:=by omega
  have n4:lo 20≠w.heap.size+3:=by omega
  obtain⟨t,df⟩:=a
  obtain rfl:df=[]:=hI.defs
  have hz:t.size=148:=hI.size
  obtain⟨e0,e1,e2,e3,e4,e5,e6,e7,e8,e11,e12,e13,e14,e15,e16,e17,e18,e19,e20,e21,e22,e23,e24,e25,e26,e27,e28,e29,e30,e31,e32,e33,e54,e55,e56,e57,e58,e59,e60,e61,e62,e63,e64,e65,e66,e67,e68,e69,e70,e71,e72,e73,e74,e75,e76,e77,e78,e79,e80,e81,e82,e83,e84,e85,e86,e87,e88,e89,e90,e91,e92,e93,e94,e95,e96,e97,e98,e99,e100,e101,e102,e103,e104,e105,e106,e107,e108,e109,e110,e111,e112,e113,e114,e115,e116,e117,e118,e119,e120,e121,e122,e123,e124,e125,e126,e127,e128,e129,e130,e131,e132,e133,e134,e135,e136,e137,e138,e139,e140,e141,e142,e143,e144,e145,e146,e147,-⟩:=olds hI.old [0,1,2,3,4,5,6,7,8,11,12,13,14,15,16,17,18,19,20,21,22,23,24,25,26,27,28,29,30,31,32,33,54,55,56,57,58,59,60,61,62,63,64,65,66,67,68,69,70,71,72,73,74,75,76,77,78,79,80,81,82,83,84,85,86,87,88,89,90,91,92,93,94,95,96,97,98,99,100,101,102,103,104,105,106,107,108,109,110,111,112,113,114,115,116,117,118,119,120,121,122,123,124,125,126,127,128,129,130,131,132,133,134,135,136,137,138,139,140,141,142,143,144,145,146,147] (by kernel_rfl)
  clear hI hM h10 hU g20 d20 hr hb7 ht7 l20 e53 HX HF hs2 x0 x1 x2 x3 x4 x5 x6 x7 v0 v1 v2 v3 q0
  simp only[List.getElem?_toArray,List.getElem?_cons_succ,List.getElem?_cons_zero,Option.getD_some] at e0 e1 e2 e3 e4 e5 e6 e7 e8 e11 e12 e13 e14 e15 e16 e17 e18 e19 e20 e21 e22 e23 e24 e25 e26 e27 e28 e29 e30 e31 e32 e33 e54 e55 e56 e57 e58 e59 e60 e61 e62 e63 e64 e65 e66 e67 e68 e69 e70 e71 e72 e73 e74 e75 e76 e77 e78 e79 e80 e81 e82 e83 e84 e85 e86 e87 e88 e89 e90 e91 e92 e93 e94 e95 e96 e97 e98 e99 e100 e101 e102 e103 e104 e105 e106 e107 e108 e109 e110 e111 e112 e113 e114 e115 e116 e117 e118 e119 e120 e121 e122 e123 e124 e125 e126 e127 e128 e129 e130 e131 e132 e133 e134 e135 e136 e137 e138 e139 e140 e141 e142 e143 e144 e145 e146 e147
  obtain⟨ys,hy,ht⟩:=arr_slots t 148 hz
  have hl2:(slotsFrom ys 0 148).toArray=#[ys 0,ys 1,ys 2,ys 3,ys 4,ys 5,ys 6,ys 7,ys 8,ys 9,ys 10,ys 11,ys 12,ys 13,ys 14,ys 15,ys 16,ys 17,ys 18,ys 19,ys 20,ys 21,ys 22,ys 23,ys 24,ys 25,ys 26,ys 27,ys 28,ys 29,ys 30,ys 31,ys 32,ys 33,ys 34,ys 35,ys 36,ys 37,ys 38,ys 39,ys 40,ys 41,ys 42,ys 43,ys 44,ys 45,ys 46,ys 47,ys 48,ys 49,ys 50,ys 51,ys 52,ys 53,ys 54,ys 55,ys 56,ys 57,ys 58,ys 59,ys 60,ys 61,ys 62,ys 63,ys 64,ys 65,ys 66,ys 67,ys 68,ys 69,ys 70,ys 71,ys 72,ys 73,ys 74,ys 75,ys 76,ys 77,ys 78,ys 79,ys 80,ys 81,ys 82,ys 83,ys 84,ys 85,ys 86,ys 87,ys 88,ys 89,ys 90,ys 91,ys 92,ys 93,ys 94,ys 95,ys 96,ys 97,ys 98,ys 99,ys 100,ys 101,ys 102,ys 103,ys 104,ys 105,ys 106,ys 107,ys 108,ys 109,ys 110,ys 111,ys 112,ys 113,ys 114,ys 115,ys 116,ys 117,ys 118,ys 119,ys 120,ys 121,ys 122,ys 123,ys 124,ys 125,ys 126,ys 127,ys 128,ys 129,ys 130,ys 131,ys 132,ys 133,ys 134,ys 135,ys 136,ys 137,ys 138,ys 139,ys 140,ys 141,ys 142,ys 143,ys 144,ys 145,ys 146,ys 147]:=rfl
  rw[hy] at e0 e1 e2 e3 e4 e5 e6 e7 e8 e11 e12 e13 e14 e15 e16 e17 e18 e19 e20 e21 e22 e23 e24 e25 e26 e27 e28 e29 e30 e31 e32 e33 e54 e55 e56 e57 e58 e59 e60 e61 e62 e63 e64 e65 e66 e67 e68 e69 e70 e71 e72 e73 e74 e75 e76 e77 e78 e79 e80 e81 e82 e83 e84 e85 e86 e87 e88 e89 e90 e91 e92 e93 e94 e95 e96 e97 e98 e99 e100 e101 e102 e103 e104 e105 e106 e107 e108 e109 e110 e111 e112 e113 e114 e115 e116 e117 e118 e119 e120 e121 e122 e123 e124 e125 e126 e127 e128 e129 e130 e131 e132 e133 e134 e135 e136 e137 e138 e139 e140 e141 e142 e143 e144 e145 e146 e147 e9 e10
  rw[ht,hl2,e0,e1,e2,e3,e4,e5,e6,e7,e8,e11,e12,e13,e14,e15,e16,e17,e18,e19,e20,e21,e22,e23,e24,e25,e26,e27,e28,e29,e30,e31,e32,e33,e54,e55,e56,e57,e58,e59,e60,e61,e62,e63,e64,e65,e66,e67,e68,e69,e70,e71,e72,e73,e74,e75,e76,e77,e78,e79,e80,e81,e82,e83,e84,e85,e86,e87,e88,e89,e90,e91,e92,e93,e94,e95,e96,e97,e98,e99,e100,e101,e102,e103,e104,e105,e106,e107,e108,e109,e110,e111,e112,e113,e114,e115,e116,e117,e118,e119,e120,e121,e122,e123,e124,e125,e126,e127,e128,e129,e130,e131,e132,e133,e134,e135,e136,e137,e138,e139,e140,e141,e142,e143,e144,e145,e146,e147,e9,e10]
  clear ht hl2 hz hy e0 e1 e2 e3 e4 e5 e6 e7 e8 e11 e12 e13 e14 e15 e16 e17 e18 e19 e20 e21 e22 e23 e24 e25 e26 e27 e28 e29 e30 e31 e32 e33 e54 e55 e56 e57 e58 e59 e60 e61 e62 e63 e64 e65 e66 e67 e68 e69 e70 e71 e72 e73 e74 e75 e76 e77 e78 e79 e80 e81 e82 e83 e84 e85 e86 e87 e88 e89 e90 e91 e92 e93 e94 e95 e96 e97 e98 e99 e100 e101 e102 e103 e104 e105 e106 e107 e108 e109 e110 e111 e112 e113 e114 e115 e116 e117 e118 e119 e120 e121 e122 e123 e124 e125 e126 e127 e128 e129 e130 e131 e132 e133 e134 e135 e136 e137 e138 e139 e140 e141 e142 e143 e144 e145 e146 e147 e9 e10
  generalize lo 20=b20 at *
  generalize hg2:w.heap.size+1+1=g2 at *
  generalize hg3:g2+1=g3 at *
  have r2:ModBox w7 g2 ⟨0,0,0,0,0⟩ (sl none 0 0) (sl none 0 0) (sl none 0 0):=by rw[← hg2]; exact HX7.out.res
  have r3:AnsBox w7 g3 ⟨0,0,false,0⟩:=by rw[← hg3,← hg2]; exact HX7.out.ans
  have r1:ModBox w7 w.heap.size c (sl pa m.pool.length pc) (rowV (some ⟨b,off,none⟩) tc ts) (sl la m.places.length lc):=HX7.out.mod
  have m1:w.heap.size≠g2:=by omega
  have m2:w.heap.size≠g3:=by omega
  have m3:hf≠g2:=by omega
  have m4:hf≠g3:=by omega
  have m5:b20≠g2:=by omega
  have m6:b20≠g3:=by omega
  have m7:g2≠g3:=by omega
  have m8:w.heap.size≤g2:=by omega
  have m9:w.heap.size≤g3:=by omega
  have HG:=Lib.hid (show g2=w.heap.size+2∧g3=w.heap.size+3 by omega)
  clear hg2 hg3
  have HR2:=Lib.hid r2
  have HR3:=Lib.hid r3
  have HR1:=Lib.hid r1
  clear r1 r2 r3
  generalize hgg:w.heap.size=g at *
  have hbl:b<g:=HBL.out
  have mb2:b≠g2:=by omega
  have mb3:b≠g3:=by omega
  have T7:=Lib.hid (HM.out.row.kept (show Below w.heap.size w w7 from HX7.out.below))
  have S7:g+4≤w7.heap.size:=by have:=HX7.out.size; omega
  go_wp2_with fail
  have AP:∀ k,k≠g2→k≠g3→¬ ∃ s,storeB s=true∧k=boxB g2 g3 s:=by
   rintro k h2 h3 ⟨s,hs,rfl⟩
   unfold storeB boxB at *
   by_cases e:s=6
   ·rw[if_pos e] at h2; exact h2 rfl
   ·rw[if_neg e] at h3; exact h3 rfl
  refine wp_region_olds (outV hf ii g c pa m.pool.length pc b off tc ts la m.places.length lc av cv U y) storeB (boxB g2 g3) (fun s=>if s=6 then 36 else 39) (fun s=>if s=6 then modC ⟨0,0,0,0,0⟩ (sl none 0 0) (sl none 0 0) (sl none 0 0) else ansC ⟨0,0,false,0⟩) (fun s=>if s=6 then 58 else 59) (outV_turn _ _ _ _ _ _ _ _ _ _ _ _ _ _ _ _ _ _ _ _ (by have:=HG.out; omega) (by have:=HG.out; omega)) (by kernel_rfl) (by kernel_rfl) (by kernel_rfl) ?nodst ?vs ?apart ?box ?step ?store ?done ?sz
  case nodst=>
   intro s hs
   rcases store_is hs with rfl | rfl <;> rfl
  case vs=>
   intro s hs
   rcases store_is hs with rfl | rfl <;> kernel_rfl
  case apart=>
   intro s t hs ht hst
   rcases store_is hs with rfl | rfl <;> rcases store_is ht with rfl | rfl
   ·exact absurd rfl hst
   ·exact m7
   ·exact m7.symm
   ·exact absurd rfl hst
  case box=>
   intro s hs
   rcases store_is hs with rfl | rfl
   ·exact HR2.out
   ·exact HR3.out
  case sz=>
   intro s hs
   rcases store_is hs with rfl | rfl <;> decide
  case step=>
   intro d a W i hlt hns hall hI
   replace hlt:i<8:=hlt
   have b0:=hI.turned
   obtain rfl | rfl | rfl | rfl | rfl | rfl:i=0∨i=1∨i=2∨i=3∨i=4∨i=5:=by
    unfold storeB at hns
    simp at hns
    omega
   ·have e3:a.tmps[3]?.getD undef=.pointer (some ⟨g,0,none⟩):=hI.old 3 (unwritten_of (by kernel_rfl) d)
    obtain⟨⟨x0,x1,x2,x3,x4,x5,x6,x7⟩,-⟩:=HR1.out.cells
    have k_0:=b0.cell (a:=⟨g,0,none⟩) x0 (AP _ m1 m2)
    have k_1:=b0.cell (a:=⟨g,1,none⟩) x1 (AP _ m1 m2)
    have k_2:=b0.cell (a:=⟨g,2,none⟩) x2 (AP _ m1 m2)
    have k_3:=b0.cell (a:=⟨g,3,none⟩) x3 (AP _ m1 m2)
    have k_4:=b0.cell (a:=⟨g,4,none⟩) x4 (AP _ m1 m2)
    have k_5:=b0.cell (a:=⟨g,5,none⟩) x5 (AP _ m1 m2)
    have k_6:=b0.cell (a:=⟨g,6,none⟩) x6 (AP _ m1 m2)
    have k_7:=b0.cell (a:=⟨g,7,none⟩) x7 (AP _ m1 m2)
    refine StepZ.done rfl (wanted_free rfl) fun K hK=>?_
    refine op_run (modV c (sl pa m.pool.length pc) (rowV (some ⟨b,off,none⟩) tc ts) (sl la m.places.length lc)) W ?_ (hK _ _ (Below.refl _ _) rfl)
    clear hall hI hK x0 x1 x2 x3 x4 x5 x6 x7
    simp only[List.getElem_toArray,List.getElem_cons_zero,execOp,Act.eval]
    go_simp
   ·have e8:a.tmps[8]?.getD undef=.pointer (some ⟨hf,0,none⟩):=hI.old 8 (unwritten_of (by kernel_rfl) d)
    refine StepZ.done rfl (wanted_free rfl) fun K hK=>?_
    refine op_run (.pointer (some ⟨hf,1,none⟩)) W ?_ (hK _ _ (Below.refl _ _) rfl)
    clear hall hI hK
    simp only[List.getElem_toArray,List.getElem_cons_zero,List.getElem_cons_succ,execOp,Act.eval]
    go_simp
   ·have e55:a.tmps[55]?.getD undef=.pointer (some ⟨hf,1,none⟩):=hI.val 1 55 rfl (hall 1 (by kernel_rfl))
    obtain⟨⟨-,v1,-,-⟩,-⟩:=HF7.out.cells
    have kv1:=b0.cell (a:=⟨hf,1,none⟩) v1 (AP _ m3 m4)
    refine StepZ.done rfl (wanted_free rfl) fun K hK=>?_
    refine op_run (.int .i64 (ii:Nat)) W ?_ (hK _ _ (Below.refl _ _) rfl)
    clear hall hI hK v1
    simp only[List.getElem_toArray,List.getElem_cons_zero,List.getElem_cons_succ,execOp,Act.eval]
    go_simp
   ·have e9:a.tmps[9]?.getD undef=rowV av cv U:=hI.old 9 (unwritten_of (by kernel_rfl) d)
    refine StepZ.done rfl (wanted_free rfl) fun K hK=>?_
    exact op_move rfl (hK _ _ (Below.refl _ _) e9)
   ·have e54:a.tmps[54]?.getD undef=modV c (sl pa m.pool.length pc) (rowV (some ⟨b,off,none⟩) tc ts) (sl la m.places.length lc):=hI.val 0 54 rfl (hall 0 (by kernel_rfl))
    have e56:a.tmps[56]?.getD undef=.int .i64 (ii:Nat):=hI.val 2 56 rfl (hall 2 (by kernel_rfl))
    have e57:a.tmps[57]?.getD undef=rowV av cv U:=hI.val 3 57 rfl (hall 3 (by kernel_rfl))
    have hTW:Lies tabK W (some ⟨b,off,none⟩) tc ts:=b0.lies T7.out (fun _ b' off' e=>by cases e; exact AP _ mb2 mb3)
    have hsz:g+4≤W.heap.size:=Nat.le_trans S7 b0.size
    have CU:=refwithTable_any c pa m.pool.length pc (some ⟨b,off,none⟩) tc ts la m.places.length lc (ii:Int) ⟨av,cv,U⟩ W hTW hl
    refine StepZ.done rfl (wanted_free rfl) fun K hK=>?_
    refine op_call 48 #[modV c (sl pa m.pool.length pc) (rowV (some ⟨b,off,none⟩) tc ts) (sl la m.places.length lc),.int .i64 (ii:Nat),rowV av cv U] (fun v W2=>(∃ u,v=modV c (sl pa m.pool.length pc) u (sl la m.places.length lc)∧RowG.Own tabK 50 (g+4) W2 u (setZ ts (ii:Int) ⟨av,cv,U⟩))∧Below W.heap.size W W2) ?_ (CU.mono fun e W2 ⟨u,he,hu,hb⟩=>⟨_,he,⟨u,rfl,own_less hsz hu⟩,hb⟩) (fun v W2 ⟨h1,h2⟩=>hK v W2 h2 h1)
    clear hall hI hK CU
    simp only[List.getElem_toArray,List.getElem_cons_zero,List.getElem_cons_succ,execOp]
    go_simp
   ·have e10:a.tmps[10]?.getD undef=.pointer (some ⟨b20,0,none⟩):=hI.old 10 (unwritten_of (by kernel_rfl) d)
    obtain⟨⟨c0,c1,c2,c3⟩,-⟩:=D7.out.cells
    have k_0:=b0.cell (a:=⟨b20,0,none⟩) c0 (AP _ m5 m6)
    have k_1:=b0.cell (a:=⟨b20,1,none⟩) c1 (AP _ m5 m6)
    have k_2:=b0.cell (a:=⟨b20,2,none⟩) c2 (AP _ m5 m6)
    have k_3:=b0.cell (a:=⟨b20,3,none⟩) c3 (AP _ m5 m6)
    refine StepZ.done rfl (wanted_free rfl) fun K hK=>?_
    refine op_run (ansV y) W ?_ (hK _ _ (Below.refl _ _) rfl)
    clear hall hI hK c0 c1 c2 c3
    simp only[List.getElem_toArray,List.getElem_cons_zero,List.getElem_cons_succ,execOp,Act.eval]
    go_simp
  case store=>
   intro d a W s hs hd hall hI
   rcases store_is hs with rfl | rfl
   ·obtain⟨u,e58,hO⟩:∃ u,a.tmps[58]?.getD undef=modV c (sl pa m.pool.length pc) u (sl la m.places.length lc)∧RowG.Own tabK 50 (g+4) W u (setZ ts (ii:Int) ⟨av,cv,U⟩):=hI.val 4 58 rfl (hall 4 (by kernel_rfl))
    obtain⟨ta8,tc8,rfl,-⟩:=hO.lies
    have hbx:=hI.box 6 rfl
    rw[hd] at hbx
    replace hbx:ModBox W g2 ⟨0,0,0,0,0⟩ (sl none 0 0) (sl none 0 0) (sl none 0 0):=hbx
    have e6:a.tmps[6]?.getD undef=.pointer (some ⟨g2,0,none⟩):=hI.old 6 (unwritten_of (by kernel_rfl) d)
    clear hI hall
    obtain⟨⟨y0,y1,y2,y3,y4,y5,y6,y7⟩,fs⟩:=hbx.cells
    have f0:=fs 0
    have f1:=fs 1
    have f2:=fs 2
    have f3:=fs 3
    have f4:=fs 4
    have f5:=fs 5
    have f6:=fs 6
    have f7:=fs 7
    clear fs
    refine⟨_,rfl,wanted_free rfl,fun K hK=>?_⟩
    have hs:=hK _ (show Stored g2 36 (a.tmps[58]?.getD undef).cells W _ from by rw[e58]; exact stored8 hbx (.int .i64 c.W) (.int .i64 c.S) (.int .i64 c.cap) (.int .i64 c.idle) (.int .i64 c.K) (sl pa m.pool.length pc) (rowV ta8 tc8 (setZ ts (ii:Int) ⟨av,cv,U⟩)) (sl la m.places.length lc))
    clear hK
    unfold Oper.wp
    simp only[List.getElem_toArray,List.getElem_cons_zero,List.getElem_cons_succ,execOp]
    go_simp
    exact hs
   ·have e59:a.tmps[59]?.getD undef=ansV y:=hI.val 5 59 rfl (hall 5 (by kernel_rfl))
    have hbx:=hI.box 7 rfl
    rw[hd] at hbx
    replace hbx:AnsBox W g3 ⟨0,0,false,0⟩:=hbx
    have e7:a.tmps[7]?.getD undef=.pointer (some ⟨g3,0,none⟩):=hI.old 7 (unwritten_of (by kernel_rfl) d)
    clear hI hall
    obtain⟨⟨z0,z1,z2,z3⟩,fr⟩:=hbx.cells
    have f0:=fr 0
    have f1:=fr 1
    have f2:=fr 2
    have f3:=fr 3
    clear fr
    refine⟨_,rfl,wanted_free rfl,fun K hK=>?_⟩
    have hs:=hK _ (show Stored g3 39 (a.tmps[59]?.getD undef).cells W _ from by rw[e59]; exact stored4 hbx (.int .i64 y.err) (.int .i64 y.backend) (.bool y.made) (.int .i64 y.count))
    clear hK
    unfold Oper.wp
    simp only[List.getElem_toArray,List.getElem_cons_zero,List.getElem_cons_succ,execOp]
    go_simp
    exact hs
  case done=>
   intro a w8 hI
   obtain⟨u,e58,hO⟩:∃ u,a.tmps[58]?.getD undef=modV c (sl pa m.pool.length pc) u (sl la m.places.length lc)∧RowG.Own tabK 50 (g+4) w8 u (setZ ts (ii:Int) ⟨av,cv,U⟩):=hI.val 4 58 rfl rfl
   have e59:a.tmps[59]?.getD undef=ansV y:=hI.val 5 59 rfl rfl
   have e6:a.tmps[6]?.getD undef=.pointer (some ⟨g2,0,none⟩):=hI.old 6 (unwritten_of (by kernel_rfl) _)
   have e7:a.tmps[7]?.getD undef=.pointer (some ⟨g3,0,none⟩):=hI.old 7 (unwritten_of (by kernel_rfl) _)
   have h2:=hI.box 6 rfl
   rw[if_pos rfl] at h2
   have h3:=hI.box 7 rfl
   rw[if_pos rfl] at h3
   replace h2:w8.heap[g2]? =some (.cells (a.tmps[58]?.getD undef).cells 36 (0,0)):=h2
   replace h3:w8.heap[g3]? =some (.cells (a.tmps[59]?.getD undef).cells 39 (0,0)):=h3
   rw[e58] at h2
   rw[e59] at h3
   replace h2:ModBox w8 g2 c (sl pa m.pool.length pc) u (sl la m.places.length lc):=h2
   replace h3:AnsBox w8 g3 y:=h3
   have ht:=hI.turned
   have B7:Below w.heap.size w w7:=HX7.out.below
   have B8:Below w.heap.size w w8:=ht.below B7 B7.size fun k hk=>by
    obtain⟨s,hs,rfl⟩:=hk
    rcases store_is hs with rfl | rfl
    ·show w.heap.size≤g2; omega
    ·show w.heap.size≤g3; omega
   have U8:Lies entK w8 av cv U:=ht.lies U7.out fun hn b' off' e=>AP _ (mod_apart' HR2.out rfl rfl rfl U7.out hn b' off' e) (tab_apart HR3.out U7.out hn b' off' e)
   obtain⟨ta8,tc8,rfl,hl8⟩:=hO.lies
   obtain⟨⟨r0,r1,r2,r3,r4,r5,r6,r7⟩,-⟩:=h2.cells
   obtain⟨⟨s0,s1,s2,s3⟩,-⟩:=h3.cells
   have HO:=Lib.hid hO
   have hdf:a.defers=[]:=hI.defs
   clear hI h2 h3 ht hO
   go_wp2_with fail
   refine bodyPost_ret (v:=.tuple #[modV c (sl pa m.pool.length pc) (rowV ta8 tc8 (setZ ts (ii:Int) ⟨av,cv,U⟩)) (sl la m.places.length lc),ansV y]) ?q1 hdf ?q2
   case q1=>
    simp only[results,Tryz.results18]
    simp[go_sem,e6,e7,r0,r1,r2,r3,r4,r5,r6,r7,s0,s1,s2,s3]
   case q2=>
    subst hgg
    refine⟨_,rfl,⟨pa,pc,ta8,tc8,setZ ts (ii:Int) ⟨av,cv,U⟩,la,lc,rfl,HM.out.pool.kept B8,hl8,HTS.out _ rfl,?_,HM.out.places.kept B8,own_from HBB.out (own_less (Nat.le_add_right _ 4) HO.out),HM.out.fromL,HM.out.fromP⟩,B8⟩
    intro z hz
    unfold setZ at hz
    rw[if_pos (by omega)] at hz
    rcases List.mem_or_eq_of_mem_set hz with hz | rfl
    ·exact (HM.out.each z hz).kept B8
    ·exact U8
end
end Go.Proofs.YtbamodkgagcmnaaGreat.Mod
