/-
  ModelDoes: for every c and l the law ModelDoes answers true: whatever is done, the model answers, and becomes, just what the document says. No condition.
-/
import Derived.Test.YtbamodkgagcmnaaGreatRows
import Derived.Test.YtbamodkgagcmnaaGreatBPolE
import Derived.Test.YtbamodkgagcmnaaGreatBTabE
import Derived.Test.YtbamodkgagcmnaaGreatMdlRE
import Derived.Test.YtbamodkgagcmnaaGreatMdlSE
import Derived.Test.YtbamodkgagcmnaaGreatPolRefsE
import Derived.Deep.RegionHeld3
import Derived.BigQuiet
import Derived.WalkSmall
import Derived.ProofKit
import Derived.OpenShut
import Derived.ChangeMaps5
set_option maxRecDepth 100000
namespace Go.Proofs.YtbamodkgagcmnaaGreat
open Go.ChangeShapes Go.WideShapes Go.ChangeAt Go.RowKit Go.Shelf RowG
open Go.ChangeMaps (open_string shut_string)
open Mdl
open Mdo (CfgOk StM stK StOk)
open Pol (polV chk)
open Trn Rgn
open Go.Proofs.YtbamodkgagcmnaaGreat.Mod (AnsBox smallB okB ansV ansC opV opC cfgV Ans Mo)
attribute [local go_sem] Oper.semAt_some
theorem nine_keep {w W W':World} {a1 a2 a3 a4 a5 a6 a7 a8 a9:Addr} {v1 v2 v3 v4 v5 v6 v7 v8 v9:Value} (h:Below w.heap.size w W∧W.cell? a1=some v1∧W.cell? a2=some v2∧W.cell? a3=some v3∧W.cell? a4=some v4∧W.cell? a5=some v5∧W.cell? a6=some v6∧W.cell? a7=some v7∧W.cell? a8=some v8∧W.cell? a9=some v9) (hb:Below W.heap.size W W'):
 Below w.heap.size w W'∧W'.cell? a1=some v1∧W'.cell? a2=some v2∧W'.cell? a3=some v3∧W'.cell? a4=some v4∧W'.cell? a5=some v5∧W'.cell? a6=some v6∧W'.cell? a7=some v7∧W'.cell? a8=some v8∧W'.cell? a9=some v9:=by
 have k:∀ {a:Addr} {v:Value},W.cell? a=some v→W'.cell? a=some v:=fun {a v} e=>(hb.cell (World.block_lt_of_cell? _ _ e)).trans e
 obtain⟨h0,h1,h2,h3,h4,h5,h6,h7,h8,h9⟩:=h
 exact⟨below2 h0 hb,k h1,k h2,k h3,k h4,k h5,k h6,k h7,k h8,k h9⟩
theorem two_keep' {w W W':World} {a1 a2:Addr} {v1 v2:Value} (h:Below w.heap.size w W∧W.cell? a1=some v1∧W.cell? a2=some v2) (hb:Below W.heap.size W W'):Below w.heap.size w W'∧W'.cell? a1=some v1∧W'.cell? a2=some v2:=
 ⟨below2 h.1 hb,(hb.cell (World.block_lt_of_cell? _ _ h.2.1)).trans h.2.1,(hb.cell (World.block_lt_of_cell? _ _ h.2.2)).trans h.2.2⟩
set_option maxRecDepth 100000 in
set_option maxHeartbeats 8000000 in
theorem walk_ModelDoes (a0W a0S a0C a0I a0K:Int) (a1:Option Addr) (c1:Nat) (z1:List StM) (w:World) (_h0:CfgOk a0W a0S a0C a0I a0K) (h1:Lies stK w a1 c1 z1) (g1:∀ x ∈ z1,StOk w x):
 Calls Tryz.prog 3 #[.agg #[.int .i64 a0W,.int .i64 a0S,.int .i64 a0C,.int .i64 a0I,.int .i64 a0K],rowV a1 c1 z1] w fun e W'=>e=.returned (.bool true)∧Below w.heap.size w W':=by
 obtain⟨y,b0⟩:=cfg_box w ⟨a0W,a0S,a0C,a0I,a0K⟩
 have Y:=Lib.hid y
 have H1:=Lib.hid (h1.kept b0)
 have G1:=Lib.hid g1
 have HP:=Lib.hid (fun x hx=>(g1 x hx).pkt)
 have HB0:=Lib.hid b0
 have hC1:=h1.len
 have hM1:=h1.max
 unfold maxLen at hM1
 clear h1 g1 y b0
 cases hfw:(smallB ⟨a0W,a0S,a0C,a0I,a0K⟩ && decide (fewL z1)) with
 | false=>
   go_enter Tryz.func3,Tryz.ntmps3
   go_wp2_with fail
   generalize hw0:w.alloc (.cells #[.int .i64 a0W,.int .i64 a0S,.int .i64 a0C,.int .i64 a0I,.int .i64 a0K] 23)=w0 at *
   refine (works_any _).mono ?_
   rintro e w1 ⟨rfl,hb⟩
   have B1:=Lib.hid hb
   have BW1:=Lib.hid (below2 HB0.out hb)
   obtain⟨y0,y1,y2,y3,y4⟩:=cfg_kept (c:=⟨a0W,a0S,a0C,a0I,a0K⟩) Y.out hb
   clear hb
   have FW:=Lib.hid (few_any ⟨a0W,a0S,a0C,a0I,a0K⟩ a1 c1 z1 w1 (H1.out.kept B1.out) HP.out)
   rw[hfw] at FW
   go_wp2_with fail
   refine FW.out.mono ?_
   rintro e w2 ⟨rfl,hb⟩
   have B2:=Lib.hid (below2 B1.out hb)
   have BW2:=Lib.hid (below2 BW1.out hb)
   obtain⟨y0,y1,y2,y3,y4⟩:=cfg_kept (c:=⟨a0W,a0S,a0C,a0I,a0K⟩) Y.out B2.out
   clear hb FW
   go_wp2_with fail
   go_ret
   exact⟨rfl,BW2.out⟩
 | true=>
   cases hok:okB ⟨a0W,a0S,a0C,a0I,a0K⟩ with
   | false=>
     go_enter Tryz.func3,Tryz.ntmps3
     go_wp2_with fail
     generalize hw0:w.alloc (.cells #[.int .i64 a0W,.int .i64 a0S,.int .i64 a0C,.int .i64 a0I,.int .i64 a0K] 23)=w0 at *
     refine (works_any _).mono ?_
     rintro e w1 ⟨rfl,hb⟩
     have B1:=Lib.hid hb
     have BW1:=Lib.hid (below2 HB0.out hb)
     obtain⟨y0,y1,y2,y3,y4⟩:=cfg_kept (c:=⟨a0W,a0S,a0C,a0I,a0K⟩) Y.out hb
     clear hb
     have FW:=Lib.hid (few_any ⟨a0W,a0S,a0C,a0I,a0K⟩ a1 c1 z1 w1 (H1.out.kept B1.out) HP.out)
     rw[hfw] at FW
     go_wp2_with fail
     refine FW.out.mono ?_
     rintro e w2 ⟨rfl,hb⟩
     have B2:=Lib.hid (below2 B1.out hb)
     have BW2:=Lib.hid (below2 BW1.out hb)
     obtain⟨y0,y1,y2,y3,y4⟩:=cfg_kept (c:=⟨a0W,a0S,a0C,a0I,a0K⟩) Y.out B2.out
     clear hb FW
     have N1:=Lib.hid (New_bad ⟨a0W,a0S,a0C,a0I,a0K⟩ hok w2)
     go_wp2_with fail
     refine N1.out.mono ?_
     rintro e w3 ⟨rfl,hb⟩
     have BW3:=Lib.hid (below2 BW2.out hb)
     have B3:=Lib.hid (below2 B2.out hb)
     obtain⟨y0,y1,y2,y3,y4⟩:=cfg_kept (c:=⟨a0W,a0S,a0C,a0I,a0K⟩) Y.out B3.out
     clear hb N1
     have RC0:=Mod.refCheck_any ⟨a0W,a0S,a0C,a0I,a0K⟩ w3
     rw[show Mod.errOf (okB ⟨a0W,a0S,a0C,a0I,a0K⟩)=1 by rw[hok]; rfl] at RC0
     have RC:=Lib.hid RC0
     clear RC0
     go_wp2_with fail
     refine RC.out.mono ?_
     rintro e w4 ⟨rfl,hb⟩
     have BW4:=Lib.hid (below2 BW3.out hb)
     have B4:=Lib.hid (below2 B3.out hb)
     obtain⟨y0,y1,y2,y3,y4⟩:=cfg_kept (c:=⟨a0W,a0S,a0C,a0I,a0K⟩) Y.out B4.out
     clear hb RC
     have MC0:=Check_told ⟨a0W,a0S,a0C,a0I,a0K⟩ w4
     rw[show Mod.errOf (okB ⟨a0W,a0S,a0C,a0I,a0K⟩)=1 by rw[hok]; rfl] at MC0
     have MC:=Lib.hid MC0
     clear MC0
     go_wp2_with fail
     refine MC.out.mono ?_
     rintro e w5 ⟨rfl,hb⟩
     have BW5:=Lib.hid (below2 BW4.out hb)
     have B5:=Lib.hid (below2 B4.out hb)
     obtain⟨y0,y1,y2,y3,y4⟩:=cfg_kept (c:=⟨a0W,a0S,a0C,a0I,a0K⟩) Y.out B5.out
     clear hb MC
     go_wp2_with fail
     go_ret
     exact⟨rfl,BW5.out⟩
   | true=>
     obtain⟨n,cap,rfl,rfl,hn,h16,h0c,h64,hi0,hi1⟩:=ok_nat hok
     obtain⟨hz12,hz100⟩:=few_and hfw
     obtain⟨g,hg⟩:=flows_both
     have HG:=Lib.hid hg
     have HZ:=Lib.hid hz100
     clear hg hz100
     go_enter Tryz.func3,Tryz.ntmps3
     go_wp2_with fail
     generalize hw0:w.alloc (.cells #[.int .i64 a0W,.int .i64 (n:Int),.int .i64 (cap:Int),.int .i64 a0I,.int .i64 a0K] 23)=w0 at *
     refine (works_any _).mono ?_
     rintro e w1 ⟨rfl,hb⟩
     have B1:=Lib.hid hb
     have BW1:=Lib.hid (below2 HB0.out hb)
     obtain⟨y0,y1,y2,y3,y4⟩:=cfg_kept (c:=⟨a0W,(n:Int),(cap:Int),a0I,a0K⟩) Y.out hb
     clear hb
     have FW:=Lib.hid (few_any ⟨a0W,(n:Int),(cap:Int),a0I,a0K⟩ a1 c1 z1 w1 (H1.out.kept B1.out) HP.out)
     rw[hfw] at FW
     go_wp2_with fail
     refine FW.out.mono ?_
     rintro e w2 ⟨rfl,hb⟩
     have B2:=Lib.hid (below2 B1.out hb)
     have BW2:=Lib.hid (below2 BW1.out hb)
     obtain⟨y0,y1,y2,y3,y4⟩:=cfg_kept (c:=⟨a0W,(n:Int),(cap:Int),a0I,a0K⟩) Y.out B2.out
     clear hb FW
     have BWB:=Lib.hid BW2.out
     have YB:=Lib.hid (cfg_kept (c:=⟨a0W,(n:Int),(cap:Int),a0I,a0K⟩) Y.out B2.out)
     have HL:=Lib.hid (H1.out.kept B2.out)
     have C:=Lib.hid (new_stand a0W n cap a0I a0K hok hn h16 h64 w2 w2 (Below.refl _ _))
     generalize hwb:w2=wb at *
     go_wp2_with fail
     refine C.out.mono ?_
     rintro e w3 ⟨f,rfl,S3⟩
     have HS:=Lib.hid S3
     clear S3 C y0 y1 y2 y3 y4
     obtain⟨y0,y1,y2,y3,y4⟩:=cfg_kept (c:=⟨a0W,(n:Int),(cap:Int),a0I,a0K⟩) YB.out HS.out.below
     have RC0:=Mod.refCheck_any ⟨a0W,(n:Int),(cap:Int),a0I,a0K⟩ w3
     rw[show Mod.errOf (okB ⟨a0W,(n:Int),(cap:Int),a0I,a0K⟩)=0 by rw[hok]; rfl] at RC0
     have RC:=Lib.hid RC0
     clear RC0
     go_wp2_with fail
     refine RC.out.mono ?_
     rintro e w4 ⟨rfl,hb⟩
     have HS4:=Lib.hid (HS.out.more hb)
     obtain⟨y0,y1,y2,y3,y4⟩:=cfg_kept (c:=⟨a0W,(n:Int),(cap:Int),a0I,a0K⟩) YB.out HS4.out.below
     clear hb RC
     have MC0:=Check_told ⟨a0W,(n:Int),(cap:Int),a0I,a0K⟩ w4
     rw[show Mod.errOf (okB ⟨a0W,(n:Int),(cap:Int),a0I,a0K⟩)=0 by rw[hok]; rfl] at MC0
     have MC:=Lib.hid MC0
     clear MC0
     go_wp2_with fail
     refine MC.out.mono ?_
     rintro e w5 ⟨rfl,hb⟩
     have HS5:=Lib.hid (HS4.out.more hb)
     obtain⟨y0,y1,y2,y3,y4⟩:=cfg_kept (c:=⟨a0W,(n:Int),(cap:Int),a0I,a0K⟩) YB.out HS5.out.below
     clear hb MC
     have hlt5:=HS5.out.held.lt
     have RN:=Lib.hid (Mod.refNew_any (B:=fun k=>¬ f.has k) a0W n cap a0I a0K h16 w5 (fun k hk e=>by rcases e with rfl | rfl <;> omega) (fun W=>by
      have:=Flo.refNew_any (cap:Int) W (wf_small cap h64)
      rw[show Flo.size ((cap:Nat):Int)=cap by rw[Flo.size_in]; omega] at this
      exact this.mono fun e W' ⟨q1,q2,_,q4⟩=>⟨q1,q2,q4⟩))
     go_wp2_with fail
     refine RN.out.mono ?_
     rintro e w6 ⟨v,rfl,hM,hb⟩
     obtain⟨pa,pc,ta,tc,ts,la,lc,rfl,hM⟩:=hM
     have RA7:=Lib.hid (ref_new hM (inv_ne (Mod.inv_new n cap Mdl.good_nil) hn))
     have hsz6:=hb.size
     have hsw5:=HS5.out.below.size
     have HS7:=Lib.hid (HS5.out.more (below2 hb ((Below.refl _ w6).alloc (Nat.le_refl _) (.cells (Mod.modC ⟨a0W,(n:Int),(cap:Int),a0I,a0K⟩ (Mod.sl pa (Mod.new n cap).pool.length pc) (rowV ta tc ts) (Mod.sl la (Mod.new n cap).places.length lc)) 36))))
     have ng:¬ f.has w6.heap.size:=fun e=>by rcases e with e | e <;> omega
     have ge:wb.heap.size≤w6.heap.size:=by omega
     clear RN hM hb HS4 HS HS5 y0 y1 y2 y3 y4
     go_wp2_with fail
     generalize hw7:w6.alloc (.cells (Mod.modC ⟨a0W,(n:Int),(cap:Int),a0I,a0K⟩ (Mod.sl pa (Mod.new n cap).pool.length pc) (rowV ta tc ts) (Mod.sl la (Mod.new n cap).places.length lc)) 36)=w7 at *
     generalize hg8:w6.heap.size=g8 at *
     clear hw7 hg8 hsz6 hsw5 hlt5
     go_loopw [9] (fun i W=>∃ k:Nat,k≤z1.length∧i=.int .i64 k∧Stand wb W f a0I (goes (Mod.new n cap) ((opsOf g a0I z1).take k)) []∧RefAt f g8 W ⟨a0W,(n:Int),(cap:Int),a0I,a0K⟩ (goes (Mod.new n cap) ((opsOf g a0I z1).take k))) (fun i _=>z1.length - (intOf i).toNat)
     case atStart=>exact⟨0,Nat.zero_le _,rfl,HS7.out,RA7.out⟩
     case round=>
      clear HS7 RA7
      obtain⟨k,hk,rfl,hS,hR⟩:=hrel
      by_cases hlt:k<z1.length
      ·have d0:decide ((k:Int)<(z1.length:Int))=true:=decide_eq_true (by omega)
       have hkl:(k:Int)<(z1.length:Int):=by omega
       obtain⟨b,off,ha,SH,hnf⟩:=turn_cells hS hlt HL.out
       subst ha
       obtain⟨mo,mo2,y,x,hm1,hm2,hx,hDO,hDR,hI1,hI2,hXA⟩:=turn_both (c:=⟨a0W,(n:Int),(cap:Int),a0I,a0K⟩) hS hlt G1.out BWB.out HG.out HZ.out hn h16 h64 rfl rfl
       rw[hm1] at hS hR
       rw[hx] at SH
       have HS:=Lib.hid hS
       have RA:=Lib.hid hR
       have DO:=Lib.hid hDO
       have DR:=Lib.hid hDR
       have HI2:=Lib.hid hI2
       have XA:=Lib.hid hXA
       have NE:=Lib.hid (inv_ne hI1 hn)
       have NE2:=Lib.hid (inv_ne hI2 hn)
       have HGD:=Lib.hid hI2.pool
       have hfl:=hS.held.lt
       have hwl:=hS.below.size
       have hl8:g8<wr.heap.size:=by
        obtain⟨_,_,_,_,_,_,_,hbx,-⟩:=hR
        exact Trn.heap_lt hbx
       clear hS hR hDO hDR hI1 hI2 hXA hm1 hx
       obtain⟨q0,q1,q2,q3,q4⟩:=SH
       go_wp2_with fail
       refine wp_region_st (DoSt wb wr f a0I mo2 y (doVals f.v (rowV (some ⟨b,off,none⟩) c1 z1) k b off x)) (by kernel_rfl) (by kernel_rfl) (by kernel_rfl) ?start ?step ?done
       case start=>exact DoSt.start ..
       case step=>
        intro d v a W i hil hd hall hI
        replace hil:i<14:=hil
        have st:=hI.st
        have no:∀ j i,(d j=true→d i=true)→d i=false→d j=false:=fun j i s1 s2=>by
         cases h:d j with
         | false=>rfl
         | true=>rw[s1 h] at s2; cases s2
        obtain rfl | rfl | rfl | rfl | rfl | rfl | rfl | rfl | rfl | rfl | rfl | rfl | rfl | rfl:i=0∨i=1∨i=2∨i=3∨i=4∨i=5∨i=6∨i=7∨i=8∨i=9∨i=10∨i=11∨i=12∨i=13:=by omega
        ·have e6:a.tmps[6]?.getD undef=f.v:=hI.old 6 (unwritten_of (by kernel_rfl) d)
         refine StepS.done rfl (wanted_free rfl) fun K hK=>?_
         exact op_move rfl (hK _ _ (st.same (by decide) e6))
        ·have e1:a.tmps[1]?.getD undef=rowV (some ⟨b,off,none⟩) c1 z1:=hI.old 1 (unwritten_of (by kernel_rfl) d)
         refine StepS.done rfl (wanted_free rfl) fun K hK=>?_
         exact op_move rfl (hK _ _ (st.same (by decide) e1))
        ·have e9:a.tmps[9]?.getD undef=.int .i64 (k:Int):=hI.old 9 (unwritten_of (by kernel_rfl) d)
         refine StepS.done rfl (wanted_free rfl) fun K hK=>?_
         exact op_move rfl (hK _ _ (st.same (by decide) e9))
        ·have e61:a.tmps[61]?.getD undef=rowV (some ⟨b,off,none⟩) c1 z1:=(hI.val 1 61 rfl (hall 1 (by kernel_rfl))).trans (st.pure 1 (by decide) (hall 1 (by kernel_rfl)))
         have e62:a.tmps[62]?.getD undef=.int .i64 (k:Int):=(hI.val 2 62 rfl (hall 2 (by kernel_rfl))).trans (st.pure 2 (by decide) (hall 2 (by kernel_rfl)))
         refine StepS.done rfl (wanted_free rfl) fun K hK=>?_
         refine op_run (.pointer (some ⟨b,off+k * 5,none⟩)) W ?_ (hK _ _ (st.same (by decide) rfl))
         clear hall hI hK st
         simp only[List.getElem_toArray,List.getElem_cons_zero,List.getElem_cons_succ,execOp,Act.eval]
         go_simp
        ·have e63:a.tmps[63]?.getD undef=.pointer (some ⟨b,off+k * 5,none⟩):=(hI.val 3 63 rfl (hall 3 (by kernel_rfl))).trans (st.pure 3 (by decide) (hall 3 (by kernel_rfl)))
         refine StepS.done rfl (wanted_free rfl) fun K hK=>?_
         refine op_run (.pointer (some ⟨b,off+k * 5,none⟩)) W ?_ (hK _ _ (st.same (by decide) rfl))
         clear hall hI hK st
         simp only[List.getElem_toArray,List.getElem_cons_zero,List.getElem_cons_succ,execOp,Act.eval]
         go_simp
        ·have d11:d 11=false:=no 11 5 (fun h=>hI.shut 11 5 h (by kernel_rfl)) hd
         have z0:=((st.below d11).cell (World.block_lt_of_cell? _ _ q0)).trans q0
         have z1:=((st.below d11).cell (World.block_lt_of_cell? _ _ q1)).trans q1
         have z2:=((st.below d11).cell (World.block_lt_of_cell? _ _ q2)).trans q2
         have z3:=((st.below d11).cell (World.block_lt_of_cell? _ _ q3)).trans q3
         have e64:a.tmps[64]?.getD undef=.pointer (some ⟨b,off+k * 5,none⟩):=(hI.val 4 64 rfl (hall 4 (by kernel_rfl))).trans (st.pure 4 (by decide) (hall 4 (by kernel_rfl)))
         refine StepS.done rfl (wanted_free rfl) fun K hK=>?_
         refine op_run (opV x.kd x.pkt x.p x.pool.length x.c x.sh) W ?_ (hK _ _ (st.same (by decide) rfl))
         clear hall hI hK st
         simp only[List.getElem_toArray,List.getElem_cons_zero,List.getElem_cons_succ,execOp,Act.eval]
         go_simp
        ·have e1:a.tmps[1]?.getD undef=rowV (some ⟨b,off,none⟩) c1 z1:=hI.old 1 (unwritten_of (by kernel_rfl) d)
         refine StepS.done rfl (wanted_free rfl) fun K hK=>?_
         exact op_move rfl (hK _ _ (st.same (by decide) e1))
        ·have e9:a.tmps[9]?.getD undef=.int .i64 (k:Int):=hI.old 9 (unwritten_of (by kernel_rfl) d)
         refine StepS.done rfl (wanted_free rfl) fun K hK=>?_
         exact op_move rfl (hK _ _ (st.same (by decide) e9))
        ·have e66:a.tmps[66]?.getD undef=rowV (some ⟨b,off,none⟩) c1 z1:=(hI.val 6 66 rfl (hall 6 (by kernel_rfl))).trans (st.pure 6 (by decide) (hall 6 (by kernel_rfl)))
         have e67:a.tmps[67]?.getD undef=.int .i64 (k:Int):=(hI.val 7 67 rfl (hall 7 (by kernel_rfl))).trans (st.pure 7 (by decide) (hall 7 (by kernel_rfl)))
         refine StepS.done rfl (wanted_free rfl) fun K hK=>?_
         refine op_run (.pointer (some ⟨b,off+k * 5,none⟩)) W ?_ (hK _ _ (st.same (by decide) rfl))
         clear hall hI hK st
         simp only[List.getElem_toArray,List.getElem_cons_zero,List.getElem_cons_succ,execOp,Act.eval]
         go_simp
        ·have e68:a.tmps[68]?.getD undef=.pointer (some ⟨b,off+k * 5,none⟩):=(hI.val 8 68 rfl (hall 8 (by kernel_rfl))).trans (st.pure 8 (by decide) (hall 8 (by kernel_rfl)))
         refine StepS.done rfl (wanted_free rfl) fun K hK=>?_
         refine op_run (.pointer (some ⟨b,off+k * 5+4,none⟩)) W ?_ (hK _ _ (st.same (by decide) rfl))
         clear hall hI hK st
         simp only[List.getElem_toArray,List.getElem_cons_zero,List.getElem_cons_succ,execOp,Act.eval]
         go_simp
        ·have d11:d 11=false:=no 11 10 (fun h=>hI.shut 11 10 h (by kernel_rfl)) hd
         have z4:=((st.below d11).cell (World.block_lt_of_cell? _ _ q4)).trans q4
         have e69:a.tmps[69]?.getD undef=.pointer (some ⟨b,off+k * 5+4,none⟩):=(hI.val 9 69 rfl (hall 9 (by kernel_rfl))).trans (st.pure 9 (by decide) (hall 9 (by kernel_rfl)))
         refine StepS.done rfl (wanted_free rfl) fun K hK=>?_
         refine op_run (.int .i64 x.now) W ?_ (hK _ _ (st.same (by decide) rfl))
         clear hall hI hK st
         simp only[List.getElem_toArray,List.getElem_cons_zero,List.getElem_cons_succ,execOp,Act.eval]
         go_simp
        ·have d13:=no 13 11 (fun h=>hI.shut 13 11 h (by kernel_rfl)) hd
         have e60:a.tmps[60]?.getD undef=f.v:=(hI.val 0 60 rfl (hall 0 (by kernel_rfl))).trans (st.pure 0 (by decide) (hall 0 (by kernel_rfl)))
         have e65:a.tmps[65]?.getD undef=opV x.kd x.pkt x.p x.pool.length x.c x.sh:=(hI.val 5 65 rfl (hall 5 (by kernel_rfl))).trans (st.pure 5 (by decide) (hall 5 (by kernel_rfl)))
         have e70:a.tmps[70]?.getD undef=.int .i64 x.now:=(hI.val 10 70 rfl (hall 10 (by kernel_rfl))).trans (st.pure 10 (by decide) (hall 10 (by kernel_rfl)))
         have CD:=DO.out W (HS.out.more (st.below hd))
         refine StepS.done rfl (wanted_free rfl) fun K hK=>?_
         refine op_call 17 #[f.v,opV x.kd x.pkt x.p x.pool.length x.c x.sh,.int .i64 x.now] (fun v W2=>v=ansV y∧Stand wb W2 f a0I mo2 []∧Turned f.has W W2) ?_ (CD.mono fun e W2 ⟨he,s1,s2⟩=>⟨_,he,rfl,s1,s2⟩) (fun v W2 ⟨hv,s1,s2⟩=>by subst hv; exact hK _ _ (st.called hfl hd d13 s1 s2))
         clear hall hI hK st CD
         simp only[List.getElem_toArray,List.getElem_cons_zero,List.getElem_cons_succ,execOp]
         go_simp
        ·have d13:=no 13 12 (fun h=>hI.shut 13 12 h (by kernel_rfl)) hd
         refine StepS.done rfl (wanted_free rfl) fun K hK=>?_
         refine op_run (.pointer (some ⟨W.heap.size,0,none⟩)) (W.alloc (.cells (ansC ⟨0,0,false,0⟩) 39)) ?_ (hK _ _ (st.boxed d13))
         clear hall hI hK st
         simp only[List.getElem_toArray,List.getElem_cons_zero,List.getElem_cons_succ,execOp]
         go_simp
        ·have d11:d 11=true:=hall 11 (by kernel_rfl)
         have d12:d 12=true:=hall 12 (by kernel_rfl)
         have e71:a.tmps[71]?.getD undef=ansV y:=(hI.val 11 71 rfl d11).trans (st.call d11).1
         obtain⟨g10,eg,hg10,hx⟩:=st.box0 d12 hd
         have e10:a.tmps[10]?.getD undef=.pointer (some ⟨g10,0,none⟩):=(hI.val 12 10 rfl d12).trans eg
         obtain⟨⟨z0,z1',z2,z3⟩,fr⟩:=hx.cells
         have f0:=fr 0
         have f1:=fr 1
         have f2:=fr 2
         have f3:=fr 3
         refine StepS.done rfl (wanted_free rfl) fun K hK=>?_
         have hs:K a _:=hK undef _ (st.laid hfl hwl HGD.out d11 d12 hd eg (stored4 hx (.int .i64 y.err) (.int .i64 y.backend) (.bool y.made) (.int .i64 y.count)) undef)
         clear hK hall hI st fr hx
         unfold Oper.wp
         simp only[List.getElem_toArray,List.getElem_cons_zero,List.getElem_cons_succ,execOp]
         go_simp
         exact hs
       case done=>
        intro d v a w15 hall hI
        replace hall:∀ i,i<14→d i=true:=hall
        obtain⟨-,hs15,ht15⟩:=hI.st.call (hall 11 (by omega))
        obtain⟨g10,eg,hg10,ha10⟩:=hI.st.box1 (hall 13 (by omega))
        have e10:a.tmps[10]?.getD undef=.pointer (some ⟨g10,0,none⟩):=(hI.val 12 10 rfl (hall 12 (by omega))).trans eg
        have HS15:=Lib.hid hs15
        have A10:=Lib.hid ha10
        have RA15:=Lib.hid (RA.out.over HS.out.held ng ht15)
        have SH15:=Lib.hid (st_turn ⟨q0,q1,q2,q3,q4⟩ ht15 hnf)
        clear hs15 ha10 ht15 eg q0 q1 q2 q3 q4
        obtain⟨t,df⟩:=a
        obtain rfl:df=[]:=hI.defs
        have hz:t.size=117:=hI.size
        obtain⟨e0,e1,e2,e3,e4,e5,e6,e7,e8,e9,e11,e12,e13,e14,e15,e16,e17,e18,e19,e20,e21,e22,e23,e24,e25,e26,e27,e28,e29,e30,e31,e32,e33,e34,e35,e36,e37,e38,e39,e40,e41,e42,e43,e44,e45,e46,e47,e48,e49,e50,e51,e52,e53,e54,e55,e56,e57,e58,e59,e72,e73,e74,e75,e76,e77,e78,e79,e80,e81,e82,e83,e84,e85,e86,e87,e88,e89,e90,e91,e92,e93,e94,e95,e96,e97,e98,e99,e100,e101,e102,e103,e104,e105,e106,e107,e108,e109,e110,e111,e112,e113,e114,e115,e116,-⟩:=olds hI.old [0,1,2,3,4,5,6,7,8,9,11,12,13,14,15,16,17,18,19,20,21,22,23,24,25,26,27,28,29,30,31,32,33,34,35,36,37,38,39,40,41,42,43,44,45,46,47,48,49,50,51,52,53,54,55,56,57,58,59,72,73,74,75,76,77,78,79,80,81,82,83,84,85,86,87,88,89,90,91,92,93,94,95,96,97,98,99,100,101,102,103,104,105,106,107,108,109,110,111,112,113,114,115,116] (by kernel_rfl)
        clear hI hall
        simp only[List.getElem?_toArray,List.getElem?_cons_succ,List.getElem?_cons_zero,Option.getD_some] at e0 e1 e2 e3 e4 e5 e6 e7 e8 e9 e11 e12 e13 e14 e15 e16 e17 e18 e19 e20 e21 e22 e23 e24 e25 e26 e27 e28 e29 e30 e31 e32 e33 e34 e35 e36 e37 e38 e39 e40 e41 e42 e43 e44 e45 e46 e47 e48 e49 e50 e51 e52 e53 e54 e55 e56 e57 e58 e59 e72 e73 e74 e75 e76 e77 e78 e79 e80 e81 e82 e83 e84 e85 e86 e87 e88 e89 e90 e91 e92 e93 e94 e95 e96 e97 e98 e99 e100 e101 e102 e103 e104 e105 e106 e107 e108 e109 e110 e111 e112 e113 e114 e115 e116
        obtain⟨ys60,hy,ht⟩:=arr_slots t 117 hz
        have hl2:(slotsFrom ys60 0 117).toArray=#[ys60 0,ys60 1,ys60 2,ys60 3,ys60 4,ys60 5,ys60 6,ys60 7,ys60 8,ys60 9,ys60 10,ys60 11,ys60 12,ys60 13,ys60 14,ys60 15,ys60 16,ys60 17,ys60 18,ys60 19,ys60 20,ys60 21,ys60 22,ys60 23,ys60 24,ys60 25,ys60 26,ys60 27,ys60 28,ys60 29,ys60 30,ys60 31,ys60 32,ys60 33,ys60 34,ys60 35,ys60 36,ys60 37,ys60 38,ys60 39,ys60 40,ys60 41,ys60 42,ys60 43,ys60 44,ys60 45,ys60 46,ys60 47,ys60 48,ys60 49,ys60 50,ys60 51,ys60 52,ys60 53,ys60 54,ys60 55,ys60 56,ys60 57,ys60 58,ys60 59,ys60 60,ys60 61,ys60 62,ys60 63,ys60 64,ys60 65,ys60 66,ys60 67,ys60 68,ys60 69,ys60 70,ys60 71,ys60 72,ys60 73,ys60 74,ys60 75,ys60 76,ys60 77,ys60 78,ys60 79,ys60 80,ys60 81,ys60 82,ys60 83,ys60 84,ys60 85,ys60 86,ys60 87,ys60 88,ys60 89,ys60 90,ys60 91,ys60 92,ys60 93,ys60 94,ys60 95,ys60 96,ys60 97,ys60 98,ys60 99,ys60 100,ys60 101,ys60 102,ys60 103,ys60 104,ys60 105,ys60 106,ys60 107,ys60 108,ys60 109,ys60 110,ys60 111,ys60 112,ys60 113,ys60 114,ys60 115,ys60 116]:=rfl
        rw[hy] at e0 e1 e2 e3 e4 e5 e6 e7 e8 e9 e11 e12 e13 e14 e15 e16 e17 e18 e19 e20 e21 e22 e23 e24 e25 e26 e27 e28 e29 e30 e31 e32 e33 e34 e35 e36 e37 e38 e39 e40 e41 e42 e43 e44 e45 e46 e47 e48 e49 e50 e51 e52 e53 e54 e55 e56 e57 e58 e59 e72 e73 e74 e75 e76 e77 e78 e79 e80 e81 e82 e83 e84 e85 e86 e87 e88 e89 e90 e91 e92 e93 e94 e95 e96 e97 e98 e99 e100 e101 e102 e103 e104 e105 e106 e107 e108 e109 e110 e111 e112 e113 e114 e115 e116 e10
        rw[ht,hl2,e0,e1,e2,e3,e4,e5,e6,e7,e8,e9,e11,e12,e13,e14,e15,e16,e17,e18,e19,e20,e21,e22,e23,e24,e25,e26,e27,e28,e29,e30,e31,e32,e33,e34,e35,e36,e37,e38,e39,e40,e41,e42,e43,e44,e45,e46,e47,e48,e49,e50,e51,e52,e53,e54,e55,e56,e57,e58,e59,e72,e73,e74,e75,e76,e77,e78,e79,e80,e81,e82,e83,e84,e85,e86,e87,e88,e89,e90,e91,e92,e93,e94,e95,e96,e97,e98,e99,e100,e101,e102,e103,e104,e105,e106,e107,e108,e109,e110,e111,e112,e113,e114,e115,e116,e10]
        clear ht hl2 hz hy e0 e1 e2 e3 e4 e5 e6 e7 e8 e9 e11 e12 e13 e14 e15 e16 e17 e18 e19 e20 e21 e22 e23 e24 e25 e26 e27 e28 e29 e30 e31 e32 e33 e34 e35 e36 e37 e38 e39 e40 e41 e42 e43 e44 e45 e46 e47 e48 e49 e50 e51 e52 e53 e54 e55 e56 e57 e58 e59 e72 e73 e74 e75 e76 e77 e78 e79 e80 e81 e82 e83 e84 e85 e86 e87 e88 e89 e90 e91 e92 e93 e94 e95 e96 e97 e98 e99 e100 e101 e102 e103 e104 e105 e106 e107 e108 e109 e110 e111 e112 e113 e114 e115 e116 e10
        go_wp2_with fail
        obtain⟨pa,pc,ta,tc,ts,la,lc,hm8,hmi⟩:=RA15.out
        have M8:=Lib.hid hm8
        have HM:=Lib.hid hmi
        clear hm8 hmi RA15 RA HS
        obtain⟨q0,q1,q2,q3,q4⟩:=SH15.out
        have hge15:=HS15.out.below.size
        have hlt8:=Trn.heap_lt M8.out
        have hfl15:=HS15.out.held.lt
        have hwb0:=BWB.out.size
        refine wp_region_st (ReSt (Free f g8) w15 ⟨a0W,(n:Int),(cap:Int),a0I,a0K⟩ mo2 y (doVals (Mod.modV ⟨a0W,(n:Int),(cap:Int),a0I,a0K⟩ (Mod.sl pa mo.pool.length pc) (rowV ta tc ts) (Mod.sl la mo.places.length lc)) (rowV (some ⟨b,off,none⟩) c1 z1) k b off x)) (by kernel_rfl) (by kernel_rfl) (by kernel_rfl) ?start ?step ?done
        case start=>exact ReSt.start ..
        case step=>
         intro d v a W i hil hd hall hI
         replace hil:i<19:=hil
         have st:=hI.st
         have no:∀ j i,(d j=true→d i=true)→d i=false→d j=false:=fun j i s1 s2=>by
          cases h:d j with
          | false=>rfl
          | true=>rw[s1 h] at s2; cases s2
         obtain rfl | rfl | rfl | rfl | rfl | rfl | rfl | rfl | rfl | rfl | rfl | rfl | rfl | rfl | rfl | rfl | rfl | rfl | rfl:i=0∨i=1∨i=2∨i=3∨i=4∨i=5∨i=6∨i=7∨i=8∨i=9∨i=10∨i=11∨i=12∨i=13∨i=14∨i=15∨i=16∨i=17∨i=18:=by omega
         ·have e8:a.tmps[8]?.getD undef=.pointer (some ⟨g8,0,none⟩):=hI.old 8 (unwritten_of (by kernel_rfl) d)
          obtain⟨⟨m0,m1,m2,m3,m4,m5,m6,m7⟩,-⟩:=(M8.out.kept st.below (Trn.heap_lt M8.out)).cells
          refine StepS.done rfl (wanted_free rfl) fun K hK=>?_
          refine op_run (Mod.modV ⟨a0W,(n:Int),(cap:Int),a0I,a0K⟩ (Mod.sl pa mo.pool.length pc) (rowV ta tc ts) (Mod.sl la mo.places.length lc)) W ?_ (hK _ _ (st.same (by decide) rfl))
          clear hall hI hK st
          simp only[List.getElem_toArray,List.getElem_cons_zero,execOp,Act.eval]
          go_simp
         ·have e1:a.tmps[1]?.getD undef=rowV (some ⟨b,off,none⟩) c1 z1:=hI.old 1 (unwritten_of (by kernel_rfl) d)
          refine StepS.done rfl (wanted_free rfl) fun K hK=>?_
          exact op_move rfl (hK _ _ (st.same (by decide) e1))
         ·have e9:a.tmps[9]?.getD undef=.int .i64 (k:Int):=hI.old 9 (unwritten_of (by kernel_rfl) d)
          refine StepS.done rfl (wanted_free rfl) fun K hK=>?_
          exact op_move rfl (hK _ _ (st.same (by decide) e9))
         ·have e74:a.tmps[74]?.getD undef=rowV (some ⟨b,off,none⟩) c1 z1:=(hI.val 1 74 rfl (hall 1 (by kernel_rfl))).trans (st.pure 1 (by decide) (hall 1 (by kernel_rfl)))
          have e75:a.tmps[75]?.getD undef=.int .i64 (k:Int):=(hI.val 2 75 rfl (hall 2 (by kernel_rfl))).trans (st.pure 2 (by decide) (hall 2 (by kernel_rfl)))
          refine StepS.done rfl (wanted_free rfl) fun K hK=>?_
          refine op_run (.pointer (some ⟨b,off+k * 5,none⟩)) W ?_ (hK _ _ (st.same (by decide) rfl))
          clear hall hI hK st
          simp only[List.getElem_toArray,List.getElem_cons_zero,List.getElem_cons_succ,execOp,Act.eval]
          go_simp
         ·have e76:a.tmps[76]?.getD undef=.pointer (some ⟨b,off+k * 5,none⟩):=(hI.val 3 76 rfl (hall 3 (by kernel_rfl))).trans (st.pure 3 (by decide) (hall 3 (by kernel_rfl)))
          refine StepS.done rfl (wanted_free rfl) fun K hK=>?_
          refine op_run (.pointer (some ⟨b,off+k * 5,none⟩)) W ?_ (hK _ _ (st.same (by decide) rfl))
          clear hall hI hK st
          simp only[List.getElem_toArray,List.getElem_cons_zero,List.getElem_cons_succ,execOp,Act.eval]
          go_simp
         ·have z0:=(st.below.cell (World.block_lt_of_cell? _ _ q0)).trans q0
          have z1:=(st.below.cell (World.block_lt_of_cell? _ _ q1)).trans q1
          have z2:=(st.below.cell (World.block_lt_of_cell? _ _ q2)).trans q2
          have z3:=(st.below.cell (World.block_lt_of_cell? _ _ q3)).trans q3
          have e77:a.tmps[77]?.getD undef=.pointer (some ⟨b,off+k * 5,none⟩):=(hI.val 4 77 rfl (hall 4 (by kernel_rfl))).trans (st.pure 4 (by decide) (hall 4 (by kernel_rfl)))
          refine StepS.done rfl (wanted_free rfl) fun K hK=>?_
          refine op_run (opV x.kd x.pkt x.p x.pool.length x.c x.sh) W ?_ (hK _ _ (st.same (by decide) rfl))
          clear hall hI hK st
          simp only[List.getElem_toArray,List.getElem_cons_zero,List.getElem_cons_succ,execOp,Act.eval]
          go_simp
         ·have e1:a.tmps[1]?.getD undef=rowV (some ⟨b,off,none⟩) c1 z1:=hI.old 1 (unwritten_of (by kernel_rfl) d)
          refine StepS.done rfl (wanted_free rfl) fun K hK=>?_
          exact op_move rfl (hK _ _ (st.same (by decide) e1))
         ·have e9:a.tmps[9]?.getD undef=.int .i64 (k:Int):=hI.old 9 (unwritten_of (by kernel_rfl) d)
          refine StepS.done rfl (wanted_free rfl) fun K hK=>?_
          exact op_move rfl (hK _ _ (st.same (by decide) e9))
         ·have e79:a.tmps[79]?.getD undef=rowV (some ⟨b,off,none⟩) c1 z1:=(hI.val 6 79 rfl (hall 6 (by kernel_rfl))).trans (st.pure 6 (by decide) (hall 6 (by kernel_rfl)))
          have e80:a.tmps[80]?.getD undef=.int .i64 (k:Int):=(hI.val 7 80 rfl (hall 7 (by kernel_rfl))).trans (st.pure 7 (by decide) (hall 7 (by kernel_rfl)))
          refine StepS.done rfl (wanted_free rfl) fun K hK=>?_
          refine op_run (.pointer (some ⟨b,off+k * 5,none⟩)) W ?_ (hK _ _ (st.same (by decide) rfl))
          clear hall hI hK st
          simp only[List.getElem_toArray,List.getElem_cons_zero,List.getElem_cons_succ,execOp,Act.eval]
          go_simp
         ·have e81:a.tmps[81]?.getD undef=.pointer (some ⟨b,off+k * 5,none⟩):=(hI.val 8 81 rfl (hall 8 (by kernel_rfl))).trans (st.pure 8 (by decide) (hall 8 (by kernel_rfl)))
          refine StepS.done rfl (wanted_free rfl) fun K hK=>?_
          refine op_run (.pointer (some ⟨b,off+k * 5+4,none⟩)) W ?_ (hK _ _ (st.same (by decide) rfl))
          clear hall hI hK st
          simp only[List.getElem_toArray,List.getElem_cons_zero,List.getElem_cons_succ,execOp,Act.eval]
          go_simp
         ·have z4:=(st.below.cell (World.block_lt_of_cell? _ _ q4)).trans q4
          have e82:a.tmps[82]?.getD undef=.pointer (some ⟨b,off+k * 5+4,none⟩):=(hI.val 9 82 rfl (hall 9 (by kernel_rfl))).trans (st.pure 9 (by decide) (hall 9 (by kernel_rfl)))
          refine StepS.done rfl (wanted_free rfl) fun K hK=>?_
          refine op_run (.int .i64 x.now) W ?_ (hK _ _ (st.same (by decide) rfl))
          clear hall hI hK st
          simp only[List.getElem_toArray,List.getElem_cons_zero,List.getElem_cons_succ,execOp,Act.eval]
          go_simp
         ·have d12:=no 12 11 (fun h=>hI.shut 12 11 h (by kernel_rfl)) hd
          have d13:=no 13 12 (fun h=>hI.shut 13 12 h (by kernel_rfl)) d12
          have d14:=no 14 12 (fun h=>hI.shut 14 12 h (by kernel_rfl)) d12
          have d17:=no 17 11 (fun h=>hI.shut 17 11 h (by kernel_rfl)) hd
          have d18:=no 18 11 (fun h=>hI.shut 18 11 h (by kernel_rfl)) hd
          have e73:a.tmps[73]?.getD undef=Mod.modV ⟨a0W,(n:Int),(cap:Int),a0I,a0K⟩ (Mod.sl pa mo.pool.length pc) (rowV ta tc ts) (Mod.sl la mo.places.length lc):=(hI.val 0 73 rfl (hall 0 (by kernel_rfl))).trans (st.pure 0 (by decide) (hall 0 (by kernel_rfl)))
          have e78:a.tmps[78]?.getD undef=opV x.kd x.pkt x.p x.pool.length x.c x.sh:=(hI.val 5 78 rfl (hall 5 (by kernel_rfl))).trans (st.pure 5 (by decide) (hall 5 (by kernel_rfl)))
          have e83:a.tmps[83]?.getD undef=.int .i64 x.now:=(hI.val 10 83 rfl (hall 10 (by kernel_rfl))).trans (st.pure 10 (by decide) (hall 10 (by kernel_rfl)))
          have CD:=DR.out W (RefF (Free f g8) d v) _ ⟨pa,pc,ta,tc,ts,la,lc,rfl,st.given HM.out NE.out⟩ (st.fresh d17 d18 (fun j hj=>⟨by omega,fun e=>by rcases e with rfl | rfl <;> omega⟩)) (below2 HS15.out.below st.below) (fun hp=>st.arg (XA.out hp) (by omega) (fun j hj=>⟨by omega,not_has HS15.out.from' (by omega)⟩))
          refine StepS.done rfl (wanted_free rfl) fun K hK=>?_
          refine op_call 18 #[Mod.modV ⟨a0W,(n:Int),(cap:Int),a0I,a0K⟩ (Mod.sl pa mo.pool.length pc) (rowV ta tc ts) (Mod.sl la mo.places.length lc),opV x.kd x.pkt x.p x.pool.length x.c x.sh,.int .i64 x.now] (fun v2 W2=>(∃ u,v2=.tuple #[u,ansV y]∧Mod.MoIs (RefF (Free f g8) d v) W2 u ⟨a0W,(n:Int),(cap:Int),a0I,a0K⟩ mo2)∧Below W.heap.size W W2) ?_ (CD.mono fun e W2 ⟨u,he,s1,s2⟩=>⟨_,he,⟨u,rfl,s1⟩,s2⟩) (fun v2 W2 ⟨⟨u,hv,s1⟩,s2⟩=>by subst hv; exact hK _ _ (st.called d12 d13 d14 d17 d18 s1 s2))
          clear hall hI hK st CD
          simp only[List.getElem_toArray,List.getElem_cons_zero,List.getElem_cons_succ,execOp]
          go_simp
         ·have d11:d 11=true:=hall 11 (by kernel_rfl)
          have d17:=no 17 12 (fun h=>hI.shut 17 12 h (by kernel_rfl)) hd
          have e84:a.tmps[84]?.getD undef=v 11:=hI.val 11 84 rfl d11
          refine StepS.done rfl (wanted_free rfl) fun K hK=>?_
          exact op_move rfl (hK _ _ (st.parted (.inl rfl) (fun _=>d17) (fun _=>e84) (fun e=>absurd e (by decide)) (fun e=>absurd e (by decide))))
         ·have d12:d 12=true:=hall 12 (by kernel_rfl)
          have d11:d 11=true:=hI.shut 12 11 d12 (by kernel_rfl)
          have d17:=no 17 13 (fun h=>hI.shut 17 13 h (by kernel_rfl)) hd
          obtain⟨u,e11,-⟩:=st.call d11
          have e72:a.tmps[72]?.getD undef=.tuple #[u,ansV y]:=((hI.val 12 72 rfl d12).trans (st.moved d12)).trans e11
          refine StepS.done rfl (wanted_free rfl) fun K hK=>?_
          refine op_run (u) W ?_ (hK _ _ (st.parted (.inr (.inl rfl)) (fun _=>d17) (fun e=>absurd e (by decide)) (fun _ s hs=>by rw[e11] at hs; cases hs; rfl) (fun e=>absurd e (by decide))))
          clear hall hI hK st e11
          simp only[List.getElem_toArray,List.getElem_cons_zero,List.getElem_cons_succ,execOp,Act.eval]
          go_simp
         ·have d12:d 12=true:=hall 12 (by kernel_rfl)
          have d11:d 11=true:=hI.shut 12 11 d12 (by kernel_rfl)
          obtain⟨u,e11,-⟩:=st.call d11
          have e72:a.tmps[72]?.getD undef=.tuple #[u,ansV y]:=((hI.val 12 72 rfl d12).trans (st.moved d12)).trans e11
          refine StepS.done rfl (wanted_free rfl) fun K hK=>?_
          refine op_run (ansV y) W ?_ (hK _ _ (st.parted (.inr (.inr rfl)) (fun e=>absurd rfl e) (fun e=>absurd e (by decide)) (fun e=>absurd e (by decide)) (fun _=>rfl)))
          clear hall hI hK st e11
          simp only[List.getElem_toArray,List.getElem_cons_zero,List.getElem_cons_succ,execOp,Act.eval]
          go_simp
         ·have d17:=no 17 15 (fun h=>hI.shut 17 15 h (by kernel_rfl)) hd
          refine StepS.done rfl (wanted_free rfl) fun K hK=>?_
          refine op_run (.pointer (some ⟨W.heap.size,0,none⟩)) (W.alloc (.cells (Mod.modC ⟨0,0,0,0,0⟩ (Mod.sl none 0 0) (Mod.sl none 0 0) (Mod.sl none 0 0)) 36)) ?_ (hK _ _ (st.madeM NE2.out d17))
          clear hall hI hK st
          simp only[List.getElem_toArray,List.getElem_cons_zero,List.getElem_cons_succ,execOp]
          go_simp
         ·have d17:=no 17 16 (fun h=>hI.shut 17 16 h (by kernel_rfl)) hd
          have d18:=no 18 16 (fun h=>hI.shut 18 16 h (by kernel_rfl)) hd
          refine StepS.done rfl (wanted_free rfl) fun K hK=>?_
          refine op_run (.pointer (some ⟨W.heap.size,0,none⟩)) (W.alloc (.cells (ansC ⟨0,0,false,0⟩) 39)) ?_ (hK _ _ (st.madeA NE2.out d17 d18))
          clear hall hI hK st
          simp only[List.getElem_toArray,List.getElem_cons_zero,List.getElem_cons_succ,execOp]
          go_simp
         ·have d13:d 13=true:=hall 13 (by kernel_rfl)
          have d15:d 15=true:=hall 15 (by kernel_rfl)
          have d11:d 11=true:=hI.shut 12 11 (hI.shut 13 12 d13 (by kernel_rfl)) (by kernel_rfl)
          obtain⟨u,e11,hu⟩:=st.call d11
          obtain⟨pa2,pc2,ta2,tc2,ts2,la2,lc2,rfl,-⟩:=hu
          have ev:=st.first d13 _ e11
          have e85:a.tmps[85]?.getD undef=Mod.moV ⟨a0W,(n:Int),(cap:Int),a0I,a0K⟩ mo2 pa2 pc2 ta2 tc2 ts2 la2 lc2:=(hI.val 13 85 rfl d13).trans ev
          obtain⟨g11,eg,hg11,hx,-⟩:=st.boxM d15
          have hx:=hx hd
          have e11':a.tmps[11]?.getD undef=.pointer (some ⟨g11,0,none⟩):=(hI.val 15 11 rfl d15).trans eg
          obtain⟨⟨m0,m1,m2,m3,m4,m5,m6,m7⟩,fs⟩:=hx.cells
          have f0:=fs 0
          have f1:=fs 1
          have f2:=fs 2
          have f3:=fs 3
          have f4:=fs 4
          have f5:=fs 5
          have f6:=fs 6
          have f7:=fs 7
          refine StepS.done rfl (wanted_free rfl) fun K hK=>?_
          have hs:K a _:=hK undef _ (st.laidM d11 d15 hd eg (by rw[ev]; exact stored8 hx (.int .i64 a0W) (.int .i64 (n:Int)) (.int .i64 (cap:Int)) (.int .i64 a0I) (.int .i64 a0K) (Mod.sl pa2 mo2.pool.length pc2) (rowV ta2 tc2 ts2) (Mod.sl la2 mo2.places.length lc2)) undef)
          clear hK hall hI st fs hx ev e11
          unfold Oper.wp
          simp only[List.getElem_toArray,List.getElem_cons_zero,List.getElem_cons_succ,execOp]
          go_simp
          exact hs
         ·have d14:d 14=true:=hall 14 (by kernel_rfl)
          have d16:d 16=true:=hall 16 (by kernel_rfl)
          have d11:d 11=true:=hI.shut 12 11 (hI.shut 14 12 d14 (by kernel_rfl)) (by kernel_rfl)
          have e86:a.tmps[86]?.getD undef=ansV y:=(hI.val 14 86 rfl d14).trans (st.second d14)
          obtain⟨g12,eg,hg12,hx,-⟩:=st.boxA d16
          have hx:=hx hd
          have e12:a.tmps[12]?.getD undef=.pointer (some ⟨g12,0,none⟩):=(hI.val 16 12 rfl d16).trans eg
          obtain⟨⟨z0,z1',z2,z3⟩,fr⟩:=hx.cells
          have f0:=fr 0
          have f1:=fr 1
          have f2:=fr 2
          have f3:=fr 3
          refine StepS.done rfl (wanted_free rfl) fun K hK=>?_
          have hs:K a _:=hK undef _ (st.laidA d11 d16 hd eg (stored4 hx (.int .i64 y.err) (.int .i64 y.backend) (.bool y.made) (.int .i64 y.count)) undef)
          clear hK hall hI st fr hx
          unfold Oper.wp
          simp only[List.getElem_toArray,List.getElem_cons_zero,List.getElem_cons_succ,execOp]
          go_simp
          exact hs
        case done=>
         intro d v a w16 hall hI
         replace hall:∀ i,i<19→d i=true:=hall
         have hb16:=hI.st.below
         obtain⟨u,e11,hu⟩:=hI.st.call (hall 11 (by omega))
         obtain⟨pa2,pc2,ta2,tc2,ts2,la2,lc2,rfl,hm2⟩:=hu
         have ev:=hI.st.first (hall 13 (by omega)) _ e11
         obtain⟨g11,eg,hg11,-,hx11⟩:=hI.st.boxM (hall 15 (by omega))
         obtain⟨g12,eg2,hg12,-,hx12⟩:=hI.st.boxA (hall 16 (by omega))
         have hx11:=hx11 (hall 17 (by omega))
         rw[ev] at hx11
         have e11:a.tmps[11]?.getD undef=.pointer (some ⟨g11,0,none⟩):=(hI.val 15 11 rfl (hall 15 (by omega))).trans eg
         have e12:a.tmps[12]?.getD undef=.pointer (some ⟨g12,0,none⟩):=(hI.val 16 12 rfl (hall 16 (by omega))).trans eg2
         have HS16:=Lib.hid (HS15.out.more hb16)
         have A10':=Lib.hid (A10.out.kept hb16)
         have A12:=Lib.hid (hx12 (hall 18 (by omega)))
         have M11:=Lib.hid (show Mod.ModBox w16 g11 ⟨a0W,(n:Int),(cap:Int),a0I,a0K⟩ (Mod.sl pa2 mo2.pool.length pc2) (rowV ta2 tc2 ts2) (Mod.sl la2 mo2.places.length lc2) from hx11)
         have M8':=Lib.hid (M8.out.kept hb16 hlt8)
         have HM2:=Lib.hid (show Mod.ModIs (Free f g8) w16 ⟨a0W,(n:Int),(cap:Int),a0I,a0K⟩ mo2 pa2 pc2 ta2 tc2 ts2 la2 lc2 from ModIs.other hm2 (fun h q hq=>(h q hq).1) (fun h q hq=>(h q hq).1) (fun _ h q hq=>(h q hq).1))
         have n12:g12≠g8:=by omega
         have n10:g10≠g8:=by omega
         clear hb16 hm2 ev eg eg2 hx11 hx12 M8 HM HS15 A10 q0 q1 q2 q3 q4 SH15
         obtain⟨t,df⟩:=a
         obtain rfl:df=[]:=hI.defs
         have hz:t.size=117:=hI.size
         obtain⟨e0,e1,e2,e3,e4,e5,e6,e7,e8,e9,e10,e13,e14,e15,e16,e17,e18,e19,e20,e21,e22,e23,e24,e25,e26,e27,e28,e29,e30,e31,e32,e33,e34,e35,e36,e37,e38,e39,e40,e41,e42,e43,e44,e45,e46,e47,e48,e49,e50,e51,e52,e53,e54,e55,e56,e57,e58,e59,e60,e61,e62,e63,e64,e65,e66,e67,e68,e69,e70,e71,e87,e88,e89,e90,e91,e92,e93,e94,e95,e96,e97,e98,e99,e100,e101,e102,e103,e104,e105,e106,e107,e108,e109,e110,e111,e112,e113,e114,e115,e116,-⟩:=olds hI.old [0,1,2,3,4,5,6,7,8,9,10,13,14,15,16,17,18,19,20,21,22,23,24,25,26,27,28,29,30,31,32,33,34,35,36,37,38,39,40,41,42,43,44,45,46,47,48,49,50,51,52,53,54,55,56,57,58,59,60,61,62,63,64,65,66,67,68,69,70,71,87,88,89,90,91,92,93,94,95,96,97,98,99,100,101,102,103,104,105,106,107,108,109,110,111,112,113,114,115,116] (by kernel_rfl)
         clear hI hall
         simp only[List.getElem?_toArray,List.getElem?_cons_succ,List.getElem?_cons_zero,Option.getD_some] at e0 e1 e2 e3 e4 e5 e6 e7 e8 e9 e10 e13 e14 e15 e16 e17 e18 e19 e20 e21 e22 e23 e24 e25 e26 e27 e28 e29 e30 e31 e32 e33 e34 e35 e36 e37 e38 e39 e40 e41 e42 e43 e44 e45 e46 e47 e48 e49 e50 e51 e52 e53 e54 e55 e56 e57 e58 e59 e60 e61 e62 e63 e64 e65 e66 e67 e68 e69 e70 e71 e87 e88 e89 e90 e91 e92 e93 e94 e95 e96 e97 e98 e99 e100 e101 e102 e103 e104 e105 e106 e107 e108 e109 e110 e111 e112 e113 e114 e115 e116
         obtain⟨ys72,hy,ht⟩:=arr_slots t 117 hz
         have hl2:(slotsFrom ys72 0 117).toArray=#[ys72 0,ys72 1,ys72 2,ys72 3,ys72 4,ys72 5,ys72 6,ys72 7,ys72 8,ys72 9,ys72 10,ys72 11,ys72 12,ys72 13,ys72 14,ys72 15,ys72 16,ys72 17,ys72 18,ys72 19,ys72 20,ys72 21,ys72 22,ys72 23,ys72 24,ys72 25,ys72 26,ys72 27,ys72 28,ys72 29,ys72 30,ys72 31,ys72 32,ys72 33,ys72 34,ys72 35,ys72 36,ys72 37,ys72 38,ys72 39,ys72 40,ys72 41,ys72 42,ys72 43,ys72 44,ys72 45,ys72 46,ys72 47,ys72 48,ys72 49,ys72 50,ys72 51,ys72 52,ys72 53,ys72 54,ys72 55,ys72 56,ys72 57,ys72 58,ys72 59,ys72 60,ys72 61,ys72 62,ys72 63,ys72 64,ys72 65,ys72 66,ys72 67,ys72 68,ys72 69,ys72 70,ys72 71,ys72 72,ys72 73,ys72 74,ys72 75,ys72 76,ys72 77,ys72 78,ys72 79,ys72 80,ys72 81,ys72 82,ys72 83,ys72 84,ys72 85,ys72 86,ys72 87,ys72 88,ys72 89,ys72 90,ys72 91,ys72 92,ys72 93,ys72 94,ys72 95,ys72 96,ys72 97,ys72 98,ys72 99,ys72 100,ys72 101,ys72 102,ys72 103,ys72 104,ys72 105,ys72 106,ys72 107,ys72 108,ys72 109,ys72 110,ys72 111,ys72 112,ys72 113,ys72 114,ys72 115,ys72 116]:=rfl
         rw[hy] at e0 e1 e2 e3 e4 e5 e6 e7 e8 e9 e10 e13 e14 e15 e16 e17 e18 e19 e20 e21 e22 e23 e24 e25 e26 e27 e28 e29 e30 e31 e32 e33 e34 e35 e36 e37 e38 e39 e40 e41 e42 e43 e44 e45 e46 e47 e48 e49 e50 e51 e52 e53 e54 e55 e56 e57 e58 e59 e60 e61 e62 e63 e64 e65 e66 e67 e68 e69 e70 e71 e87 e88 e89 e90 e91 e92 e93 e94 e95 e96 e97 e98 e99 e100 e101 e102 e103 e104 e105 e106 e107 e108 e109 e110 e111 e112 e113 e114 e115 e116 e11 e12
         rw[ht,hl2,e0,e1,e2,e3,e4,e5,e6,e7,e8,e9,e10,e13,e14,e15,e16,e17,e18,e19,e20,e21,e22,e23,e24,e25,e26,e27,e28,e29,e30,e31,e32,e33,e34,e35,e36,e37,e38,e39,e40,e41,e42,e43,e44,e45,e46,e47,e48,e49,e50,e51,e52,e53,e54,e55,e56,e57,e58,e59,e60,e61,e62,e63,e64,e65,e66,e67,e68,e69,e70,e71,e87,e88,e89,e90,e91,e92,e93,e94,e95,e96,e97,e98,e99,e100,e101,e102,e103,e104,e105,e106,e107,e108,e109,e110,e111,e112,e113,e114,e115,e116,e11,e12]
         clear ht hl2 hz hy e0 e1 e2 e3 e4 e5 e6 e7 e8 e9 e10 e13 e14 e15 e16 e17 e18 e19 e20 e21 e22 e23 e24 e25 e26 e27 e28 e29 e30 e31 e32 e33 e34 e35 e36 e37 e38 e39 e40 e41 e42 e43 e44 e45 e46 e47 e48 e49 e50 e51 e52 e53 e54 e55 e56 e57 e58 e59 e60 e61 e62 e63 e64 e65 e66 e67 e68 e69 e70 e71 e87 e88 e89 e90 e91 e92 e93 e94 e95 e96 e97 e98 e99 e100 e101 e102 e103 e104 e105 e106 e107 e108 e109 e110 e111 e112 e113 e114 e115 e116 e11 e12
         have HS17:=Lib.hid (HS16.out.copied ng ge M8'.out (pv:=Mod.sl pa2 mo2.pool.length pc2) (tv:=rowV ta2 tc2 ts2) (lv:=Mod.sl la2 mo2.places.length lc2))
         have RA17:=Lib.hid (RefAt.copied M8'.out HM2.out rfl rfl rfl)
         have far:∀ j,j≠g8→(Mod.putMod w16 g8 ⟨a0W,(n:Int),(cap:Int),a0I,a0K⟩ (Mod.sl pa2 mo2.pool.length pc2) (rowV ta2 tc2 ts2) (Mod.sl la2 mo2.places.length lc2)).heap[j]? =w16.heap[j]? :=fun j hj=>Mod.mod_rest w16 g8 _ _ _ _ j hj
         have A10b:=Lib.hid (show AnsBox (Mod.putMod w16 g8 ⟨a0W,(n:Int),(cap:Int),a0I,a0K⟩ (Mod.sl pa2 mo2.pool.length pc2) (rowV ta2 tc2 ts2) (Mod.sl la2 mo2.places.length lc2)) g10 y from (far g10 n10).trans A10'.out)
         have A12b:=Lib.hid (show AnsBox (Mod.putMod w16 g8 ⟨a0W,(n:Int),(cap:Int),a0I,a0K⟩ (Mod.sl pa2 mo2.pool.length pc2) (rowV ta2 tc2 ts2) (Mod.sl la2 mo2.places.length lc2)) g12 y from (far g12 n12).trans A12.out)
         obtain⟨⟨m0,m1,m2,m3,m4,m5,m6,m7⟩,-⟩:=M11.out.cells
         obtain⟨⟨r0,r1,r2,r3,r4,r5,r6,r7⟩,fs⟩:=M8'.out.cells
         have f0:=fs 0
         have f1:=fs 1
         have f2:=fs 2
         have f3:=fs 3
         have f4:=fs 4
         have f5:=fs 5
         have f6:=fs 6
         have f7:=fs 7
         clear fs far HS16 A10' A12
         go_wp2_with fail
         change Code.wp _ _ _ _ (Mod.putMod w16 g8 ⟨a0W,(n:Int),(cap:Int),a0I,a0K⟩ (Mod.sl pa2 mo2.pool.length pc2) (rowV ta2 tc2 ts2) (Mod.sl la2 mo2.places.length lc2))
         generalize Mod.putMod w16 g8 ⟨a0W,(n:Int),(cap:Int),a0I,a0K⟩ (Mod.sl pa2 mo2.pool.length pc2) (rowV ta2 tc2 ts2) (Mod.sl la2 mo2.places.length lc2)=w17 at *
         clear m0 m1 m2 m3 m4 m5 m6 m7 r0 r1 r2 r3 r4 r5 r6 r7 f0 f1 f2 f3 f4 f5 f6 f7 M8' M11 HM2
         obtain⟨pa,pc,ta,tc,ts,la,lc,hm8,hmi⟩:=RA17.out
         obtain⟨⟨-,-,-,-,-,m5,-,-⟩,-⟩:=hm8.cells
         obtain⟨⟨z0,z1',z2,z3⟩,-⟩:=A10b.out.cells
         obtain⟨⟨u0,u1,u2,u3⟩,-⟩:=A12b.out.cells
         have hpl:=Lib.hid (pol_bkM hmi.pool)
         have PL:=Lib.hid (fun (W:World) {R:Prop} (s:Below w17.heap.size w17 W∧R)=>pool_stand (HS17.out.more s.1))
         have PS:=Lib.hid (fun (W:World) {R:Prop} (s:Below w17.heap.size w17 W∧R) (xa:Option Addr) (xc:Nat) (hx:Pol.Lies W xa xc mo2.pool)=>Pol.refSame_any xa xc mo2.pool pa pc mo2.pool true ⟨fun _=>rfl,fun _=>rfl⟩ W hx (hpl.out.kept s.1))
         clear hm8 hmi
         go_wp2_with fail
         go_region_held3 (fun W=>Below w17.heap.size w17 W∧W.cell? ⟨g10,0,none⟩=some (.int .i64 y.err)∧W.cell? ⟨g10,1,none⟩=some (.int .i64 y.backend)∧W.cell? ⟨g10,2,none⟩=some (.bool y.made)∧W.cell? ⟨g10,3,none⟩=some (.int .i64 y.count)∧W.cell? ⟨g12,0,none⟩=some (.int .i64 y.err)∧W.cell? ⟨g12,1,none⟩=some (.int .i64 y.backend)∧W.cell? ⟨g12,2,none⟩=some (.bool y.made)∧W.cell? ⟨g12,3,none⟩=some (.int .i64 y.count)∧W.cell? ⟨g8,5,none⟩=some (polV pa pc mo2.pool))
          (first | exact⟨(Below.refl _ _).drew,z0,z1',z2,z3,u0,u1,u2,u3,m5⟩ | exact nine_keep (by assumption) hb | assumption)
          (first | (go_at_call 20; refine (PL.out _ (by assumption)).mono ?_; rintro e w18 ⟨xa,xc,rfl,hxl,-,hb⟩) | (go_at_call 19; refine (PS.out _ (by assumption) xa xc hxl).mono ?_; rintro e w19 ⟨rfl,hb⟩))
         rename_i hHeld
         have HS18:=Lib.hid (HS17.out.more hHeld.1)
         have RA18:=Lib.hid (RA17.out.kept hHeld.1)
         clear hHeld PL PS hpl HS17 RA17 A10b A12b z0 z1' z2 z3 u0 u1 u2 u3 m5
         go_wp2_with fail
         go_loopw [13] (fun i2 W=>∃ j:Nat,j≤n∧i2=.int .i64 j∧Stand wb W f a0I mo2 []∧RefAt f g8 W ⟨a0W,(n:Int),(cap:Int),a0I,a0K⟩ mo2) (fun i2 _=>n - (intOf i2).toNat)
         case atStart=>exact⟨0,Nat.zero_le _,rfl,HS18.out,RA18.out⟩
         case round=>
          clear HS18 RA18
          obtain⟨j,hj,rfl,hS,hR⟩:=hrel
          have HS:=Lib.hid hS
          have RA:=Lib.hid hR
          clear hS hR
          obtain⟨y0,y1,y2,y3,y4⟩:=cfg_kept (c:=⟨a0W,(n:Int),(cap:Int),a0I,a0K⟩) YB.out HS.out.below
          by_cases hjn:j<n
          ·have d1:decide ((j:Int)<(n:Int))=true:=decide_eq_true (by omega)
           obtain⟨pa,pc,ta,tc,ts,la,lc,hm8,hmi⟩:=RA.out
           obtain⟨⟨-,-,-,-,-,-,m6,-⟩,-⟩:=hm8.cells
           have hlen:ts.length=n:=by rw[← HI2.out.len,← hmi.tabs,List.length_map]
           obtain⟨tb,toff,rfl,t0⟩:=Mod.tab_cell hmi.row (k:=j) (by omega)
           have hmx:=hmi.row.max
           have hln:=hmi.row.len
           unfold maxLen at hmx
           have hjt:(j:Int)<(ts.length:Int):=by omega
           have TE:=Lib.hid (show tabAt mo2 (j:Int)=(ts[j]'(by omega)).T from by
            obtain⟨h1,e,-,-⟩:=tab_at HI2.out hjn
            rw[e]
            have:(ts.map Mod.TabM.T)[j]? =mo2.tables[j]? :=by rw[hmi.tabs]
            rw[List.getElem?_map,List.getElem?_eq_getElem (by omega),List.getElem?_eq_getElem h1] at this
            exact (Option.some.inj this).symm)
           have EA:=Lib.hid (hmi.each _ (List.getElem_mem (show j<ts.length by omega)))
           generalize ts[j]'(by omega)=xt at *
           have TBL:=Lib.hid (fun (W:World) {R:Prop} (s:Below wr.heap.size wr W∧R)=>table_stand (HS.out.more s.1) (j:Int))
           have TS:=Lib.hid (fun (W:World) {R:Prop} (s:Below wr.heap.size wr W∧R) (xa:Option Addr) (xc:Nat) (hx:Lies entK W xa xc (tabAt mo2 (j:Int)))=>Prb.refSame_any xa xc (tabAt mo2 (j:Int)) xt.p xt.c xt.T true ⟨fun _=>rfl,fun _=>TE.out⟩ W hx (EA.out.kept s.1))
           clear hm8 hmi
           go_wp2_with fail
           go_region_held3 (fun W=>Below wr.heap.size wr W∧W.cell? ⟨g8,6,none⟩=some (rowV (some ⟨tb,toff,none⟩) tc ts)∧W.cell? ⟨tb,toff+j,none⟩=some (Mod.tabV xt))
            (first | exact⟨(Below.refl _ _).drew,m6,t0⟩ | exact two_keep' (by assumption) hb | assumption)
            (first | (go_at_call 22; refine (TBL.out _ (by assumption)).mono ?_; rintro e w24 ⟨xa,xc,rfl,hxl,-,hb⟩) | (go_at_call 21; refine (TS.out _ (by assumption) xa xc hxl).mono ?_; rintro e w25 ⟨rfl,hb⟩))
           rename_i hHeld
           have HS24:=Lib.hid (HS.out.more hHeld.1)
           have RA24:=Lib.hid (RA.out.kept hHeld.1)
           clear hHeld TBL TS m6 t0 HS RA
           go_wp2_with fail
           exact⟨⟨j+1,hjn,by go_num,HS24.out,RA24.out⟩,by simp[intOf]; omega⟩
          ·have d1:decide ((j:Int)<(n:Int))=false:=decide_eq_false (by omega)
           go_wp2_with fail
           exact⟨⟨k+1,hlt,by go_num,by rw[hm2]; exact HS.out,by rw[hm2]; exact RA.out⟩,by simp[intOf]; omega⟩
      ·have d0:decide ((k:Int)<(z1.length:Int))=false:=decide_eq_false (by omega)
       have BE:=Lib.hid (below2 BWB.out hS.below)
       clear hS hR
       go_wp2_with fail
       go_ret
       exact⟨rfl,BE.out⟩
theorem own_ModelDoes:ownKnob Tryz.prog.godebug=none:=by kernel_rfl
set_option maxRecDepth 100000 in
set_option maxHeartbeats 800000 in
theorem lifted_ModelDoes (os:Os) (started:os.Started) (H:Type) (enc:TypeId × Value→H):
 ReturnsInHanded {} Tryz.checked os 3 .any (Rows.modelDoesSpec.pre6 enc Tryz.prog Tryz.f3 Rows.modelDoesRow.domain false) (Rows.modelDoesSpec.post enc Tryz.prog Tryz.f3 false true false false):=by
 refine returnsInHanded_of_change (C:=Tryz.checked) own_ModelDoes started (by kernel_rfl) Tryz.func3
  (ChangeSpec.witness6 (enc:=enc) (C:=Tryz.checked) false ⟨#[],#[.agg #[.int .i64 0,.int .i64 0,.int .i64 0,.int .i64 0,.int .i64 0],.slice none 0 0],[]⟩ 8 (by kernel_rfl) (by kernel_rfl) (by kernel_rfl) (by kernel_rfl)) ?_
 intro W base args ds gs before hval0 hW _ _
 have hval:∀ (j:Nat) t v,Tryz.f3.params[j]? =some t→args[j]? =some v→Value.okWide Tryz.prog W .any base t v:=hval0
 have hW':=hW
 obtain⟨p,q,hA0,hV,rfl,_,_⟩:=hW
 have hA:DataW.TrodAll enc Tryz.prog W 0 (fun _=>true) true Tryz.f3.params.toList args.toList ds p:=hA0
 rw[Tryz.params3] at hA hval
 obtain⟨v0,vs0,d0,ds0,p0,q0,ha0,rfl,rfl,t0,r0⟩:=trodAll_cons hA
 obtain⟨v1,vs1,d1,ds1,p1,q1,ha1,rfl,rfl,t1,r1⟩:=trodAll_cons r0
 obtain⟨rfl,rfl,rfl⟩:=trodAll_nil r1
 subst ha1
 obtain rfl:args=#[v0,v1]:=by cases args; simp_all
 obtain⟨rfl,rfl⟩:=trodVars_none hV
 have k0:=t0
 have lt0:∀ x ∈ p0,x.block<W.heap.size:=by obtain⟨m,hm⟩:=k0; exact DataW.trod_lt m _ _ _ hm
 obtain⟨a0W,a0S,a0C,a0I,a0K,rfl,h0⟩:=Mdo.open_cfg (hval 0 23 v0 rfl rfl) t0
 have k1:=t1
 have lt1:∀ x ∈ p1,x.block<W.heap.size:=by obtain⟨m,hm⟩:=k1; exact DataW.trod_lt m _ _ _ hm
 obtain⟨a1,c1,z1,rfl,h1,g1⟩:=Mdo.open_steps (hval 1 24 v1 rfl rfl) t1
 clear hA0 hval0
 refine (walk_ModelDoes a0W a0S a0C a0I a0K a1 c1 z1 W h0 h1 g1).mono fun e W' ⟨he,hnx⟩=>?_
 subst he
 exact⟨_,rfl,⟨_,_,_,[],_,[],hW',trodAll_cons_mk (shut_bool Tryz.underlying4 _) trodAll_mk0,(trodAll_cons_mk (Below.trod Mdo.laidOut (by kernel_rfl) (of_decide_eq_true (by kernel_rfl)) k0 hnx lt0) (trodAll_cons_mk (Below.trod Mdo.laidOut (by kernel_rfl) (of_decide_eq_true (by kernel_rfl)) k1 hnx lt1) trodAll_mk0)),rfl,hnx.frame _,fun h=>by cases h⟩⟩
theorem modelDoes_holds:Rows.ModelDoesSaid:=
 OpenClaim.holds_of_wide 3 Tryz.f3 rfl rfl rfl rfl rfl rfl rfl ⟨rfl,rfl,rfl,rfl,rfl⟩ rfl rfl rfl rfl rfl (by kernel_rfl) Tryz.func3 (by kernel_rfl)
  (of_decide_eq_true (by kernel_rfl)) (by unfold Func.isWrapper; first | (rw[if_pos (by decide +kernel)]; kernel_rfl) | (rw[if_neg (by decide +kernel)]; exact⟨rfl,rfl⟩))
  (fun os started H enc _=>lifted_ModelDoes os started H enc)
#print axioms modelDoes_holds
end Go.Proofs.YtbamodkgagcmnaaGreat
