/-
  Package model: Do as the plain model does; Pool, Table.
-/
import Derived.Test.YtbamodkgagcmnaaGreatMdlHE
import Derived.Laws.MakeOwn
import Derived.Lib.SliceRun
import Derived.ArgAppend
import Derived.Deep.RegionHeld3
set_option maxRecDepth 100000
namespace Go.Proofs.YtbamodkgagcmnaaGreat.Mdl
open Go.RowKit Go.Shelf RowG Trn Rgn
open Pol (polV)
open Prb (home)
open Go.Proofs.YtbamodkgagcmnaaGreat.Mod (Bk Mo Ans ansV ansC AnsBox putAns TabIs opV opC deals known doOp)
attribute [local go_sem] Oper.semAt_some
noncomputable abbrev step (mo:Mo) (o:Mod.Op):Mo × Ans:=doOp home pickK shardN goodB mo o
theorem deals_err (T:List Tab.Ent) (P:List Bk) (k:ByteArray) (c:Bool) (now dl:Int) (h:(deals home pickK T P k c now dl).2.err≠0):(deals home pickK T P k c now dl).1=T:=by
 by_cases hn:known home T P k now=none∧P=[]
 ·rw[Mod.deals_none hn.1 hn.2]
 ·cases c with
  | true=>rw[Mod.deals_closes hn] at h; exact absurd rfl h
  | false=>
    rcases put_is T k ((known home T P k now).getD (pickK P k)) dl with⟨U,h1,h2,_⟩ | ⟨h1,_,_⟩
    ·rw[Mod.deals_put hn h1] at h; exact absurd rfl h
    ·rw[Mod.deals_full hn h1]
theorem plain_same {P:List Bk} {m:List ShM} {ii:Nat} (hi:ii<m.length):(⟨P,(m.map (·.T)).set ii m[ii].T,m.map (·.n)⟩:Mo)=plain P m:=by
 unfold plain
 congr 1
 have:(m.map (·.T))[ii]'(by simpa using hi)=m[ii].T:=by simp
 rw[← this,List.set_getElem_self]
theorem plain_put {P:List Bk} {m:List ShM} {ii:Nat} (hi:ii<m.length) (x:ShM) (hx:x.n=m[ii].n):plain P (m.set ii x)=⟨P,(m.map (·.T)).set ii x.T,m.map (·.n)⟩:=by
 unfold plain
 rw[List.map_set,List.map_set,hx]
 congr 1
 have:(m.map (·.n))[ii]'(by simpa using hi)=m[ii].n:=by simp
 rw[← this,List.set_getElem_self]
theorem plain_put2 {P:List Bk} {m:List ShM} {ii:Nat} (x:ShM):plain P (m.set ii x)=⟨P,(m.map (·.T)).set ii x.T,(m.map (·.n)).set ii x.n⟩:=by
 unfold plain
 rw[List.map_set,List.map_set]
theorem plain_at {P:List Bk} {m:List ShM} {ii:Nat} (hi:ii<m.length):(plain P m).tables.getD ii []=m[ii].T:=by
 unfold plain
 rw[List.getD_eq_getElem?_getD,List.getElem?_map,List.getElem?_eq_getElem hi]; rfl
theorem plain_place {P:List Bk} {m:List ShM} {ii:Nat} (hi:ii<m.length):(plain P m).places.getD ii 0=m[ii].n:=by
 unfold plain
 rw[List.getD_eq_getElem?_getD,List.getElem?_map,List.getElem?_eq_getElem hi]; rfl
theorem plain_len (P:List Bk) (m:List ShM):(plain P m).tables.length=m.length:=by simp[plain]
def Does (f:Foot) (idle:Int) (r:Mo × Ans) (w:World) (e:Ending) (W':World):Prop:=e=.returned (ansV r.2)∧Held W' f idle r.1∧Turned f.has w W'
abbrev opOf (kd:Int) (fl:Option (ByteArray × Bool)) (z:List Bk) (sh now idle:Int):Mod.Op:=⟨kd,fl,z,sh,now,IntKind.i64.wrap (now+idle)⟩
theorem Do_told (f:Foot) (idle:Int) (mo:Mo) (w:World) (h:Held w f idle mo) (hn:0<mo.tables.length) (kd:Int) (pkt:ByteArray) (oa:Option Addr) (z:List Bk) (oc:Nat) (sh now:Int) (hz:Pol.Lies w oa oc z) (fl:Option (ByteArray × Bool)) (hF:FlowIs pkt fl):
 Calls Tryz.prog 17 #[f.v,opV kd pkt oa z.length oc sh,.int .i64 now] w (Does f idle (step mo (opOf kd fl z sh now idle)) w):=by
 obtain⟨pa,pc,P,sc,m,rfl,hl⟩:=h
 rw[plain_len] at hn
 have same:∀ {y:Ans} {e:Ending} {W':World},e=.returned (ansV y)∧Below w.heap.size w W'→Does f idle (plain P m,y) w e W':=fun⟨he,hb⟩=>⟨he,⟨pa,pc,P,sc,m,rfl,hl.kept hb⟩,.of_below hb⟩
 unfold step doOp
 by_cases k0:kd=0
 ·subst k0
  rw[if_pos rfl]
  cases fl with
  | none=>
    exact (do_fail0 w hl pkt oa z.length oc sh now (y:=⟨9,0,false,0⟩) (by decide) (fun W hb=>dispatch_bad W 0 pkt oa z.length oc sh now hF)).mono fun _ _=>same
  | some kc=>
    obtain⟨k,c⟩:=kc
    have hii:shardN k m.length<m.length:=shardN_lt k hn
    show Calls _ _ _ _ (Does f idle (⟨P,(plain P m).tables.set (shardN k (plain P m).tables.length) (deals home pickK ((plain P m).tables.getD (shardN k (plain P m).tables.length) []) P k c now (IntKind.i64.wrap (now+idle))).1,(plain P m).places⟩,(deals home pickK ((plain P m).tables.getD (shardN k (plain P m).tables.length) []) P k c now (IntKind.i64.wrap (now+idle))).2) w)
    rw[plain_len,plain_at hii]
    have hD:=fun W (hb:Below w.heap.size w W)=>dispatch_good W (hl.kept hb) 0 pkt oa z.length oc sh now k c hF hii rfl rfl
    have hE:=deals_err m[shardN k m.length].T P k c now (IntKind.i64.wrap (now+idle))
    generalize hr:deals home pickK m[shardN k m.length].T P k c now (IntKind.i64.wrap (now+idle))=r at *
    by_cases he:r.2.err=0
    ·refine (do_puts0 w hl pkt oa z.length oc sh now hii he hD).mono fun e W' ⟨h1,⟨x,h2,h3,h4⟩,h5⟩=>⟨h1,⟨pa,pc,P,sc,_,?_,h4⟩,h5⟩
     rw[plain_put hii x h3,h2]; rfl
    ·have hs:(⟨P,(plain P m).tables.set (shardN k m.length) r.1,(plain P m).places⟩:Mo)=plain P m:=by
      rw[hE he]; exact plain_same hii
     rw[hs]
     exact (do_fail0 w hl pkt oa z.length oc sh now he (fun W hb=>(hD W hb).mono fun e W' ⟨v,h1,_,h3⟩=>⟨v,h1,trivial,h3⟩)).mono fun _ _=>same
 rw[if_neg k0]
 by_cases k1:kd=1
 ·subst k1
  rw[if_pos rfl]
  cases hg:goodB z with
  | true=>
    rw[if_pos rfl]
    exact (do_updt w hl pkt oa z.length oc sh now (y:=⟨0,0,false,0⟩) (good_few hg) rfl (fun W hb=>update_good W 1 pkt oa z oc sh now (hz.kept hb) hg |>.mono fun e W' ⟨v,h1,⟨b,u,h2,h3,h4⟩,h5⟩=>⟨v,h1,⟨b,u,h2,h3,Pol.own_less hb.size h4⟩,h5⟩)).mono fun e W' ⟨h1,⟨pa',pc',h2⟩,h3⟩=>⟨h1,⟨pa',pc',z,sc,m,rfl,h2⟩,h3⟩
  | false=>
    rw[if_neg (by decide)]
    exact (do_fail1 w hl pkt oa z.length oc sh now (y:=⟨10,0,false,0⟩) (by decide) (fun W hb=>update_bad W 1 pkt oa z oc sh now (hz.kept hb) hg)).mono fun _ _=>same
 rw[if_neg k1]
 by_cases k2:kd=2
 ·subst k2
  rw[if_pos rfl]
  by_cases hi:0≤sh∧sh<(m.length:Int)
  ·rw[if_pos (by rw[plain_len]; exact hi)]
   obtain⟨k,rfl⟩:=Int.eq_ofNat_of_zero_le hi.1
   have hk:k<m.length:=by omega
   simp only[Int.toNat_natCast]
   rw[plain_at hk,plain_place hk]
   have hlen:=(hl.good _ (List.getElem_mem hk)).len
   refine (do_puts2 w hl pkt oa z.length oc (k:Nat) now hk (y:=⟨0,0,false,_⟩) rfl (fun W hb=>expire_good W (hl.kept hb) 2 pkt oa z.length oc now hk)).mono fun e W' ⟨h1,⟨x,h2,h3,h4⟩,h5⟩=>⟨h1,⟨pa,pc,P,sc,_,?_,h4⟩,h5⟩
   rw[plain_put2,h2,h3,Swp.stepC_stepT hlen]; rfl
  ·rw[if_neg (by rw[plain_len]; exact hi)]
   exact (do_fail2 w hl pkt oa z.length oc sh now (y:=⟨1,0,false,0⟩) (by decide) (fun W hb=>expire_bad W (hl.kept hb) 2 pkt oa z.length oc sh now hi)).mono fun _ _=>same
 rw[if_neg k2]
 by_cases k3:kd=3
 ·subst k3
  rw[if_pos rfl]
  exact (do_stats w hl pkt oa z.length oc sh now (y:=⟨0,0,false,_⟩) rfl (fun W hb=>stats_told W (hl.kept hb) 3 pkt oa z.length oc sh now)).mono fun _ _=>same
 rw[if_neg k3]
 exact (do_other w kd pkt oa z.length oc sh now (by omega)).mono fun _ _=>same
section
variable {f:Foot} {idle:Int} {pa:Option Addr} {pc:Nat} {P:List Bk} {sc:Nat} {m:List ShM}
set_option maxHeartbeats 400000 in
theorem Pool_lay (w:World) (h:Lay w f idle pa pc P sc m):Calls Tryz.prog 20 #[f.v] w fun e W'=>∃ v,e=.returned v∧Pol.Gives W' v P∧Below w.heap.size w W':=by
 have hf:=h.few
 have C:=Lib.hid (Pol.Clone_any pa pc P w h.pool (by omega))
 obtain⟨⟨-,c1,-⟩,-⟩:=h.cells
 clear h
 go_enter Tryz.func20,Tryz.ntmps20
 go_wp2_with fail
 refine C.out.mono ?_
 rintro e w1 ⟨v,rfl,ho,hb⟩
 obtain⟨a,c,rfl,hl⟩:=ho.lies
 have B:=Lib.hid hb
 have L:=Lib.hid hl
 clear hb ho hl C
 go_wp2_with fail
 go_ret
 exact⟨_,rfl,⟨a,c,rfl,L.out⟩,B.out⟩
end
theorem Pool_told (f:Foot) (idle:Int) (mo:Mo) (w:World) (h:Held w f idle mo):Calls Tryz.prog 20 #[f.v] w fun e W'=>∃ v,e=.returned v∧Pol.Gives W' v mo.pool∧Below w.heap.size w W':=by
 obtain⟨pa,pc,P,sc,m,rfl,hl⟩:=h
 exact Pool_lay w hl
def tabAt (mo:Mo) (i:Int):List Tab.Ent:=if 0≤i∧i<(mo.tables.length:Int) then mo.tables.getD i.toNat [] else []
theorem tab_atM (P:List Bk) (m:List ShM) (i:Int):tabAt (plain P m) i=(atM m i).T:=by
 unfold tabAt atM
 rw[plain_len]
 split
 ·rename_i hi
  obtain⟨k,rfl⟩:=Int.eq_ofNat_of_zero_le hi.1
  have hk:k<m.length:=by omega
  rw[Int.toNat_natCast,plain_at hk,List.getD_eq_getElem?_getD,List.getElem?_eq_getElem hk]; rfl
 ·rfl
end Go.Proofs.YtbamodkgagcmnaaGreat.Mdl
set_option maxRecDepth 100000
namespace Go.Proofs.YtbamodkgagcmnaaGreat.Mdl
open Go.RowKit Go.Shelf Go.WideShapes RowG Trn
open Pol (polV)
open Go.Proofs.YtbamodkgagcmnaaGreat.Mod (Bk Mo Cfg cfgV okB inB errOf)
attribute [local go_sem] Oper.semAt_some
theorem in_low {n lo hi:Int} (h:n<lo):inB n lo hi=false:=decide_eq_false fun e=>by omega
theorem in_high {n lo hi:Int} (h:hi<n):inB n lo hi=false:=decide_eq_false fun e=>by omega
theorem in_yes {n lo hi:Int} (h0:¬ n<lo) (h1:¬ hi<n):inB n lo hi=true:=decide_eq_true ⟨by omega,by omega⟩
theorem run_x0 (W S cap idle K:Int) (V:World):(Instr.index 95 (.agg #[.int .i64 W,.int .i64 1,.int .i64 64,.int .i64 S,.int .i64 1,.int .i64 16,.int .i64 cap,.int .i64 1,.int .i64 64,.int .i64 idle,.int .i64 0,.int .i64 1000000,.int .i64 K,.int .i64 2,.int .i64 8]) (.int .i64 0)).run Tryz.prog V=.ok (.agg #[.int .i64 W,.int .i64 1,.int .i64 64]) V:=by kernel_rfl
theorem run_x1 (W S cap idle K:Int) (V:World):(Instr.index 95 (.agg #[.int .i64 W,.int .i64 1,.int .i64 64,.int .i64 S,.int .i64 1,.int .i64 16,.int .i64 cap,.int .i64 1,.int .i64 64,.int .i64 idle,.int .i64 0,.int .i64 1000000,.int .i64 K,.int .i64 2,.int .i64 8]) (.int .i64 1)).run Tryz.prog V=.ok (.agg #[.int .i64 S,.int .i64 1,.int .i64 16]) V:=by kernel_rfl
theorem run_x2 (W S cap idle K:Int) (V:World):(Instr.index 95 (.agg #[.int .i64 W,.int .i64 1,.int .i64 64,.int .i64 S,.int .i64 1,.int .i64 16,.int .i64 cap,.int .i64 1,.int .i64 64,.int .i64 idle,.int .i64 0,.int .i64 1000000,.int .i64 K,.int .i64 2,.int .i64 8]) (.int .i64 2)).run Tryz.prog V=.ok (.agg #[.int .i64 cap,.int .i64 1,.int .i64 64]) V:=by kernel_rfl
theorem run_x3 (W S cap idle K:Int) (V:World):(Instr.index 95 (.agg #[.int .i64 W,.int .i64 1,.int .i64 64,.int .i64 S,.int .i64 1,.int .i64 16,.int .i64 cap,.int .i64 1,.int .i64 64,.int .i64 idle,.int .i64 0,.int .i64 1000000,.int .i64 K,.int .i64 2,.int .i64 8]) (.int .i64 3)).run Tryz.prog V=.ok (.agg #[.int .i64 idle,.int .i64 0,.int .i64 1000000]) V:=by kernel_rfl
theorem run_x4 (W S cap idle K:Int) (V:World):(Instr.index 95 (.agg #[.int .i64 W,.int .i64 1,.int .i64 64,.int .i64 S,.int .i64 1,.int .i64 16,.int .i64 cap,.int .i64 1,.int .i64 64,.int .i64 idle,.int .i64 0,.int .i64 1000000,.int .i64 K,.int .i64 2,.int .i64 8]) (.int .i64 4)).run Tryz.prog V=.ok (.agg #[.int .i64 K,.int .i64 2,.int .i64 8]) V:=by kernel_rfl
set_option maxHeartbeats 2000000 in
theorem Check_told (c:Cfg) (w:World):Calls Tryz.prog 15 #[cfgV c] w fun e W'=>e=.returned (.int .i64 (errOf (okB c)))∧Below w.heap.size w W':=by
 obtain⟨W,S,cap,idle,K⟩:=c
 have HA:=Lib.hid ((Below.refl w.heap.size w).alloc (Nat.le_refl _) (.cells #[.int .i64 W,.int .i64 S,.int .i64 cap,.int .i64 idle,.int .i64 K] 23))
 have r0:=run_x0 W S cap idle K
 have r1:=run_x1 W S cap idle K
 have r2:=run_x2 W S cap idle K
 have r3:=run_x3 W S cap idle K
 have r4:=run_x4 W S cap idle K
 go_enter Tryz.func15,Tryz.ntmps15
 go_wp2_with fail
 go_loopw [21] (fun i W'=>(i=.int .i64 0∧Below w.heap.size w W')∨(i=.int .i64 1∧inB W 1 64=true∧Below w.heap.size w W')∨(i=.int .i64 2∧inB W 1 64=true∧inB S 1 16=true∧Below w.heap.size w W')∨(i=.int .i64 3∧inB W 1 64=true∧inB S 1 16=true∧inB cap 1 64=true∧Below w.heap.size w W')∨(i=.int .i64 4∧inB W 1 64=true∧inB S 1 16=true∧inB cap 1 64=true∧inB idle 0 1000000=true∧Below w.heap.size w W')∨(i=.int .i64 5∧inB W 1 64=true∧inB S 1 16=true∧inB cap 1 64=true∧inB idle 0 1000000=true∧inB K 2 8=true∧Below w.heap.size w W')) (fun i _=>(5 - intOf i).toNat)
 case atStart=>exact .inl ⟨rfl,HA.out⟩
 case round=>
 clear HA
 rcases hrel with⟨rfl,B⟩ | ⟨rfl,g0,B⟩ | ⟨rfl,g0,g1,B⟩ | ⟨rfl,g0,g1,g2,B⟩ | ⟨rfl,g0,g1,g2,g3,B⟩ | ⟨rfl,g0,g1,g2,g3,g4,B⟩
 ·have HB:=Lib.hid B
  clear B
  by_cases h0:W<1
  ·have d0:decide (W<1)=true:=decide_eq_true h0
   have HE:=Lib.hid (show errOf (okB ⟨W,S,cap,idle,K⟩)=1 by
    have e:=in_low (hi:=64) h0
    unfold errOf okB
    dsimp only
    rw[e]
    simp)
   go_wp2_with fail
   go_ret
   exact⟨by rw[HE.out]; rfl,HB.out.trans ((Below.refl wr.heap.size wr).alloc (Nat.le_refl _) _ |>.mono HB.out.size)⟩
  ·have d0:decide (W<1)=false:=decide_eq_false h0
   by_cases h1:64<W
   ·have d1:decide (64<W)=true:=decide_eq_true h1
    have HE:=Lib.hid (show errOf (okB ⟨W,S,cap,idle,K⟩)=1 by
     have e:=in_high (lo:=1) h1
     unfold errOf okB
     dsimp only
     rw[e]
     simp)
    go_wp2_with fail
    go_ret
    exact⟨by rw[HE.out]; rfl,HB.out.trans ((Below.refl wr.heap.size wr).alloc (Nat.le_refl _) _ |>.mono HB.out.size)⟩
   ·have d1:decide (64<W)=false:=decide_eq_false h1
    have g0:=in_yes h0 h1
    go_wp2_with fail
    exact⟨.inr (.inl ⟨by go_num,g0,HB.out.trans ((Below.refl wr.heap.size wr).alloc (Nat.le_refl _) _ |>.mono HB.out.size)⟩),by simp[intOf]⟩
 ·have HB:=Lib.hid B
  clear B
  by_cases h0:S<1
  ·have d0:decide (S<1)=true:=decide_eq_true h0
   have HE:=Lib.hid (show errOf (okB ⟨W,S,cap,idle,K⟩)=1 by
    have e:=in_low (hi:=16) h0
    unfold errOf okB
    dsimp only
    rw[g0,e]
    simp)
   go_wp2_with fail
   go_ret
   exact⟨by rw[HE.out]; rfl,HB.out.trans ((Below.refl wr.heap.size wr).alloc (Nat.le_refl _) _ |>.mono HB.out.size)⟩
  ·have d0:decide (S<1)=false:=decide_eq_false h0
   by_cases h1:16<S
   ·have d1:decide (16<S)=true:=decide_eq_true h1
    have HE:=Lib.hid (show errOf (okB ⟨W,S,cap,idle,K⟩)=1 by
     have e:=in_high (lo:=1) h1
     unfold errOf okB
     dsimp only
     rw[g0,e]
     simp)
    go_wp2_with fail
    go_ret
    exact⟨by rw[HE.out]; rfl,HB.out.trans ((Below.refl wr.heap.size wr).alloc (Nat.le_refl _) _ |>.mono HB.out.size)⟩
   ·have d1:decide (16<S)=false:=decide_eq_false h1
    have g1:=in_yes h0 h1
    go_wp2_with fail
    exact⟨.inr (.inr (.inl ⟨by go_num,g0,g1,HB.out.trans ((Below.refl wr.heap.size wr).alloc (Nat.le_refl _) _ |>.mono HB.out.size)⟩)),by simp[intOf]⟩
 ·have HB:=Lib.hid B
  clear B
  by_cases h0:cap<1
  ·have d0:decide (cap<1)=true:=decide_eq_true h0
   have HE:=Lib.hid (show errOf (okB ⟨W,S,cap,idle,K⟩)=1 by
    have e:=in_low (hi:=64) h0
    unfold errOf okB
    dsimp only
    rw[g0,g1,e]
    simp)
   go_wp2_with fail
   go_ret
   exact⟨by rw[HE.out]; rfl,HB.out.trans ((Below.refl wr.heap.size wr).alloc (Nat.le_refl _) _ |>.mono HB.out.size)⟩
  ·have d0:decide (cap<1)=false:=decide_eq_false h0
   by_cases h1:64<cap
   ·have d1:decide (64<cap)=true:=decide_eq_true h1
    have HE:=Lib.hid (show errOf (okB ⟨W,S,cap,idle,K⟩)=1 by
     have e:=in_high (lo:=1) h1
     unfold errOf okB
     dsimp only
     rw[g0,g1,e]
     simp)
    go_wp2_with fail
    go_ret
    exact⟨by rw[HE.out]; rfl,HB.out.trans ((Below.refl wr.heap.size wr).alloc (Nat.le_refl _) _ |>.mono HB.out.size)⟩
   ·have d1:decide (64<cap)=false:=decide_eq_false h1
    have g2:=in_yes h0 h1
    go_wp2_with fail
    exact⟨.inr (.inr (.inr (.inl ⟨by go_num,g0,g1,g2,HB.out.trans ((Below.refl wr.heap.size wr).alloc (Nat.le_refl _) _ |>.mono HB.out.size)⟩))),by simp[intOf]⟩
 ·have HB:=Lib.hid B
  clear B
  by_cases h0:idle<0
  ·have d0:decide (idle<0)=true:=decide_eq_true h0
   have HE:=Lib.hid (show errOf (okB ⟨W,S,cap,idle,K⟩)=1 by
    have e:=in_low (hi:=1000000) h0
    unfold errOf okB
    dsimp only
    rw[g0,g1,g2,e]
    simp)
   go_wp2_with fail
   go_ret
   exact⟨by rw[HE.out]; rfl,HB.out.trans ((Below.refl wr.heap.size wr).alloc (Nat.le_refl _) _ |>.mono HB.out.size)⟩
  ·have d0:decide (idle<0)=false:=decide_eq_false h0
   by_cases h1:1000000<idle
   ·have d1:decide (1000000<idle)=true:=decide_eq_true h1
    have HE:=Lib.hid (show errOf (okB ⟨W,S,cap,idle,K⟩)=1 by
     have e:=in_high (lo:=0) h1
     unfold errOf okB
     dsimp only
     rw[g0,g1,g2,e]
     simp)
    go_wp2_with fail
    go_ret
    exact⟨by rw[HE.out]; rfl,HB.out.trans ((Below.refl wr.heap.size wr).alloc (Nat.le_refl _) _ |>.mono HB.out.size)⟩
   ·have d1:decide (1000000<idle)=false:=decide_eq_false h1
    have g3:=in_yes h0 h1
    go_wp2_with fail
    exact⟨.inr (.inr (.inr (.inr (.inl ⟨by go_num,g0,g1,g2,g3,HB.out.trans ((Below.refl wr.heap.size wr).alloc (Nat.le_refl _) _ |>.mono HB.out.size)⟩)))),by simp[intOf]⟩
 ·have HB:=Lib.hid B
  clear B
  by_cases h0:K<2
  ·have d0:decide (K<2)=true:=decide_eq_true h0
   have HE:=Lib.hid (show errOf (okB ⟨W,S,cap,idle,K⟩)=1 by
    have e:=in_low (hi:=8) h0
    unfold errOf okB
    dsimp only
    rw[g0,g1,g2,g3,e]
    simp)
   go_wp2_with fail
   go_ret
   exact⟨by rw[HE.out]; rfl,HB.out.trans ((Below.refl wr.heap.size wr).alloc (Nat.le_refl _) _ |>.mono HB.out.size)⟩
  ·have d0:decide (K<2)=false:=decide_eq_false h0
   by_cases h1:8<K
   ·have d1:decide (8<K)=true:=decide_eq_true h1
    have HE:=Lib.hid (show errOf (okB ⟨W,S,cap,idle,K⟩)=1 by
     have e:=in_high (lo:=2) h1
     unfold errOf okB
     dsimp only
     rw[g0,g1,g2,g3,e]
     simp)
    go_wp2_with fail
    go_ret
    exact⟨by rw[HE.out]; rfl,HB.out.trans ((Below.refl wr.heap.size wr).alloc (Nat.le_refl _) _ |>.mono HB.out.size)⟩
   ·have d1:decide (8<K)=false:=decide_eq_false h1
    have g4:=in_yes h0 h1
    go_wp2_with fail
    exact⟨.inr (.inr (.inr (.inr (.inr (⟨by go_num,g0,g1,g2,g3,g4,HB.out.trans ((Below.refl wr.heap.size wr).alloc (Nat.le_refl _) _ |>.mono HB.out.size)⟩))))),by simp[intOf]⟩
 ·have HB:=Lib.hid B
  have HE:=Lib.hid (show errOf (okB ⟨W,S,cap,idle,K⟩)=0 by
   unfold errOf okB
   dsimp only
   rw[g0,g1,g2,g3,g4]
   simp)
  clear B
  go_wp2_with fail
  go_ret
  exact⟨by rw[HE.out]; rfl,HB.out⟩
theorem info_shard:(Tryz.prog.info? 92).map (fun i=>(i.zero,i.size,i.bytes))=some (some (.agg #[.slice none 0 0,.int .i64 0]),shK.c,32):=by kernel_rfl
abbrev zeroS:Array Value:=#[.slice none 0 0,.int .i64 0]
theorem run_shards (n:Nat) (hn:n≤1000000) (W:World):(Instr.makeSlice 87 (.int .i64 (n:Int)) (.int .i64 (n:Int))).run Tryz.prog W=.ok (.slice (some ⟨W.heap.size,0,none⟩) n n) (W.alloc (.cells (madeCells zeroS (n * 2)) 92)):=by
 obtain⟨i0,hi,hz0,hz1,hz2⟩:=info_parts info_shard
 have:=run_make (P:=Tryz.prog) W 87 92 i0 (.agg zeroS) Tryz.underlying87 hi hz0 .i64 .i64 n n (by omega) (Int.le_refl _) (by rw[hz2]; omega) (by omega)
 rw[hz1,show shK.c=2 from rfl,show (Value.agg zeroS).cells=zeroS from rfl] at this
 simpa using this
theorem made_at {m j:Nat} {v:Value} (h:(madeCells zeroS m)[j]? =some v):v=if j % 2=0 then .slice none 0 0 else .int .i64 0:=by
 unfold madeCells at h
 rw[Array.getElem?_map] at h
 cases hr:(Array.range m)[j]? with
 | none=>rw[hr] at h; cases h
 | some k=>
   rw[hr] at h
   obtain⟨hl,hk⟩:=Array.getElem?_eq_some_iff.1 hr
   rw[Array.getElem_range] at hk
   subst hk
   rcases Nat.mod_two_eq_zero_or_one j with e | e <;> simp[e] at h ⊢ <;> exact h.symm
theorem new_lay (w:World) (n:Nat) (hn:n≤16) (idle:Int):let W:=(w.alloc (.cells (madeCells zeroS (n * 2)) 92)).alloc (.cells #[.int .i64 idle,.slice none 0 0,.slice (some ⟨w.heap.size,0,none⟩) n n] 89)
 Lay W ⟨w.heap.size+1,w.heap.size⟩ idle none 0 [] n (List.replicate n noShM)∧Below w.heap.size w W:=by
 have b1:Below w.heap.size w (w.alloc (.cells (madeCells zeroS (n * 2)) 92)):=(Below.refl _ w).alloc (Nat.le_refl _) _
 have h1:=World.alloc_heap_new w (.cells (madeCells zeroS (n * 2)) 92)
 have s1:=World.size_alloc w (.cells (madeCells zeroS (n * 2)) 92)
 have hr:Row shK 92 (w.alloc (.cells (madeCells zeroS (n * 2)) 92)) w.heap.size n (List.replicate n noShM):=
  ⟨_,h1,by simp,by unfold maxLen; omega,by simp[madeCells]; rfl,by
    rw[show n * 2=n * shK.c from rfl,made_flat (K:=shK) zeroS noShM rfl,List.take_of_length_le (by rw[flat_length]; simp)]⟩
 generalize w.alloc (.cells (madeCells zeroS (n * 2)) 92)=W1 at *
 have b2:Below W1.heap.size W1 (W1.alloc (.cells #[.int .i64 idle,.slice none 0 0,.slice (some ⟨w.heap.size,0,none⟩) n n] 89)):=(Below.refl _ W1).alloc (Nat.le_refl _) _
 have h2:=World.alloc_heap_new W1 (.cells #[.int .i64 idle,.slice none 0 0,.slice (some ⟨w.heap.size,0,none⟩) n n] 89)
 rw[s1] at h2
 have hg:=(b2.block w.heap.size (by omega)).trans h1
 refine⟨⟨by rw[List.length_replicate]; exact h2,hr.kept b2,fun k v hv=>?_,fun k v hv=>?_,Pol.lies_nil _,by simp,fun x hx=>?_,by simpa using hn,by show w.heap.size+1≠w.heap.size; omega⟩,below2 b1 b2⟩
 ·have hv':(madeCells zeroS (n * 2))[2 * k]? =some v:=by simpa [World.cell?,hg] using hv
  have:=made_at hv'
  rw[if_pos (by omega)] at this
  exact⟨_,_,_,this⟩
 ·have hv':(madeCells zeroS (n * 2))[2 * k+1]? =some v:=by simpa [World.cell?,hg] using hv
  have:=made_at hv'
  rw[if_neg (by omega)] at this
  exact⟨_,this⟩
 ·rw[List.eq_of_mem_replicate hx]; exact noShM_good _
theorem Lay.table {W:World} {f:Foot} {idle:Int} {pa:Option Addr} {pc:Nat} {P:List Bk} {sc:Nat} {m:List ShM} (h:Lay W f idle pa pc P sc m) {k:Nat} (hk:k<m.length) (p:Option Addr) (c:Nat) (T:List Tab.Ent) (hx:(⟨p,c,T,m[k].n⟩:ShM).Good W):
 Lay (W.setCell ⟨f.g,k * 2,none⟩ (rowV p c T)) f idle pa pc P sc (m.set k ⟨p,c,T,m[k].n⟩):=by
 have h2:=h.put hk hx
 have hc:=(h.shard hk).1.2
 refine h2.kept ⟨rfl,rfl,rfl,by simp[putW,World.setCell],fun j hj=>?_⟩
 unfold putW
 by_cases e:j=f.g
 ·subst e
  obtain⟨cur,hg,-⟩:=h.row
  have g1:=heap_setCell_same W f.g (k * 2) cur _ (rowV p c T) hg
  have g2:=heap_setCell_same _ f.g (k * 2+1) _ _ (.int .i64 (m[k].n:Nat)) g1
  rw[g1,g2]
  congr 2
  apply Array.ext_getElem?
  intro q
  by_cases e:k * 2+1=q
  ·subst e
   have h3:cur[k * 2+1]? =some (.int .i64 (m[k].n:Nat)):=by simpa [World.cell?,hg] using hc
   have hlt:=(Array.getElem?_eq_some_iff.1 h3).1
   rw[Array.getElem?_setIfInBounds_self_of_lt (by simpa using hlt),Array.getElem?_setIfInBounds_ne (by omega),h3]
  ·rw[Array.getElem?_setIfInBounds_ne (xs:=cur.setIfInBounds _ _) e]
 ·rw[heap_setCell_other _ ⟨f.g,k * 2+1,none⟩ j _ e]
theorem filled_step {α:Type} (A B:α) (k n:Nat) (hk:k<n):(List.replicate k A ++ List.replicate (n - k) B).set k A=List.replicate (k+1) A ++ List.replicate (n - (k+1)) B:=by
 rw[List.set_append_right _ _ (by simp),List.length_replicate,Nat.sub_self,show n - k=(n - (k+1))+1 by omega,List.replicate_succ,List.set_cons_zero,List.replicate_succ',List.append_assoc]; rfl
theorem cfg_cells (w:World) (c:Cfg):let W:=w.alloc (.cells #[.int .i64 c.W,.int .i64 c.S,.int .i64 c.cap,.int .i64 c.idle,.int .i64 c.K] 23)
 (W.cell? ⟨w.heap.size,0,none⟩=some (.int .i64 c.W)∧W.cell? ⟨w.heap.size,1,none⟩=some (.int .i64 c.S)∧W.cell? ⟨w.heap.size,2,none⟩=some (.int .i64 c.cap)∧W.cell? ⟨w.heap.size,3,none⟩=some (.int .i64 c.idle)∧W.cell? ⟨w.heap.size,4,none⟩=some (.int .i64 c.K))∧Below w.heap.size w W:=by
 have h1:=World.alloc_heap_new w (.cells #[.int .i64 c.W,.int .i64 c.S,.int .i64 c.cap,.int .i64 c.idle,.int .i64 c.K] 23)
 refine⟨⟨?_,?_,?_,?_,?_⟩,(Below.refl _ w).alloc (Nat.le_refl _) _⟩ <;> (unfold World.cell?; rw[h1]; rfl)
set_option maxHeartbeats 1000000 in
theorem New_bad (c:Cfg) (hc:okB c=false) (w:World):Calls Tryz.prog 13 #[cfgV c] w fun e W'=>e=.returned (.tuple #[.pointer none,.int .i64 1])∧Below w.heap.size w W':=by
 obtain⟨⟨x0,x1,x2,x3,x4⟩,b0⟩:=cfg_cells w c
 have C:=Lib.hid (Check_told c (w.alloc (.cells #[.int .i64 c.W,.int .i64 c.S,.int .i64 c.cap,.int .i64 c.idle,.int .i64 c.K] 23)))
 rw[show errOf (okB c)=1 by rw[hc]; rfl] at C
 have B0:=Lib.hid b0
 clear hc b0
 obtain⟨cW,cS,ccap,cidle,cK⟩:=c
 go_enter Tryz.func13,Tryz.ntmps13
 go_wp2_with fail
 refine C.out.mono ?_
 rintro e w1 ⟨rfl,hb⟩
 have B1:=Lib.hid (below2 B0.out hb)
 clear hb C B0 x0 x1 x2 x3 x4
 go_wp2_with fail
 refine bodyPost_ret (v:=.tuple #[.pointer none,.int .i64 1]) (by simp[results,Tryz.results13,go_sem]) rfl ?_
 exact⟨rfl,B1.out⟩
theorem new_S {wr W:World} {f:Foot} {bc:Nat} {cap:Int} {n k:Nat} {u:World→Value} (hu:∀ W,u W=(W.cell? ⟨f.g,k * 2,none⟩).getD undef) (h0:Turned f.has wr W) (h1:W.cell? ⟨f.p,2,none⟩=some (.slice (some ⟨f.g,0,none⟩) n n)) (h2:W.cell? ⟨bc,2,none⟩=some (.int .i64 cap)) (h3:∃ v,W.cell? ⟨f.g,k * 2,none⟩=some v) (h4:W.frozen? ⟨f.g,k * 2,none⟩=false):
 Turned f.has wr W∧W.cell? ⟨f.p,2,none⟩=some (.slice (some ⟨f.g,0,none⟩) n n)∧W.cell? ⟨bc,2,none⟩=some (.int .i64 cap)∧W.cell? ⟨f.g,k * 2,none⟩=some (u W)∧W.frozen? ⟨f.g,k * 2,none⟩=false:=by
 obtain⟨v,h3⟩:=h3
 exact⟨h0,h1,h2,by rw[hu,h3]; rfl,h4⟩
theorem new_keep {wr W W':World} {f:Foot} {bc:Nat} {cap:Int} {n k:Nat} {u:World→Value} (hu:∀ W,u W=(W.cell? ⟨f.g,k * 2,none⟩).getD undef) (s:Turned f.has wr W∧W.cell? ⟨f.p,2,none⟩=some (.slice (some ⟨f.g,0,none⟩) n n)∧W.cell? ⟨bc,2,none⟩=some (.int .i64 cap)∧W.cell? ⟨f.g,k * 2,none⟩=some (u W)∧W.frozen? ⟨f.g,k * 2,none⟩=false) (hb:Below W.heap.size W W'):
 Turned f.has wr W'∧W'.cell? ⟨f.p,2,none⟩=some (.slice (some ⟨f.g,0,none⟩) n n)∧W'.cell? ⟨bc,2,none⟩=some (.int .i64 cap)∧W'.cell? ⟨f.g,k * 2,none⟩=some (u W')∧W'.frozen? ⟨f.g,k * 2,none⟩=false:=by
 obtain⟨h0,h1,h2,h3,h4⟩:=s
 refine new_S hu (h0.trans (.of_below hb)) ((hb.cell (World.block_lt_of_cell? _ _ h1)).trans h1) ((hb.cell (World.block_lt_of_cell? _ _ h2)).trans h2) ⟨_,(hb.cell (World.block_lt_of_cell? _ _ h3)).trans h3⟩ ?_
 have e:=hb.block f.g (World.block_lt_of_cell? W _ h3)
 unfold World.frozen? at h4 ⊢
 simp only at h4 ⊢
 rw[e]; exact h4
theorem new_put {wr W:World} {f:Foot} {bc:Nat} {cap:Int} {n k:Nat} {u:World→Value} (hu:∀ W,u W=(W.cell? ⟨f.g,k * 2,none⟩).getD undef) (hne:f.p≠f.g) (hbc:bc≠f.g) (s:Turned f.has wr W∧W.cell? ⟨f.p,2,none⟩=some (.slice (some ⟨f.g,0,none⟩) n n)∧W.cell? ⟨bc,2,none⟩=some (.int .i64 cap)∧W.cell? ⟨f.g,k * 2,none⟩=some (u W)∧W.frozen? ⟨f.g,k * 2,none⟩=false) (v:Value):
 Turned f.has wr (W.setCell ⟨f.g,k * 2,none⟩ v)∧(W.setCell ⟨f.g,k * 2,none⟩ v).cell? ⟨f.p,2,none⟩=some (.slice (some ⟨f.g,0,none⟩) n n)∧(W.setCell ⟨f.g,k * 2,none⟩ v).cell? ⟨bc,2,none⟩=some (.int .i64 cap)∧(W.setCell ⟨f.g,k * 2,none⟩ v).cell? ⟨f.g,k * 2,none⟩=some (u (W.setCell ⟨f.g,k * 2,none⟩ v))∧(W.setCell ⟨f.g,k * 2,none⟩ v).frozen? ⟨f.g,k * 2,none⟩=false:=by
 obtain⟨h0,h1,h2,h3,h4⟩:=s
 have cell:∀ b o,b≠f.g→(W.setCell ⟨f.g,k * 2,none⟩ v).cell? ⟨b,o,none⟩=W.cell? ⟨b,o,none⟩:=fun b o hb=>World.cell?_of_block (w:=W) (heap_setCell_other W ⟨f.g,k * 2,none⟩ b v hb)
 refine new_S hu (h0.setCell (a:=⟨f.g,k * 2,none⟩) (.inr rfl) v) (by rw[cell _ _ hne]; exact h1) (by rw[cell _ _ hbc]; exact h2) ⟨v,World.cell?_setCell_same W _ v h3⟩ ?_
 ·rw[World.frozen?_setCell]; exact h4
set_option maxHeartbeats 4000000 in
theorem New_good (cW:Int) (n:Nat) (cap:Nat) (idle cK:Int) (hc:okB ⟨cW,(n:Int),(cap:Int),idle,cK⟩=true) (hn:n≤16) (hcap:cap≤64) (w:World):Calls Tryz.prog 13 #[cfgV ⟨cW,(n:Int),(cap:Int),idle,cK⟩] w fun e W'=>∃ f:Foot,e=.returned (.tuple #[f.v,.int .i64 0])∧Held W' f idle (Mod.new n cap)∧f.from' w.heap.size∧Below w.heap.size w W':=by
 obtain⟨⟨x0,x1,x2,x3,x4⟩,b0⟩:=cfg_cells w ⟨cW,(n:Int),(cap:Int),idle,cK⟩
 have C:=Lib.hid (Check_told ⟨cW,(n:Int),(cap:Int),idle,cK⟩ (w.alloc (.cells #[.int .i64 cW,.int .i64 (n:Int),.int .i64 (cap:Int),.int .i64 idle,.int .i64 cK] 23)))
 rw[show errOf (okB ⟨cW,(n:Int),(cap:Int),idle,cK⟩)=0 by rw[hc]; rfl] at C
 have B0:=Lib.hid b0
 have hmk:=run_shards n (by omega)
 clear hc b0
 go_enter Tryz.func13,Tryz.ntmps13
 go_wp2_with fail
 refine C.out.mono ?_
 rintro e w1 ⟨rfl,hb⟩
 have B1:=Lib.hid (below2 B0.out hb)
 have y1:=(hb.cell (World.block_lt_of_cell? _ _ x1)).trans x1
 have y2:=(hb.cell (World.block_lt_of_cell? _ _ x2)).trans x2
 have y3:=(hb.cell (World.block_lt_of_cell? _ _ x3)).trans x3
 have hlt1:w.heap.size<w1.heap.size:=Nat.lt_of_lt_of_le (by simp) hb.size
 clear hb C B0 x0 x1 x2 x3 x4
 go_wp2_with fail
 go_region
 obtain⟨hl,hb2⟩:=new_lay w1 n hn idle
 have HL2:=Lib.hid (hl.kept (Below.refl _ _).drew)
 have B2:=Lib.hid (below2 B1.out hb2.drew)
 have y2':=(hb2.drew.cell (World.block_lt_of_cell? _ _ y2)).trans y2
 generalize (w1.alloc (.cells (madeCells zeroS (n * 2)) 92)).alloc (.cells #[.int .i64 idle,.slice none 0 0,.slice (some ⟨w1.heap.size,0,none⟩) n n] 89)=W2 at *
 obtain⟨f,hf⟩:∃ f:Foot,(⟨w1.heap.size+1,w1.heap.size⟩:Foot)=f:=⟨_,rfl⟩
 have hp:w1.heap.size+1=f.p:=by rw[← hf]
 have hg:w1.heap.size=f.g:=by rw[← hf]
 rw[hf] at HL2
 rw[hp,hg]
 have hfrom:f.from' w.heap.size:=by rw[← hf]; exact⟨by show w.heap.size≤w1.heap.size+1; omega,by show w.heap.size≤w1.heap.size; omega⟩
 obtain⟨⟨-,-,c2⟩,-⟩:=HL2.out.cells
 rw[List.length_replicate] at c2
 clear hf hl hb2 hmk y1 y2 y3 hp
 go_wp2_with fail
 go_loopw [24] (fun i W=>∃ (k:Nat) (m:List ShM),k≤n∧i=.int .i64 k∧m.map (·.T)=List.replicate k (Tab.new cap) ++ List.replicate (n - k) []∧m.map (·.n)=List.replicate n 0∧Lay W f idle none 0 [] n m∧W.cell? ⟨w.heap.size,2,none⟩=some (.int .i64 (cap:Int))∧Below w.heap.size w W) (fun i _=>n - (intOf i).toNat)
 case atStart=>exact⟨0,_,Nat.zero_le _,rfl,by simp[noShM],by simp[noShM],HL2.out,y2',B2.out⟩
 case round=>
  clear HL2 B2 y2' c2
  obtain⟨k,m,hk,rfl,hT,hN,hL,hc,hB⟩:=hrel
  have hlen:m.length=n:=by have:=congrArg List.length hN; simpa using this
  have HL:=Lib.hid hL
  have HB:=Lib.hid hB
  have HT:=Lib.hid hT
  have HN:=Lib.hid hN
  by_cases hlt:k<n
  ·obtain⟨⟨-,-,c2⟩,-⟩:=hL.cells
   rw[hlen] at c2
   obtain⟨⟨c3,-⟩,fr⟩:=hL.shard (k:=k) (by omega)
   have f3:=fr (k * 2)
   have CN:=Lib.hid (fun W=>Flo.New_told (cap:Nat) W (wf_small cap hcap))
   rw[show Flo.size ((cap:Nat):Int)=cap by rw[Flo.size_in]; omega] at CN
   obtain⟨u,hu1⟩:∃ u:World→Value,∀ W,u W=(W.cell? ⟨f.g,k * 2,none⟩).getD undef:=⟨_,fun _=>rfl⟩
   have HU:=Lib.hid hu1
   have hne:=hL.ne
   have hbc:w.heap.size≠f.g:=by omega
   have SH:=new_S HU.out (wr:=wr) (W:=wr.drew) (n:=n) (bc:=w.heap.size) (cap:=(cap:Int)) (.of_below (Below.refl _ _).drew) c2 hc ⟨_,c3⟩ f3
   clear hu1 hT hN hL hB fr
   go_wp2_with fail
   go_region_held3 (fun W=>Turned f.has wr W∧W.cell? ⟨f.p,2,none⟩=some (.slice (some ⟨f.g,0,none⟩) n n)∧W.cell? ⟨w.heap.size,2,none⟩=some (.int .i64 (cap:Int))∧W.cell? ⟨f.g,k * 2,none⟩=some (u W)∧W.frozen? ⟨f.g,k * 2,none⟩=false) (first | exact SH | exact new_keep HU.out (by assumption) hb | exact new_keep HU.out (by assumption) (Below.refl _ _) | exact new_put HU.out hne hbc (by assumption) _)
    (first | (go_at_call 43; (refine (CN.out _).mono ?_); rintro e w5 ⟨rfl,hrow,hsz,hb⟩))
   have hlies:=hrow.lies
   have HLw:=Lib.hid (HL.out.kept ((Below.refl wr.heap.size wr).drew.trans (hb.mono (Nat.le_refl _))))
   have hm0:m[k].n=0:=by
    have h1:(m.map (·.n))[k]? =some m[k].n:=by rw[List.getElem?_map,List.getElem?_eq_getElem (by omega)]; rfl
    rw[HN.out,List.getElem?_replicate_of_lt hlt] at h1
    exact (Option.some.inj h1).symm
   have hGood:(⟨some ⟨wr.drew.heap.size,0,none⟩,cap,Tab.new cap,m[k].n⟩:ShM).Good w5:=⟨hlies,by simp[Tab.new]; omega,fun y hy=>by rw[List.eq_of_mem_replicate hy]; exact Nat.zero_le _,by rw[hm0]; omega⟩
   have HL6:=Lib.hid (HLw.out.table (k:=k) (by omega) _ _ _ hGood)
   have hcx:=(((Below.refl wr.heap.size wr).drew.trans (hb.mono (Nat.le_refl _))).cell (World.block_lt_of_cell? _ _ hc)).trans hc
   have HC6:=Lib.hid ((World.cell?_setCell_other w5 ⟨f.g,k * 2,none⟩ ⟨w.heap.size,2,none⟩ (rowV (some ⟨wr.drew.heap.size,0,none⟩) cap (Tab.new cap)) (fun e=>hbc (congrArg Addr.block e).symm)).trans hcx)
   have HB6:=Lib.hid ((below2 HB.out ((Below.refl wr.heap.size wr).drew.trans (hb.mono (Nat.le_refl _)))).setCell (p:=⟨f.g,k * 2,none⟩) hfrom.2 (rowV (some ⟨wr.drew.heap.size,0,none⟩) cap (Tab.new cap)))
   have HT6:=Lib.hid (show (m.set k ⟨some ⟨wr.drew.heap.size,0,none⟩,cap,Tab.new cap,m[k].n⟩).map (·.T)=List.replicate (k+1) (Tab.new cap) ++ List.replicate (n - (k+1)) [] by
    rw[List.map_set,HT.out]; exact filled_step _ _ k n hlt)
   have HN6:=Lib.hid (show (m.set k ⟨some ⟨wr.drew.heap.size,0,none⟩,cap,Tab.new cap,m[k].n⟩).map (·.n)=List.replicate n 0 by
    rw[List.map_set,HN.out]
    dsimp only
    rw[hm0]
    apply List.ext_getElem (by simp)
    intro q h1 h2
    rw[List.getElem_set]; split <;> simp)
   clear hb hsz hrow hlies hGood HLw hm0 hcx SH c2 c3 f3 CN hc
   generalize m.set k ⟨some ⟨wr.drew.heap.size,0,none⟩,cap,Tab.new cap,m[k].n⟩=m6 at *
   go_wp2_with fail
   exact⟨⟨k+1,m6,hlt,by go_num,HT6.out,HN6.out,HL6.out,HC6.out,HB6.out⟩,by simp[intOf]; omega⟩
  ·obtain rfl:k=n:=by omega
   clear hT hN hL
   go_wp2_with fail
   refine bodyPost_ret (v:=.tuple #[f.v,.int .i64 0]) (by simp[results,Tryz.results13,go_sem]) rfl ?_
   refine⟨f,rfl,⟨none,0,[],k,m,?_,HL.out⟩,hfrom,HB.out⟩
   unfold plain Mod.new
   rw[HT.out,HN.out]; simp
end Go.Proofs.YtbamodkgagcmnaaGreat.Mdl
set_option maxRecDepth 100000
namespace Go.Proofs.YtbamodkgagcmnaaGreat.Mdl
open Go.RowKit Go.Shelf Go.WideShapes RowG Trn
open Pol (polV)
open Flo (Gives)
open Tab (Ent)
open Go.Proofs.YtbamodkgagcmnaaGreat.Mod (Bk Mo)
attribute [local go_sem] Oper.semAt_some
theorem eql_tab (a:Option Addr) (n c n' c':Nat) (w:World):(binOp .eql 90 (.slice a n c) (.slice none n' c')).run Tryz.prog w=.ok (.bool a.isNone) w:=Lib.run_eql_slice_nil w _ _ a n c n' c' Tryz.underlying90
set_option maxHeartbeats 1000000 in
theorem CloneT_any (a:Option Addr) (cap:Nat) (T:List Ent) (w:World) (h:Lies entK w a cap T) (hl:T.length≤3518437208883):
 Calls Tryz.prog 53 #[rowV a cap T] w fun e W'=>∃ v,e=.returned v∧RowG.Own entK 66 w.heap.size W' v T∧Below w.heap.size w W':=by
 have H:=Lib.hid h
 clear h
 have q22:=eql_tab
 cases a with
 | none=>
   have e:T=[]:=by
    cases T with
    | nil=>rfl
    | cons x T=>obtain⟨b,off,e,_⟩:=H.out.cell (by simp); cases e
   subst e
   go_enter Tryz.func53,Tryz.ntmps53
   go_wp2
   go_ret
   exact⟨_,rfl,own_nil _ _,Below.refl _ _⟩
 | some p=>
   obtain⟨i0,hi,hz0,hz1,hz2⟩:=info_parts Ste.info_ent
   have HC:=Lib.hid (show ∀ j u,(flat entK T)[j]? =some u→w.cell? (p.add j)=some u from fun j u hj=>by
    have hn:T≠[]:=fun e=>by subst e; simp[flat] at hj
    obtain⟨b,off,rfl⟩:=Flo.Lies.addr H.out hn
    rw[Addr.add_lit]
    exact flat_lies H.out j u hj)
   go_enter Tryz.func53,Tryz.ntmps53
   go_wp2_with (at_builtin; refine wpList_append_own _ rfl _ _ 90 rfl w.heap.size 66 i0 (.agg Ste.zeroC) 4 40 Tryz.underlying90 hi hz0 hz1 hz2 rfl (by decide) _ _ _ rfl (World.ownsRow_made w #[] 0 (Nat.le_refl _) (Nat.zero_le _) (by simp)) p T.length cap (flat entK T) rfl ?qc1 ?qc2 ?qc3 ?qc4 ?qc5 ?qc6 ?_)
   case qc1=>exact flat_length T
   case qc2=>intro j u hj; exact Lib.cell?_alloc_some _ (HC.out j u hj)
   case qc3=>exact flat_one T
   case qc4=>unfold maxLen; omega
   case qc5=>omega
   case qc6=>simp
   intro v' w1 hown hgrow hnil
   have HO:=Lib.hid hown
   have HG:=Lib.hid hgrow
   clear hown hgrow hnil
   go_wp2
   go_ret
   refine⟨_,rfl,?_,?_⟩
   ·have:=HO.out
    show w1.ownsRow w.heap.size 66 4 v' T.length (flat entK T)
    simpa using this
   ·exact ((Below.refl _ w).alloc (Nat.le_refl _) _).grown HG.out (by simp) (by intro k hk; simp[Value.ownBlock] at hk; omega)
set_option maxHeartbeats 400000 in
theorem Table_told (f:Foot) (idle:Int) (mo:Mo) (i:Int) (w:World) (h:Held w f idle mo):Calls Tryz.prog 22 #[f.v,.int .i64 i] w fun e W'=>∃ v,e=.returned v∧Gives W' v (tabAt mo i)∧Below w.heap.size w W':=by
 obtain⟨pa,pc,P,sc,m,rfl,hl⟩:=h
 rw[tab_atM]
 have C:=Lib.hid (at_told i w hl)
 have G:=Lib.hid (atM_good hl i)
 generalize atM m i=x at *
 have F:=fun W=>(show (Instr.field 92 (shV x) 0).run Tryz.prog W=.ok (rowV x.p x.c x.T) W by kernel_rfl)
 clear hl
 go_enter Tryz.func22,Tryz.ntmps22
 go_wp2_with fail
 refine C.out.mono ?_
 rintro e w1 ⟨rfl,hb⟩
 have D:=Lib.hid (CloneT_any x.p x.c x.T w1 (G.out.lies.kept hb) (by have:=G.out.len; omega))
 have B1:=Lib.hid hb
 clear hb C
 go_wp2_with fail
 refine D.out.mono ?_
 rintro e w2 ⟨v,rfl,ho,hb⟩
 obtain⟨a,c,rfl,hl⟩:=ho.lies
 have B2:=Lib.hid (below2 B1.out hb)
 have L2:=Lib.hid hl
 clear hb ho hl D
 go_wp2_with fail
 go_ret
 exact⟨_,rfl,⟨a,c,rfl,L2.out⟩,B2.out⟩
section
variable {f:Foot} {idle:Int} {pa:Option Addr} {pc:Nat} {P:List Bk} {sc:Nat} {m:List ShM}
structure ShRow (W:World) (g c:Nat) (m:List ShM):Prop where
 row:Row shK 92 W g c m
 even:∀ k v,W.cell? ⟨g,2 * k,none⟩=some v→∃ a n c,v=.slice a n c
 odd:∀ k v,W.cell? ⟨g,2 * k+1,none⟩=some v→∃ n,v=.int .i64 n
theorem ShRow.kept {W W':World} {g c:Nat} (h:ShRow W g c m) (hb:Below W.heap.size W W'):ShRow W' g c m:=by
 have e:W'.heap[g]? =W.heap[g]? :=hb.block g h.row.lt
 have cell:∀ k,W'.cell? ⟨g,k,none⟩=W.cell? ⟨g,k,none⟩:=fun k=>World.cell?_of_block (w:=W) e
 exact⟨h.row.kept hb,fun k v hv=>h.even k v (by rwa [cell] at hv),fun k v hv=>h.odd k v (by rwa [cell] at hv)⟩
end
end Go.Proofs.YtbamodkgagcmnaaGreat.Mdl
