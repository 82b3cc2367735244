/-
  Package model beside what a law was handed: each call as one line over the plain model; two models beside one another.
-/
import Derived.Test.YtbamodkgagcmnaaGreatMdlKE
import Derived.Test.YtbamodkgagcmnaaGreatMdlOE
import Derived.Test.YtbamodkgagcmnaaGreatBRinE
set_option maxRecDepth 100000
namespace Go.Proofs.YtbamodkgagcmnaaGreat.Mdl
open Go.RowKit Go.Shelf RowG Trn
open Pol (polV)
open Prb (home)
open Mdo (StM stV pol_lies)
open Flo (Gives)
open Go.Proofs.YtbamodkgagcmnaaGreat.Mod (Bk Mo Cfg cfgV okB Ans ansV ansC AnsBox opV opC)
attribute [local go_sem] Oper.semAt_some
structure Stand (w0 w:World) (f:Foot) (idle:Int) (mo:Mo) (l:List (Nat × Ans)):Prop where
 held:Held w f idle mo
 below:Below w0.heap.size w0 w
 from':f.from' w0.heap.size
 some:0<mo.tables.length
 box:∀ q ∈ l,AnsBox w q.1 q.2∧q.1≠f.p∧q.1≠f.g
theorem Held.lt {w:World} {f:Foot} {idle:Int} {mo:Mo} (h:Held w f idle mo):f.p<w.heap.size∧f.g<w.heap.size:=by
 obtain⟨pa,pc,P,sc,m,_,hl⟩:=h
 exact⟨heap_lt hl.box,hl.row.lt⟩
theorem has_from {f:Foot} {B:Nat} (h:f.from' B) (k:Nat) (hk:f.has k):B≤k:=by
 rcases hk with rfl | rfl
 ·exact h.1
 ·exact h.2
section
variable {w0 w w':World} {f f2:Foot} {idle idle2:Int} {mo mo2:Mo} {l:List (Nat × Ans)}
theorem Stand.more (h:Stand w0 w f idle mo l) (hb:Below w.heap.size w w'):Stand w0 w' f idle mo l:=
 ⟨h.held.kept hb,below2 h.below hb,h.from',h.some,fun q hq=>⟨(h.box q hq).1.kept hb,(h.box q hq).2⟩⟩
theorem Stand.answer (h:Stand w0 w f idle mo l) (y:Ans):Stand w0 (w.alloc (.cells (ansC y) 39)) f idle mo ((w.heap.size,y) :: l):=by
 have h2:=h.more ((Below.refl _ w).alloc (Nat.le_refl _) (.cells (ansC y) 39))
 refine⟨h2.held,h2.below,h2.from',h2.some,fun q hq=>?_⟩
 rcases List.mem_cons.1 hq with rfl | hq
 ·have hl:=h.held.lt
  exact⟨World.alloc_heap_new w _,by show w.heap.size≠f.p; omega,by show w.heap.size≠f.g; omega⟩
 ·exact h2.box q hq
theorem Stand.less (h:Stand w0 w f idle mo l) {l':List (Nat × Ans)} (hl:∀ q ∈ l',q ∈ l):Stand w0 w f idle mo l':=⟨h.held,h.below,h.from',h.some,fun q hq=>h.box q (hl q hq)⟩
theorem step_len (mo:Mo) (o:Mod.Op):(step mo o).1.tables.length=mo.tables.length:=by
 unfold step Mod.doOp
 split
 ·split
  ·rfl
  ·simp
 ·split
  ·split <;> rfl
  ·split
   ·split
    ·simp
    ·rfl
   ·split <;> rfl
theorem Does.stand {r:Mo × Ans} {e:Ending} (h:Stand w0 w f idle mo l) (hd:Does f idle r w e w') (hr:r.1.tables.length=mo.tables.length):e=.returned (ansV r.2)∧Stand w0 w' f idle r.1 l:=
 ⟨hd.1,hd.2.1,hd.2.2.below h.below h.below.size fun k hk=>has_from h.from' k hk,h.from',by rw[hr]; exact h.some,fun q hq=>⟨(hd.2.2.rest q.1 (heap_lt (h.box q hq).1) (by rintro (e | e); exact (h.box q hq).2.1 e; exact (h.box q hq).2.2 e)).trans (h.box q hq).1,(h.box q hq).2⟩⟩
structure Apart (f f2:Foot):Prop where
 pp:f.p≠f2.p
 pg:f.p≠f2.g
 gp:f.g≠f2.p
 gg:f.g≠f2.g
theorem Held.over (h:Held w f idle mo) (h2:Held w f2 idle2 mo2) (ap:Apart f f2) (ht:Turned f2.has w w'):Held w' f idle mo:=by
 obtain⟨pa,pc,P,sc,m,rfl,hl⟩:=h
 obtain⟨pa2,pc2,P2,sc2,m2,rfl,hl2⟩:=h2
 have e:w'.heap[f.g]? =w.heap[f.g]? :=ht.rest f.g hl.row.lt (by rintro (e | e); exact ap.gp e; exact ap.gg e)
 have cell:∀ k,w'.cell? ⟨f.g,k,none⟩=w.cell? ⟨f.g,k,none⟩:=fun k=>World.cell?_of_block (w:=w) e
 exact⟨pa,pc,P,sc,m,rfl,(ht.rest f.p (heap_lt hl.box) (by rintro (e | e); exact ap.pp e; exact ap.pg e)).trans hl.box,row_turned hl.row e,fun k v hv=>hl.even k v (by rwa [cell] at hv),fun k v hv=>hl.odd k v (by rwa [cell] at hv),pol_turned ht hl.pool fun hn b off e=>hl2.pool_apart hl.pool hn b off e,hl.few,
  fun x hx=>⟨ht.lies (hl.good x hx).lies fun hn b off e=>hl2.tab_apart (hl.good x hx).lies hn b off e,(hl.good x hx).len,(hl.good x hx).keys,(hl.good x hx).small⟩,hl.many,hl.ne⟩
theorem Stand.over (h:Stand w0 w f idle mo l) (h2:Stand w0 w f2 idle2 mo2 l) (ap:Apart f f2) (ht:Turned f2.has w w'):Stand w0 w' f idle mo l:=
 ⟨h.held.over h2.held ap ht,ht.below h.below h.below.size fun k hk=>has_from h2.from' k hk,h.from',h.some,fun q hq=>⟨(ht.rest q.1 (heap_lt (h.box q hq).1) (by rintro (e | e); exact (h2.box q hq).2.1 e; exact (h2.box q hq).2.2 e)).trans (h.box q hq).1,(h.box q hq).2⟩⟩
end
theorem new_stand (cW:Int) (n:Nat) (cap:Nat) (idle cK:Int) (hc:okB ⟨cW,(n:Int),(cap:Int),idle,cK⟩=true) (h0:0<n) (hn:n≤16) (hcap:cap≤64) (w0 w:World) (hb:Below w0.heap.size w0 w):Calls Tryz.prog 13 #[cfgV ⟨cW,(n:Int),(cap:Int),idle,cK⟩] w fun e W'=>∃ f:Foot,e=.returned (.tuple #[f.v,.int .i64 0])∧Stand w0 W' f idle (Mod.new n cap) []:=
 (New_good cW n cap idle cK hc hn hcap w).mono fun _ _ ⟨f,he,hh,hf,hb'⟩=>⟨f,he,hh,below2 hb hb',⟨Nat.le_trans hb.size hf.1,Nat.le_trans hb.size hf.2⟩,by simp[Mod.new]; exact h0,fun q hq=>by cases hq⟩
section
variable {w0 w:World} {f:Foot} {idle:Int} {mo:Mo} {l:List (Nat × Ans)} (h:Stand w0 w f idle mo l)
include h
theorem do_stand (kd:Int) (pkt:ByteArray) (oa:Option Addr) (z:List Bk) (oc:Nat) (sh now:Int) (hz:Pol.Lies w oa oc z) (fl:Option (ByteArray × Bool)) (hF:FlowIs pkt fl):
 Calls Tryz.prog 17 #[f.v,opV kd pkt oa z.length oc sh,.int .i64 now] w fun e W'=>e=.returned (ansV (step mo (opOf kd fl z sh now idle)).2)∧Stand w0 W' f idle (step mo (opOf kd fl z sh now idle)).1 l∧Turned f.has w W':=
 (Do_told f idle mo w h.held h.some kd pkt oa z oc sh now hz fl hF).mono fun _ _ hd=>⟨(Does.stand h hd (step_len _ _)).1,(Does.stand h hd (step_len _ _)).2,hd.2.2⟩
theorem pool_stand:Calls Tryz.prog 20 #[f.v] w fun e W'=>∃ a c,e=.returned (polV a c mo.pool)∧Pol.Lies W' a c mo.pool∧Stand w0 W' f idle mo l∧Below w.heap.size w W':=
 (Pool_told f idle mo w h.held).mono fun _ _ ⟨_,he,⟨a,c,hv,hl⟩,hb⟩=>⟨a,c,by rw[he,hv],hl,h.more hb,hb⟩
theorem table_stand (i:Int):Calls Tryz.prog 22 #[f.v,.int .i64 i] w fun e W'=>∃ a c,e=.returned (rowV a c (tabAt mo i))∧Lies entK W' a c (tabAt mo i)∧Stand w0 W' f idle mo l∧Below w.heap.size w W':=
 (Table_told f idle mo i w h.held).mono fun _ _ ⟨_,he,⟨a,c,hv,hl⟩,hb⟩=>⟨a,c,by rw[he,hv],hl,h.more hb,hb⟩
end
end Go.Proofs.YtbamodkgagcmnaaGreat.Mdl
set_option maxRecDepth 100000
namespace Go.Proofs.YtbamodkgagcmnaaGreat.Mdl
open Go.RowKit Go.Shelf RowG Trn
open Pol (polV chk)
open Pts (ofL hsh)
open Rin (succL)
open Prb (home)
open Pkt (Tells outV noP pktV pktC keyV okP recS closes txV)
open Tab (ent0 live)
open Go.Proofs.YtbamodkgagcmnaaGreat.Mod (Bk Mo Cfg cfgV okB Ans ansV ansC AnsBox opV opC deals known)
attribute [local go_sem] Oper.semAt_some
def seven:List Bk:=[(7,1)]
theorem chk_seven:chk seven:=by
 refine⟨by decide,fun i x hi=>?_⟩
 match i,hi with
 | 0,hi=>
   simp[seven] at hi; subst hi
   exact⟨by decide,by decide,by decide,by decide,rfl⟩
 | (i+1),hi=>simp[seven] at hi
theorem good_seven:goodB seven=true:=(good_iff _).1 chk_seven
theorem pick_seven (k:ByteArray):pickK seven k=7:=by
 unfold pickK
 obtain⟨p,hp,e⟩:=Rin.succL_mem (Rin.ofL_none hsh chk_seven (by simp[seven])) (hashN k:Nat)
 rw[e]
 obtain⟨x,hx,e⟩:=Rin.ofL_mem hsh hp
 simp[seven] at hx
 rw[e,hx]
theorem one_find (k:ByteArray):Tab.find home [ent0] k=none:=Tab.find_none fun a ha h=>by
 simp at ha; subst ha
 have:=h.1
 simp[Tab.ent,ent0] at this
theorem one_put {T:List Tab.Ent} {k:ByteArray} {b d:Int} (hl:T.length=1) (h:Tab.find home T k≠none∨Tab.count 1 T<T.length):Tab.put home T k b d=some [live k b d]∧Tab.find home [live k b d] k=some 0:=by
 obtain⟨U,hU⟩:=Tab.put_room (home:=home) (be:=b) (dl:=d) h
 obtain⟨a,ha,e,hf,_⟩:=Tab.put_some hU
 obtain rfl:a=0:=by omega
 have:U=[live k b d]:=by
  rw[e]
  match T,hl with
  | [x],_=>rfl
 rw[hU,this]
 rw[this] at hf
 exact⟨rfl,hf⟩
def mo0:Mo:=⟨[],[[ent0]],[0]⟩
def mo1:Mo:=⟨seven,[[ent0]],[0]⟩
def mo2 (k:ByteArray) (d:Int):Mo:=⟨seven,[[live k 7 d]],[0]⟩
theorem shard_one (k:ByteArray):shardN k 1=0:=by unfold shardN; omega
section
variable (k:ByteArray)
theorem step_w1:step mo0 (opOf 0 (some (k,false)) [] 0 0 5)=(mo0,⟨11,0,false,0⟩):=by
 show ((⟨[],[[ent0]].set (shardN k 1) (deals home pickK ([[ent0]].getD (shardN k 1) []) [] k false 0 (IntKind.i64.wrap (0+5))).1,[0]⟩:Mo),(deals home pickK ([[ent0]].getD (shardN k 1) []) [] k false 0 (IntKind.i64.wrap (0+5))).2)=_
 rw[shard_one]
 show ((⟨[],[[ent0]].set 0 (deals home pickK [ent0] [] k false 0 (IntKind.i64.wrap (0+5))).1,[0]⟩:Mo),(deals home pickK [ent0] [] k false 0 (IntKind.i64.wrap (0+5))).2)=_
 have hk:known home [ent0] [] k 0=none:=by unfold known; rw[one_find]
 rw[Mod.deals_none hk rfl]; rfl
theorem step_w2:step mo0 (opOf 1 none seven 0 0 5)=(mo1,⟨0,0,false,0⟩):=by
 show (if goodB seven=true then _ else _)=_
 rw[if_pos good_seven]; rfl
theorem step_new {T:List Tab.Ent} (now d:Int) (hT:T.length=1) (hk:known home T seven k now=none) (hr:Tab.find home T k≠none∨Tab.count 1 T<T.length) (hd:IntKind.i64.wrap (now+5)=d):step ⟨seven,[T],[0]⟩ (opOf 0 (some (k,false)) [] 0 now 5)=(mo2 k d,⟨0,7,true,0⟩):=by
 show ((⟨seven,[T].set (shardN k 1) (deals home pickK ([T].getD (shardN k 1) []) seven k false now (IntKind.i64.wrap (now+5))).1,[0]⟩:Mo),(deals home pickK ([T].getD (shardN k 1) []) seven k false now (IntKind.i64.wrap (now+5))).2)=_
 rw[shard_one,hd]
 show ((⟨seven,[T].set 0 (deals home pickK T seven k false now d).1,[0]⟩:Mo),(deals home pickK T seven k false now d).2)=_
 rw[Mod.deals_put (U:=[live k 7 d]) (by simp[seven]) (by rw[hk]; show Tab.put home T k (pickK seven k) d=_; rw[pick_seven]; exact (one_put hT hr).1),hk]
 show ((⟨seven,[[live k 7 d]],[0]⟩:Mo),(⟨0,pickK seven k,true,0⟩:Ans))=_
 rw[pick_seven]; rfl
theorem step_w3:step mo1 (opOf 0 (some (k,false)) [] 0 0 5)=(mo2 k 5,⟨0,7,true,0⟩):=
 step_new k 0 5 rfl (by unfold known; rw[one_find]) (.inr (by decide)) (by decide)
theorem live_find (d:Int):Tab.find home [live k 7 d] k=some 0:=(one_put (T:=[ent0]) rfl (.inr (by decide))).2
theorem step_w4:step (mo2 k 5) (opOf 0 (some (k,false)) [] 0 5 5)=(mo2 k 10,⟨0,7,false,0⟩):=by
 show ((⟨seven,[[live k 7 5]].set (shardN k 1) (deals home pickK ([[live k 7 5]].getD (shardN k 1) []) seven k false 5 (IntKind.i64.wrap (5+5))).1,[0]⟩:Mo),(deals home pickK ([[live k 7 5]].getD (shardN k 1) []) seven k false 5 (IntKind.i64.wrap (5+5))).2)=_
 rw[shard_one]
 show ((⟨seven,[[live k 7 5]].set 0 (deals home pickK [live k 7 5] seven k false 5 10).1,[0]⟩:Mo),(deals home pickK [live k 7 5] seven k false 5 10).2)=_
 have hk:known home [live k 7 5] seven k 5=some 7:=Mod.known_yes (live_find k 5) (by show (5:Int)≤5; decide) rfl
 rw[Mod.deals_put (U:=[live k 7 10]) (by simp[seven]) (by rw[hk]; exact (one_put rfl (.inl (by rw[live_find]; simp))).1),hk]
 rfl
theorem step_w5:step (mo2 k 10) (opOf 0 (some (k,false)) [] 0 11 5)=(mo2 k 16,⟨0,7,true,0⟩):=
 step_new k 11 16 rfl (Mod.known_no (live_find k 10) fun e=>absurd e.1 (by show ¬ (11:Int)≤10; decide)) (.inl (by rw[live_find]; simp)) (by decide)
theorem step_w6:step (mo2 k 16) (opOf 3 none [] 0 11 5)=(mo2 k 16,⟨0,0,false,1⟩):=rfl
theorem step_w7:step (mo2 k 16) (opOf 0 none [] 0 0 5)=(mo2 k 16,⟨9,0,false,0⟩):=rfl
theorem step_w8:step (mo2 k 16) (opOf 9 none [] 0 0 5)=(mo2 k 16,⟨1,0,false,0⟩):=rfl
theorem tab_w0:tabAt (mo2 k 16) 0=[live k 7 16]:=rfl
theorem tab_w1:tabAt (mo2 k 16) 1=[]:=rfl
end
theorem okB_1:okB ⟨1,((1:Nat):Int),((1:Nat):Int),5,2⟩=true:=by decide
theorem okB_0:okB ⟨0,0,0,0,0⟩=false:=by decide
theorem flow_none:FlowIs ⟨#[]⟩ none:=⟨2,by decide,Pkt.Parse_empty ⟨#[]⟩ rfl⟩
theorem ok_pkt:okP 4 ⟨#[97,98,99,100]⟩ ⟨#[101,102,103,104]⟩ 1 2 17 0:=⟨.inl ⟨rfl,rfl,rfl⟩,.inr rfl,by omega,by omega,by omega,by omega,by omega⟩
theorem Parse_put0 (V:Int) (x y:ByteArray) (F T p f:Int) (h:okP V x y F T p f):Tells 128 #[.string (Pkt.putW V x y F T p f)] (outV V x y F T p f 0):=by
 have:=Pkt.Parse_put V x y F T p f h ⟨#[]⟩ (by decide)
 rwa [Txt.app_nil] at this
theorem flow_pkt:FlowIs (Pkt.putW 4 ⟨#[97,98,99,100]⟩ ⟨#[101,102,103,104]⟩ 1 2 17 0) (some (recS 4 ⟨#[97,98,99,100]⟩ ⟨#[101,102,103,104]⟩ 1 2 17,false)):=
 ⟨by rw[Pkt.recS_size]; omega,4,_,_,1,2,17,0,Parse_put0 _ _ _ _ _ _ _ ok_pkt,fun w=>Pkt.Bytes_yes _ _ _ _ _ _ (Pkt.okP_right ok_pkt) w,Pkt.Closing_is _ _ _ _ _ _ _⟩
theorem pkt_is:∃ s k,FlowIs s (some (k,false))∧Tells 40 #[pktV 4 ⟨#[97,98,99,100]⟩ ⟨#[101,102,103,104]⟩ 1 2 17 0] (txV s 0):=⟨_,_,flow_pkt,Pkt.Put_told _ _ _ _ _ _ _ ok_pkt⟩
theorem lies_one (W:World) (x:Bk):Pol.Lies (W.alloc (.cells #[.int .i64 x.1,.int .i64 x.2] 83)) (some ⟨W.heap.size,0,none⟩) 1 [x]:=
 ⟨by unfold maxLen; omega,Nat.le_refl _,fun _=>⟨W.heap.size,0,rfl,fun i y hi=>by
   match i,hi with
   | 0,hi=>simp at hi; subst hi; simp
   | (i+1),hi=>simp at hi⟩⟩
set_option maxHeartbeats 4000000 in
theorem works_any (w:World):Calls Tryz.prog 11 #[] w fun e W'=>e=.returned (.bool true)∧Below w.heap.size w W':=by
 obtain⟨⟨y0,y1,y2,y3,y4⟩,b0⟩:=cfg_cells w ⟨1,1,1,5,2⟩
 have C0:=Lib.hid (show Calls Tryz.prog 13 #[.agg #[.int .i64 1,.int .i64 1,.int .i64 1,.int .i64 5,.int .i64 2]] _ _ from new_stand 1 1 1 5 2 okB_1 (by decide) (by decide) (by decide) w _ b0)
 rw[show Mod.new 1 1=mo0 from rfl] at C0
 have C1:=Lib.hid (fun W=>New_bad ⟨0,0,0,0,0⟩ okB_0 W)
 obtain⟨s,k,hf,hp⟩:=pkt_is
 have CP:=Lib.hid hp
 have HF:=Lib.hid hf
 clear b0 hf hp
 go_enter Tryz.func11,Tryz.ntmps11
 go_wp2_with fail
 refine C0.out.mono ?_
 rintro e w1 ⟨f,rfl,S1⟩
 have C1':=Lib.hid (C1.out w1)
 clear C0 C1 y0 y1 y2 y3 y4
 go_wp2_with fail
 refine C1'.out.mono ?_
 rintro e w2 ⟨rfl,hb⟩
 have S2:=Lib.hid (S1.more hb)
 have CP':=Lib.hid (CP.out w2)
 clear C1' hb S1 CP
 go_wp2_with fail
 refine CP'.out.mono ?_
 rintro e w3 ⟨rfl,hb⟩
 have S3:=Lib.hid (S2.out.more hb)
 clear hb S2 CP'
 have D:=Lib.hid (do_stand S3.out 0 s none [] 0 0 0 (Pol.lies_nil _) (some (k,false)) HF.out)
 rw[step_w1 k] at D
 try rw[World.size_alloc] at D
 go_wp2_with fail
 refine D.out.mono ?_
 rintro e w4 ⟨rfl,hs,-⟩
 have S4:=Lib.hid (hs.answer ⟨11,0,false,0⟩)
 clear D S3 hs
 have bz:=(Below.refl (w4.alloc (.cells (ansC ⟨11,0,false,0⟩) 39)).heap.size (w4.alloc (.cells (ansC ⟨11,0,false,0⟩) 39))).alloc (Nat.le_refl _) (.cells #[.int .i64 7,.int .i64 1] 83)
 have D:=Lib.hid (do_stand (S4.out.more bz) 1 ⟨#[]⟩ _ seven 1 0 0 (lies_one _ (7,1)) none flow_none)
 clear bz
 rw[step_w2] at D
 try rw[World.size_alloc] at D
 go_wp2_with fail
 refine D.out.mono ?_
 rintro e w5 ⟨rfl,hs,-⟩
 have S5:=Lib.hid (hs.answer ⟨0,0,false,0⟩)
 clear D S4 hs
 have D:=Lib.hid (do_stand S5.out 0 s none [] 0 0 0 (Pol.lies_nil _) (some (k,false)) HF.out)
 rw[step_w3 k] at D
 try rw[World.size_alloc] at D
 go_wp2_with fail
 refine D.out.mono ?_
 rintro e w6 ⟨rfl,hs,-⟩
 have S6:=Lib.hid (hs.answer ⟨0,7,true,0⟩)
 clear D S5 hs
 have D:=Lib.hid (do_stand S6.out 0 s none [] 0 0 5 (Pol.lies_nil _) (some (k,false)) HF.out)
 rw[step_w4 k] at D
 try rw[World.size_alloc] at D
 go_wp2_with fail
 refine D.out.mono ?_
 rintro e w7 ⟨rfl,hs,-⟩
 have S7:=Lib.hid (hs.answer ⟨0,7,false,0⟩)
 clear D S6 hs
 have D:=Lib.hid (do_stand S7.out 0 s none [] 0 0 11 (Pol.lies_nil _) (some (k,false)) HF.out)
 rw[step_w5 k] at D
 try rw[World.size_alloc] at D
 go_wp2_with fail
 refine D.out.mono ?_
 rintro e w8 ⟨rfl,hs,-⟩
 have S8:=Lib.hid (hs.answer ⟨0,7,true,0⟩)
 clear D S7 hs
 have D:=Lib.hid (do_stand S8.out 3 ⟨#[]⟩ none [] 0 0 11 (Pol.lies_nil _) none flow_none)
 rw[step_w6 k] at D
 try rw[World.size_alloc] at D
 go_wp2_with fail
 refine D.out.mono ?_
 rintro e w9 ⟨rfl,hs,-⟩
 have S9:=Lib.hid (hs.answer ⟨0,0,false,1⟩)
 clear D S8 hs
 have HX:=Lib.hid S9.out
 obtain⟨⟨a0,a1,a2,a3⟩,-⟩:=(HX.out.box _ (List.mem_cons_self ..)).1.cells
 obtain⟨⟨b0,b1,b2,b3⟩,-⟩:=(HX.out.box _ (List.mem_cons_of_mem _ (List.mem_cons_self ..))).1.cells
 obtain⟨⟨c0,c1,c2,c3⟩,-⟩:=(HX.out.box _ (List.mem_cons_of_mem _ (List.mem_cons_of_mem _ (List.mem_cons_self ..)))).1.cells
 obtain⟨⟨d0,d1,d2,d3⟩,-⟩:=(HX.out.box _ (List.mem_cons_of_mem _ (List.mem_cons_of_mem _ (List.mem_cons_of_mem _ (List.mem_cons_self ..))))).1.cells
 obtain⟨⟨e0,e1,e2,e3⟩,-⟩:=(HX.out.box _ (List.mem_cons_of_mem _ (List.mem_cons_of_mem _ (List.mem_cons_of_mem _ (List.mem_cons_of_mem _ (List.mem_cons_self ..)))))).1.cells
 obtain⟨⟨f0,f1,f2,f3⟩,-⟩:=(HX.out.box _ (List.mem_cons_of_mem _ (List.mem_cons_of_mem _ (List.mem_cons_of_mem _ (List.mem_cons_of_mem _ (List.mem_cons_of_mem _ (List.mem_cons_self ..))))))).1.cells
 have P1:=Lib.hid (pool_stand HX.out)
 clear HX S9
 go_wp2_with fail
 refine P1.out.mono ?_
 rintro e w10 ⟨a,c,rfl,-,hs,-⟩
 have P2:=Lib.hid (table_stand hs 0)
 rw[tab_w0] at P2
 clear P1 hs
 go_wp2_with fail
 refine P2.out.mono ?_
 rintro e w11 ⟨a1,c1,rfl,-,hs,-⟩
 have P3:=Lib.hid (table_stand hs 1)
 rw[tab_w1] at P3
 clear P2 hs
 go_wp2_with fail
 refine P3.out.mono ?_
 rintro e w12 ⟨a2,c2,rfl,-,hs,-⟩
 have D7:=Lib.hid (do_stand hs 0 ⟨#[]⟩ none [] 0 0 0 (Pol.lies_nil _) none flow_none)
 rw[step_w7] at D7
 clear P3 hs
 go_wp2_with fail
 refine D7.out.mono ?_
 rintro e w13 ⟨rfl,hs,-⟩
 have D8:=Lib.hid (do_stand hs 9 ⟨#[]⟩ none [] 0 0 0 (Pol.lies_nil _) none flow_none)
 rw[step_w8] at D8
 have F7:=fun W=>(show (Instr.field 39 (ansV ⟨9,0,false,0⟩) 0).run Tryz.prog W=.ok (.int .i64 9) W by kernel_rfl)
 clear D7 hs
 go_wp2_with fail
 refine D8.out.mono ?_
 rintro e w14 ⟨rfl,hs,-⟩
 have F8:=fun W=>(show (Instr.field 39 (ansV ⟨1,0,false,0⟩) 0).run Tryz.prog W=.ok (.int .i64 1) W by kernel_rfl)
 have B:=Lib.hid hs.below
 clear D8 hs
 go_wp2_with fail
 go_ret
 exact⟨rfl,B.out⟩
end Go.Proofs.YtbamodkgagcmnaaGreat.Mdl
