/-
  The document's Read and Do (package gangplankref17), whatever the operation, as the plain model does.
-/
import Derived.Test.YtbamodkgagcmnaaGreatMdlUE
import Derived.Test.YtbamodkgagcmnaaGreatMdlRE
import Derived.Test.YtbamodkgagcmnaaGreatModME
import Derived.Test.YtbamodkgagcmnaaGreatPktMsE
import Derived.Test.YtbamodkgagcmnaaGreatBPkrE
import Derived.Test.YtbamodkgagcmnaaGreatSwpCE
import Derived.Test.YtbamodkgagcmnaaGreatBPrfE
set_option maxRecDepth 100000
namespace Go.Proofs.YtbamodkgagcmnaaGreat.Mdl
open Go.RowKit Go.Shelf RowG Trn
open Pol (polV chk chkV)
open Pkt (Tells outV noP pktV pktC keyV okP recS closes)
open Prb (home)
open Tab (Ent)
open Go.Proofs.YtbamodkgagcmnaaGreat.Mod (Bk Mo Ans ansV ansC Cfg cfgV deals hasId shardZ MoIs ModIs Done moV opV opC From bkM flowV TabM)
attribute [local go_sem] Oper.semAt_some
def RefFlow (s:ByteArray):Option (ByteArray × Bool)→Prop
 | none=>∃ e,e≠0∧Tells 87 #[.string s] (noP e)
 | some (k,c)=>k.size≤38∧∃ (V:Int) (x y:ByteArray) (F T p f:Int),Tells 87 #[.string s] (outV V x y F T p f 0)∧Tells 88 #[keyV V x y F T p] (.tuple #[.string k,.bool true])∧Tells 89 #[pktV V x y F T p f] (.bool c)
theorem flow_both (s:ByteArray) (hs:s.size≤1099511627776):∃ fl,FlowIs s fl∧RefFlow s fl:=by
 obtain⟨V,x,y,F,T,p,f,e,h1,h2,h3⟩:=Pkt.Parse_spec s hs
 rcases h3 with⟨he,rfl,rfl,rfl,rfl,rfl,rfl,rfl⟩ | ⟨rfl,hok,-⟩
 ·exact⟨none,⟨e,he,h1⟩,⟨e,he,h2⟩⟩
 ·have hk:(recS V x y F T p).size≤38:=by rw[Pkt.recS_size]; omega
  exact⟨some (recS V x y F T p,closes p f),⟨hk,V,x,y,F,T,p,f,h1,fun w=>Pkt.Bytes_yes _ _ _ _ _ _ (Pkt.okP_right hok) w,Pkt.Closing_is _ _ _ _ _ _ _⟩,⟨hk,V,x,y,F,T,p,f,h2,Pkt.refBytes_yes _ _ _ _ _ _ (Pkt.okP_right hok),Pkt.refClosing_any _ _ _ _ _ _ _⟩⟩
theorem flows_both:∃ g:ByteArray→Option (ByteArray × Bool),∀ s,s.size≤1099511627776→FlowIs s (g s)∧RefFlow s (g s):=
 (Classical.skolem (p:=fun (s:ByteArray) (fl:Option (ByteArray × Bool))=>s.size≤1099511627776→FlowIs s fl∧RefFlow s fl)).1 fun (s:ByteArray)=>by
   by_cases h:s.size≤1099511627776
   ·obtain⟨fl,hf⟩:=flow_both s h
    exact⟨fl,fun _=>hf⟩
   ·exact⟨none,fun h'=>absurd h' h⟩
theorem refread_none {s:ByteArray} (hF:RefFlow s none) (n:Int) (w:World):Calls Tryz.prog 47 #[.string s,.int .i64 n] w fun e W'=>e=.returned (flowV ⟨#[]⟩ 0 false 9)∧Below w.heap.size w W':=by
 obtain⟨e,he,hP⟩:=hF
 exact Mod.refRead_bad s n w 0 ⟨#[]⟩ ⟨#[]⟩ 0 0 0 0 e he hP
theorem refread_some {s k:ByteArray} {c:Bool} (hF:RefFlow s (some (k,c))) (n:Nat) (hn:0<n) (h16:n≤16) (w:World):Calls Tryz.prog 47 #[.string s,.int .i64 (n:Int)] w fun e W'=>e=.returned (flowV k (shardN k n:Nat) c 0)∧Below w.heap.size w W':=by
 obtain⟨hk,V,x,y,F,T,p,f,hP,hB,hC⟩:=hF
 have hwf:(Lit.int .i64 (n:Int)).wf=true:=by
  simp[Lit.wf,IntKind.min,IntKind.max,IntKind.signed,IntKind.bits]; omega
 refine Mod.refRead_good s (n:Int) w V x y F T p f k true c _ hP hB hC (fun W=>?_)
 rw[← shard_n k hn]
 exact refshard_told k (n:Int) hwf W (by omega)
theorem lies_pol {W:World} {a:Option Addr} {c:Nat} {z:List (Int × Int)} (h:Pol.Lies W a c z):RowG.Lies bkM W a c z:=
 ⟨h.max,h.len,fun hn=>by
   obtain⟨b,off,e,hc⟩:=h.cell hn
   refine⟨b,off,e,fun i x hi j u hj=>?_⟩
   obtain⟨c0,c1⟩:=hc i x hi
   match j,hj with
   | 0,hj=>simp[bkM] at hj; subst hj; exact c0
   | 1,hj=>simp[bkM] at hj; subst hj; exact c1
   | (j+2),hj=>simp[bkM] at hj⟩
theorem pol_bkM {W:World} {a:Option Addr} {c:Nat} {z:List (Int × Int)} (h:RowG.Lies bkM W a c z):Pol.Lies W a c z:=
 ⟨h.max,h.len,fun hn=>by
   obtain⟨b,off,e,hc⟩:=h.cell hn
   exact⟨b,off,e,fun i x hi=>⟨hc i x hi 0 _ rfl,hc i x hi 1 _ rfl⟩⟩⟩
theorem total_bound {b:Nat}:∀ l:List (List Ent),(∀ T ∈ l,T.length≤b)→Mod.total l≤b * l.length:=by
 intro ts
 induction ts with
 | nil=>intro _; simp[Mod.total]
 | cons T ts ih=>
   intro hT
   have h1:=ih fun U hU=>hT U (List.mem_cons_of_mem _ hU)
   have h2:=Tab.count_le 1 T
   have h3:=hT T (List.mem_cons_self ..)
   unfold Mod.total at h1 ⊢
   simp only[List.map_cons,List.sum_cons,List.length_cons]
   rw[Nat.mul_add,Nat.mul_one]; omega
section
variable {B:Nat→Prop} {c:Cfg} {mo:Mo} {w:World} {n cap:Nat}
theorem refDo_told {v:Value} (hv:MoIs B w v c mo) (hB:∀ k,w.heap.size≤k→B k) (hI:Mod.Inv home shardN goodB n cap mo) (hn:0<n) (h16:n≤16) (h64:cap≤64) (hS:c.S=(n:Int)) (hK:∀ T ∈ mo.tables,Flo.Short 60 T)
 (kd:Int) (pkt:ByteArray) (oa:Option Addr) (z:List Bk) (oc:Nat) (sh now:Int) (hz:Pol.Lies w oa oc z) (hO:z≠[]→From B oa) {fl:Option (ByteArray × Bool)} (hF:RefFlow pkt fl):
 Calls Tryz.prog 18 #[v,opV kd pkt oa z.length oc sh,.int .i64 now] w (Done B c (step mo (opOf kd fl z sh now c.idle)) w):=by
 obtain⟨pa,pc,ta,tc,ts,la,lc,rfl,h⟩:=hv
 have hlen:ts.length=n:=by rw[← hI.len,← h.tabs,List.length_map]
 have hpl:=hI.places
 have hp32:=good_few hI.pool
 have hcap:∀ x ∈ ts,x.T.length=cap:=fun x hx=>hI.cap x.T (by rw[← h.tabs]; exact List.mem_map_of_mem hx)
 have hsh:∀ x ∈ ts,Flo.Short 60 x.T:=fun x hx=>hK x.T (by rw[← h.tabs]; exact List.mem_map_of_mem hx)
 have hgd:∀ {k:Nat} (hk:k<ts.length),mo.tables.getD k []=ts[k].T:=fun {k} hk=>by
  rw[List.getD_eq_getElem?_getD,← h.tabs,List.getElem?_map,List.getElem?_eq_getElem hk]; rfl
 unfold step Mod.doOp
 by_cases k0:kd=0
 ·subst k0
  rw[if_pos rfl]
  cases fl with
  | none=>exact Mod.do_malformed c mo pa pc ta tc ts la lc w h pkt oa z.length oc sh now fun W=>refread_none hF _ W
  | some kc=>
    obtain⟨k,cl⟩:=kc
    have hk38:k.size≤38:=hF.1
    have hii:shardN k n<ts.length:=by rw[hlen]; exact shardN_lt k hn
    show Calls _ _ _ _ (Done B c (⟨mo.pool,mo.tables.set (shardN k mo.tables.length) (deals home pickK (mo.tables.getD (shardN k mo.tables.length) []) mo.pool k cl now (IntKind.i64.wrap (now+c.idle))).1,mo.places⟩,(deals home pickK (mo.tables.getD (shardN k mo.tables.length) []) mo.pool k cl now (IntKind.i64.wrap (now+c.idle))).2) w)
    rw[hI.len,hgd hii]
    have hR:∀ W,Calls Tryz.prog 47 #[.string pkt,.int .i64 c.S] W fun e W'=>e=.returned (flowV k (shardN k n:Nat) cl 0)∧Below W.heap.size W W':=fun W=>by
     rw[hS]; exact refread_some hF n hn h16 W
    refine Mod.do_packet c mo pa pc ta tc ts la lc w h pkt oa z.length oc sh now k cl (shardN k n) hii (by omega) hB _ _ hR fun W hb=>?_
    have hm:=List.getElem_mem hii
    exact (refdecide_told cl now c.idle ((h.each _ hm).kept hb) (pol_bkM (h.pool.kept hb)) (by omega) (hsh _ hm) (by have:=hcap _ hm; omega) (by omega)).mono fun e W' ⟨ua,uc,he,hu,hb'⟩=>⟨_,he,⟨ua,uc,rfl,hu⟩,hb'⟩
 rw[if_neg k0]
 by_cases k1:kd=1
 ·subst k1
  rw[if_pos rfl]
  cases hg:goodB z with
  | true=>
    rw[if_pos rfl]
    exact Mod.do_update_good c mo pa pc ta tc ts la lc w h pkt oa oc sh now z (lies_pol hz) hO fun W hb=>Pol.refCheck_yes oa oc z ((good_iff z).2 hg) W (hz.kept hb)
  | false=>
    rw[if_neg (by decide)]
    exact Mod.do_update_bad c mo pa pc ta tc ts la lc w h pkt oa oc sh now z (lies_pol hz) fun W hb=>Pol.refCheck_no oa oc z (fun hc=>by rw[(good_iff z).1 hc] at hg; cases hg) W (hz.kept hb)
 rw[if_neg k1]
 by_cases k2:kd=2
 ·subst k2
  rw[if_pos rfl]
  by_cases hi:0≤sh∧sh<(mo.tables.length:Int)
  ·rw[if_pos hi]
   have hi2:=hi.2
   rw[hI.len] at hi2
   obtain⟨k,rfl⟩:=Int.eq_ofNat_of_zero_le hi.1
   have hk:k<ts.length:=by omega
   have hkp:k<mo.places.length:=by omega
   simp only[Int.toNat_natCast]
   have hm:=List.getElem_mem hk
   have hgp:mo.places.getD k 0=mo.places[k]:=by rw[List.getD_eq_getElem?_getD,List.getElem?_eq_getElem hkp]; rfl
   rw[hgd hk,hgp]
   have hc64:=hcap _ hm
   refine Mod.do_expire_good c mo pa pc ta tc ts la lc w h pkt oa z.length oc now k (by rw[hS,hlen]) hk hkp (by omega) (by omega) hB _ _ _ fun W hb=>?_
   refine (Swp.refStep_any ts[k].p ts[k].c ts[k].T ((mo.places[k]:Nat):Int) 4 now W ((h.each _ hm).kept hb) (fun x hx=>by have:=hsh _ hm x hx; omega) (by omega)).mono fun e W' ⟨u,he,hu,hb'⟩=>⟨u,he,?_,hb'⟩
   rw[← Swp.stepC_stepT (by omega)]
   exact tab_gives hu
  ·rw[if_neg hi]
   rw[hI.len] at hi
   by_cases hneg:sh<0
   ·exact Mod.do_expire_low c mo pa pc ta tc ts la lc w h pkt oa z.length oc sh now hneg
   ·exact Mod.do_expire_high c mo pa pc ta tc ts la lc w h pkt oa z.length oc sh now hneg (by rw[hS]; omega)
 rw[if_neg k2]
 by_cases k3:kd=3
 ·subst k3
  rw[if_pos rfl]
  refine Mod.do_stats c mo pa pc ta tc ts la lc w h pkt oa z.length oc sh now (fun k=>?_) fun x hx W hl=>?_
  ·have:=total_bound (b:=64) ((ts.take k).map TabM.T) fun T hT=>by
    obtain⟨x,hx,rfl⟩:=List.mem_map.1 hT
    have:=hcap x (List.mem_of_mem_take hx); omega
   have hl:((ts.take k).map TabM.T).length≤16:=by rw[List.length_map,List.length_take]; omega
   omega
  ·have hk:=hsh x hx
   have hc:=hcap x hx
   exact (Prb.refCount_any x.p x.c x.T 1 W hl).mono fun e W' ⟨h1,h2⟩=>⟨h1,h2.symm⟩
 rw[if_neg k3]
 exact Mod.do_other c mo pa pc ta tc ts la lc w h pkt oa z.length oc sh now kd k0 k1 k2 k3
end
end Go.Proofs.YtbamodkgagcmnaaGreat.Mdl
