/-
  The document's Do (package gangplankref17), given what its callees tell: Expire of a shard that there is.
-/
import Derived.Test.YtbamodkgagcmnaaGreatTxtE
import Derived.Deep.RegionHeld3
import Derived.BigRegion
import Derived.Test.YtbamodkgagcmnaaGreatRgnNE
set_option maxRecDepth 100000
namespace Go.Proofs.YtbamodkgagcmnaaGreat.Mod
open Go.RowKit Go.Shelf Go.WideShapes RowG Trn
attribute [local go_sem] Oper.semAt_some
theorem mod_turned (W:World) (g:Nat) (c:Cfg) (pv tv lv:Value):Turned (fun k=>k=g) W (putMod W g c pv tv lv):=((((((((Turned.refl (fun k=>k=g) W).setCell (a:=⟨g,0,none⟩) rfl _).setCell (a:=⟨g,1,none⟩) rfl _).setCell (a:=⟨g,2,none⟩) rfl _).setCell (a:=⟨g,3,none⟩) rfl _).setCell (a:=⟨g,4,none⟩) rfl _).setCell (a:=⟨g,5,none⟩) rfl _).setCell (a:=⟨g,6,none⟩) rfl _).setCell (a:=⟨g,7,none⟩) rfl _
theorem mod_apart {W:World} {g:Nat} {c:Cfg} {pa ta la:Option Addr} {pn pc tn tc ln lc:Nat} (h:ModBox W g c (sl pa pn pc) (sl ta tn tc) (sl la ln lc)) {a:Option Addr} {cap:Nat} {T:List Tab.Ent} (hl:Lies entK W a cap T) (hn:T≠[]) (b off:Nat) (e:a=some ⟨b,off,none⟩):b≠g:=by
 intro hb
 obtain⟨b',off',e',hc⟩:=hl.cell hn
 rw[e] at e'; cases e'
 subst hb
 cases T with
 | nil=>exact hn rfl
 | cons y T=>
   have c1:=hc 0 y rfl 1 _ rfl
   unfold ModBox at h
   simp[World.cell?,h] at c1
   match off,c1 with
   | 0,c1=>simp at c1
   | 1,c1=>simp at c1
   | 2,c1=>simp at c1
   | 3,c1=>simp at c1
   | 4,c1=>simp at c1
   | 5,c1=>simp at c1
   | 6,c1=>simp at c1
   | (n+7),c1=>simp at c1
theorem mod_apart' {W:World} {g:Nat} {c:Cfg} {pv tv lv:Value} (h:ModBox W g c pv tv lv) (h1:pv=sl none 0 0) (h2:tv=sl none 0 0) (h3:lv=sl none 0 0) {a:Option Addr} {cap:Nat} {T:List Tab.Ent} (hl:Lies entK W a cap T) (hn:T≠[]) (b off:Nat) (e:a=some ⟨b,off,none⟩):b≠g:=by
 subst h1 h2 h3; exact mod_apart h hl hn b off e
theorem ans_rest (W:World) (g:Nat) (y:Ans) (k:Nat) (hk:k≠g):(putAns W g y).heap[k]? =W.heap[k]? :=by
 by_cases hl:k<W.heap.size
 ·exact (putAns_turned W g y).rest k hl hk
 ·have e:(putAns W g y).heap.size=W.heap.size:=by simp[putAns,World.setCell]
  rw[Array.getElem?_eq_none (by omega),Array.getElem?_eq_none (by omega)]
theorem both_rest (W:World) (g:Nat) (c:Cfg) (pv tv lv:Value) (y:Ans) (k:Nat) (h1:k≠g+2) (h2:k≠g+3):(putBoth W g c pv tv lv y).heap[k]? =W.heap[k]? :=(ans_rest _ _ y k h2).trans (mod_rest W (g+2) c pv tv lv k h1)
theorem exp_end {W:World} {g:Nat} {c c':Cfg} {pv tv lv pv' tv' lv':Value} {x y:Ans} {av:Option Addr} {cv:Nat} {T:List Tab.Ent} {ta:Option Addr} {tc:Nat} {us:List TabM} {gp cap:Nat} {PL:List Int}
 (hr:ModBox W (g+2) c' pv' tv' lv') (ha:AnsBox W (g+3) x) (hv:Lies entK W av cv T) (ho:RowG.Own tabK 50 (g+4) W (rowV ta tc us) us) (hp:Row numK 3 W gp cap PL) (hg:g+4≤gp)
 (hsl:pv'=sl none 0 0∧tv'=sl none 0 0∧lv'=sl none 0 0):
 Lies tabK (putBoth W g c pv tv lv y) ta tc us∧Lies entK (putBoth W g c pv tv lv y) av cv T∧Lies numK (putBoth W g c pv tv lv y) (some ⟨gp,0,none⟩) cap PL:=by
 refine⟨?_,?_,?_⟩
 ·have h:=own_same (W':=putBoth W g c pv tv lv y) ho fun q hq=>by
   rcases ho.2 with⟨e,_⟩ | ⟨q',cap',cur,e,hb',_⟩
   ·rw[e] at hq; cases hq
   ·rw[e] at hq
    obtain rfl:q'=q:=by simpa [Value.ownBlock] using hq
    exact both_rest W g c pv tv lv y q' (by omega) (by omega)
  obtain⟨a,cap',e,hl⟩:=h.lies
  simp only[rowV,Value.slice.injEq] at e
  obtain⟨rfl,-,rfl⟩:=e
  exact hl
 ·have h1:Lies entK (putMod W (g+2) c pv tv lv) av cv T:=(mod_turned W (g+2) c pv tv lv).lies hv fun hn b off e=>mod_apart' hr hsl.1 hsl.2.1 hsl.2.2 hv hn b off e
  have h2:AnsBox (putMod W (g+2) c pv tv lv) (g+3) x:=(mod_rest W (g+2) c pv tv lv (g+3) (by omega)).trans ha
  exact (putAns_turned (putMod W (g+2) c pv tv lv) (g+3) y).lies h1 fun hn b off e=>tab_apart h2 h1 hn b off e
 ·exact (row_turned hp (both_rest W g c pv tv lv y gp (by omega) (by omega))).lies
theorem own_from {α:Type} {K:Kind α} {T:TypeId} {B:Nat→Prop} {B0:Nat} {W:World} {a:Option Addr} {cap:Nat} {xs:List α} (hB:∀ k,B0≤k→B k) (h:RowG.Own K T B0 W (rowV a cap xs) xs):From B a:=by
 intro q hq
 rcases h.2 with⟨e,-⟩ | ⟨g,cap',cur,e,hb,-⟩
 ·rw[hq] at e; cases e
 ·rw[hq] at e; cases e; exact hB _ hb
theorem Boxes.drew {w W:World} {g:Nat} {c:Cfg} {pv tv lv:Value} {kind:Int} {pkt:ByteArray} {oa:Option Addr} {on oc:Nat} {shard:Int} (h:Boxes w W g c pv tv lv kind pkt oa on oc shard):Boxes w W.drew g c pv tv lv kind pkt oa on oc shard:=⟨h.mod,h.op,h.res,h.ans,h.below.drew,h.size,h.at'⟩
theorem info_num:(Tryz.prog.info? 3).map (fun i=>(i.zero,i.size,i.bytes))=some (some (.int .i64 0),numK.c,8):=by kernel_rfl
theorem exp_keep {w W W':World} {g k:Nat} {c:Cfg} {pv:Value} {b off tc:Nat} {ts:List TabM} {b2 off2 n lc:Nat} {x:TabM} {pl:Int} (s:Below w.heap.size w W∧W.cell? ⟨g,0,none⟩=some (.int .i64 c.W)∧W.cell? ⟨g,1,none⟩=some (.int .i64 c.S)∧W.cell? ⟨g,2,none⟩=some (.int .i64 c.cap)∧W.cell? ⟨g,3,none⟩=some (.int .i64 c.idle)∧W.cell? ⟨g,4,none⟩=some (.int .i64 c.K)∧W.cell? ⟨g,5,none⟩=some (pv)∧W.cell? ⟨g,6,none⟩=some (rowV (some ⟨b,off,none⟩) tc ts)∧W.cell? ⟨g,7,none⟩=some (.slice (some ⟨b2,off2,none⟩) n lc)∧W.cell? ⟨g+1,3,none⟩=some (.int .i64 (k:Nat))∧W.cell? ⟨b,off+k,none⟩=some (tabV x)∧W.cell? ⟨b2,off2+k,none⟩=some (.int .i64 pl)) (hb:Below W.heap.size W W'):
 Below w.heap.size w W'∧W'.cell? ⟨g,0,none⟩=some (.int .i64 c.W)∧W'.cell? ⟨g,1,none⟩=some (.int .i64 c.S)∧W'.cell? ⟨g,2,none⟩=some (.int .i64 c.cap)∧W'.cell? ⟨g,3,none⟩=some (.int .i64 c.idle)∧W'.cell? ⟨g,4,none⟩=some (.int .i64 c.K)∧W'.cell? ⟨g,5,none⟩=some (pv)∧W'.cell? ⟨g,6,none⟩=some (rowV (some ⟨b,off,none⟩) tc ts)∧W'.cell? ⟨g,7,none⟩=some (.slice (some ⟨b2,off2,none⟩) n lc)∧W'.cell? ⟨g+1,3,none⟩=some (.int .i64 (k:Nat))∧W'.cell? ⟨b,off+k,none⟩=some (tabV x)∧W'.cell? ⟨b2,off2+k,none⟩=some (.int .i64 pl):=by
 obtain⟨h0,h1,h2,h3,h4,h5,h6,h7,h8,h9,h10,h11⟩:=s
 exact⟨below2 h0 hb,(hb.cell (World.block_lt_of_cell? _ _ h1)).trans h1,(hb.cell (World.block_lt_of_cell? _ _ h2)).trans h2,(hb.cell (World.block_lt_of_cell? _ _ h3)).trans h3,(hb.cell (World.block_lt_of_cell? _ _ h4)).trans h4,(hb.cell (World.block_lt_of_cell? _ _ h5)).trans h5,(hb.cell (World.block_lt_of_cell? _ _ h6)).trans h6,(hb.cell (World.block_lt_of_cell? _ _ h7)).trans h7,(hb.cell (World.block_lt_of_cell? _ _ h8)).trans h8,(hb.cell (World.block_lt_of_cell? _ _ h9)).trans h9,(hb.cell (World.block_lt_of_cell? _ _ h10)).trans h10,(hb.cell (World.block_lt_of_cell? _ _ h11)).trans h11⟩
section
variable {B:Nat→Prop} (c:Cfg) (m:Mo) (pa:Option Addr) (pc:Nat) (ta:Option Addr) (tc:Nat) (ts:List TabM) (la:Option Addr) (lc:Nat) (w:World)
set_option maxRecDepth 100000 in
set_option maxHeartbeats 4000000 in
theorem do_expire_good (h:ModIs B w c m pa pc ta tc ts la lc) (pkt:ByteArray) (oa:Option Addr) (on oc:Nat) (now:Int) (k:Nat) (hS:c.S=(ts.length:Int)) (hk:k<ts.length) (hkp:k<m.places.length) (hl:ts.length≤1000000) (hl2:m.places.length≤1000000) (hB:∀ k,w.heap.size≤k→B k) (T':List Tab.Ent) (nx due:Nat)
 (hSt:∀ W,Below w.heap.size w W→Calls Tryz.prog 50 #[tabV ts[k],.int .i64 ((m.places[k]:Nat):Int),.int .i64 4,.int .i64 now] W fun e W'=>∃ v,e=.returned (.tuple #[v,.int .i64 (nx:Nat),.int .i64 (due:Nat)])∧TabIs W' v T'∧Below W.heap.size W W'):
 Calls Tryz.prog 18 #[moV c m pa pc ta tc ts la lc,opV 2 pkt oa on oc (k:Nat),.int .i64 now] w (Done B c (⟨m.pool,m.tables.set k T',m.places.set k nx⟩,⟨0,0,false,(due:Nat)⟩) w):=by
 obtain⟨PL,hPL⟩:∃ PL:List Int,(m.places.map fun (q:Nat)=>(q:Int))=PL:=⟨_,rfl⟩
 have hlen:m.places.length=PL.length:=by rw[← hPL,List.length_map]
 have hpk:PL[k]? =some ((m.places[k]:Nat):Int):=by rw[← hPL,List.getElem?_map,List.getElem?_eq_getElem hkp]; rfl
 have HPS:=Lib.hid (show (m.places.set k nx).map (fun (q:Nat)=>(q:Int))=PL.set k (nx:Int) by rw[← hPL,List.map_set])
 have HLS:=Lib.hid (show (m.places.set k nx).length=PL.length by rw[List.length_set,hlen])
 have HTS:=Lib.hid (show ∀ y:TabM,y.T=T'→(setZ ts (k:Int) y).map TabM.T=m.tables.set k T' from fun y hy=>by
  unfold setZ
  rw[if_pos (by omega),Int.toNat_natCast,List.map_set,h.tabs,hy])
 have HM:=Lib.hid h
 have HBB:=Lib.hid hB
 have hpl2:=h.places
 rw[hPL] at hpl2
 have hbx:=new_boxes w c (sl pa m.pool.length pc) (rowV ta tc ts) (sl la m.places.length lc) 2 pkt oa on oc (k:Int) rfl
 have hk2:k<PL.length:=by rw[← hlen]; exact hkp
 have hpv:PL[k]=((m.places[k]:Nat):Int):=by
  rw[List.getElem?_eq_getElem hk2] at hpk; exact Option.some.inj hpk
 obtain⟨b,off,rfl,q0⟩:=tab_cell (h.row.kept hbx.below) hk
 obtain⟨b2,off2,rfl,p0⟩:=(hpl2.kept hbx.below).num hk2
 rw[hpv] at p0
 show Calls Tryz.prog 18 #[modV c (sl pa m.pool.length pc) (rowV (some ⟨b,off,none⟩) tc ts) (sl (some ⟨b2,off2,none⟩) m.places.length lc),opV 2 pkt oa on oc (k:Nat),.int .i64 now] w _
 rw[hlen] at hbx q0 p0 ⊢
 have d0:decide ((k:Int)<0)=false:=decide_eq_false (by omega)
 have d1:decide (c.S≤(k:Int))=false:=decide_eq_false (by omega)
 have hmx:=h.row.max
 have hln:=h.row.len
 have hpm:=hpl2.max
 have hpn:=hpl2.len
 unfold maxLen at hmx hpm
 have CT:=Lib.hid hSt
 have HPL:=Lib.hid hpl2
 have LPL:=Lib.hid (show PL.length≤1000000 by omega)
 generalize hpx:((m.places[k]:Nat):Int)=pl at *
 generalize hxx:ts[k]=x at *
 clear hS hpk hpv hSt hpl2 hpx hxx hPL hlen hl2 h hB
 go_enter Tryz.func18,Tryz.ntmps18
 go_wp2_with fail
 generalize hW0:(((w.alloc (.cells (modC c (sl pa m.pool.length pc) (rowV (some ⟨b,off,none⟩) tc ts) (sl (some ⟨b2,off2,none⟩) PL.length lc)) 36)).alloc (.cells (opC 2 pkt oa on oc (k:Int)) 42)).alloc (.cells (modC ⟨0,0,0,0,0⟩ (sl none 0 0) (sl none 0 0) (sl none 0 0)) 36)).alloc (.cells (ansC ⟨0,0,false,0⟩) 39)=W0 at *
 clear hW0
 have HX:=Lib.hid hbx
 have CS:=Lib.hid (CT.out _ HX.out.below.drew)
 obtain⟨⟨x0,x1,x2,x3,x4,x5,x6,x7⟩,-⟩:=HX.out.mod.cells
 obtain⟨o0,o1,o2,o3⟩:=HX.out.op.cells
 have SH:Below w.heap.size w W0.drew∧W0.drew.cell? ⟨w.heap.size,0,none⟩=some (.int .i64 c.W)∧W0.drew.cell? ⟨w.heap.size,1,none⟩=some (.int .i64 c.S)∧W0.drew.cell? ⟨w.heap.size,2,none⟩=some (.int .i64 c.cap)∧W0.drew.cell? ⟨w.heap.size,3,none⟩=some (.int .i64 c.idle)∧W0.drew.cell? ⟨w.heap.size,4,none⟩=some (.int .i64 c.K)∧W0.drew.cell? ⟨w.heap.size,5,none⟩=some (sl pa m.pool.length pc)∧W0.drew.cell? ⟨w.heap.size,6,none⟩=some (rowV (some ⟨b,off,none⟩) tc ts)∧W0.drew.cell? ⟨w.heap.size,7,none⟩=some (.slice (some ⟨b2,off2,none⟩) PL.length lc)∧W0.drew.cell? ⟨w.heap.size+1,3,none⟩=some (.int .i64 (k:Nat))∧W0.drew.cell? ⟨b,off+k,none⟩=some (tabV x)∧W0.drew.cell? ⟨b2,off2+k,none⟩=some (.int .i64 pl):=⟨HX.out.below.drew,x0,x1,x2,x3,x4,x5,x6,x7,o3,q0,p0⟩
 clear hbx CT
 go_region_held3 (fun W=>Below w.heap.size w W∧W.cell? ⟨w.heap.size,0,none⟩=some (.int .i64 c.W)∧W.cell? ⟨w.heap.size,1,none⟩=some (.int .i64 c.S)∧W.cell? ⟨w.heap.size,2,none⟩=some (.int .i64 c.cap)∧W.cell? ⟨w.heap.size,3,none⟩=some (.int .i64 c.idle)∧W.cell? ⟨w.heap.size,4,none⟩=some (.int .i64 c.K)∧W.cell? ⟨w.heap.size,5,none⟩=some (sl pa m.pool.length pc)∧W.cell? ⟨w.heap.size,6,none⟩=some (rowV (some ⟨b,off,none⟩) tc ts)∧W.cell? ⟨w.heap.size,7,none⟩=some (.slice (some ⟨b2,off2,none⟩) PL.length lc)∧W.cell? ⟨w.heap.size+1,3,none⟩=some (.int .i64 (k:Nat))∧W.cell? ⟨b,off+k,none⟩=some (tabV x)∧W.cell? ⟨b2,off2+k,none⟩=some (.int .i64 pl)) (first | exact SH | exact exp_keep (by assumption) hb)
  (first | (go_at_call 50; (with_reducible refine CS.out.mono ?_); rintro e w5 ⟨v,rfl,hv,hb⟩))
 rename_i hHeld
 clear hHeld SH CS x0 x1 x2 x3 x4 x5 x6 x7 o0 o1 o2 o3 q0 p0
 have HX5:=Lib.hid (HX.out.drew.kept hb)
 obtain⟨av,cv,rfl,hv'⟩:=hv
 have V5:=Lib.hid hv'
 clear hb hv' HX
 have al:=(Below.refl w5.heap.size w5).alloc (Nat.le_refl _) (.cells #[] 3)
 have R0:=Lib.hid ((row_new (K:=numK) (T:=3) w5 #[] 0 [] rfl (Nat.zero_le _) rfl).own (B:=w5.heap.size) (Nat.le_refl _))
 have HPA:=Lib.hid (HPL.out.kept (below2 HX5.out.below al))
 have AL:=Lib.hid al
 have SZ:=Lib.hid HX5.out.size
 have hlt5:w.heap.size<w5.heap.size:=by have:=SZ.out; omega
 have hlt6:w.heap.size+1<w5.heap.size:=by have:=SZ.out; omega
 clear al
 obtain⟨⟨x0,x1,x2,x3,x4,x5,x6,x7⟩,fr⟩:=HX5.out.mod.cells
 obtain⟨o0,o1,o2,o3⟩:=HX5.out.op.cells
 obtain⟨⟨y0,y1,y2,y3,y4,y5,y6,y7⟩,fs⟩:=HX5.out.res.cells
 obtain⟨⟨z0,z1,z2,z3⟩,ft⟩:=HX5.out.ans.cells
 have f5:=fr 5
 have g0:=fs 0
 have g1:=fs 1
 have g2:=fs 2
 have g3:=fs 3
 have g4:=fs 4
 have g5:=fs 5
 have g6:=fs 6
 have g7:=fs 7
 have k0:=ft 0
 have k1:=ft 1
 have k2:=ft 2
 have k3:=ft 3
 clear fr fs ft
 go_wp2_with (at_builtin; refine wpList_join Tryz.underlying34 info_num rfl rfl _ _ rfl w5.heap.size [] PL _ b2 off2 lc rfl rfl R0.out HPA.out ?c1 ?c2 ?c3 ?_)
 case c1=>have:=LPL.out; unfold maxLen; simp; omega
 case c2=>have:=LPL.out; simp; omega
 try case c3=>simp
 clear x0 x1 x2 x3 x4 x5 x6 x7 o0 o1 o2 o3 y0 y1 y2 y3 y4 y5 y6 y7 z0 z1 z2 z3 f5 g0 g1 g2 g3 g4 g5 g6 g7 k0 k1 k2 k3
 intro v6 w6 ho hb
 obtain⟨gp,cap6,rfl,hgp,R⟩:=ho.out.row (by intro e; rw[e] at hk2; exact absurd hk2 (by simp))
 have B6:Below w5.heap.size w5 w6:=AL.out.trans hb.out
 have HX6:=Lib.hid (HX5.out.kept B6)
 have V6:=Lib.hid (V5.out.kept B6)
 have RC:=Lib.hid R
 have VB:=Lib.hid (fun (hn:T'≠[]) (b off:Nat) (e:av=some ⟨b,off,none⟩)=>(show b≠gp by have:=lies_lt V5.out hn e; have:=hgp; omega))
 have HGP:=Lib.hid (show w.heap.size+4≤gp by have:=SZ.out; omega)
 have f7k:=R.free k
 have MOD6:=Lib.hid HX6.out.mod
 clear R0 HPA AL B6 HX5 V5 ho hb R hgp SZ
 obtain⟨⟨x0,x1,x2,x3,x4,x5,x6,x7⟩,fr⟩:=HX6.out.mod.cells
 obtain⟨o0,o1,o2,o3⟩:=HX6.out.op.cells
 obtain⟨⟨y0,y1,y2,y3,y4,y5,y6,y7⟩,fs⟩:=HX6.out.res.cells
 obtain⟨⟨z0,z1,z2,z3⟩,ft⟩:=HX6.out.ans.cells
 have f5:=fr 5
 have f7:=fr 7
 have g0:=fs 0
 have g1:=fs 1
 have g2:=fs 2
 have g3:=fs 3
 have g4:=fs 4
 have g5:=fs 5
 have g6:=fs 6
 have g7:=fs 7
 have k0:=ft 0
 have k1:=ft 1
 have k2:=ft 2
 have k3:=ft 3
 clear fr fs ft
 have hgp1:=HGP.out
 have hk0:(k:Int)<(PL.length:Int):=by omega
 have hgp2:w.heap.size≠gp:=by omega
 have hgp4:gp≠w.heap.size:=by omega
 have hgp5:gp≠w.heap.size+1:=by omega
 have hlt7:w.heap.size<gp:=by omega
 have hgp3:w.heap.size+1≠gp:=by omega
 have B7:=Lib.hid ((HX6.out.below.setCell (p:=⟨w.heap.size,7,none⟩) (Nat.le_refl _) (rowV (some ⟨gp,0,none⟩) cap6 PL)).setCell (p:=⟨gp,k,none⟩) (by show w.heap.size≤gp; omega) (.int .i64 (nx:Nat)))
 have RES7:=Lib.hid ((HX6.out.res.beside (g':=w.heap.size) (o:=7) (by omega) (rowV (some ⟨gp,0,none⟩) cap6 PL)).beside (g':=gp) (o:=k) (by omega) (.int .i64 (nx:Nat)))
 have ANS7:=Lib.hid (show AnsBox ((w6.setCell ⟨w.heap.size,7,none⟩ (rowV (some ⟨gp,0,none⟩) cap6 PL)).setCell ⟨gp,k,none⟩ (.int .i64 (nx:Nat))) (w.heap.size+3) ⟨0,0,false,0⟩ from
  (Below.heap_setCell _ _ _ _ (by show w.heap.size+3≠gp; omega)).trans ((Below.heap_setCell _ _ _ _ (by show w.heap.size+3≠w.heap.size; omega)).trans HX6.out.ans))
 have ROW7:=Lib.hid ((RC.out.put_other (a:=⟨w.heap.size,7,none⟩) (by show gp≠w.heap.size; omega) (rowV (some ⟨gp,0,none⟩) cap6 PL)).put1 (by omega:k<PL.length) (nx:Int))
 have WT:=Lib.hid (refwithTable_any c pa m.pool.length pc (some ⟨b,off,none⟩) tc ts (some ⟨gp,0,none⟩) PL.length cap6 (k:Int) ⟨av,cv,T'⟩ _ (HM.out.row.kept B7.out) hl)
 have cg:w6.cell? ⟨gp,k,none⟩=some (.int .i64 PL[k]):=RC.out.num hk2
 generalize PL[k]=plk at *
 clear HX6 RC
 go_wp2_with fail
 refine WT.out.mono ?_
 rintro e w8 ⟨v8,rfl,hO8,hb8⟩
 obtain⟨ta8,tc8,rfl,-⟩:=hO8.lies
 have V7:Lies entK ((w6.setCell ⟨w.heap.size,7,none⟩ (rowV (some ⟨gp,0,none⟩) cap6 PL)).setCell ⟨gp,k,none⟩ (.int .i64 (nx:Nat))) av cv T':=
  (Turned.refl (fun q=>q=gp) _ |>.setCell (a:=⟨gp,k,none⟩) rfl (.int .i64 (nx:Nat))).lies
    ((Turned.refl (fun q=>q=w.heap.size) _ |>.setCell (a:=⟨w.heap.size,7,none⟩) rfl (rowV (some ⟨gp,0,none⟩) cap6 PL)).lies V6.out (fun hn b off e=>mod_apart MOD6.out V6.out hn b off e)) (fun hn b off e=>VB.out hn b off e)
 have V8:=Lib.hid (V7.kept hb8)
 have B8:=Lib.hid (below2 B7.out hb8)
 have RES8:=Lib.hid (RES7.out.kept hb8 (heap_lt RES7.out))
 have ANS8:=Lib.hid (ANS7.out.kept hb8)
 have ROW8:=Lib.hid (ROW7.out.kept hb8)
 have OWN8:=Lib.hid hO8
 have S7:=Lib.hid (show w.heap.size+4≤((w6.setCell ⟨w.heap.size,7,none⟩ (rowV (some ⟨gp,0,none⟩) cap6 PL)).setCell ⟨gp,k,none⟩ (.int .i64 (nx:Nat))).heap.size by have:=heap_lt ANS7.out; omega)
 clear hO8 V7 V6 MOD6 B7 RES7 ANS7 ROW7 WT VB cg f7k hb8
 obtain⟨⟨y0,y1,y2,y3,y4,y5,y6,y7⟩,fs⟩:=RES8.out.cells
 obtain⟨⟨z0,z1,z2,z3⟩,ft⟩:=ANS8.out.cells
 have g0:=fs 0
 have g1:=fs 1
 have g2:=fs 2
 have g3:=fs 3
 have g4:=fs 4
 have g5:=fs 5
 have g6:=fs 6
 have g7:=fs 7
 have k0:=ft 0
 have k1:=ft 1
 have k2:=ft 2
 have k3:=ft 3
 clear fs ft
 go_wp2
 obtain⟨e1,e2,e3⟩:=told_both (c:=c) (pv:=sl pa m.pool.length pc) (tv:=rowV ta8 tc8 (setZ ts (k:Int) ⟨av,cv,T'⟩)) (lv:=sl (some ⟨gp,0,none⟩) PL.length cap6) RES8.out ANS8.out B8.out (Nat.le_refl _) ⟨0,0,false,(due:Nat)⟩
 have hfin:=exp_end (y:=⟨0,0,false,(due:Nat)⟩) (c:=c) (pv:=sl pa m.pool.length pc) (tv:=rowV ta8 tc8 (setZ ts (k:Int) ⟨av,cv,T'⟩)) (lv:=sl (some ⟨gp,0,none⟩) PL.length cap6) RES8.out ANS8.out V8.out (own_less S7.out OWN8.out) ROW8.out HGP.out ⟨rfl,rfl,rfl⟩
 obtain⟨⟨r0,r1,r2,r3,r4,r5,r6,r7⟩,-⟩:=e1.cells
 obtain⟨⟨s0,s1,s2,s3⟩,-⟩:=e2.cells
 unfold putBoth putMod putAns at r0 r1 r2 r3 r4 r5 r6 r7 s0 s1 s2 s3
 clear y0 y1 y2 y3 y4 y5 y6 y7 z0 z1 z2 z3 g0 g1 g2 g3 g4 g5 g6 g7 k0 k1 k2 k3
 refine bodyPost_ret (v:=.tuple #[modV c (sl pa m.pool.length pc) (rowV ta8 tc8 (setZ ts (k:Int) ⟨av,cv,T'⟩)) (sl (some ⟨gp,0,none⟩) PL.length cap6),ansV ⟨0,0,false,(due:Nat)⟩]) ?q1 rfl ?q2
 case q1=>
  simp only[results,Tryz.results18]
  simp[go_sem,r0,r1,r2,r3,r4,r5,r6,r7,s0,s1,s2,s3]
 case q2=>
  refine⟨_,rfl,⟨pa,pc,ta8,tc8,setZ ts (k:Int) ⟨av,cv,T'⟩,some ⟨gp,0,none⟩,cap6,?_,HM.out.pool.kept e3,hfin.1,HTS.out _ rfl,?_,?_,?_,?_,HM.out.fromP⟩,e3⟩
  ·show _=modV c _ _ (sl _ (m.places.set k nx).length _)
   rw[HLS.out]
  ·intro y hy
   unfold setZ at hy
   rw[if_pos (by omega)] at hy
   rcases List.mem_or_eq_of_mem_set hy with hy | rfl
   ·exact (HM.out.each y hy).kept e3
   ·exact hfin.2.1
  ·show Lies numK _ _ _ ((m.places.set k nx).map _)
   rw[HPS.out]
   exact hfin.2.2
  ·exact own_from HBB.out (own_less (Nat.le_trans (Nat.le_add_right _ 4) S7.out) OWN8.out)
  ·intro q hq
   cases hq
   exact HBB.out _ (Nat.le_trans (Nat.le_add_right _ 4) HGP.out)
end
end Go.Proofs.YtbamodkgagcmnaaGreat.Mod
set_option maxRecDepth 100000
namespace Go.Proofs.YtbamodkgagcmnaaGreat.Rgn
open Go Go.RowKit Trn
theorem stored8 {w:World} {b:Nat} {T:TypeId} {x0 x1 x2 x3 x4 x5 x6 x7:Value} (h:w.heap[b]? =some (.cells #[x0,x1,x2,x3,x4,x5,x6,x7] T (0,0))) (y0 y1 y2 y3 y4 y5 y6 y7:Value):
 Stored b T #[y0,y1,y2,y3,y4,y5,y6,y7] w ((((((((w.setCell ⟨b,0,none⟩ y0).setCell ⟨b,1,none⟩ y1).setCell ⟨b,2,none⟩ y2).setCell ⟨b,3,none⟩ y3).setCell ⟨b,4,none⟩ y4).setCell ⟨b,5,none⟩ y5).setCell ⟨b,6,none⟩ y6).setCell ⟨b,7,none⟩ y7):=by
 have h1:(w.setCell ⟨b,0,none⟩ y0).heap[b]? =some (.cells #[y0,x1,x2,x3,x4,x5,x6,x7] T (0,0)):=heap_at w b 0 _ T y0 h
 have r1:∀ k,k≠b→(w.setCell ⟨b,0,none⟩ y0).heap[k]? =w.heap[k]? :=fun k hk=>heap_setCell_other _ ⟨b,0,none⟩ k _ (by exact hk)
 have s1:(w.setCell ⟨b,0,none⟩ y0).heap.size=w.heap.size:=by simp[World.setCell]
 have o1:(w.setCell ⟨b,0,none⟩ y0).os=w.os∧(w.setCell ⟨b,0,none⟩ y0).tape=w.tape∧(w.setCell ⟨b,0,none⟩ y0).output=w.output:=⟨rfl,rfl,rfl⟩
 generalize w.setCell ⟨b,0,none⟩ y0=w1 at *
 have h2:(w1.setCell ⟨b,1,none⟩ y1).heap[b]? =some (.cells #[y0,y1,x2,x3,x4,x5,x6,x7] T (0,0)):=heap_at w1 b 1 _ T y1 h1
 have r2:∀ k,k≠b→(w1.setCell ⟨b,1,none⟩ y1).heap[k]? =w1.heap[k]? :=fun k hk=>heap_setCell_other _ ⟨b,1,none⟩ k _ (by exact hk)
 have s2:(w1.setCell ⟨b,1,none⟩ y1).heap.size=w1.heap.size:=by simp[World.setCell]
 have o2:(w1.setCell ⟨b,1,none⟩ y1).os=w1.os∧(w1.setCell ⟨b,1,none⟩ y1).tape=w1.tape∧(w1.setCell ⟨b,1,none⟩ y1).output=w1.output:=⟨rfl,rfl,rfl⟩
 generalize w1.setCell ⟨b,1,none⟩ y1=w2 at *
 have h3:(w2.setCell ⟨b,2,none⟩ y2).heap[b]? =some (.cells #[y0,y1,y2,x3,x4,x5,x6,x7] T (0,0)):=heap_at w2 b 2 _ T y2 h2
 have r3:∀ k,k≠b→(w2.setCell ⟨b,2,none⟩ y2).heap[k]? =w2.heap[k]? :=fun k hk=>heap_setCell_other _ ⟨b,2,none⟩ k _ (by exact hk)
 have s3:(w2.setCell ⟨b,2,none⟩ y2).heap.size=w2.heap.size:=by simp[World.setCell]
 have o3:(w2.setCell ⟨b,2,none⟩ y2).os=w2.os∧(w2.setCell ⟨b,2,none⟩ y2).tape=w2.tape∧(w2.setCell ⟨b,2,none⟩ y2).output=w2.output:=⟨rfl,rfl,rfl⟩
 generalize w2.setCell ⟨b,2,none⟩ y2=w3 at *
 have h4:(w3.setCell ⟨b,3,none⟩ y3).heap[b]? =some (.cells #[y0,y1,y2,y3,x4,x5,x6,x7] T (0,0)):=heap_at w3 b 3 _ T y3 h3
 have r4:∀ k,k≠b→(w3.setCell ⟨b,3,none⟩ y3).heap[k]? =w3.heap[k]? :=fun k hk=>heap_setCell_other _ ⟨b,3,none⟩ k _ (by exact hk)
 have s4:(w3.setCell ⟨b,3,none⟩ y3).heap.size=w3.heap.size:=by simp[World.setCell]
 have o4:(w3.setCell ⟨b,3,none⟩ y3).os=w3.os∧(w3.setCell ⟨b,3,none⟩ y3).tape=w3.tape∧(w3.setCell ⟨b,3,none⟩ y3).output=w3.output:=⟨rfl,rfl,rfl⟩
 generalize w3.setCell ⟨b,3,none⟩ y3=w4 at *
 have h5:(w4.setCell ⟨b,4,none⟩ y4).heap[b]? =some (.cells #[y0,y1,y2,y3,y4,x5,x6,x7] T (0,0)):=heap_at w4 b 4 _ T y4 h4
 have r5:∀ k,k≠b→(w4.setCell ⟨b,4,none⟩ y4).heap[k]? =w4.heap[k]? :=fun k hk=>heap_setCell_other _ ⟨b,4,none⟩ k _ (by exact hk)
 have s5:(w4.setCell ⟨b,4,none⟩ y4).heap.size=w4.heap.size:=by simp[World.setCell]
 have o5:(w4.setCell ⟨b,4,none⟩ y4).os=w4.os∧(w4.setCell ⟨b,4,none⟩ y4).tape=w4.tape∧(w4.setCell ⟨b,4,none⟩ y4).output=w4.output:=⟨rfl,rfl,rfl⟩
 generalize w4.setCell ⟨b,4,none⟩ y4=w5 at *
 have h6:(w5.setCell ⟨b,5,none⟩ y5).heap[b]? =some (.cells #[y0,y1,y2,y3,y4,y5,x6,x7] T (0,0)):=heap_at w5 b 5 _ T y5 h5
 have r6:∀ k,k≠b→(w5.setCell ⟨b,5,none⟩ y5).heap[k]? =w5.heap[k]? :=fun k hk=>heap_setCell_other _ ⟨b,5,none⟩ k _ (by exact hk)
 have s6:(w5.setCell ⟨b,5,none⟩ y5).heap.size=w5.heap.size:=by simp[World.setCell]
 have o6:(w5.setCell ⟨b,5,none⟩ y5).os=w5.os∧(w5.setCell ⟨b,5,none⟩ y5).tape=w5.tape∧(w5.setCell ⟨b,5,none⟩ y5).output=w5.output:=⟨rfl,rfl,rfl⟩
 generalize w5.setCell ⟨b,5,none⟩ y5=w6 at *
 have h7:(w6.setCell ⟨b,6,none⟩ y6).heap[b]? =some (.cells #[y0,y1,y2,y3,y4,y5,y6,x7] T (0,0)):=heap_at w6 b 6 _ T y6 h6
 have r7:∀ k,k≠b→(w6.setCell ⟨b,6,none⟩ y6).heap[k]? =w6.heap[k]? :=fun k hk=>heap_setCell_other _ ⟨b,6,none⟩ k _ (by exact hk)
 have s7:(w6.setCell ⟨b,6,none⟩ y6).heap.size=w6.heap.size:=by simp[World.setCell]
 have o7:(w6.setCell ⟨b,6,none⟩ y6).os=w6.os∧(w6.setCell ⟨b,6,none⟩ y6).tape=w6.tape∧(w6.setCell ⟨b,6,none⟩ y6).output=w6.output:=⟨rfl,rfl,rfl⟩
 generalize w6.setCell ⟨b,6,none⟩ y6=w7 at *
 have h8:(w7.setCell ⟨b,7,none⟩ y7).heap[b]? =some (.cells #[y0,y1,y2,y3,y4,y5,y6,y7] T (0,0)):=heap_at w7 b 7 _ T y7 h7
 have r8:∀ k,k≠b→(w7.setCell ⟨b,7,none⟩ y7).heap[k]? =w7.heap[k]? :=fun k hk=>heap_setCell_other _ ⟨b,7,none⟩ k _ (by exact hk)
 have s8:(w7.setCell ⟨b,7,none⟩ y7).heap.size=w7.heap.size:=by simp[World.setCell]
 have o8:(w7.setCell ⟨b,7,none⟩ y7).os=w7.os∧(w7.setCell ⟨b,7,none⟩ y7).tape=w7.tape∧(w7.setCell ⟨b,7,none⟩ y7).output=w7.output:=⟨rfl,rfl,rfl⟩
 generalize w7.setCell ⟨b,7,none⟩ y7=w8 at *
 refine⟨by rw[o8.1,o7.1,o6.1,o5.1,o4.1,o3.1,o2.1,o1.1],by rw[o8.2.1,o7.2.1,o6.2.1,o5.2.1,o4.2.1,o3.2.1,o2.2.1,o1.2.1],by rw[o8.2.2,o7.2.2,o6.2.2,o5.2.2,o4.2.2,o3.2.2,o2.2.2,o1.2.2],by omega,fun k hk=>?_,h8⟩
 rw[r8 k hk,r7 k hk,r6 k hk,r5 k hk,r4 k hk,r3 k hk,r2 k hk,r1 k hk]
structure InvB2 (V:Nat→World→Value→Prop) (ops:Array Oper) (S:Nat→Bool) (B:Nat→Nat) (T:Nat→TypeId) (cs0:Nat→Array Value) (vs:Nat→Nat) (a0:Act) (w0:World) (d:Nat→Bool) (a:Act) (w:World):Prop where
 turned:Turned (fun k=>∃ s,S s=true∧k=B s) w0 w
 defs:a.defers=a0.defers
 size:a.tmps.size=a0.tmps.size
 val:∀ i r,dstAt ops i=some r→d i=true→V i w (a.tmps[r]?.getD undef)
 old:∀ r,(∀ i,dstAt ops i=some r→d i=false)→a.tmps[r]?.getD undef=a0.tmps[r]?.getD undef
 box:∀ s,S s=true→w.heap[B s]? =some (.cells (if d s=true then (a.tmps[vs s]?.getD undef).cells else cs0 s) (T s) (0,0))
 done:∀ s,S s=true→d s=true→∀ i,waits .any ops s i=true→d i=true
section
variable {P:Program} {ops:Array Oper} {Q:Exit→Act→World→Prop} {V:Nat→World→Value→Prop} {a0 a:Act} {w0 w:World} {d:Nat→Bool} {i:Nat} {o:Oper} {S:Nat→Bool} {B vs:Nat→Nat} {T:Nat→TypeId} {cs0:Nat→Array Value}
theorem InvB2.put (h:InvB2 V ops S B T cs0 vs a0 w0 d a w) (hu:uniq ops a0.tmps.size=true) (hV:∀ j w w' v,V j w v→Turned (fun k=>∃ s,S s=true∧k=B s) w w'→V j w' v) (ho:ops[i]? =some o) (hne:S i=false) (hdi:d i=false) (hvs:∀ s,S s=true→∀ j,dstAt ops j=some (vs s)→waits .any ops s j=true) {v:Value} {w':World} (hb:Below w.heap.size w w') (hv:V i w' v):
 InvB2 V ops S B T cs0 vs a0 w0 (upd d i) (a.put o.dst v) w':=by
 have hd:dstAt ops i=o.dst:=by unfold dstAt; rw[ho]; rfl
 have hsi:∀ s,S s=true→s≠i:=fun s hs e=>by subst e; rw[hne] at hs; cases hs
 have hds:∀ s,S s=true→upd d i s=d s:=fun s hs=>upd_other d (hsi s hs)
 have hbox:∀ s,S s=true→w'.heap[B s]? =w.heap[B s]? :=fun s hs=>hb.block (B s) (heap_lt (h.box s hs))
 have hdone:∀ s,S s=true→upd d i s=true→∀ j,waits .any ops s j=true→upd d i j=true:=fun s hs h1 j hj=>by
  rw[hds s hs] at h1
  have:=h.done s hs h1 j hj
  by_cases e:j=i
  ·subst e; exact upd_same d j
  ·rw[upd_other d e]; exact this
 cases hdst:o.dst with
 | none=>
   rw[hdst] at hd
   refine⟨h.turned.trans (.of_below hb),h.defs,h.size,fun j r hj hdj=>?_,fun r hr=>h.old r fun j hj=>?_,fun s hs=>?_,hdone⟩
   ·have hn:j≠i:=fun e=>by rw[e,hd] at hj; cases hj
    rw[upd_other d hn] at hdj
    exact hV _ _ _ _ (h.val j r hj hdj) (.of_below hb)
   ·have hn:j≠i:=fun e=>by rw[e,hd] at hj; cases hj
    have:=hr j hj; rwa [upd_other d hn] at this
   ·rw[hbox s hs,hds s hs]; exact h.box s hs
 | some s0=>
   rw[hdst] at hd
   obtain⟨hlt,huq⟩:=uniq_of hu hd
   rw[← h.size] at hlt
   refine⟨h.turned.trans (.of_below hb),h.defs,by show (a.tmps.setIfInBounds s0 v).size=_; rw[Array.size_setIfInBounds]; exact h.size,fun j r hj hdj=>?_,fun r hr=>?_,fun s hs=>?_,hdone⟩
   ·show V j w' ((a.tmps.setIfInBounds s0 v)[r]?.getD undef)
    by_cases e:j=i
    ·subst e
     rw[hd] at hj; cases hj
     rw[getD_put_same hlt]; exact hv
    ·rw[upd_other d e] at hdj
     have hn:r≠s0:=fun e'=>by subst e'; exact e (huq j hj)
     rw[getD_put_other hn]
     exact hV _ _ _ _ (h.val j r hj hdj) (.of_below hb)
   ·show (a.tmps.setIfInBounds s0 v)[r]?.getD undef=_
    have hn:r≠s0:=fun e=>by subst e; have:=hr i hd; rw[upd_same] at this; cases this
    rw[getD_put_other hn]
    refine h.old r fun j hj=>?_
    have:=hr j hj
    by_cases e:j=i
    ·rw[e,upd_same] at this; cases this
    ·rwa [upd_other d e] at this
   ·rw[hbox s hs,hds s hs,h.box s hs]
    cases hd1:d s with
    | false=>rfl
    | true=>
      have hn:vs s≠s0:=fun e=>by
       subst e
       have:=h.done s hs hd1 i (hvs s hs i hd)
       rw[hdi] at this; cases this
      show some (Obj.cells (if true=true then _ else _) _ _)=some (Obj.cells (if true=true then ((a.tmps.setIfInBounds s0 v)[vs s]?.getD undef).cells else _) _ _)
      rw[if_pos rfl,if_pos rfl,getD_put_other hn]
theorem wp_region_olds {id:Nat} (V:Nat→World→Value→Prop) (S:Nat→Bool) (B:Nat→Nat) (T:Nat→TypeId) (cs0:Nat→Array Value) (vs:Nat→Nat) (hV:∀ j w w' v,V j w v→Turned (fun k=>∃ s,S s=true∧k=B s) w w'→V j w' v) (hm:P.follows .mixedOrders=true) (ha:ahead .any ops=true) (hu:uniq ops a.tmps.size=true)
 (hs:∀ s,S s=true→dstAt ops s=none) (hvs:∀ s,S s=true→((List.range ops.size).all fun j=>dstAt ops j != some (vs s) || waits .any ops s j)=true) (hap:∀ s t,S s=true→S t=true→s≠t→B s≠B t) (hbox:∀ s,S s=true→w.heap[B s]? =some (.cells (cs0 s) (T s) (0,0)))
 (hstep:∀ d a' w' i,i<ops.size→S i=false→(∀ j,waits .any ops i j=true→d j=true)→InvB2 V ops S B T cs0 vs a w d a' w'→StepZ P ops Q V i a' w')
 (hstore:∀ d a' w' s,S s=true→d s=false→(∀ j,waits .any ops s j=true→d j=true)→InvB2 V ops S B T cs0 vs a w d a' w'→∃ o,ops[s]? =some o∧Region.wanted o (yielded ops a'.tmps)=true∧∀ K':Act→World→Prop,(∀ w'',Stored (B s) (T s) (a'.tmps[vs s]?.getD undef).cells w' w''→K' a' w'')→Oper.wp P o a' w' K' Q)
 (hdone:∀ a' w',InvB2 V ops S B T cs0 vs a w (fun _=>true) a' w'→Q .normal a' w') (hsz:∀ s,S s=true→s<ops.size):(Code.region id ops true).wp P Q a w:=by
 have hvs':∀ s,S s=true→∀ j,dstAt ops j=some (vs s)→waits .any ops s j=true:=fun s hs1 j hj=>by
  have h1:=List.all_eq_true.1 (hvs s hs1) j (List.mem_range.2 (dstAt_lt hj))
  rw[Bool.or_eq_true] at h1
  rcases h1 with h1 | h1
  ·rw[hj] at h1; simp at h1
  ·exact h1
 refine wp_region_inv (fun d a' w'=>InvB2 V ops S B T cs0 vs a w d a' w') hm ha (fun d a' w' i hi hd hall h=>?_) (fun d a' w' hall h=>?_)
  ⟨.of_below (Below.refl _ w).drew,rfl,rfl,(fun i r _ h=>by cases h),(fun r _=>rfl),fun s hs1=>?_,fun s _ h=>by cases h⟩
 ·cases his:S i with
  | true=>
    obtain⟨o,ho,hw,H⟩:=hstore d a' w' i his hd hall h
    have hdst:o.dst=none:=by have:=hs i his; unfold dstAt at this; rw[ho] at this; exact this
    refine wpOp_step ho fun K hK=>?_
    rw[if_pos hw]
    refine H K fun w'' hst=>hK a' w'' ?_
    have ht:Turned (fun k=>∃ s,S s=true∧k=B s) w' w'':=⟨hst.os,hst.tape,hst.output,by rw[hst.size]; exact Nat.le_refl _,fun k _ hk=>hst.rest k fun e=>hk ⟨i,his,e⟩⟩
    refine⟨h.turned.trans ht,h.defs,h.size,fun j r hj hdj=>?_,fun r hr=>h.old r fun j hj=>?_,fun s hs1=>?_,fun s hs1 hds j hj=>?_⟩
    ·have hn:j≠i:=fun e=>by rw[e,hs i his] at hj; cases hj
     rw[upd_other d hn] at hdj
     exact hV _ _ _ _ (h.val j r hj hdj) ht
    ·have hn:j≠i:=fun e=>by rw[e,hs i his] at hj; cases hj
     have:=hr j hj; rwa [upd_other d hn] at this
    ·by_cases e:s=i
     ·subst e; rw[upd_same,if_pos rfl]; exact hst.new
     ·rw[upd_other d e,hst.rest (B s) (hap s i hs1 his e)]; exact h.box s hs1
    ·by_cases e:s=i
     ·subst e
      by_cases e:j=s
      ·subst e; exact upd_same d j
      ·rw[upd_other d e]; exact hall j hj
     ·rw[upd_other d e] at hds
      by_cases e2:j=i
      ·subst e2; exact upd_same d j
      ·rw[upd_other d e2]; exact h.done s hs1 hds j hj
  | false=>
    obtain⟨o,ho,hw,H⟩:=hstep d a' w' i hi his hall h
    refine wpOp_step ho fun K hK=>?_
    rw[if_pos hw]
    exact H K fun v w'' hb hv=>hK _ _ (h.put hu hV ho his hd hvs' hb hv)
 ·refine hdone a' w' ⟨h.turned,h.defs,h.size,fun i r hr _=>h.val i r hr (hall i (dstAt_lt hr)),fun r hr=>h.old r fun i hi=>?_,fun s hs1=>?_,fun _ _ _ _ _=>rfl⟩
  ·have:=hr i hi; cases this
  ·have:=h.box s hs1
   rw[hall s (hsz s hs1)] at this; exact this
 ·show w.drew.heap[B s]? =_
  exact hbox s hs1
end
end Go.Proofs.YtbamodkgagcmnaaGreat.Rgn
