/-
  The document's answer for flows (package gangplankref12): New, with, Put, Bury.
-/
import Derived.Test.YtbamodkgagcmnaaGreatBFloE
import Derived.WalkMore
import Derived.Deep.RegionHeld3
set_option maxRecDepth 100000
namespace Go.Proofs.YtbamodkgagcmnaaGreat.Flo
open Go.RowKit Go.Shelf RowG Tab Prb
set_option maxHeartbeats 400000 in
theorem refNew_any (n:Int) (w:World) (hn:(Lit.int .i64 n).wf=true):Calls Tryz.prog 45 #[.int .i64 n] w fun e W'=>Made (size n) w e W':=by
 have hr: -9223372036854775808≤n∧n≤9223372036854775807:=by simpa [Lit.wf,IntKind.min,IntKind.max,IntKind.signed,IntKind.bits] using hn
 clear hn
 go_enter Tryz.func45,Tryz.ntmps45
 by_cases h1:n≤0
 ·have M:=Lib.hid (made 0 (by omega) w)
  have hmk:=Ste.run_new 0 (by omega) w
  simp only[Int.natCast_zero] at hmk
  rw[show size n=0 by unfold size; omega]
  go_wp2_with fail
  all_goals first
   | omega
   | (go_ret; exact M.out)
 by_cases h2:64<n
 ·have M:=Lib.hid (made 64 (by omega) w)
  have hmk:=Ste.run_new 64 (by omega) w
  rw[show ((64:Nat):Int)=64 from rfl] at hmk
  rw[show size n=64 by unfold size; omega]
  go_wp2_with fail
  all_goals first
   | omega
   | (go_ret; exact M.out)
 ·obtain⟨m,rfl⟩:=Int.eq_ofNat_of_zero_le (show 0≤n by omega)
  have M:=Lib.hid (made m (by omega) w)
  have hmk:=Ste.run_new m (by omega) w
  have hs:Hid (size (m:Int)=m):=Lib.hid (by rw[size_in]; omega)
  go_wp2_with fail
  all_goals first
   | omega
   | (go_ret; rw[hs.out]; exact M.out)
theorem own_four (W:World) (x:Ent) (j:Nat) (u:Value) (h:(entK.enc x)[j]? =some u):(W.alloc (.cells #[.int .i64 x.st,.string x.key,.int .i64 x.be,.int .i64 x.dl] 66)).cell? ⟨W.heap.size,j,none⟩=some u:=
 cell_many W _ _ j u (by simpa [entK] using h)
theorem below_ent (W:World) (x:Ent):Below W.heap.size W (W.alloc (.cells #[.int .i64 x.st,.string x.key,.int .i64 x.be,.int .i64 x.dl] 66)):=(Below.refl _ W).alloc (Nat.le_refl _) _
set_option maxRecDepth 100000 in
set_option maxHeartbeats 1000000 in
theorem refwith_any (a:Option Addr) (cap:Nat) (T:List Ent) (q:Nat) (y:Ent) (w:World) (h:Lies entK w a cap T) (hl:T.length≤1000000000000):
 Calls Tryz.prog 103 #[rowV a cap T,.int .i64 (q:Nat),entV y] w fun e W'=>∃ v,e=.returned v∧Gives W' v (T.set q y)∧Below w.heap.size w W':=by
 have H:=Lib.hid h
 have hC:=h.len
 have hM:=h.max
 unfold maxLen at hM
 clear h
 have al:=Lib.hid (below_ent w y)
 have BX:=Lib.hid (four_cells w y)
 have hs0:=World.size_alloc w (.cells #[.int .i64 y.st,.string y.key,.int .i64 y.be,.int .i64 y.dl] 66)
 go_enter Tryz.func103,Tryz.ntmps103
 go_wp2
 generalize w.alloc (.cells #[.int .i64 y.st,.string y.key,.int .i64 y.be,.int .i64 y.dl] 66)=w0 at *
 have HS0:=Lib.hid hs0
 clear hs0
 go_loopw [7,8] (fun v i W=>∃ k:Nat,k≤T.length∧i=.int .i64 k∧RowG.Own entK 66 w0.heap.size W v ((T.set q y).take k)∧Below w0.heap.size w0 W) (fun _ i _=>T.length - (intOf i).toNat)
 case atStart=>exact⟨0,Nat.zero_le _,rfl,own_nil _ _,Below.refl _ _⟩
 case round=>
  obtain⟨k,hk,rfl,ho,hB⟩:=hrel
  have HO:=Lib.hid ho
  have HB:=Lib.hid hB
  have hs:=hB.size
  have hlt0:w.heap.size<w0.heap.size:=by have:=HS0.out; omega
  have y0:=(hB.cell (p:=⟨w.heap.size,0,none⟩) hlt0).trans BX.out.1
  have y1:=(hB.cell (p:=⟨w.heap.size,1,none⟩) hlt0).trans BX.out.2.1
  have y2:=(hB.cell (p:=⟨w.heap.size,2,none⟩) hlt0).trans BX.out.2.2.1
  have y3:=(hB.cell (p:=⟨w.heap.size,3,none⟩) hlt0).trans BX.out.2.2.2
  clear ho hB hlt0
  by_cases hlt:k<T.length
  ·obtain⟨b,off,rfl,c0,c1,c2,c3⟩:=((H.out.kept al.out).kept HB.out).ent hlt
   have hz:((T.set q y).take k).length≤T.length:=by rw[List.length_take,List.length_set]; omega
   have hks:k<(T.set q y).length:=by rw[List.length_set]; exact hlt
   have HT:=Lib.hid (List.take_succ_eq_append_getElem hks)
   have HE:=Lib.hid (show (T.set q y)[k]=if q=k then y else T[k] from List.getElem_set ..)
   generalize (T.set q y)[k]=z at *
   generalize T[k]=x at *
   generalize (T.set q y).take k=os at *
   by_cases he:q=k
   ·have e1:((k:Int) == (q:Int))=true:=beq_iff_eq.2 (by omega)
    have HZ:=Lib.hid (HE.out.trans (if_pos he))
    clear he hks HE
    go_wp2_with (at_builtin; refine wpList_more Tryz.underlying50 Ste.info_ent rfl rfl _ _ rfl w0.heap.size wr.heap.size os y _ rfl rfl (HO.out.kept (below_ent wr y)) ?c0 ?c1 ?c2 ?c3 ?_)
    case c0=>exact fun j u hj=>own_four wr y j u hj
    case c1=>unfold maxLen; omega
    case c2=>omega
    case c3=>simp; omega
    intro v' w1 ho hb
    have HB1:=Lib.hid ((HB.out.alloc hs _).trans hb.out)
    have HO1:=Lib.hid ho.out
    clear hb ho
    go_wp2
    refine⟨⟨k+1,by omega,by go_num,by rw[HT.out,HZ.out]; exact HO1.out,HB1.out⟩,by simp[intOf]; omega⟩
   ·have e1:((k:Int) == (q:Int))=false:=beq_false_of_ne (by omega)
    have HZ:=Lib.hid (HE.out.trans (if_neg he))
    clear he hks HE
    go_wp2_with (at_builtin; refine wpList_more Tryz.underlying50 Ste.info_ent rfl rfl _ _ rfl w0.heap.size wr.heap.size os x _ rfl rfl (HO.out.kept (below_ent wr x)) ?c0 ?c1 ?c2 ?c3 ?_)
    case c0=>exact fun j u hj=>own_four wr x j u hj
    case c1=>unfold maxLen; omega
    case c2=>omega
    case c3=>simp; omega
    intro v' w1 ho hb
    have HB1:=Lib.hid ((HB.out.alloc hs _).trans hb.out)
    have HO1:=Lib.hid ho.out
    clear hb ho
    go_wp2
    refine⟨⟨k+1,by omega,by go_num,by rw[HT.out,HZ.out]; exact HO1.out,HB1.out⟩,by simp[intOf]; omega⟩
  ·have HK:=Lib.hid (show (T.set q y).take k=T.set q y from List.take_of_length_le (by rw[List.length_set]; omega))
   go_wp2
   go_ret
   exact⟨_,rfl,by have:=HO.out; rw[HK.out] at this; exact this.lies,below2 al.out HB.out⟩
set_option maxHeartbeats 400000 in
theorem refBury_any (a:Option Addr) (cap:Nat) (T:List Ent) (q:Nat) (w:World) (h:Lies entK w a cap T) (hl:T.length≤1000000000000):
 Calls Tryz.prog 91 #[rowV a cap T,.int .i64 (q:Nat)] w fun e W'=>∃ v,e=.returned v∧Gives W' v (T.set q tomb)∧Below w.heap.size w W':=by
 have C:=Lib.hid (refwith_any a cap T q tomb w h hl)
 clear h
 go_enter Tryz.func91,Tryz.ntmps91
 go_wp2_with fail
 refine C.out.mono ?_
 rintro e w1 ⟨v,rfl,hg,hb⟩
 have HG:=Lib.hid hg
 have HB:=Lib.hid hb
 obtain⟨a1,cap1,rfl,-⟩:=hg
 clear hb
 go_wp2_with fail
 go_ret
 exact⟨_,rfl,HG.out,HB.out⟩
set_option maxHeartbeats 400000 in
theorem refPut_any (a:Option Addr) (cap:Nat) (T:List Ent) (k:ByteArray) (b d:Int) (w:World) (hT:Lies entK w a cap T) (hk:k.size≤4611686018427387904) (hl:T.length≤1000000000000):
 Calls Tryz.prog 64 #[rowV a cap T,.string k,.int .i64 b,.int .i64 d] w fun e W'=>∃ v,e=.returned (.tuple #[v,.int .i64 (putE T k)])∧Gives W' v (putT T k b d)∧Below w.heap.size w W':=by
 have F:=Lib.hid (refFind_any a cap T k w hT hk (by omega))
 have R:=Lib.hid (refRoom_any a cap T k w hT hk (by omega))
 have C:=Lib.hid (fun q=>refwith_any a cap T q (live k b d) w hT hl)
 have HT:=Lib.hid hT
 clear hT
 go_enter Tryz.func64,Tryz.ntmps64
 go_wp2_with fail
 refine F.out.mono ?_
 rintro e w1 ⟨rfl,rfl⟩
 cases hf:find home T k with
 | some q=>
   have HP:=Lib.hid (place_found hf)
   rw[show zOf (some q)=(q:Int) from rfl]
   have d0:decide ((q:Int)<0)=false:=decide_eq_false (by omega)
   clear hf R F
   go_wp2_with fail
   refine (C.out q).mono ?_
   rintro e w2 ⟨v,rfl,hg,hb⟩
   have HG:=Lib.hid hg
   have HB:=Lib.hid hb
   obtain⟨a1,cap1,rfl,-⟩:=hg
   clear hb
   go_wp2_with fail
   refine bodyPost_ret (v:=.tuple #[rowV a1 cap1 (T.set q (live k b d)),.int .i64 0]) (by simp[results,Tryz.results64,go_sem]) rfl ?_
   exact⟨_,by unfold putE; rw[HP.out]; rfl,by unfold putT; rw[HP.out]; exact HG.out,HB.out⟩
 | none=>
   have HP:=Lib.hid (place_room hf)
   rw[show zOf none= -1 from rfl]
   clear hf F
   go_wp2_with fail
   refine R.out.mono ?_
   rintro e w1 ⟨rfl,rfl⟩
   cases hr:room home T k with
   | some q=>
     have HP:=Lib.hid (HP.out.trans hr)
     rw[show zOf (some q)=(q:Int) from rfl]
     have d0:decide ((q:Int)<0)=false:=decide_eq_false (by omega)
     clear hr R
     go_wp2_with fail
     refine (C.out q).mono ?_
     rintro e w2 ⟨v,rfl,hg,hb⟩
     have HG:=Lib.hid hg
     have HB:=Lib.hid hb
     obtain⟨a1,cap1,rfl,-⟩:=hg
     clear hb
     go_wp2_with fail
     refine bodyPost_ret (v:=.tuple #[rowV a1 cap1 (T.set q (live k b d)),.int .i64 0]) (by simp[results,Tryz.results64,go_sem]) rfl ?_
     exact⟨_,by unfold putE; rw[HP.out]; rfl,by unfold putT; rw[HP.out]; exact HG.out,HB.out⟩
   | none=>
     have HP:=Lib.hid (HP.out.trans hr)
     rw[show zOf none= -1 from rfl]
     clear hr R
     go_wp2_with fail
     refine bodyPost_ret (v:=.tuple #[rowV a cap T,.int .i64 12]) (by simp[results,Tryz.results64,go_sem]) rfl ?_
     exact⟨_,by unfold putE; rw[HP.out]; rfl,by unfold putT; rw[HP.out]; exact⟨_,_,rfl,HT.out⟩,Below.refl _ _⟩
end Go.Proofs.YtbamodkgagcmnaaGreat.Flo
namespace Go.Proofs.YtbamodkgagcmnaaGreat.Flo
open Go.RowKit Go.Shelf RowG Tab Prb
theorem more_live {U:List Ent} {e:Ent} (h:e.st=1):putT U e.key e.be e.dl=more U e:=by unfold putT more; rw[live_of h]
theorem three_keep {b:Nat} {o1 o2 o3:Nat} {v1 v2 v3:Value} {wr W W':World} (h:Below wr.heap.size wr W∧W.cell? ⟨b,o1,none⟩=some v1∧W.cell? ⟨b,o2,none⟩=some v2∧W.cell? ⟨b,o3,none⟩=some v3) (hb:Below W.heap.size W W'):
 Below wr.heap.size wr W'∧W'.cell? ⟨b,o1,none⟩=some v1∧W'.cell? ⟨b,o2,none⟩=some v2∧W'.cell? ⟨b,o3,none⟩=some v3:=
 ⟨below2 h.1 hb,(hb.cell (World.block_lt_of_cell? W _ h.2.1)).trans h.2.1,(hb.cell (World.block_lt_of_cell? W _ h.2.2.1)).trans h.2.2.1,(hb.cell (World.block_lt_of_cell? W _ h.2.2.2)).trans h.2.2.2⟩
set_option maxRecDepth 100000 in
set_option maxHeartbeats 1000000 in
theorem refTidy_any (a:Option Addr) (cap:Nat) (T:List Ent) (w:World) (hT:Lies entK w a cap T) (hk:∀ x ∈ T,x.key.size≤4611686018427387904):
 Calls Tryz.prog 141 #[rowV a cap T] w fun e W'=>∃ v,e=.returned v∧Gives W' v (tidyC T)∧Below w.heap.size w W':=by
 have hmx:=hT.max
 have hln:=hT.len
 unfold maxLen at hmx
 have N:=Lib.hid (refNew_any (T.length:Int) w (by simp[Lit.wf,IntKind.min,IntKind.max,IntKind.signed,IntKind.bits]; omega))
 rw[size_in] at N
 have H:=Lib.hid hT
 clear hT
 go_enter Tryz.func141,Tryz.ntmps141
 go_wp2_with fail
 refine N.out.mono ?_
 rintro e w1 ⟨rfl,R,hs1,b1⟩
 have G1:=Lib.hid (show Gives w1 (rowV (some ⟨w.heap.size,0,none⟩) (min T.length 64) (new (min T.length 64))) (filled T (livesTo T 0)) from⟨_,_,rfl,R.lies⟩)
 have HB1:=Lib.hid b1
 clear R N b1 hs1
 generalize rowV (some ⟨w.heap.size,0,none⟩) (min T.length 64) (new (min T.length 64))=v0 at *
 go_wp2
 go_loopw [3,4] (fun v i W=>∃ j:Nat,j≤T.length∧i=.int .i64 j∧Gives W v (filled T (livesTo T j))∧Below w.heap.size w W) (fun _ i _=>T.length - (intOf i).toNat)
 case atStart=>exact⟨0,Nat.zero_le _,rfl,G1.out,HB1.out⟩
 case round=>
  obtain⟨j,hj,rfl,hg,hB⟩:=hrel
  have HG:=Lib.hid hg
  have HB:=Lib.hid hB
  clear hg hB G1 HB1
  by_cases hlt:j<T.length
  ·obtain⟨b,off,rfl,c0,c1,c2,c3⟩:=(H.out.kept HB.out).ent hlt
   have hkx:=hk _ (List.getElem_mem hlt)
   rw[← ent_at hlt] at c0 c1 c2 c3 hkx
   have hfl:=filled_length T (livesTo T j)
   by_cases s1:(ent T j).st=1
   ·have d1:((ent T j).st == 1)=true:=by simpa using s1
    have HS:=Lib.hid (show filled T (livesTo T (j+1))=putT (filled T (livesTo T j)) (ent T j).key (ent T j).be (ent T j).dl by rw[livesTo_yes hlt s1,filled_snoc,more_live s1])
    clear s1
    generalize ent T j=x at *
    generalize filled T (livesTo T j)=U at *
    obtain⟨a',cap',rfl,hl'⟩:=HG.out
    have P:=Lib.hid (refPut_any a' cap' U x.key x.be x.dl wr.drew (hl'.kept (Below.refl _ wr).drew) hkx (by omega))
    have HL:=Lib.hid hl'
    clear hl' HG hfl hkx
    go_wp2_with fail
    go_region_held3 (fun W=>Below wr.heap.size wr W∧W.cell? ⟨b,off+j * 4+1,none⟩=some (.string x.key)∧W.cell? ⟨b,off+j * 4+2,none⟩=some (.int .i64 x.be)∧W.cell? ⟨b,off+j * 4+3,none⟩=some (.int .i64 x.dl))
     (first | exact⟨(Below.refl _ wr).drew,c1,c2,c3⟩ | exact three_keep (by assumption) hb3)
     (first | (go_at_call 64; refine P.out.mono ?_; rintro e w3 ⟨v3,rfl,hg3,hb3⟩; obtain⟨a3,cap3,rfl,hl3⟩:=hg3))
    rename_i hHeld
    have HB3:=Lib.hid (HB.out.trans (hHeld.1.mono HB.out.size))
    have HL3:=Lib.hid hl3
    clear hHeld hl3 hb3 P HL c0 c1 c2 c3
    go_wp2
    exact⟨⟨j+1,by omega,by go_num,by rw[HS.out]; exact⟨_,_,rfl,HL3.out⟩,HB3.out⟩,by simp[intOf]; omega⟩
   ·have d1:((ent T j).st == 1)=false:=by simpa using s1
    have HS:=Lib.hid (show filled T (livesTo T (j+1))=filled T (livesTo T j) by rw[livesTo_no hlt s1])
    clear s1 hfl hkx
    generalize ent T j=x at *
    go_wp2_with fail
    exact⟨⟨j+1,by omega,by go_num,by rw[HS.out]; exact HG.out,HB.out⟩,by simp[intOf]; omega⟩
  ·have HA:=Lib.hid (show filled T (livesTo T j)=tidyC T by rw[livesTo_all (by omega)]; rfl)
   rw[HA.out] at HG
   go_wp2
   go_ret
   exact⟨_,rfl,HG.out,HB.out⟩
set_option maxHeartbeats 400000 in
theorem refSettle_any (a:Option Addr) (cap:Nat) (T:List Ent) (w:World) (hT:Lies entK w a cap T) (hk:∀ x ∈ T,x.key.size≤4611686018427387904) (hl:T.length≤1000000000000):
 Calls Tryz.prog 92 #[rowV a cap T] w fun e W'=>∃ v,e=.returned v∧Gives W' v (settleC T)∧Below w.heap.size w W':=by
 have C:=Lib.hid (refCount_any a cap T 2 w hT)
 have TT:=Lib.hid (refTidy_any a cap T w hT hk)
 have H:=Lib.hid hT
 have hcl:=count_le 2 T
 have HSt:=Lib.hid (show settleC T=if T.length<2 * count 2 T then tidyC T else T from rfl)
 clear hT
 go_enter Tryz.func92,Tryz.ntmps92
 go_wp2_with fail
 refine C.out.mono ?_
 rintro e w1 ⟨rfl,rfl⟩
 clear C
 generalize count 2 T=n at *
 by_cases hn:T.length<2 * n
 ·rw[if_pos hn] at HSt
  have d0:decide ((T.length:Int)<2 * (n:Int))=true:=decide_eq_true (by omega)
  go_wp2_with fail
  refine TT.out.mono ?_
  rintro e w4 ⟨v4,rfl,hgv,hb4⟩
  have G4:=Lib.hid hgv
  have B4:=Lib.hid hb4
  obtain⟨a4,cap4,rfl,-⟩:=hgv
  clear hb4
  go_wp2_with fail
  go_ret
  exact⟨_,rfl,by rw[HSt.out]; exact G4.out,B4.out⟩
 ·rw[if_neg hn] at HSt
  have d0:decide ((T.length:Int)<2 * (n:Int))=false:=decide_eq_false (by omega)
  go_wp2_with fail
  go_ret
  exact⟨_,rfl,by rw[HSt.out]; exact⟨_,_,rfl,H.out⟩,Below.refl _ _⟩
end Go.Proofs.YtbamodkgagcmnaaGreat.Flo
