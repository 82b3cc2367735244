/-
  The document's answer for packet (package gangplankref07): head, Parse.
-/
import Derived.Test.YtbamodkgagcmnaaGreatBPklE
import Derived.Test.YtbamodkgagcmnaaGreatBRfsE
import Derived.Test.YtbamodkgagcmnaaGreatBPkaE
import Derived.Test.YtbamodkgagcmnaaGreatBOctGE
set_option maxRecDepth 100000
namespace Go.Proofs.YtbamodkgagcmnaaGreat.Pkt
open Go.RowKit Go.Shelf Txt Rgn
abbrev gotC (x y r:ByteArray) (p e:Int):Array Value:=#[.string x,.string y,.string r,.int .i64 p,.int .i64 e]
abbrev gotV (x y r:ByteArray) (p e:Int):Value:=.agg (gotC x y r p e)
def Gotten (W:World) (b:Nat) (x y r:ByteArray) (p e:Int):Prop:=W.heap[b]? =some (.cells (gotC x y r p e) 200 (0,0))
section
variable {W W':World} {b:Nat} {x y r:ByteArray} {p e:Int}
theorem gotten_new (W:World) (x y r:ByteArray) (p e:Int):Gotten (W.alloc (.cells (gotC x y r p e) 200)) W.heap.size x y r p e:=World.alloc_heap_new W _
theorem Gotten.kept (h:Gotten W b x y r p e) (hb:Below W.heap.size W W'):Gotten W' b x y r p e:=(hb.block b (Array.getElem?_eq_some_iff.1 h).1).trans h
theorem Gotten.alloc (h:Gotten W b x y r p e) (o:Obj):Gotten (W.alloc o) b x y r p e:=h.kept (below_alloc W o)
theorem Gotten.cells (h:Gotten W b x y r p e):W.cell? ⟨b,0,none⟩=some (.string x)∧W.cell? ⟨b,1,none⟩=some (.string y)∧W.cell? ⟨b,2,none⟩=some (.string r)∧W.cell? ⟨b,3,none⟩=some (.int .i64 p)∧W.cell? ⟨b,4,none⟩=some (.int .i64 e):=
 ⟨cell_of h 0,cell_of h 1,cell_of h 2,cell_of h 3,cell_of h 4⟩
theorem Gotten.free (h:Gotten W b x y r p e) (i:Nat):W.frozen? ⟨b,i,none⟩=false:=free_of h i
theorem five_cells (h:Gotten W b x y r p e) {x' y' r':ByteArray} {p' e':Int} {C:World→Prop} (hC:∀ W',Gotten W' b x' y' r' p' e'→Below b W W'→C W'):
 C (((((W.setCell ⟨b,0,none⟩ (.string x')).setCell ⟨b,1,none⟩ (.string y')).setCell ⟨b,2,none⟩ (.string r')).setCell ⟨b,3,none⟩ (.int .i64 p')).setCell ⟨b,4,none⟩ (.int .i64 e')):=
 hC _ (set_of (set_of (set_of (set_of (set_of h 0 _) 1 _) 2 _) 3 _) 4 _)
  ((((((Below.refl b W).setCell (Nat.le_refl b) _).setCell (Nat.le_refl b) _).setCell (Nat.le_refl b) _).setCell (Nat.le_refl b) _).setCell (Nat.le_refl b) _)
end
theorem top_byte (s:ByteArray) (h:0<s.size):gv s 0 1=(s[0]).toNat:=Prt.gv_byte s 0 h
set_option maxRecDepth 100000 in
set_option maxHeartbeats 2000000 in
theorem refHead_other (s:ByteArray) (h0:0<s.size) (ht:top s≠4∧top s≠6):Tells 136 #[.string s] (gotV ⟨#[]⟩ ⟨#[]⟩ ⟨#[]⟩ 0 3):=by
 intro w
 have hb:=top_byte s h0
 unfold top at ht
 rw[hb] at ht
 have l8:(s[0]).toNat<256:=(s[0]).toNat_lt
 have t4:(((s[0]).toNat:Int) / 16 == 4)=false:=beq_false_of_ne (by omega)
 have t6:(((s[0]).toNat:Int) / 16 == 6)=false:=beq_false_of_ne (by omega)
 clear hb ht
 have P0:=Lib.hid (gotten_new w ⟨#[]⟩ ⟨#[]⟩ ⟨#[]⟩ 0 0)
 clear P0
 go_enter Tryz.func136,Tryz.ntmps136
 go_wp2_with fail
 exact bodyPost_ret (v:=gotV ⟨#[]⟩ ⟨#[]⟩ ⟨#[]⟩ 0 3) (by simp[results,Tryz.results136,go_sem]) rfl ⟨rfl,below_alloc w _⟩
set_option maxRecDepth 100000 in
set_option maxHeartbeats 2000000 in
theorem refHead_four (s:ByteArray) (h0:0<s.size) (ht:top s=4) (x y:ByteArray) (p:Int) (r:ByteArray) (e:Int) (h:Tells 170 #[.string s] (hdV x y p r e)):Tells 136 #[.string s] (gotV x y r p e):=by
 intro w
 have hb:=top_byte s h0
 unfold top at ht
 rw[hb] at ht
 have l8:(s[0]).toNat<256:=(s[0]).toNat_lt
 have t4:(((s[0]).toNat:Int) / 16 == 4)=true:=beq_iff_eq.2 (by omega)
 have H:=Lib.hid h
 clear h
 clear hb ht
 have P0:=Lib.hid (gotten_new w ⟨#[]⟩ ⟨#[]⟩ ⟨#[]⟩ 0 0)
 go_enter Tryz.func136,Tryz.ntmps136
 go_wp2_with fail
 refine (H.out _).mono ?_
 rintro e' w1 ⟨rfl,hb1⟩
 have P1:=Lib.hid ((P0.out.kept hb1).alloc (.cells #[.string x,.string y,.int .i64 p] 245))
 have B1:=Lib.hid (below2 (below2 (below_alloc w _) hb1) (below_alloc w1 (.cells #[.string x,.string y,.int .i64 p] 245)))
 clear hb1 P0 H
 obtain⟨k0,k1,k2,k3,k4⟩:=P1.out.cells
 have fr:=P1.out.free
 go_wp2_with fail
 refine five_cells (C:=fun W'=>bodyPost _ _ _ _ _ W') P1.out ?_
 intro W6 hK6 hb6
 have B6:=Lib.hid (B1.out.trans hb6)
 clear hb6 k0 k1 k2 k3 k4 fr P1 B1
 obtain⟨k0,k1,k2,k3,k4⟩:=hK6.cells
 exact bodyPost_ret (v:=gotV x y r p e) (by simp[results,Tryz.results136,go_sem,k0,k1,k2,k3,k4]) rfl ⟨rfl,B6.out⟩
set_option maxRecDepth 100000 in
set_option maxHeartbeats 2000000 in
theorem refHead_six (s:ByteArray) (h0:0<s.size) (ht:top s=6) (x y:ByteArray) (p:Int) (r:ByteArray) (e:Int) (h:Tells 171 #[.string s] (hdV x y p r e)):Tells 136 #[.string s] (gotV x y r p e):=by
 intro w
 have hb:=top_byte s h0
 unfold top at ht
 rw[hb] at ht
 have l8:(s[0]).toNat<256:=(s[0]).toNat_lt
 have t4:(((s[0]).toNat:Int) / 16 == 4)=false:=beq_false_of_ne (by omega)
 have t6:(((s[0]).toNat:Int) / 16 == 6)=true:=beq_iff_eq.2 (by omega)
 have H:=Lib.hid h
 clear h
 clear hb ht
 have P0:=Lib.hid (gotten_new w ⟨#[]⟩ ⟨#[]⟩ ⟨#[]⟩ 0 0)
 go_enter Tryz.func136,Tryz.ntmps136
 go_wp2_with fail
 refine (H.out _).mono ?_
 rintro e' w1 ⟨rfl,hb1⟩
 have P1:=Lib.hid ((P0.out.kept hb1).alloc (.cells #[.string x,.string y,.int .i64 p] 248))
 have B1:=Lib.hid (below2 (below2 (below_alloc w _) hb1) (below_alloc w1 (.cells #[.string x,.string y,.int .i64 p] 248)))
 clear hb1 P0 H
 obtain⟨k0,k1,k2,k3,k4⟩:=P1.out.cells
 have fr:=P1.out.free
 go_wp2_with fail
 refine five_cells (C:=fun W'=>bodyPost _ _ _ _ _ W') P1.out ?_
 intro W6 hK6 hb6
 have B6:=Lib.hid (B1.out.trans hb6)
 clear hb6 k0 k1 k2 k3 k4 fr P1 B1
 obtain⟨k0,k1,k2,k3,k4⟩:=hK6.cells
 exact bodyPost_ret (v:=gotV x y r p e) (by simp[results,Tryz.results136,go_sem,k0,k1,k2,k3,k4]) rfl ⟨rfl,B6.out⟩
end Go.Proofs.YtbamodkgagcmnaaGreat.Pkt
namespace Go.Proofs.YtbamodkgagcmnaaGreat.Pkt
open Go.RowKit Go.Shelf Txt Rgn
theorem seven_cells2 {W:World} {b:Nat} {V:Int} {x y:ByteArray} {F T p f:Int} (h:Packed W b V x y F T p f) {g:Nat} (hg:g≠b) {V':Int} {x' y':ByteArray} {F' T' p' f':Int} {C:World→Prop} (hC:∀ W',Packed W' b V' x' y' F' T' p' f'→Below b W W'→W'.heap[g]? =W.heap[g]?→C W'):
 C (((((((W.setCell ⟨b,0,none⟩ (.int .i64 V')).setCell ⟨b,1,none⟩ (.string x')).setCell ⟨b,2,none⟩ (.string y')).setCell ⟨b,3,none⟩ (.int .i64 F')).setCell ⟨b,4,none⟩ (.int .i64 T')).setCell ⟨b,5,none⟩ (.int .i64 p')).setCell ⟨b,6,none⟩ (.int .i64 f')):=by
 have st:∀ (U:World) (i:Nat) (v:Value),(U.setCell ⟨b,i,none⟩ v).heap[g]? =U.heap[g]? :=fun U i v=>Below.heap_setCell U ⟨b,i,none⟩ v g hg
 refine seven_cells (C:=fun W'=>W'.heap[g]? =W.heap[g]?→C W') h (fun W' h1 h2 h3=>hC W' h1 h2 h3) ?_
 rw[st,st,st,st,st,st,st]
def lit2 (l:List Value):Nat→Value:=fun j=>l.getD j undef
abbrev frB (h g:Nat) (y x:Nat→Value):Act:= { tmps:=#[y 0,y 1,.pointer (some ⟨h,0,none⟩),x 4,.pointer (some ⟨g,0,none⟩),y 5,y 6,y 7,y 8,y 9,y 10,y 11,y 12,y 13,y 14,y 15,y 16,x 0,x 1,x 2,y 20,y 21,y 22,y 23,y 24,y 25,y 26,y 27,y 28,y 29,y 30,y 31,y 32,y 33,y 34,y 35,y 36,y 37,y 38,y 39,y 40,y 41,y 42,y 43,y 44,y 45,y 46,y 47,y 48,y 49,y 50],defers:=[] }
def valB (g:Nat) (e:Int):Nat→Value
 | 0=>pktV 0 ⟨#[]⟩ ⟨#[]⟩ 0 0 0 0
 | 1=>.pointer (some ⟨g,4,none⟩)
 | 2 | 4=>.int .i64 e
 | _=>undef
structure StB (h g:Nat) (x y r:ByteArray) (p e:Int) (w:World) (d:Nat→Bool) (W:World):Prop where
 res:Packed W h 0 ⟨#[]⟩ ⟨#[]⟩ 0 0 0 0
 got:Gotten W g x y r p e
 below:Below w.heap.size w W
 _any:d 0=d 0:=rfl
abbrev frG (s:ByteArray) (h g q:Nat) (y x:Nat→Value):Act:= { tmps:=#[.string s,y 1,.pointer (some ⟨h,0,none⟩),.int .i64 0,.pointer (some ⟨g,0,none⟩),.pointer (some ⟨q,0,none⟩),y 6,x 15,y 8,y 9,y 10,y 11,y 12,y 13,y 14,y 15,y 16,y 17,y 18,y 19,y 20,y 21,y 22,y 23,y 24,y 25,y 26,y 27,y 28,y 29,y 30,y 31,x 0,x 1,x 2,x 3,x 4,x 5,x 6,x 7,x 8,x 9,x 10,x 11,x 12,x 13,x 14,undef,undef,undef,undef],defers:=[] }
def valG (s:ByteArray) (b:Int) (g q:Nat) (x y:ByteArray) (F T p:Int):Nat→Value
 | 0=>.string s
 | 1=>.int .u8 b
 | 2=>.int .u8 (b / 16)
 | 3=>.int .i64 (b / 16)
 | 4=>.pointer (some ⟨g,0,none⟩)
 | 5=>.string x
 | 6=>.pointer (some ⟨g,1,none⟩)
 | 7=>.string y
 | 8=>.pointer (some ⟨q,0,none⟩)
 | 9=>.int .i64 F
 | 10=>.pointer (some ⟨q,1,none⟩)
 | 11=>.int .i64 T
 | 12=>.pointer (some ⟨g,3,none⟩)
 | 13=>.int .i64 p
 | 14=>keyV (b / 16) x y F T p
 | _=>undef
set_option maxRecDepth 100000 in
set_option maxHeartbeats 2000000 in
theorem refParse_empty (s:ByteArray) (hs:s.size=0):Tells 87 #[.string s] (noP 2):=by
 intro w
 have n0:((s.size:Int) == 0)=true:=beq_iff_eq.2 (by omega)
 clear hs
 go_enter Tryz.func87,Tryz.ntmps87
 go_wp2_with fail
 exact bodyPost_ret (v:=noP 2) (by simp[results,Tryz.results87,go_sem]) rfl ⟨rfl,below_alloc w _⟩
set_option maxRecDepth 100000 in
set_option maxHeartbeats 2000000 in
theorem refParse_bad (s:ByteArray) (h0:0<s.size) (x y r:ByteArray) (p e:Int) (h:Tells 136 #[.string s] (gotV x y r p e)) (he:e≠0):Tells 87 #[.string s] (noP e):=by
 have he2:(e != 0)=true:=bne_iff_ne.2 he
 clear he
 intro w
 have P0:=Lib.hid (packed_new w 0 ⟨#[]⟩ ⟨#[]⟩ 0 0 0 0)
 have n0:((s.size:Int) == 0)=false:=beq_false_of_ne (by omega)
 have H:=Lib.hid h
 clear h
 go_enter Tryz.func87,Tryz.ntmps87
 go_wp2_with fail
 refine (H.out _).mono ?_
 rintro e' w1 ⟨rfl,hb1⟩
 have KL:=Lib.hid (show w.heap.size<w1.heap.size from Nat.lt_of_lt_of_le (Array.getElem?_eq_some_iff.1 P0.out).1 hb1.size)
 have P1:=Lib.hid ((P0.out.kept hb1).alloc (.cells (gotC x y r p e) 200))
 have G1:=Lib.hid (gotten_new w1 x y r p e)
 have B1:=Lib.hid (below2 (below2 (below_alloc w _) hb1) (below_alloc w1 (.cells (gotC x y r p e) 200)))
 clear hb1 P0 H
 obtain⟨k0,k1,k2,k3,k4,k5,k6⟩:=P1.out.cells
 have fr:=P1.out.free
 go_wp2_with fail
 have hne:w.heap.size<w1.heap.size:=KL.out
 change Code.wp _ _ _ (frB w.heap.size w1.heap.size (lit2 [.string s,undef,undef,undef,undef,undef,undef,undef,.string s,.int .i64 (s.size:Nat),.bool false,undef,.string s,gotV x y r p e,.pointer (some ⟨w1.heap.size,4,none⟩),.int .i64 e,.bool true,undef,undef,undef,undef,undef,undef,undef,undef,undef,undef,undef,undef,undef,undef,undef,undef,undef,undef,undef,undef,undef,undef,undef,undef,undef,undef,undef,undef,undef,undef,undef,undef,undef,undef]) (fun i=>if i=4 then .int .i64 0 else undef)) _
 generalize lit2 [.string s,undef,undef,undef,undef,undef,undef,undef,.string s,.int .i64 (s.size:Nat),.bool false,undef,.string s,gotV x y r p e,.pointer (some ⟨w1.heap.size,4,none⟩),.int .i64 e,.bool true,undef,undef,undef,undef,undef,undef,undef,undef,undef,undef,undef,undef,undef,undef,undef,undef,undef,undef,undef,undef,undef,undef,undef,undef,undef,undef,undef,undef,undef,undef,undef,undef,undef,undef]=y0
 clear k0 k1 k2 k3 k4 k5 k6 fr
 have T0:=Lib.hid (show StB w.heap.size w1.heap.size x y r p e w (fun _=>false) (w1.alloc (.cells (gotC x y r p e) 200)).drew from⟨P1.out,G1.out,B1.out.drew,rfl⟩)
 clear P1 G1 B1
 refine wp_region_inv (fun d a W=>∃ x':Nat→Value,a=frB w.heap.size w1.heap.size y0 x'∧InvJ 5 (valB w1.heap.size e) (StB w.heap.size w1.heap.size x y r p e w) d x' W) (by kernel_rfl) (by kernel_rfl) ?step ?done ?start
 case start=>exact⟨_,rfl,InvJ.start _ T0.out⟩
 case step=>
  rintro d a W i hi hd hall ⟨x',rfl,hI⟩
  replace hi:i<5:=hi
  have hst:=Lib.hid hI.st
  obtain rfl | rfl | rfl | rfl | rfl:i=0∨i=1∨i=2∨i=3∨i=4:=by omega
  ·clear hall
   refine wpOp_step rfl (fun K hK=>?_)
   simp only[List.getElem_toArray,List.getElem_cons_zero]
   go_simp
   exact hK _ _ ⟨_,by simp[upv,valB],hI.yields 0 ⟨hst.out.res,hst.out.got,hst.out.below,rfl⟩⟩
  ·clear hall
   refine wpOp_step rfl (fun K hK=>?_)
   simp only[List.getElem_toArray,List.getElem_cons_zero,List.getElem_cons_succ]
   go_simp
   exact hK _ _ ⟨_,by simp[upv,valB],hI.yields 1 ⟨hst.out.res,hst.out.got,hst.out.below,rfl⟩⟩
  ·have h1:x' 1=.pointer (some ⟨w1.heap.size,4,none⟩):=hI.pure 1 (by omega) (hall 1 (by kernel_rfl))
   obtain⟨_,_,_,_,g4⟩:=hst.out.got.cells
   clear hall
   refine wpOp_step rfl (fun K hK=>?_)
   simp only[List.getElem_toArray,List.getElem_cons_zero,List.getElem_cons_succ]
   go_simp
   exact hK _ _ ⟨_,by simp[upv,valB,h1],hI.yields 2 ⟨hst.out.res,hst.out.got,hst.out.below,rfl⟩⟩
  ·have h0:x' 0=pktV 0 ⟨#[]⟩ ⟨#[]⟩ 0 0 0 0:=hI.pure 0 (by omega) (hall 0 (by kernel_rfl))
   obtain⟨k0,k1,k2,k3,k4,k5,k6⟩:=hst.out.res.cells
   have fr:=hst.out.res.free
   clear hall
   refine wpOp_step rfl (fun K hK=>?_)
   simp only[List.getElem_toArray,List.getElem_cons_zero,List.getElem_cons_succ]
   go_simp
   refine seven_cells2 (C:=fun W'=>K _ W') hst.out.res (g:=w1.heap.size) (by omega) ?_
   intro W6 hK6 hb6 hG6
   exact hK _ _ ⟨_,by simp[upv,h0],hI.yields 3 ⟨hK6,hG6.trans hst.out.got,hst.out.below.trans hb6,rfl⟩⟩
  ·have h2:x' 2=.int .i64 e:=hI.pure 2 (by omega) (hall 2 (by kernel_rfl))
   clear hall
   refine wpOp_step rfl (fun K hK=>?_)
   simp only[List.getElem_toArray,List.getElem_cons_zero,List.getElem_cons_succ]
   go_simp
   exact hK _ _ ⟨_,by simp[upv,valB,h2],hI.yields 4 ⟨hst.out.res,hst.out.got,hst.out.below,rfl⟩⟩
 case done=>
  rintro d a W hall ⟨x',rfl,hI⟩
  replace hall:∀ i,i<5→d i=true:=hall
  have h4:x' 4=.int .i64 e:=hI.pure 4 (by omega) (hall 4 (by omega))
  have hR:=Lib.hid hI.st.res
  have hB:=Lib.hid hI.st.below
  clear hI hall T0
  obtain⟨k0,k1,k2,k3,k4,k5,k6⟩:=hR.out.cells
  go_wp2_with fail
  exact bodyPost_ret (v:=noP e) (by simp[results,Tryz.results87,go_sem,h4,k0,k1,k2,k3,k4,k5,k6]) rfl ⟨rfl,hB.out⟩
set_option maxRecDepth 100000 in
set_option maxHeartbeats 2000000 in
theorem refParse_port (s:ByteArray) (h0:0<s.size) (x y r:ByteArray) (p F T f e:Int) (h:Tells 136 #[.string s] (gotV x y r p 0)) (q:Tells 137 #[.int .i64 p,.string r] (ptV F T f e)) (he:e≠0):Tells 87 #[.string s] (noP e):=by
 have he2:(e != 0)=true:=bne_iff_ne.2 he
 clear he
 have Q:=Lib.hid q
 clear q
 intro w
 have P0:=Lib.hid (packed_new w 0 ⟨#[]⟩ ⟨#[]⟩ 0 0 0 0)
 have n0:((s.size:Int) == 0)=false:=beq_false_of_ne (by omega)
 have H:=Lib.hid h
 clear h
 go_enter Tryz.func87,Tryz.ntmps87
 go_wp2_with fail
 refine (H.out _).mono ?_
 rintro e' w1 ⟨rfl,hb1⟩
 have P1:=Lib.hid ((P0.out.kept hb1).alloc (.cells (gotC x y r p 0) 200))
 have G1:=Lib.hid (gotten_new w1 x y r p 0)
 have B1:=Lib.hid (below2 (below2 (below_alloc w _) hb1) (below_alloc w1 (.cells (gotC x y r p 0) 200)))
 clear hb1 P0 H
 go_wp2_with fail
 refine (Q.out _).mono ?_
 rintro e' w2 ⟨rfl,hb2⟩
 have P3:=Lib.hid ((P1.out.kept hb2).alloc (.cells #[.int .i64 F,.int .i64 T,.int .i64 f] 202))
 have B3:=Lib.hid (below2 (below2 B1.out hb2) (below_alloc w2 (.cells #[.int .i64 F,.int .i64 T,.int .i64 f] 202)))
 have G3:=Lib.hid ((G1.out.kept hb2).alloc (.cells #[.int .i64 F,.int .i64 T,.int .i64 f] 202))
 clear hb2 P1 B1 G1 Q
 clear G3
 obtain⟨k0,k1,k2,k3,k4,k5,k6⟩:=P3.out.cells
 have fr:=P3.out.free
 go_wp2_with fail
 refine seven_cells (C:=fun W'=>bodyPost _ _ _ _ _ W') P3.out ?_
 intro W6 hK6 hb6
 have B6:=Lib.hid (B3.out.trans hb6)
 clear hb6 k0 k1 k2 k3 k4 k5 k6 fr P3 B3
 obtain⟨k0,k1,k2,k3,k4,k5,k6⟩:=hK6.cells
 exact bodyPost_ret (v:=noP e) (by simp[results,Tryz.results87,go_sem,k0,k1,k2,k3,k4,k5,k6]) rfl ⟨rfl,B6.out⟩
set_option maxRecDepth 100000 in
set_option maxHeartbeats 2000000 in
theorem refParse_good (s:ByteArray) (h0:0<s.size) (x y r:ByteArray) (p F T f:Int) (h:Tells 136 #[.string s] (gotV x y r p 0)) (q:Tells 137 #[.int .i64 p,.string r] (ptV F T f 0)):Tells 87 #[.string s] (outV (top s:Nat) x y F T p f 0):=by
 have Q:=Lib.hid q
 clear q
 intro w
 have P0:=Lib.hid (packed_new w 0 ⟨#[]⟩ ⟨#[]⟩ 0 0 0 0)
 have n0:((s.size:Int) == 0)=false:=beq_false_of_ne (by omega)
 have H:=Lib.hid h
 clear h
 go_enter Tryz.func87,Tryz.ntmps87
 go_wp2_with fail
 refine (H.out _).mono ?_
 rintro e' w1 ⟨rfl,hb1⟩
 have P1:=Lib.hid ((P0.out.kept hb1).alloc (.cells (gotC x y r p 0) 200))
 have G1:=Lib.hid (gotten_new w1 x y r p 0)
 have B1:=Lib.hid (below2 (below2 (below_alloc w _) hb1) (below_alloc w1 (.cells (gotC x y r p 0) 200)))
 clear hb1 P0 H
 go_wp2_with fail
 refine (Q.out _).mono ?_
 rintro e' w2 ⟨rfl,hb2⟩
 have P3:=Lib.hid ((P1.out.kept hb2).alloc (.cells #[.int .i64 F,.int .i64 T,.int .i64 f] 202))
 have B3:=Lib.hid (below2 (below2 B1.out hb2) (below_alloc w2 (.cells #[.int .i64 F,.int .i64 T,.int .i64 f] 202)))
 have G3:=Lib.hid ((G1.out.kept hb2).alloc (.cells #[.int .i64 F,.int .i64 T,.int .i64 f] 202))
 clear hb2 P1 B1 G1 Q
 go_wp2_with fail
 have Q3:=Lib.hid (World.alloc_heap_new w2 (.cells #[.int .i64 F,.int .i64 T,.int .i64 f] 202))
 have l8:(s[0]).toNat<256:=(s[0]).toNat_lt
 have qq:=IntWalk.i64_in (((s[0]).toNat:Int) / 16) (by omega)
 have q8:IntKind.u8.wrap (((s[0]).toNat:Int) / 16)=((s[0]).toNat:Int) / 16:=by
  simp only[IntKind.wrap,IntKind.signed,IntKind.bits]; simp; omega
 have ET:=Lib.hid (show ((top s:Nat):Int)=((s[0]).toNat:Int) / 16 by unfold top; rw[top_byte s h0]; omega)
 change Code.wp _ _ _ (frG s w.heap.size w1.heap.size w2.heap.size (lit2 [undef,undef,undef,undef,undef,undef,.int .i64 0,undef,.string s,.int .i64 (s.size:Nat),.bool false,undef,.string s,gotV x y r p 0,.pointer (some ⟨w1.heap.size,4,none⟩),.int .i64 0,.bool false,undef,undef,undef,ptV F T f 0,.pointer (some ⟨w1.heap.size,3,none⟩),.int .i64 p,.pointer (some ⟨w1.heap.size,2,none⟩),.string r,ptV F T f 0,.agg #[.int .i64 F,.int .i64 T,.int .i64 f],.int .i64 0,.int .i64 0,.bool false,undef,undef]) (fun _=>undef)) _
 generalize lit2 [undef,undef,undef,undef,undef,undef,.int .i64 0,undef,.string s,.int .i64 (s.size:Nat),.bool false,undef,.string s,gotV x y r p 0,.pointer (some ⟨w1.heap.size,4,none⟩),.int .i64 0,.bool false,undef,undef,undef,ptV F T f 0,.pointer (some ⟨w1.heap.size,3,none⟩),.int .i64 p,.pointer (some ⟨w1.heap.size,2,none⟩),.string r,ptV F T f 0,.agg #[.int .i64 F,.int .i64 T,.int .i64 f],.int .i64 0,.int .i64 0,.bool false,undef,undef]=y0
 refine wp_region_inv (fun d a W=>∃ (x':Nat→Value) (b:Nat),a=frG s w.heap.size w1.heap.size w2.heap.size y0 x'∧InvB 15 16 (w2.alloc (.cells #[.int .i64 F,.int .i64 T,.int .i64 f] 202)) 79 (keyC 0 ⟨#[]⟩ ⟨#[]⟩ 0 0 0) (keyC ((s[0].toNat:Nat) / 16) x y F T p) (valG s (s[0].toNat:Nat) w1.heap.size w2.heap.size x y F T p) d x' b W) (by kernel_rfl) (by kernel_rfl) ?step ?done ?start
 case start=>exact⟨fun _=>undef,0,rfl,InvB.start _ _ _ (Below.refl _ _).drew⟩
 case step=>
  rintro d a W i hi hd hall ⟨x',b,rfl,hI⟩
  replace hi:i<17:=hi
  have hbW:=Lib.hid hI.below
  obtain rfl | rfl | rfl | rfl | rfl | rfl | rfl | rfl | rfl | rfl | rfl | rfl | rfl | rfl | rfl | rfl | rfl:i=0∨i=1∨i=2∨i=3∨i=4∨i=5∨i=6∨i=7∨i=8∨i=9∨i=10∨i=11∨i=12∨i=13∨i=14∨i=15∨i=16:=by omega
  ·clear hall
   refine wpOp_step rfl (fun K hK1=>?_)
   simp only[List.getElem_toArray,List.getElem_cons_zero]
   go_simp
   exact hK1 _ _ ⟨_,_,by simp[upv,valG],hI.yields (i:=0) (by omega) (by omega) (Below.refl _ _)⟩
  ·have h0:x' 0=.string s:=hI.pure 0 (by omega) (by omega) (hall 0 (by kernel_rfl))
   clear hall
   refine wpOp_step rfl (fun K hK1=>?_)
   simp only[List.getElem_toArray,List.getElem_cons_zero,List.getElem_cons_succ]
   go_simp
   exact hK1 _ _ ⟨_,_,by simp[upv,valG,h0],hI.yields (i:=1) (by omega) (by omega) (Below.refl _ _)⟩
  ·have h1:x' 1=.int .u8 (s[0].toNat:Nat):=hI.pure 1 (by omega) (by omega) (hall 1 (by kernel_rfl))
   clear hall
   refine wpOp_step rfl (fun K hK1=>?_)
   simp only[List.getElem_toArray,List.getElem_cons_zero,List.getElem_cons_succ]
   go_simp
   exact hK1 _ _ ⟨_,_,by simp[upv,valG,h1],hI.yields (i:=2) (by omega) (by omega) (Below.refl _ _)⟩
  ·have h2:x' 2=.int .u8 ((s[0].toNat:Nat) / 16):=hI.pure 2 (by omega) (by omega) (hall 2 (by kernel_rfl))
   clear hall
   refine wpOp_step rfl (fun K hK1=>?_)
   simp only[List.getElem_toArray,List.getElem_cons_zero,List.getElem_cons_succ]
   go_simp
   exact hK1 _ _ ⟨_,_,by simp[upv,valG,h2],hI.yields (i:=3) (by omega) (by omega) (Below.refl _ _)⟩
  ·clear hall
   refine wpOp_step rfl (fun K hK1=>?_)
   simp only[List.getElem_toArray,List.getElem_cons_zero,List.getElem_cons_succ]
   go_simp
   exact hK1 _ _ ⟨_,_,by simp[upv,valG],hI.yields (i:=4) (by omega) (by omega) (Below.refl _ _)⟩
  ·have h4:x' 4=.pointer (some ⟨w1.heap.size,0,none⟩):=hI.pure 4 (by omega) (by omega) (hall 4 (by kernel_rfl))
   obtain⟨g0,g1,_,g3,_⟩:=(G3.out.kept hbW.out).cells
   clear hall
   refine wpOp_step rfl (fun K hK1=>?_)
   simp only[List.getElem_toArray,List.getElem_cons_zero,List.getElem_cons_succ]
   go_simp
   exact hK1 _ _ ⟨_,_,by simp[upv,valG,h4],hI.yields (i:=5) (by omega) (by omega) (Below.refl _ _)⟩
  ·clear hall
   refine wpOp_step rfl (fun K hK1=>?_)
   simp only[List.getElem_toArray,List.getElem_cons_zero,List.getElem_cons_succ]
   go_simp
   exact hK1 _ _ ⟨_,_,by simp[upv,valG],hI.yields (i:=6) (by omega) (by omega) (Below.refl _ _)⟩
  ·have h6:x' 6=.pointer (some ⟨w1.heap.size,1,none⟩):=hI.pure 6 (by omega) (by omega) (hall 6 (by kernel_rfl))
   obtain⟨g0,g1,_,g3,_⟩:=(G3.out.kept hbW.out).cells
   clear hall
   refine wpOp_step rfl (fun K hK1=>?_)
   simp only[List.getElem_toArray,List.getElem_cons_zero,List.getElem_cons_succ]
   go_simp
   exact hK1 _ _ ⟨_,_,by simp[upv,valG,h6],hI.yields (i:=7) (by omega) (by omega) (Below.refl _ _)⟩
  ·clear hall
   refine wpOp_step rfl (fun K hK1=>?_)
   simp only[List.getElem_toArray,List.getElem_cons_zero,List.getElem_cons_succ]
   go_simp
   exact hK1 _ _ ⟨_,_,by simp[upv,valG],hI.yields (i:=8) (by omega) (by omega) (Below.refl _ _)⟩
  ·have h8:x' 8=.pointer (some ⟨w2.heap.size,0,none⟩):=hI.pure 8 (by omega) (by omega) (hall 8 (by kernel_rfl))
   have q0:=block_kept Q3.out hbW.out
   have q1:=cell_of q0 0
   have q2:=cell_of q0 1
   simp at q1 q2
   clear hall
   refine wpOp_step rfl (fun K hK1=>?_)
   simp only[List.getElem_toArray,List.getElem_cons_zero,List.getElem_cons_succ]
   go_simp
   exact hK1 _ _ ⟨_,_,by simp[upv,valG,h8],hI.yields (i:=9) (by omega) (by omega) (Below.refl _ _)⟩
  ·clear hall
   refine wpOp_step rfl (fun K hK1=>?_)
   simp only[List.getElem_toArray,List.getElem_cons_zero,List.getElem_cons_succ]
   go_simp
   exact hK1 _ _ ⟨_,_,by simp[upv,valG],hI.yields (i:=10) (by omega) (by omega) (Below.refl _ _)⟩
  ·have h10:x' 10=.pointer (some ⟨w2.heap.size,1,none⟩):=hI.pure 10 (by omega) (by omega) (hall 10 (by kernel_rfl))
   have q0:=block_kept Q3.out hbW.out
   have q1:=cell_of q0 0
   have q2:=cell_of q0 1
   simp at q1 q2
   clear hall
   refine wpOp_step rfl (fun K hK1=>?_)
   simp only[List.getElem_toArray,List.getElem_cons_zero,List.getElem_cons_succ]
   go_simp
   exact hK1 _ _ ⟨_,_,by simp[upv,valG,h10],hI.yields (i:=11) (by omega) (by omega) (Below.refl _ _)⟩
  ·clear hall
   refine wpOp_step rfl (fun K hK1=>?_)
   simp only[List.getElem_toArray,List.getElem_cons_zero,List.getElem_cons_succ]
   go_simp
   exact hK1 _ _ ⟨_,_,by simp[upv,valG],hI.yields (i:=12) (by omega) (by omega) (Below.refl _ _)⟩
  ·have h12:x' 12=.pointer (some ⟨w1.heap.size,3,none⟩):=hI.pure 12 (by omega) (by omega) (hall 12 (by kernel_rfl))
   obtain⟨g0,g1,_,g3,_⟩:=(G3.out.kept hbW.out).cells
   clear hall
   refine wpOp_step rfl (fun K hK1=>?_)
   simp only[List.getElem_toArray,List.getElem_cons_zero,List.getElem_cons_succ]
   go_simp
   exact hK1 _ _ ⟨_,_,by simp[upv,valG,h12],hI.yields (i:=13) (by omega) (by omega) (Below.refl _ _)⟩
  ·have h3:x' 3=.int .i64 ((s[0].toNat:Nat) / 16):=hI.pure 3 (by omega) (by omega) (hall 3 (by kernel_rfl))
   have h5:x' 5=.string x:=hI.pure 5 (by omega) (by omega) (hall 5 (by kernel_rfl))
   have h7:x' 7=.string y:=hI.pure 7 (by omega) (by omega) (hall 7 (by kernel_rfl))
   have h9:x' 9=.int .i64 F:=hI.pure 9 (by omega) (by omega) (hall 9 (by kernel_rfl))
   have h11:x' 11=.int .i64 T:=hI.pure 11 (by omega) (by omega) (hall 11 (by kernel_rfl))
   have h13:x' 13=.int .i64 p:=hI.pure 13 (by omega) (by omega) (hall 13 (by kernel_rfl))
   clear hall
   refine wpOp_step rfl (fun K hK1=>?_)
   simp only[List.getElem_toArray,List.getElem_cons_zero,List.getElem_cons_succ]
   go_simp
   exact hK1 _ _ ⟨_,_,by simp[upv,valG,h3,h5,h7,h9,h11,h13],hI.yields (i:=14) (by omega) (by omega) (Below.refl _ _)⟩
  ·clear hall
   refine wpOp_step rfl (fun K hK1=>?_)
   simp only[List.getElem_toArray,List.getElem_cons_zero,List.getElem_cons_succ]
   go_simp
   exact hK1 _ _ ⟨_,_,by simp[upv],hI.makes (by omega) hd⟩
  ·have h14:x' 14=keyV ((s[0].toNat:Nat) / 16) x y F T p:=hI.pure 14 (by omega) (by omega) (hall 14 (by kernel_rfl))
   obtain⟨h15,hle,hz,_⟩:=hI.cell (hall 15 (by kernel_rfl))
   have hK:=hz hd
   obtain⟨k0,k1,k2,k3,k4,k5⟩:=Keyed.cells hK
   have fr:=Keyed.free hK
   have h15d:=hall 15 (by kernel_rfl)
   clear hall
   refine wpOp_step rfl (fun K hK1=>?_)
   simp only[List.getElem_toArray,List.getElem_cons_zero,List.getElem_cons_succ]
   go_simp
   refine six_cells (C:=fun W'=>K _ W') hK ?_
   intro W6 hK6 hb6
   exact hK1 _ _ ⟨_,_,rfl,hI.lays (by omega) h15d hK6 hb6⟩
 case done=>
  rintro d a W hall ⟨x',b,rfl,hI⟩
  replace hall:∀ i,i<17→d i=true:=hall
  obtain⟨h15,hle,_,hv⟩:=hI.cell (hall 15 (by omega))
  have hK:=Lib.hid (hv (hall 16 (by omega)))
  have hR:=Lib.hid (P3.out.kept hI.below)
  have hB:=Lib.hid (below2 B3.out hI.below)
  have q0:=block_kept Q3.out hI.below
  have q1:=cell_of q0 2
  simp at q1
  clear hI hall hv P3 B3 G3 Q3 q0 hle
  obtain⟨c0,c1,c2,c3,c4,c5⟩:=Keyed.cells hK.out
  obtain⟨k0,k1,k2,k3,k4,k5,k6⟩:=hR.out.cells
  have fr:=hR.out.free
  go_wp2_with fail
  refine seven_cells (C:=fun W'=>bodyPost _ _ _ _ _ W') hR.out ?_
  intro W6 hK6 hb6
  have B6:=Lib.hid (hB.out.trans hb6)
  clear hb6 k0 k1 k2 k3 k4 k5 k6 fr hR hB hK
  obtain⟨k0,k1,k2,k3,k4,k5,k6⟩:=hK6.cells
  exact bodyPost_ret (v:=outV (((s[0]).toNat:Int) / 16) x y F T p f 0) (by simp[results,Tryz.results87,go_sem,k0,k1,k2,k3,k4,k5,k6]) rfl ⟨by rw[ET.out],B6.out⟩
end Go.Proofs.YtbamodkgagcmnaaGreat.Pkt
namespace Go.Proofs.YtbamodkgagcmnaaGreat.Pkt
open Go.RowKit Go.Shelf Txt Rgn
set_option maxRecDepth 100000 in
set_option maxHeartbeats 8000000 in
theorem Right_any (V:Int) (x y:ByteArray) (F T p:Int) (b:Bool) (hb:right V x y F T p↔b=true):Tells 138 #[keyV V x y F T p] (.bool b):=by
 intro w
 have P0:=Lib.hid (keyed_new w V x y F T p)
 have B0:=Lib.hid (below_alloc w (.cells (keyC V x y F T p) 79))
 obtain⟨k0,k1,k2,k3,k4,k5⟩:=P0.out.cells
 have HB:=Lib.hid hb
 clear hb
 go_enter Tryz.func138,Tryz.ntmps138
 go_wp2_with fail
 all_goals
  clear k0 k1 k2 k3 k4 k5 P0 B0
  go_ret
  refine⟨congrArg (fun c=>Ending.returned (Value.bool c)) (?_:_=b),below_alloc w _⟩
  rw[Bool.eq_iff_iff,← HB.out]
  clear HB
  unfold right
  first
   | omega
   | (simp only[Bool.or_eq_true,beq_iff_eq]; omega)
   | (simp; omega)
end Go.Proofs.YtbamodkgagcmnaaGreat.Pkt
namespace Go.Proofs.YtbamodkgagcmnaaGreat.Pkt
open Go.RowKit Go.Shelf Txt Rgn
theorem and_low (n:Int) (c:Nat) (hc:c<8):bits .and .i64 n c=(((n % 8).toNat &&& c:Nat):Int):=by
 have hC:(BitVec.ofInt 64 (c:Int)).toNat=c:=by rw[BitVec.toNat_ofInt]; omega
 have key:(BitVec.ofInt 64 n &&& BitVec.ofInt 64 (c:Int)).toNat=(n % 8).toNat &&& c:=by
  rw[BitVec.toNat_and,BitVec.toNat_ofInt,hC]
  have hle:(n % ((2 ^ 64:Nat):Int)).toNat &&& c≤c:=Nat.and_le_right
  have hm:=Nat.and_mod_two_pow (a:=(n % ((2 ^ 64:Nat):Int)).toNat) (b:=c) (n:=3)
  rw[Nat.mod_eq_of_lt (by omega),Nat.mod_eq_of_lt (a:=c) (by omega)] at hm
  rw[hm]
  congr 1
  omega
 have hle:(n % 8).toNat &&& c≤c:=Nat.and_le_right
 show IntKind.i64.wrap ((BitVec.ofInt 64 n &&& BitVec.ofInt 64 (c:Int)).toNat:Nat)=_
 rw[key]
 exact IntWalk.i64_in _ (by omega)
theorem flags_any (n:Int):(bits .and .i64 n 5 != 0)=((bits .and .i64 n 1 == 1) || (bits .and .i64 n 4 == 4)):=by
 have h5:=and_low n 5 (by omega)
 have h1:=and_low n 1 (by omega)
 have h4:=and_low n 4 (by omega)
 change bits .and .i64 n 5=_ at h5
 change bits .and .i64 n 1=_ at h1
 change bits .and .i64 n 4=_ at h4
 rw[h5,h1,h4]
 have hr:(n % 8).toNat<8:=by omega
 generalize (n % 8).toNat=r at *
 have:r=0∨r=1∨r=2∨r=3∨r=4∨r=5∨r=6∨r=7:=by omega
 rcases this with rfl | rfl | rfl | rfl | rfl | rfl | rfl | rfl <;> decide
set_option maxRecDepth 100000 in
set_option maxHeartbeats 2000000 in
theorem refClosing_any (V:Int) (x y:ByteArray) (F T p f:Int):Tells 89 #[pktV V x y F T p f] (.bool (closes p f)):=by
 intro w
 have P0:=Lib.hid (packed_new w V x y F T p f)
 have B0:=Lib.hid (below_alloc w (.cells (pktC V x y F T p f) 81))
 obtain⟨k0,k1,k2,k3,k4,k5,k6⟩:=P0.out.cells
 have E:=Lib.hid (flags_any f)
 by_cases h6:p=6
 ·subst h6
  have EC:=Lib.hid (show closes 6 f=((bits .and .i64 f 1 == 1) || (bits .and .i64 f 4 == 4)) from E.out)
  cases h1:(bits .and .i64 f 1 == 1) with
  | true=>
    rw[h1] at EC
    go_enter Tryz.func89,Tryz.ntmps89
    go_wp2_with fail
    go_ret
    exact⟨by rw[EC.out]; rfl,B0.out⟩
  | false=>
    rw[h1] at EC
    go_enter Tryz.func89,Tryz.ntmps89
    go_wp2_with fail
    go_ret
    exact⟨by rw[EC.out]; rfl,B0.out⟩
 ·have n6:(p == 6)=false:=beq_false_of_ne h6
  have EC:=Lib.hid (show closes p f=false by unfold closes; rw[n6]; rfl)
  clear h6
  go_enter Tryz.func89,Tryz.ntmps89
  go_wp2_with fail
  go_ret
  exact⟨by rw[EC.out]; rfl,B0.out⟩
def wid (x:ByteArray) (k:Nat):ByteArray:=Oct.str (x.data.toList ++ List.replicate k 0)
theorem wid_size (x:ByteArray) (k:Nat):(wid x k).size=x.size+k:=by unfold wid; rw[str_size,List.length_append,List.length_replicate,len_list]
theorem wid_zero (x:ByteArray):wid x 0=x:=ba_ext (by simp[wid])
theorem wid_more (x:ByteArray) (k:Nat):wid x k ++ ⟨#[0]⟩=wid x (k+1):=ba_ext (by rw[app_list]; simp[wid,List.replicate_succ'])
def lenV:Value→Nat
 | .string s=>s.size
 | _=>0
set_option maxRecDepth 100000 in
set_option maxHeartbeats 2000000 in
theorem wide_any (x:ByteArray) (h:x.size≤16) (w:World):Calls Tryz.prog 140 #[.string x] w fun e W'=>e=.returned (.string (wid x (16 - x.size)))∧w=W':=by
 go_enter Tryz.func140,Tryz.ntmps140
 go_wp2
 go_loop [0] (fun s=>∃ k:Nat,x.size+k≤16∧s=.string (wid x k)) (fun s=>16 - lenV s)
 case atStart=>exact⟨0,by omega,by rw[wid_zero]⟩
 case round=>
  obtain⟨k,hk,rfl⟩:=hrel
  have hz:=wid_size x k
  have HM:=Lib.hid (wid_more x k)
  have H16:=fun (e:x.size+k=16)=>Lib.hid (show wid x k=wid x (16 - x.size) by rw[show 16 - x.size=k by omega])
  have HZ:=Lib.hid (wid_size x (k+1))
  generalize wid x k=S at *
  by_cases hlt:x.size+k<16
  ·go_wp2
   refine⟨⟨k+1,by omega,by rw[HM.out]⟩,?_⟩
   show 16 - (S ++ ⟨#[0]⟩).size<16 - S.size
   rw[HM.out,HZ.out]
   omega
  ·go_wp2
   go_ret
   exact⟨by rw[← (H16 (by omega)).out]; rfl,rfl⟩
end Go.Proofs.YtbamodkgagcmnaaGreat.Pkt
namespace Go.Proofs.YtbamodkgagcmnaaGreat.Pkt
open Go.RowKit Go.Shelf Txt Rgn
theorem refOct_some (v n:Int) (w:World) (hv0:0≤v) (hv:v≤18446744073709551615) (h:1≤n∧n≤2):
 Calls Tryz.prog 139 #[.int .u64 v,.int .i64 n] w fun e W'=>∃ S:ByteArray,e=.returned (.string S)∧S.size≤2∧Hid (S=Oct.str (Oct.bytes v.toNat n.toNat))∧Below w.heap.size w W':=
 (Oct.refPut_yes v n w hv0 hv (by omega)).mono fun _ _ ⟨he,hb⟩=>⟨_,he,by rw[str_size,Oct.bytes_length]; omega,Lib.hid rfl,hb⟩
theorem wide_some (x:ByteArray) (h:x.size≤16) (w:World):Calls Tryz.prog 140 #[.string x] w fun e W'=>∃ S:ByteArray,e=.returned (.string S)∧S.size=16∧Hid (S=wid x (16 - x.size))∧Below w.heap.size w W':=
 (wide_any x h w).mono fun _ _ ⟨he,hw⟩=>⟨_,he,by rw[wid_size]; omega,Lib.hid rfl,hw ▸ Below.refl _ _⟩
theorem kb_keep {w W W':World} {h:Nat} {V:Int} {x y:ByteArray} {F T p:Int} (hS:Below w.heap.size w W∧Keyed W h V x y F T p∧W.cell? ⟨h,0,none⟩=some (.int .i64 V)∧W.cell? ⟨h,1,none⟩=some (.string x)∧W.cell? ⟨h,2,none⟩=some (.string y)∧W.cell? ⟨h,3,none⟩=some (.int .i64 F)∧W.cell? ⟨h,4,none⟩=some (.int .i64 T)∧W.cell? ⟨h,5,none⟩=some (.int .i64 p)) (hb:Below W.heap.size W W'):
 Below w.heap.size w W'∧Keyed W' h V x y F T p∧W'.cell? ⟨h,0,none⟩=some (.int .i64 V)∧W'.cell? ⟨h,1,none⟩=some (.string x)∧W'.cell? ⟨h,2,none⟩=some (.string y)∧W'.cell? ⟨h,3,none⟩=some (.int .i64 F)∧W'.cell? ⟨h,4,none⟩=some (.int .i64 T)∧W'.cell? ⟨h,5,none⟩=some (.int .i64 p):=
 have h1:=hS.2.1.kept hb
 ⟨below2 hS.1 hb,h1,h1.cells.1,h1.cells.2.1,h1.cells.2.2.1,h1.cells.2.2.2.1,h1.cells.2.2.2.2.1,h1.cells.2.2.2.2.2⟩
set_option maxRecDepth 100000 in
set_option maxHeartbeats 2000000 in
theorem refBytes_yes (V:Int) (x y:ByteArray) (F T p:Int) (h:right V x y F T p):Tells 88 #[keyV V x y F T p] (.tuple #[.string (recS V x y F T p),.bool true]):=by
 intro w
 have R:=Lib.hid (Right_any V x y F T p true (by simp[h]))
 have sz:=right_size h
 have hx:x.size≤16:=by omega
 have hy:y.size≤16:=by omega
 have HN:=Lib.hid (show recS V x y F T p=Oct.str (Oct.bytes (low V) 1) ++ Oct.str (Oct.bytes (low p) 1) ++ (Oct.str (Oct.bytes (low F) 2) ++ Oct.str (Oct.bytes (low T) 2)) ++ wid x (16 - x.size) ++ wid y (16 - y.size) from ba_ext (by
  rw[recS_list,app_list,app_list,app_list,app_list,app_list]
  unfold recL nums
  rw[pad_short _ _ (by rw[len_list]; omega),pad_short _ _ (by rw[len_list]; omega),len_list,len_list]
  simp[wid,Oct.str]))
 have K0:=keyed_new w V x y F T p
 obtain⟨k0,k1,k2,k3,k4,k5⟩:=K0.cells
 have HK:=Lib.hid K0
 have q0:=low_wrap V
 have q1:=low_wrap p
 have q2:=low_wrap F
 have q3:=low_wrap T
 have l0:=low_lt V
 have l1:=low_lt p
 have l2:=low_lt F
 have l3:=low_lt T
 generalize low V=nV at *
 generalize low p=np at *
 generalize low F=nF at *
 generalize low T=nT at *
 clear h K0
 go_enter Tryz.func88,Tryz.ntmps88
 go_wp2_with fail
 refine (R.out _).mono ?_
 rintro e w1 ⟨rfl,hb1⟩
 have B1:=Lib.hid (below2 (below_alloc w _) hb1)
 have K1:=Lib.hid (HK.out.kept hb1)
 clear hb1 k0 k1 k2 k3 k4 k5 R HK
 obtain⟨k0,k1,k2,k3,k4,k5⟩:=K1.out.cells
 have A1:∀ (S T:ByteArray) (u:World),S.size≤2→T.size≤2→(Op.stringOp .add S T).run Tryz.prog u=.ok (.string (S ++ T)) u:=fun S T u hS hT=>run_string_add_sum u _ _ (by omega)
 go_wp2_with fail
 go_region_held3 (fun W=>Below w.heap.size w W∧Keyed W w.heap.size V x y F T p∧W.cell? ⟨w.heap.size,0,none⟩=some (.int .i64 V)∧W.cell? ⟨w.heap.size,1,none⟩=some (.string x)∧W.cell? ⟨w.heap.size,2,none⟩=some (.string y)∧W.cell? ⟨w.heap.size,3,none⟩=some (.int .i64 F)∧W.cell? ⟨w.heap.size,4,none⟩=some (.int .i64 T)∧W.cell? ⟨w.heap.size,5,none⟩=some (.int .i64 p))
  (first | exact⟨B1.out.drew,K1.out,k0,k1,k2,k3,k4,k5⟩ | exact kb_keep (by assumption) hb3)
  (first | (go_at_call 139; (with_reducible refine (refOct_some _ _ _ ?_ ?_ ?_).mono ?_); omega; omega; omega; rintro e w3 ⟨S,rfl,hS,HS,hb3⟩))
 rename_i S1 hS1 HS1 hx1 hHeld
 obtain⟨hB3,hK3,c0,c1,c2,c3,c4,c5⟩:=hHeld
 have B3:=Lib.hid hB3
 have K3:=Lib.hid hK3
 clear hx1 hb3 hB3 hK3 k0 k1 k2 k3 k4 k5 K1 B1
 have zA:(S1 ++ S).size≤4:=by rw[ByteArray.size_append]; omega
 have HA:Hid (S1 ++ S=Oct.str (Oct.bytes nV 1) ++ Oct.str (Oct.bytes np 1)):=by rw[HS1.out,HS.out]; exact Lib.hid rfl
 clear HS HS1 hS hS1
 generalize S1 ++ S=A at *
 go_wp2_with fail
 go_region_held3 (fun W=>Below w.heap.size w W∧Keyed W w.heap.size V x y F T p∧W.cell? ⟨w.heap.size,0,none⟩=some (.int .i64 V)∧W.cell? ⟨w.heap.size,1,none⟩=some (.string x)∧W.cell? ⟨w.heap.size,2,none⟩=some (.string y)∧W.cell? ⟨w.heap.size,3,none⟩=some (.int .i64 F)∧W.cell? ⟨w.heap.size,4,none⟩=some (.int .i64 T)∧W.cell? ⟨w.heap.size,5,none⟩=some (.int .i64 p))
  (first | exact⟨B3.out.drew,K3.out,c0,c1,c2,c3,c4,c5⟩ | exact kb_keep (by assumption) hb4)
  (first | (go_at_call 139; (with_reducible refine (refOct_some _ _ _ ?_ ?_ ?_).mono ?_); omega; omega; omega; rintro e w4 ⟨S,rfl,hS,HS,hb4⟩))
 rename_i S2 hS2 HS2 hx2 hHeld
 obtain⟨hB4,hK4,d0,d1,d2,d3,d4,d5⟩:=hHeld
 have B4:=Lib.hid hB4
 have K4:=Lib.hid hK4
 clear hx2 hb4 hB4 hK4 c0 c1 c2 c3 c4 c5 K3 B3 A1
 have zB:(S2 ++ S).size≤4:=by rw[ByteArray.size_append]; omega
 have HB:Hid (S2 ++ S=Oct.str (Oct.bytes nF 2) ++ Oct.str (Oct.bytes nT 2)):=by rw[HS2.out,HS.out]; exact Lib.hid rfl
 clear HS HS2 hS hS2
 generalize S2 ++ S=B at *
 have A1:∀ (u:World),(Op.stringOp .add A B).run Tryz.prog u=.ok (.string (A ++ B)) u:=fun u=>run_string_add_sum u _ _ (by omega)
 have A2:∀ (S:ByteArray) (u:World),S.size=16→(Op.stringOp .add (A ++ B) S).run Tryz.prog u=.ok (.string (A ++ B ++ S)) u:=fun S u hS=>run_string_add_sum u _ _ (by rw[ByteArray.size_append]; omega)
 have A3:∀ (S R:ByteArray) (u:World),S.size=16→R.size=16→(Op.stringOp .add (A ++ B ++ S) R).run Tryz.prog u=.ok (.string (A ++ B ++ S ++ R)) u:=fun S R u hS hR=>run_string_add_sum u _ _ (by rw[ByteArray.size_append,ByteArray.size_append]; omega)
 go_wp2_with fail
 go_region_held3 (fun W=>Below w.heap.size w W∧Keyed W w.heap.size V x y F T p∧W.cell? ⟨w.heap.size,0,none⟩=some (.int .i64 V)∧W.cell? ⟨w.heap.size,1,none⟩=some (.string x)∧W.cell? ⟨w.heap.size,2,none⟩=some (.string y)∧W.cell? ⟨w.heap.size,3,none⟩=some (.int .i64 F)∧W.cell? ⟨w.heap.size,4,none⟩=some (.int .i64 T)∧W.cell? ⟨w.heap.size,5,none⟩=some (.int .i64 p))
  (first | exact⟨B4.out.drew,K4.out,d0,d1,d2,d3,d4,d5⟩ | exact kb_keep (by assumption) hb5)
  (first | (go_at_call 140; (with_reducible refine (wide_some _ ?_ _).mono ?_); omega; rintro e w5 ⟨S,rfl,hS,HS,hb5⟩))
 rename_i S3 hS3 HS3 hx3 hHeld
 have E:=Lib.hid (show recS V x y F T p=A ++ B ++ S3 ++ S by rw[HN.out,HA.out,HB.out,HS3.out,HS.out])
 have B5:=Lib.hid hHeld.1
 clear hHeld hx3 hb5 A1 A2 A3 d0 d1 d2 d3 d4 d5 B4 K4
 go_wp2_with fail
 exact bodyPost_ret (v:=.tuple #[.string (A ++ B ++ S3 ++ S),.bool true]) (by simp[results,Tryz.results88,go_sem]) rfl ⟨by rw[E.out],B5.out⟩
end Go.Proofs.YtbamodkgagcmnaaGreat.Pkt
