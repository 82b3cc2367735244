/-
  A strings.Builder that a type embeds ('type text struct{ strings.Builder }'), in a variable of that type: copyCheck, WriteString, String. (The library has these of a variable of the Builder's own type; what is known of a Builder is said in its words, at the embedding type.)
-/
import Derived.Test.YtbamodkgagcmnaaGreatBOctGE
import Derived.Lib.Strings
import Derived.Lib.Slices
import Derived.Lib.Walk
import Derived.Lib.Builder
import Derived.Lib.AppendStr
import Derived.Lib.UnsafeStr
import Derived.Laws.Externs
import Derived.Test.YtbamodkgagcmnaaGreatTxtE
import Derived.Test.YtbamodkgagcmnaaGreatBRgnE
import Derived.Test.YtbamodkgagcmnaaGreatRgnTE
set_option maxRecDepth 100000
namespace Go.Proofs.YtbamodkgagcmnaaGreat.Sb
open Go.RowKit Go.Shelf
abbrev Holds (B b:Nat) (p:Value) (bs:List Value) (w:World):Prop:=Lib.BuilderAt 189 5 B b p bs w
abbrev Any (B b:Nat) (bs:List Value) (w:World):Prop:=Lib.IsBuilder 189 5 B b bs w
abbrev me (b:Nat):Value:=.pointer (some ⟨b,0,none⟩)
theorem any_holds {B b:Nat} {bs:List Value} {w:World} (h:Any B b bs w):∃ p,Holds B b p bs w:=h.elim (fun h=>⟨_,h⟩) (fun h=>⟨_,h⟩)
theorem two_cells {w:World} {b T:Nat} {p v:Value} (h:w.heap[b]? =some (.cells #[p,v] T (0,0))):w.cell? ⟨b,0,none⟩=some p∧w.cell? ⟨b,1,none⟩=some v∧w.frozen? ⟨b,1,none⟩=false∧b<w.heap.size:=
 ⟨by simp[World.cell?,h],by simp[World.cell?,h],by simp[World.frozen?,h],(Array.getElem?_eq_some_iff.1 h).1⟩
theorem own_slice {w:World} {B e n:Nat} {v:Value} {xs:List Value} (h:w.ownsRow B e 1 v n xs):∃ a c,v=.slice a n c:=
 h.2.elim (fun⟨hv,h0⟩=>⟨none,0,h0 ▸ hv⟩) (fun⟨_,c,_,hv,_⟩=>⟨_,c,hv⟩)
theorem there_and_back (b:Nat) (w:World) (h:w.shape? b=some (189,2)):
 (convert 184 263 (me b)).run Tryz.prog w=.ok (me b) w∧(convert 263 184 (me b)).run Tryz.prog w=.ok (me b) w∧
 (binOp .neq 184 (me b) (me b)).run Tryz.prog w=.ok (.bool false) w:=by
 obtain⟨j,hj,hz⟩:=Option.map_eq_some_iff.1 (show (Tryz.prog.info? 187).map (·.size)=some 2 by kernel_rfl)
 exact⟨Lib.run_to_unsafe w _ Tryz.underlying184 Tryz.underlying263 hj (by omega) h Nat.zero_lt_two,Lib.run_from_unsafe w _ Tryz.underlying263 Tryz.underlying184 hj h (by kernel_rfl),Lib.run_neq_ptr_same w _ Tryz.underlying184 hj⟩
set_option maxHeartbeats 1000000 in
set_option maxRecDepth 100000 in
theorem copyCheck_any (B b:Nat) (bs:List Value) (w:World) (h:Any B b bs w):
 Calls Tryz.prog 161 #[me b] w fun e W=>e=.returned (.tuple #[])∧Holds B b (me b) bs W∧Below B w W:=by
 rcases h with h | h
 ·obtain⟨t1,t2,_⟩:=there_and_back b w h.shape
  have c0:=h.cell0
  have f0:=h.frozen0
  have H:=Lib.hid h
  clear h
  go_enter Tryz.func161,Tryz.ntmps161
  go_wp2
  rw[run_callFunc_extern Tryz.func184 (by kernel_rfl) (by kernel_rfl) (by kernel_rfl) (e:=Extern.AbiNoEscape.same) (by kernel_rfl),Lib.run_noEscape]
  simp only[Result.andThen]
  rw[Oper.upon_value]
  go_wp2
  go_end0
  exact⟨rfl,H.out.used _,(Below.refl B w).setCell (p:=⟨b,0,none⟩) H.out.1 _⟩
 ·have t3:=(there_and_back b w h.shape).2.2
  have c0:=h.cell0
  have H:=Lib.hid h
  clear h
  go_enter Tryz.func161,Tryz.ntmps161
  go_wp2
  go_end0
  exact⟨rfl,H.out,Below.refl B w⟩
set_option maxHeartbeats 2000000 in
set_option maxRecDepth 100000 in
theorem WriteString_any (B b:Nat) (bs:List Value) (s:ByteArray) (w:World) (h:Any B b bs w) (hlen:bs.length+s.size≤140737488355328) (hBw:B≤w.heap.size):
 Calls Tryz.prog 126 #[me b,.string s] w fun e W=>e=.returned (.tuple #[.int .i64 s.size,.nilIface])∧Holds B b (me b) (bs ++ Lib.strCells s) W∧Below B w W:=by
 obtain⟨i0,hi,hz0,hz1,hz2⟩:=info_parts Oct.info_u8
 go_enter Tryz.func126,Tryz.ntmps126
 go_wp2_with fail
 refine (copyCheck_any B b bs _ h).mono ?_
 rintro e w1 ⟨rfl,⟨hB,v,hk,ho,hv⟩,b1⟩
 obtain⟨c0,c1,_,hlt⟩:=two_cells hk
 have hs1:=b1.size
 go_wp2_with (at_builtin; refine Lib.wpList_append_own_string _ rfl _ _ 185 9 rfl B 5 i0 Tryz.underlying185 Tryz.underlying9 hi hz0 hz1 hz2 _ _ _ rfl ho s rfl (by unfold maxLen; omega) (by omega) (by omega) ?_)
 intro v2 w2 ho2 hg _
 have hk2:=(hg.block b hlt (fun e=>hv e.symm)).trans hk
 have b2:=b1.grown hg (by omega) (fun k hk=>(ho.lt k hk).1)
 obtain⟨d0,d1,f1,_⟩:=two_cells hk2
 obtain⟨a,c,rfl⟩:=own_slice ho2
 have R:=Lib.hid (And.intro (Lib.BuilderAt.put (T:=189) (p:=me b) (bs':=bs ++ Lib.strCells s) hB hk2 (by rw[List.length_append,Lib.strCells_length]; exact ho2) (by decide)) (b2.setCell (p:=⟨b,1,none⟩) hB (.slice a (bs.length+s.size) c)))
 clear hg ho ho2 b1 b2 hk hk2
 go_wp2
 go_ret2
 exact⟨rfl,R.out⟩
set_option maxHeartbeats 1000000 in
set_option maxRecDepth 100000 in
theorem String_some (B b:Nat) (l:List UInt8) (w:World) (h:Any B b (Lib.byteCells l) w) (h0:l≠[]):
 Calls Tryz.prog 127 #[me b] w fun e W=>e=.returned (.string ⟨l.toArray⟩)∧Below B w W:=by
 obtain⟨p,_,v,hk,ho,_⟩:=any_holds h
 rw[Lib.byteCells_length] at ho
 have hl:=List.length_pos_iff.2 h0
 obtain⟨g,cap,cur,rfl,hBg,hg,hlc,hcm,hsz⟩:∃ g cap cur,v=.slice (some ⟨g,0,none⟩) l.length cap∧B≤g∧w.heap[g]? =some (.cells cur 5 (0,0))∧l.length≤cap∧cap≤maxLen∧cur.size=cap * 1:=by
  rcases ho.2 with⟨_,e⟩ | ⟨g,cap,cur,r0,r1,r2,r3,r4,r5,_⟩
  ·omega
  ·exact⟨g,cap,cur,r0,r1,r2,r3,r4,r5⟩
 have c1:w.drew.cell? ⟨b,1,none⟩=_:=(two_cells hk).2.1
 have u1:(Builtin.unsafeSliceData_ #[185] 233 #[.slice (some ⟨g,0,none⟩) l.length cap]).run Tryz.prog w.drew=.ok (.pointer (some ⟨g,0,none⟩)) w.drew:=Lib.run_unsafeSliceData_row _ _ _ _ _ _ (by omega)
 have sh:w.drew.shape? g=some (5,cur.size):=by
  have e:w.drew.heap[g]? =_:=hg
  simp[World.shape?,e]
 have u2:=Lib.run_unsafeString_row (P:=Tryz.prog) w.drew 233 3 9 5 Tryz.underlying233 (by kernel_rfl) g cur.size sh l h0 (by omega) (by unfold maxLen at hcm; omega) (fun j x hx=>ho.cells rfl j (.int .u8 x.toNat) (by simp[Lib.byteCells,hx]))
 have R:=Lib.hid (Lib.below_freeze (Below.refl B w).drew (p:=⟨g,0,none⟩) hBg l.length)
 clear ho hk hg sh
 go_enter Tryz.func127,Tryz.ntmps127
 go_wp2
 go_region
 all_goals (go_wp2; go_ret; exact⟨rfl,R.out⟩)
end Go.Proofs.YtbamodkgagcmnaaGreat.Sb
namespace Go.Proofs.YtbamodkgagcmnaaGreat.Ip6
open Go.RowKit Go.Shelf Txt Rgn
open Oct (num bytes_length str)
set_option maxRecDepth 100000 in
set_option maxHeartbeats 1000000 in
theorem number_any (s:ByteArray) (h1:1≤s.size) (h4:s.size≤4) (w:World):
 Calls Tryz.prog 195 #[.string s] w fun e W'=>e=.returned (.int .i64 (num s.data.toList:Nat))∧Below w.heap.size w W':=by
 have hn:=Oct.num_lt s.data.toList
 have hp:256 ^ s.data.toList.length≤4294967296:=by
  rw[len_list]
  have:256 ^ s.size≤256 ^ 4:=Nat.pow_le_pow_right (by omega) h4
  simpa using this
 have hg:Oct.getV s 0 (s.size:Int)=num s.data.toList:=by
  unfold Oct.getV
  rw[show ((s.size:Int)).toNat=s.data.toList.length by rw[len_list]; omega,Int.toNat_zero,List.drop_zero,List.take_length]
 have q:=IntWalk.i64_in (num s.data.toList:Nat) (by omega)
 have G:=Lib.hid hg
 clear hg
 go_enter Tryz.func195,Tryz.ntmps195
 go_wp2_with fail
 refine (Oct.Get_yes s 0 (s.size:Int) w (by omega) (by omega)).mono ?_
 rintro e w2 ⟨rfl,hb2⟩
 rw[G.out]
 go_wp2_with fail
 go_ret
 exact⟨rfl,hb2⟩
theorem Put_some (v n:Int) (w:World) (hv0:0≤v) (hv:v≤18446744073709551615) (h:1≤n∧n≤8):
 Calls Tryz.prog 123 #[.int .u64 v,.int .i64 n] w fun e W'=>∃ S:ByteArray,e=.returned (.string S)∧S.size≤8∧Hid (S=Oct.str (Oct.bytes v.toNat n.toNat))∧Below w.heap.size w W':=
 (Oct.Put_yes v n w hv0 hv (by omega)).mono fun _ _ ⟨he,hb⟩=>⟨_,he,by rw[str_size,Oct.bytes_length]; omega,Lib.hid rfl,hb⟩
theorem grown_none {W W':World} (hb:Below W.heap.size W W'):W.grownBy W' none:=⟨hb.os,hb.tape,hb.output,hb.size,fun k hk _=>hb.block k hk⟩
theorem builder_kept {T e B b:Nat} {bs:List Value} {W W':World} (h:Lib.IsBuilder T e B b bs W) (hb:Below W.heap.size W W'):Lib.IsBuilder T e B b bs W':=by
 have key:∀ p,Lib.BuilderAt T e B b p bs W→Lib.BuilderAt T e B b p bs W':=by
  rintro p ⟨hB,v,hbk,hown,hne⟩
  refine⟨hB,v,(hb.block b (Array.getElem?_eq_some_iff.1 hbk).1).trans hbk,hown.kept (grown_none hb) ?_,hne⟩
  cases hv:v.ownBlock with
  | none=>exact .inl rfl
  | some k=>exact .inr (by simp)
 rcases h with h | h
 ·exact .inl (key _ h)
 ·exact .inr (key _ h)
def Held (B b:Nat) (bs:List Value) (w W:World):Prop:=Lib.IsBuilder 189 5 B b bs W∧Below B w W∧B≤W.heap.size
theorem held_keep {B b:Nat} {bs:List Value} {w W W':World} (h:Held B b bs w W) (hb:Below W.heap.size W W'):Held B b bs w W':=
 ⟨builder_kept h.1 hb,h.2.1.trans (hb.mono h.2.2),Nat.le_trans h.2.2 hb.size⟩
theorem held_write {B b:Nat} {bs:List Value} {w W:World} (s:ByteArray) (h:Held B b bs w W) (hlen:bs.length+s.size≤140737488355328):
 Calls Tryz.prog 126 #[.pointer (some ⟨b,0,none⟩),.string s] W fun e W'=>e=.returned (.tuple #[.int .i64 s.size,.nilIface])∧Held B b (bs ++ Lib.strCells s) w W':=
 (Sb.WriteString_any B b bs s W h.1 hlen h.2.2).mono fun _ _ ⟨he,hI,hb⟩=>⟨he,.inr hI,h.2.1.trans hb,Nat.le_trans h.2.2 hb.size⟩
abbrev frN (b:Nat) (v n:Int) (x:Nat→Value):Act:= { tmps:=#[.pointer (some ⟨b,0,none⟩),.int .i64 v,.int .i64 n,undef,undef,undef,x 0,x 1,x 2,x 3,x 4,x 5,x 6,x 7],defers:=[] }
def valN (b:Nat) (v n:Int) (S:ByteArray):Nat→Value
 | 0 | 1 | 2=>.pointer (some ⟨b,0,none⟩)
 | 3=>.int .i64 v
 | 4=>.int .u64 v
 | 5=>.int .i64 n
 | 6=>.string S
 | _=>.tuple #[.int .i64 S.size,.nilIface]
def stN (B b:Nat) (bs:List Value) (S:ByteArray) (w0:World) (d:Nat→Bool) (W:World):Prop:=Held B b (if d 7=true then bs ++ Lib.strCells S else bs) w0 W
theorem stN_upd {B b:Nat} {bs:List Value} {S:ByteArray} {w0 W:World} {d:Nat→Bool} (h:stN B b bs S w0 d W) (i:Nat) (hi:i≠7) {W':World} (hb:Below W.heap.size W W'):stN B b bs S w0 (upd d i) W':=by
 unfold stN
 rw[upd_other d (Ne.symm hi)]
 exact held_keep h hb
set_option maxRecDepth 100000 in
set_option maxHeartbeats 2000000 in
theorem textNumber_any (B b:Nat) (bs:List Value) (v n:Int) (w0 w:World) (h:Held B b bs w0 w) (hv:0≤v) (hv2:v≤9223372036854775807) (hn:1≤n∧n≤8) (hlen:bs.length≤1099511627776):
 Calls Tryz.prog 125 #[.pointer (some ⟨b,0,none⟩),.int .i64 v,.int .i64 n] w fun e w'=>e=.returned (.tuple #[])∧
  Held B b (bs ++ Lib.strCells (Oct.str (Oct.bytes v.toNat n.toNat))) w0 w':=by
 have q:=IntWalk.u64_in v (by omega)
 have H0:=Lib.hid h
 have hz:(Oct.str (Oct.bytes v.toNat n.toNat)).size≤8:=by rw[str_size,Oct.bytes_length]; omega
 have P0:=fun W=>Lib.hid (Oct.Put_yes v n W hv (by omega) hn)
 clear h
 generalize Oct.str (Oct.bytes v.toNat n.toNat)=S at *
 go_enter Tryz.func125,Tryz.ntmps125
 go_wp2_with fail
 refine wp_region_inv (fun d a W=>∃ x:Nat→Value,a=frN b v n x∧InvJ 8 (valN b v n S) (stN B b bs S w0) d x W) (by kernel_rfl) (by kernel_rfl) ?step ?done ?start
 case start=>exact⟨fun _=>undef,rfl,InvJ.start _ (held_keep H0.out ((Below.refl _ w).drew))⟩
 case step=>
  rintro d a W i hi hd hall ⟨x,rfl,hI⟩
  replace hi:i<8:=hi
  have hst:=Lib.hid hI.st
  obtain rfl | rfl | rfl | rfl | rfl | rfl | rfl | rfl:i=0∨i=1∨i=2∨i=3∨i=4∨i=5∨i=6∨i=7:=by omega
  ·clear hall
   refine wpOp_step rfl (fun K hK=>?_)
   simp only[List.getElem_toArray,List.getElem_cons_zero]
   go_simp
   exact hK _ _ ⟨_,by simp[upv,valN],hI.yields 0 (stN_upd hst.out 0 (by omega) (Below.refl _ _))⟩
  ·have h0:x 0=.pointer (some ⟨b,0,none⟩):=hI.pure 0 (by omega) (hall 0 (by kernel_rfl))
   clear hall
   refine wpOp_step rfl (fun K hK=>?_)
   simp only[List.getElem_toArray,List.getElem_cons_zero,List.getElem_cons_succ]
   go_simp
   exact hK _ _ ⟨_,by simp[upv,valN,h0],hI.yields 1 (stN_upd hst.out 1 (by omega) (Below.refl _ _))⟩
  ·have h1:x 1=.pointer (some ⟨b,0,none⟩):=hI.pure 1 (by omega) (hall 1 (by kernel_rfl))
   clear hall
   refine wpOp_step rfl (fun K hK=>?_)
   simp only[List.getElem_toArray,List.getElem_cons_zero,List.getElem_cons_succ]
   go_simp
   exact hK _ _ ⟨_,by simp[upv,valN,h1],hI.yields 2 (stN_upd hst.out 2 (by omega) (Below.refl _ _))⟩
  ·clear hall
   refine wpOp_step rfl (fun K hK=>?_)
   simp only[List.getElem_toArray,List.getElem_cons_zero,List.getElem_cons_succ]
   go_simp
   exact hK _ _ ⟨_,by simp[upv,valN],hI.yields 3 (stN_upd hst.out 3 (by omega) (Below.refl _ _))⟩
  ·have h3:x 3=.int .i64 v:=hI.pure 3 (by omega) (hall 3 (by kernel_rfl))
   clear hall
   refine wpOp_step rfl (fun K hK=>?_)
   simp only[List.getElem_toArray,List.getElem_cons_zero,List.getElem_cons_succ]
   go_simp
   exact hK _ _ ⟨_,by simp[upv,valN,h3],hI.yields 4 (stN_upd hst.out 4 (by omega) (Below.refl _ _))⟩
  ·clear hall
   refine wpOp_step rfl (fun K hK=>?_)
   simp only[List.getElem_toArray,List.getElem_cons_zero,List.getElem_cons_succ]
   go_simp
   exact hK _ _ ⟨_,by simp[upv,valN],hI.yields 5 (stN_upd hst.out 5 (by omega) (Below.refl _ _))⟩
  ·have h4:x 4=.int .u64 v:=hI.pure 4 (by omega) (hall 4 (by kernel_rfl))
   have h5:x 5=.int .i64 n:=hI.pure 5 (by omega) (hall 5 (by kernel_rfl))
   clear hall
   refine wpOp_step rfl (fun K hK=>?_)
   simp only[List.getElem_toArray,List.getElem_cons_zero,List.getElem_cons_succ]
   go_simp
   refine (P0 W).out.mono ?_
   rintro e w3 ⟨rfl,hb3⟩
   exact hK _ _ ⟨_,by simp[upv,valN,h4,h5],hI.yields 6 (stN_upd hst.out 6 (by omega) hb3)⟩
  ·have h2:x 2=.pointer (some ⟨b,0,none⟩):=hI.pure 2 (by omega) (hall 2 (by kernel_rfl))
   have h6:x 6=.string S:=hI.pure 6 (by omega) (hall 6 (by kernel_rfl))
   clear hall
   refine wpOp_step rfl (fun K hK=>?_)
   simp only[List.getElem_toArray,List.getElem_cons_zero,List.getElem_cons_succ]
   go_simp
   have hst':Held B b bs w0 W:=by
    have h:=hst.out
    unfold stN at h
    rwa [if_neg (by rw[hd]; decide)] at h
   refine (held_write S hst' (by omega)).mono ?_
   rintro e w3 ⟨rfl,hb3⟩
   exact hK _ _ ⟨_,by simp[upv,valN,h2,h6],hI.yields 7 (by unfold stN; rw[upd_same,if_pos rfl]; exact hb3)⟩
 case done=>
  rintro d a W hall ⟨x,rfl,hI⟩
  replace hall:∀ i,i<8→d i=true:=hall
  have hst:=hI.st
  unfold stN at hst
  rw[if_pos (hall 7 (by omega))] at hst
  clear hI hall
  go_wp2_with fail
  go_end0
  exact⟨rfl,hst⟩
end Go.Proofs.YtbamodkgagcmnaaGreat.Ip6
namespace Go.Proofs.YtbamodkgagcmnaaGreat.Ip6
open Go.RowKit Go.Shelf Txt Rgn
theorem info_str:(Tryz.prog.info? 9).map (fun i=>(i.zero,i.size,i.bytes))=some (some (.string ⟨#[]⟩),1,16):=by kernel_rfl
def pre (z:Nat→Nat):Nat→Nat
 | 0=>0
 | k+1=>pre z k+z k
def cutL (s:ByteArray) (z:Nat→Nat):Nat→List Value
 | 0=>[]
 | k+1=>cutL s z k ++ [.string (s.extract (pre z k) (pre z (k+1)))]
theorem cutL_length (s:ByteArray) (z:Nat→Nat) (k:Nat):(cutL s z k).length=k:=by
 induction k with
 | zero=>rfl
 | succ k ih=>rw[cutL,List.length_append,ih]; rfl
theorem pre_le (z:Nat→Nat) {j k:Nat} (h:j≤k):pre z j≤pre z k:=by
 induction k with
 | zero=>obtain rfl:j=0:=by omega
         exact Nat.le_refl _
 | succ k ih=>
   by_cases e:j=k+1
   ·rw[e]; exact Nat.le_refl _
   ·exact Nat.le_trans (ih (by omega)) (Nat.le_add_right _ _)
theorem cutL_get (s:ByteArray) (z:Nat→Nat) {j k:Nat} (h:j<k):(cutL s z k)[j]? =some (.string (s.extract (pre z j) (pre z (j+1)))):=by
 induction k with
 | zero=>omega
 | succ k ih=>
   rw[cutL]
   by_cases e:j=k
   ·subst e; rw[List.getElem?_append_right (by rw[cutL_length]; omega),cutL_length,Nat.sub_self]; rfl
   ·rw[List.getElem?_append_left (by rw[cutL_length]; omega)]; exact ih (by omega)
structure CutI (w:World) (k n:Nat) (T:ByteArray) (v:Value) (xs:List Value) (d:Nat→Bool) (x:Nat→Value) (W:World):Prop where
 p0:d 0=true→x 0=v
 p1:d 1=true→x 1=.string T
 p2:d 2=true→x 2=.int .i64 (n:Nat)
 p3:d 3=true→x 3=.string (T.extract 0 n)
 p4:d 4=true→∃ g,x 4=.slice (some ⟨g,0,none⟩) 1 1∧(d 5=false→W.cell? ⟨g,0,none⟩=some (.string (T.extract 0 n)))
 p5:d 5=true→W.ownsRow w.heap.size 9 1 (x 5) (k+1) (xs ++ [.string (T.extract 0 n)])
 o5:d 5=true→d 4=true
 q5:d 5=false→W.ownsRow w.heap.size 9 1 v k xs
 p6:d 6=true→x 6=.string T
 p7:d 7=true→x 7=.int .i64 (n:Nat)
 p8:d 8=true→x 8=.string (T.extract n T.size)
 p9:d 9=true→d 0=true∧d 5=true∧x 9=x 5
 q9:d 9=false→x 9=v
 p10:d 10=true→d 1=true∧d 6=true∧x 10=.string (T.extract n T.size)
 q10:d 10=false→x 10=.string T
 below:Below w.heap.size w W
theorem CutI.start {w W:World} {k n:Nat} {T:ByteArray} {v:Value} {xs:List Value} {x:Nat→Value} (h:W.ownsRow w.heap.size 9 1 v k xs) (h9:x 9=v) (h10:x 10=.string T) (hb:Below w.heap.size w W):CutI w k n T v xs (fun _=>false) x W:=
 ⟨fun h=>(by cases h),fun h=>(by cases h),fun h=>(by cases h),fun h=>(by cases h),fun h=>(by cases h),fun h=>(by cases h),fun h=>(by cases h),fun _=>h,fun h=>(by cases h),fun h=>(by cases h),fun h=>(by cases h),fun h=>(by cases h),fun _=>h9,fun h=>(by cases h),fun _=>h10,hb⟩
section
variable {w W:World} {k n:Nat} {T:ByteArray} {v:Value} {xs:List Value} {d:Nat→Bool} {x:Nat→Value}
theorem CutI.no9 (h:CutI w k n T v xs d x W) (h0:d 0=false∨d 5=false):d 9=false:=by
 cases e:d 9 with
 | false=>rfl
 | true=>
   obtain⟨a,b,_⟩:=h.p9 e
   rcases h0 with h0 | h0
   ·rw[a] at h0; cases h0
   ·rw[b] at h0; cases h0
theorem CutI.no10 (h:CutI w k n T v xs d x W) (h0:d 1=false∨d 6=false):d 10=false:=by
 cases e:d 10 with
 | false=>rfl
 | true=>
   obtain⟨a,b,_⟩:=h.p10 e
   rcases h0 with h0 | h0
   ·rw[a] at h0; cases h0
   ·rw[b] at h0; cases h0
theorem CutI.s0 (h:CutI w k n T v xs d x W) (hd:d 0=false):CutI w k n T v xs (upd d 0) (upv x 0 v) W:=
 { h with p0:=fun _=>rfl,p9:=fun e=>absurd e (by have:=h.no9 (.inl hd); simp[upd,this]) }
theorem CutI.s1 (h:CutI w k n T v xs d x W) (hd:d 1=false):CutI w k n T v xs (upd d 1) (upv x 1 (.string T)) W:=
 { h with p1:=fun _=>rfl,p10:=fun e=>absurd e (by have:=h.no10 (.inl hd); simp[upd,this]) }
theorem CutI.s2 (h:CutI w k n T v xs d x W):CutI w k n T v xs (upd d 2) (upv x 2 (.int .i64 (n:Nat))) W:= { h with p2:=fun _=>rfl }
theorem CutI.s3 (h:CutI w k n T v xs d x W):CutI w k n T v xs (upd d 3) (upv x 3 (.string (T.extract 0 n))) W:= { h with p3:=fun _=>rfl }
theorem CutI.no5 (h:CutI w k n T v xs d x W) (h0:d 4=false):d 5=false:=by
 cases e:d 5 with
 | false=>rfl
 | true=>rw[h.o5 e] at h0; cases h0
theorem CutI.s4 (h:CutI w k n T v xs d x W) (h5:d 5=false):CutI w k n T v xs (upd d 4) (upv x 4 (.slice (some ⟨W.heap.size,0,none⟩) 1 1)) (W.alloc (.cells #[.string (T.extract 0 n)] 9)):=
 { h with
   p4:=fun _=>⟨W.heap.size,rfl,fun _=>by simp⟩
   p5:=fun e=>absurd e (by simp[upd,h5])
   o5:=fun _=>rfl
   q5:=fun _=>(h.q5 h5).alloc _
   below:=h.below.alloc h.below.size _ }
theorem CutI.s5 (h:CutI w k n T v xs d x W) (h4:d 4=true) (h5:d 5=false) {v':Value} {W':World} (ho:W'.ownsRow w.heap.size 9 1 v' (k+1) (xs ++ [.string (T.extract 0 n)])) (hb:Below w.heap.size w W'):CutI w k n T v xs (upd d 5) (upv x 5 v') W':=
 { h with
   p4:=fun e=>by obtain⟨g,hg,_⟩:=h.p4 e; exact⟨g,hg,fun e=>by cases e⟩
   p5:=fun _=>ho
   o5:=fun _=>h4
   q5:=fun e=>by cases e
   p9:=fun e=>absurd e (by have:=h.no9 (.inr h5); simp[upd,this])
   below:=hb }
theorem CutI.s6 (h:CutI w k n T v xs d x W) (hd:d 6=false):CutI w k n T v xs (upd d 6) (upv x 6 (.string T)) W:=
 { h with p6:=fun _=>rfl,p10:=fun e=>absurd e (by have:=h.no10 (.inr hd); simp[upd,this]) }
theorem CutI.s7 (h:CutI w k n T v xs d x W):CutI w k n T v xs (upd d 7) (upv x 7 (.int .i64 (n:Nat))) W:= { h with p7:=fun _=>rfl }
theorem CutI.s8 (h:CutI w k n T v xs d x W):CutI w k n T v xs (upd d 8) (upv x 8 (.string (T.extract n T.size))) W:= { h with p8:=fun _=>rfl }
theorem CutI.s9 (h:CutI w k n T v xs d x W) (h0:d 0=true) (h5:d 5=true):CutI w k n T v xs (upd d 9) (upv x 9 (x 5)) W:=
 { h with p9:=fun _=>⟨h0,h5,rfl⟩,q9:=fun e=>by cases e }
theorem CutI.s10 (h:CutI w k n T v xs d x W) (h1:d 1=true) (h6:d 6=true):CutI w k n T v xs (upd d 10) (upv x 10 (.string (T.extract n T.size))) W:=
 { h with p10:=fun _=>⟨h1,h6,rfl⟩,q10:=fun e=>by cases e }
end
set_option maxRecDepth 100000 in
set_option maxHeartbeats 2000000 in
theorem cut_any (s:ByteArray) (hs:s.size≤1099511627776) (z:Nat→Nat) (N a cap:Nat) (hN:N≤1000) (w:World) (ha:a<w.heap.size)
 (hc:∀ j,j<N→w.cell? ⟨a,j,none⟩=some (.int .i64 (z j:Nat))):
 Calls Tryz.prog 194 #[.string s,.slice (some ⟨a,0,none⟩) N cap] w fun e W'=>
  (s.size<pre z N∧e=.returned (.tuple #[.slice none 0 0,.bool false])∧Below w.heap.size w W')∨
  (pre z N≤s.size∧∃ v,e=.returned (.tuple #[v,.bool true])∧W'.ownsRow w.heap.size 9 1 v (N+1) (cutL s z N ++ [.string (s.extract (pre z N) s.size)])∧Below w.heap.size w W'):=by
 obtain⟨i0,hi,hz0,hz1,hz2⟩:=info_parts info_str
 go_enter Tryz.func194,Tryz.ntmps194
 go_wp2_with fail
 go_loopw [0,6,11] (fun t v i wr=>∃ k:Nat,k≤N∧i=.int .i64 k∧pre z k≤s.size∧t=.string (s.extract (pre z k) s.size)∧wr.ownsRow w.heap.size 9 1 v k (cutL s z k)∧Below w.heap.size w wr) (fun _ _ i _=>N - (intOf i).toNat)
 case atStart=>exact⟨0,Nat.zero_le _,rfl,Nat.zero_le _,by rw[show s.extract (pre z 0) s.size=s from ba_ext (by rw[ext_list,← len_list,pre,List.drop_zero,Nat.sub_zero,List.take_length])],World.ownsRow_nil _ _ _ _,Below.refl _ _⟩
 case round=>
  obtain⟨k,hk,rfl,hp,rfl,hown,hB⟩:=hrel
  by_cases hlt:k<N
  ·have hck:=(hB.cell (p:=⟨a,k,none⟩) ha).trans (hc k hlt)
   have HZ:=Lib.hid (ext_size s (pre z k) s.size (Nat.le_refl _))
   have HP:=Lib.hid (show pre z (k+1)=pre z k+z k from rfl)
   generalize hT:s.extract (pre z k) s.size=T at *
   by_cases hfit:z k≤T.size
   ·have hdec:decide (T.size<z k)=false:=decide_eq_false (by omega)
    have hTs:T.size≤1099511627776:=by have:=HZ.out; omega
    go_wp2_with fail
    clear hdec
    have hz:(z k:Int)≤(T.size:Int):=by omega
    clear hck hc
    refine wp_region_inv (fun d A W=>∃ x:Nat→Value,A=({ tmps:=#[x 10,.slice (some ⟨a,0,none⟩) N cap,undef,undef,u4,u5,x 9,undef,.int .i64 (z k:Nat),.slice (some ⟨a,0,none⟩) N cap,.int .i64 (N:Nat),.int .i64 (k:Nat),.bool true,.pointer (some ⟨a,k,none⟩),.int .i64 (z k:Nat),.int .i64 (z k:Nat),.string T,.int .i64 (T.size:Nat),.bool false,x 0,x 1,x 2,x 3,x 4,x 5,x 6,x 7,x 8,u28,undef,undef,undef,undef],defers:=[] }:Act)∧CutI w k (z k) T u6 (cutL s z k) d x W) (by kernel_rfl) (by kernel_rfl) ?step ?done ?start
    case start=>exact⟨fun i=>if i=0 then u19 else if i=1 then u20 else if i=2 then u21 else if i=3 then u22 else if i=4 then u23 else if i=5 then u24 else if i=6 then u25 else if i=7 then u26 else if i=8 then u27 else if i=9 then u6 else .string T,rfl,CutI.start hown rfl rfl hB.drew⟩
    case step=>
     rintro d A W i hi' hd hall ⟨x,rfl,hI⟩
     replace hi':i<11:=hi'
     obtain rfl | rfl | rfl | rfl | rfl | rfl | rfl | rfl | rfl | rfl | rfl:i=0∨i=1∨i=2∨i=3∨i=4∨i=5∨i=6∨i=7∨i=8∨i=9∨i=10:=by omega
     ·have x9:=hI.q9 (hI.no9 (.inl hd))
      clear hall
      refine wpOp_step rfl (fun K hK=>?_)
      simp only[List.getElem_toArray,List.getElem_cons_zero]
      go_simp
      exact hK _ _ ⟨_,by simp[upv,x9],hI.s0 hd⟩
     ·have x10:=hI.q10 (hI.no10 (.inl hd))
      clear hall
      refine wpOp_step rfl (fun K hK=>?_)
      simp only[List.getElem_toArray,List.getElem_cons_zero,List.getElem_cons_succ]
      go_simp
      exact hK _ _ ⟨_,by simp[upv,x10],hI.s1 hd⟩
     ·clear hall
      refine wpOp_step rfl (fun K hK=>?_)
      simp only[List.getElem_toArray,List.getElem_cons_zero,List.getElem_cons_succ]
      go_simp
      exact hK _ _ ⟨_,by simp[upv],hI.s2⟩
     ·have x1:=hI.p1 (hall 1 (by kernel_rfl))
      have x2:=hI.p2 (hall 2 (by kernel_rfl))
      clear hall
      refine wpOp_step rfl (fun K hK=>?_)
      simp only[List.getElem_toArray,List.getElem_cons_zero,List.getElem_cons_succ]
      go_simp
      exact hK _ _ ⟨_,by simp[upv,x1,x2],hI.s3⟩
     ·have x3:=hI.p3 (hall 3 (by kernel_rfl))
      clear hall
      refine wpOp_step rfl (fun K hK=>?_)
      simp only[List.getElem_toArray,List.getElem_cons_zero,List.getElem_cons_succ]
      go_simp
      exact hK _ _ ⟨_,by simp[upv,x3],hI.s4 (hI.no5 hd)⟩
     ·have d4:=hall 4 (by kernel_rfl)
      have x0:=hI.p0 (hall 0 (by kernel_rfl))
      obtain⟨g,x4,hg⟩:=hI.p4 d4
      have ho:=hI.q5 hd
      have hb:=hI.below
      clear hall
      refine wpOp_step rfl (fun K hK=>?_)
      simp only[List.getElem_toArray,List.getElem_cons_zero,List.getElem_cons_succ]
      refine free_wanted rfl ?_
      refine wp_append_own _ _ _ 68 rfl w.heap.size 9 i0 (.string ⟨#[]⟩) 1 16 Tryz.underlying68 hi hz0 hz1 hz2 rfl (by decide) _ _ _ x0 ho ⟨g,0,none⟩ 1 1 [.string (T.extract 0 (z k))] x4 rfl ?c1 ?c2 ?c3 ?c4 ?c5 ?_
      case c1=>
       intro j u hj
       match j,hj with
       | 0,hj=>simp at hj; subst hj; exact hg hd
      case c2=>intro u hu; simp at hu; subst hu; rfl
      case c3=>unfold maxLen; omega
      case c4=>omega
      case c5=>exact hb.size
      intro v' w1 hown' hgrow _
      exact hK _ _ ⟨_,by simp[upv,Act.put],hI.s5 d4 hd hown' (hb.grown hgrow hb.size (fun k hk=>(ho.lt k hk).1))⟩
     ·have x10:=hI.q10 (hI.no10 (.inr hd))
      clear hall
      refine wpOp_step rfl (fun K hK=>?_)
      simp only[List.getElem_toArray,List.getElem_cons_zero,List.getElem_cons_succ]
      go_simp
      exact hK _ _ ⟨_,by simp[upv,x10],hI.s6 hd⟩
     ·clear hall
      refine wpOp_step rfl (fun K hK=>?_)
      simp only[List.getElem_toArray,List.getElem_cons_zero,List.getElem_cons_succ]
      go_simp
      exact hK _ _ ⟨_,by simp[upv],hI.s7⟩
     ·have x6:=hI.p6 (hall 6 (by kernel_rfl))
      have x7:=hI.p7 (hall 7 (by kernel_rfl))
      clear hall
      refine wpOp_step rfl (fun K hK=>?_)
      simp only[List.getElem_toArray,List.getElem_cons_zero,List.getElem_cons_succ]
      go_simp
      exact hK _ _ ⟨_,by simp[upv,x6,x7],hI.s8⟩
     ·have d0:=hall 0 (by kernel_rfl)
      have d5:=hall 5 (by kernel_rfl)
      clear hall
      refine wpOp_step rfl (fun K hK=>?_)
      simp only[List.getElem_toArray,List.getElem_cons_zero,List.getElem_cons_succ]
      go_simp
      exact hK _ _ ⟨_,by simp[upv],hI.s9 d0 d5⟩
     ·have d1:=hall 1 (by kernel_rfl)
      have d6:=hall 6 (by kernel_rfl)
      have x8:=hI.p8 (hall 8 (by kernel_rfl))
      clear hall
      refine wpOp_step rfl (fun K hK=>?_)
      simp only[List.getElem_toArray,List.getElem_cons_zero,List.getElem_cons_succ]
      go_simp
      exact hK _ _ ⟨_,by simp[upv,x8],hI.s10 d1 d6⟩
    case done=>
     rintro d A W hall ⟨x,rfl,hI⟩
     replace hall:∀ i,i<11→d i=true:=hall
     have x10:=(hI.p10 (hall 10 (by omega))).2.2
     have x9:=(hI.p9 (hall 9 (by omega))).2.2
     have h5:=hI.p5 (hall 5 (by omega))
     have hb5:=hI.below
     clear hI hall hown hB
     generalize x 5=v' at *
     go_wp2_with fail
     have hZ:=HZ.out
     have e1:T.extract (z k) T.size=s.extract (pre z (k+1)) s.size:=by
      rw[HP.out,← hT,ext_ext s _ _ _ _ (by rw[hT]; omega),hT,show pre z k+T.size=s.size by omega]
     have e2:T.extract 0 (z k)=s.extract (pre z k) (pre z (k+1)):=by
      rw[HP.out,← hT,ext_ext s _ _ _ _ (by omega),Nat.add_zero]
     refine⟨⟨k+1,by omega,by go_num,by rw[HP.out]; omega,by rw[x10,e1],?_,hb5⟩,by simp[intOf]; omega⟩
     rw[x9]
     rw[e2] at h5
     exact h5
   ·have hdec:decide (T.size<z k)=true:=decide_eq_true (by omega)
    have hTs:T.size≤1099511627776:=by have:=HZ.out; omega
    go_wp2_with fail
    go_ret2
    refine .inl ⟨?_,rfl,hB⟩
    have:=pre_le z (show k+1≤N by omega)
    have hz:=HZ.out
    rw[HP.out] at this
    omega
  ·obtain rfl:k=N:=by omega
   generalize hT:s.extract (pre z k) s.size=T at *
   go_wp2_with (at_builtin; refine wpList_append_own _ rfl _ _ 68 rfl w.heap.size 9 i0 (.string ⟨#[]⟩) 1 16 Tryz.underlying68 hi hz0 hz1 hz2 rfl (by decide) _ _ _ rfl (hown.alloc _) ⟨wr.heap.size,0,none⟩ 1 1 [.string T] rfl rfl ?c1 ?c2 ?c3 ?c4 ?c5 ?_)
   case c1=>
    intro j u hj
    match j,hj with
    | 0,hj=>simp at hj; subst hj; simp[Addr.add]
   case c2=>intro u hu; simp at hu; subst hu; rfl
   case c3=>unfold maxLen; omega
   case c4=>omega
   case c5=>have:=hB.size; simp; omega
   intro v' w1 hown' hgrow _
   have hB1:Below w.heap.size w w1:=(hB.alloc hB.size _).grown hgrow (by have:=hB.size; simp; omega) (fun k hk=>(hown.lt k hk).1)
   clear hgrow hown hc
   go_wp2
   go_ret2
   exact .inr ⟨hp,v',rfl,by rw[hT]; exact hown',hB1⟩
end Go.Proofs.YtbamodkgagcmnaaGreat.Ip6
namespace Go.Proofs.YtbamodkgagcmnaaGreat.Ip6
open Go.RowKit Go.Shelf Txt Rgn
open Oct (num bytes_length str)
def zz:Nat→Nat
 | 0=>4
 | 1=>2
 | 2=>1
 | 3=>1
 | _=>16
def ver (s:ByteArray):Nat:=gv s 0 4 / 268435456
def len (s:ByteArray):Nat:=gv s 4 2
abbrev badV (e:Int):Value:=.tuple #[.agg #[.string ⟨#[]⟩,.string ⟨#[]⟩,.int .i64 0],.string ⟨#[]⟩,.int .i64 e]
abbrev okV (s:ByteArray):Value:=.tuple #[.agg #[.string (s.extract 8 24),.string (s.extract 24 40),.int .i64 (gv s 6 1:Nat)],.string (s.extract 40 (40+len s)),.int .i64 0]
def longV (s:ByteArray):Value:=if ver s≠6 then badV 3 else if s.size<40+len s then badV 4 else okV s
theorem longV_version {s:ByteArray} (h:ver s≠6):longV s=badV 3:=if_pos h
theorem longV_length {s:ByteArray} (h:ver s=6) (h2:s.size<40+len s):longV s=badV 4:=by unfold longV; rw[if_neg (by omega),if_pos h2]
theorem longV_ok {s:ByteArray} (h:ver s=6) (h2:¬ s.size<40+len s):longV s=okV s:=by unfold longV; rw[if_neg (by omega),if_neg h2]
theorem head_cells {W:World} {b T:Nat} {v0 v1 v2:Value} (h:W.heap[b]? =some (.cells #[v0,v1,v2] T (0,0))):
 W.cell? ⟨b,0,none⟩=some v0∧W.cell? ⟨b,1,none⟩=some v1∧W.cell? ⟨b,2,none⟩=some v2∧∀ i,W.frozen? ⟨b,i,none⟩=false:=
 ⟨by simp[World.cell?,h],by simp[World.cell?,h],by simp[World.cell?,h],fun i=>by simp[World.frozen?,h]⟩
theorem sizes_cells (W:World) (b:Nat) (h:W.heap[b]? =some (.cells #[.int .i64 4,.int .i64 2,.int .i64 1,.int .i64 1,.int .i64 16,.int .i64 16] 3 (0,0))):∀ j,j<6→W.cell? ⟨b,j,none⟩=some (.int .i64 (zz j:Nat)):=by
 intro j hj
 obtain rfl | rfl | rfl | rfl | rfl | rfl:j=0∨j=1∨j=2∨j=3∨j=4∨j=5:=by omega
 all_goals (rw[Lib.cell_of_heap h]; rfl)
def Fields (s:ByteArray) (g:Nat) (W:World):Prop:=∀ j,j<7→W.cell? ⟨g,j,none⟩=some (.string (if j<6 then s.extract (pre zz j) (pre zz (j+1)) else s.extract 40 s.size))
theorem Fields.kept {s:ByteArray} {g:Nat} {W W':World} (h:Fields s g W) (hb:Below W.heap.size W W'):Fields s g W':=fun j hj=>
 (hb.cell (p:=⟨g,j,none⟩) (World.block_lt_of_cell? W _ (h j hj))).trans (h j hj)
theorem fields_of {s:ByteArray} {B g cap:Nat} {W:World} (h:W.ownsRow B 9 1 (.slice (some ⟨g,0,none⟩) 7 cap) 7 (cutL s zz 6 ++ [.string (s.extract (pre zz 6) s.size)])):Fields s g W:=by
 intro j hj
 rw[h.cellAt j (by omega)]
 by_cases h6:j<6
 ·rw[if_pos h6,List.getElem?_append_left (by rw[cutL_length]; exact h6),cutL_get s zz h6]
 ·obtain rfl:j=6:=by omega
  rw[if_neg h6,List.getElem?_append_right (by rw[cutL_length]; omega),cutL_length]; rfl
set_option maxRecDepth 100000 in
set_option maxHeartbeats 2000000 in
theorem Parse_short (s:ByteArray) (hs:s.size<40) (w:World):
 Calls Tryz.prog 166 #[.string s] w fun e W'=>e=.returned (badV 2)∧Below w.heap.size w W':=by
 have hB0:Below w.heap.size w ((w.alloc (.cells #[.string ⟨#[]⟩,.string ⟨#[]⟩,.int .i64 0] 142)).alloc (.cells #[.int .i64 4,.int .i64 2,.int .i64 1,.int .i64 1,.int .i64 16,.int .i64 16] 3)):=((Below.refl _ w).alloc (Nat.le_refl _) _).alloc (by simp) _
 have cF:=cut_any s (by omega) zz 6 (w.heap.size+1) 6 (by omega) ((w.alloc (.cells #[.string ⟨#[]⟩,.string ⟨#[]⟩,.int .i64 0] 142)).alloc (.cells #[.int .i64 4,.int .i64 2,.int .i64 1,.int .i64 1,.int .i64 16,.int .i64 16] 3)) (by simp) (sizes_cells _ _ (by
  have:=World.alloc_heap_new (w.alloc (.cells #[.string ⟨#[]⟩,.string ⟨#[]⟩,.int .i64 0] 142)) (.cells #[.int .i64 4,.int .i64 2,.int .i64 1,.int .i64 1,.int .i64 16,.int .i64 16] 3)
  rwa [World.size_alloc] at this))
 have CF:=Lib.hid cF
 have bh:((w.alloc (.cells #[.string ⟨#[]⟩,.string ⟨#[]⟩,.int .i64 0] 142)).alloc (.cells #[.int .i64 4,.int .i64 2,.int .i64 1,.int .i64 1,.int .i64 16,.int .i64 16] 3)).heap[w.heap.size]? =some (.cells #[.string ⟨#[]⟩,.string ⟨#[]⟩,.int .i64 0] 142 (0,0)):=by
  rw[Below.heap_alloc _ _ _ (by simp)]
  exact World.alloc_heap_new w _
 clear cF
 go_enter Tryz.func166,Tryz.ntmps166
 go_wp2_with fail
 refine CF.out.mono ?_
 clear CF
 rintro e w2 (⟨_,rfl,hb2⟩ | ⟨h,_⟩)
 ·have hB2:Below w.heap.size w w2:=below2 hB0 hb2
  obtain⟨z0,z1,z2,zf⟩:=head_cells ((hb2.block w.heap.size (by simp; omega)).trans bh)
  have f0:=zf 0
  have f1:=zf 1
  have f2:=zf 2
  clear zf bh hb2 hB0
  go_wp2_with fail
  refine bodyPost_ret (v:=badV 2) (by simp[results,Tryz.results166,go_sem,z0,z1,z2]) rfl ⟨rfl,?_⟩
  exact ((hB2.setCell (p:=⟨w.heap.size,0,none⟩) (by simp) _).setCell (p:=⟨w.heap.size,1,none⟩) (by simp) _).setCell (p:=⟨w.heap.size,2,none⟩) (by simp) _
 ·exact absurd h (by have:pre zz 6=40:=rfl
                     omega)
abbrev frP (s:ByteArray) (h g cap n q:Nat) (R:ByteArray) (x:Nat→Value):Act:= { tmps:=#[.string s,undef,.pointer (some ⟨h,0,none⟩),.string ⟨#[]⟩,.int .i64 0,.slice (some ⟨g,0,none⟩) 7 cap,.bool true,.int .i64 (n:Nat),x 11,.tuple #[.slice (some ⟨g,0,none⟩) 7 cap,.bool true],.string s,.slice (some ⟨h+1,0,none⟩) 6 6,.tuple #[.slice (some ⟨g,0,none⟩) 7 cap,.bool true],.slice (some ⟨g,0,none⟩) 7 cap,.bool true,.bool true,.bool false,undef,.slice (some ⟨g,0,none⟩) 7 cap,.pointer (some ⟨g,0,none⟩),.string (s.extract 0 4),.int .i64 (q:Nat),.int .i64 ((q:Int) / 268435456),.bool false,undef,.slice (some ⟨g,0,none⟩) 7 cap,.pointer (some ⟨g,1,none⟩),.string (s.extract 4 6),.int .i64 (n:Nat),.int .i64 (n:Nat),.slice (some ⟨g,0,none⟩) 7 cap,.pointer (some ⟨g,6,none⟩),.string R,.int .i64 (R.size:Nat),.bool false,undef,x 0,x 1,x 2,x 3,x 4,x 5,x 6,x 7,x 8,x 9,x 10,undef,undef,undef,undef,undef,undef],defers:=[] }
def valP (s:ByteArray) (g cap:Nat):Nat→Value
 | 0 | 3 | 6=>.slice (some ⟨g,0,none⟩) 7 cap
 | 1=>.pointer (some ⟨g,4,none⟩)
 | 2=>.string (s.extract 8 24)
 | 4=>.pointer (some ⟨g,5,none⟩)
 | 5=>.string (s.extract 24 40)
 | 7=>.pointer (some ⟨g,2,none⟩)
 | 8=>.string (s.extract 6 7)
 | 9=>.int .i64 (gv s 6 1:Nat)
 | _=>.agg #[.string (s.extract 8 24),.string (s.extract 24 40),.int .i64 (gv s 6 1:Nat)]
set_option maxRecDepth 100000 in
set_option maxHeartbeats 2000000 in
theorem Parse_long (s:ByteArray) (h40:40≤s.size) (hs:s.size≤1099511627776) (w:World):
 Calls Tryz.prog 166 #[.string s] w fun e W'=>e=.returned (longV s)∧Below w.heap.size w W':=by
 have hB0:Below w.heap.size w ((w.alloc (.cells #[.string ⟨#[]⟩,.string ⟨#[]⟩,.int .i64 0] 142)).alloc (.cells #[.int .i64 4,.int .i64 2,.int .i64 1,.int .i64 1,.int .i64 16,.int .i64 16] 3)):=((Below.refl _ w).alloc (Nat.le_refl _) _).alloc (by simp) _
 have cF:=cut_any s (by omega) zz 6 (w.heap.size+1) 6 (by omega) ((w.alloc (.cells #[.string ⟨#[]⟩,.string ⟨#[]⟩,.int .i64 0] 142)).alloc (.cells #[.int .i64 4,.int .i64 2,.int .i64 1,.int .i64 1,.int .i64 16,.int .i64 16] 3)) (by simp) (sizes_cells _ _ (by
  have:=World.alloc_heap_new (w.alloc (.cells #[.string ⟨#[]⟩,.string ⟨#[]⟩,.int .i64 0] 142)) (.cells #[.int .i64 4,.int .i64 2,.int .i64 1,.int .i64 1,.int .i64 16,.int .i64 16] 3)
  rwa [World.size_alloc] at this))
 have CF:=Lib.hid cF
 have bh:((w.alloc (.cells #[.string ⟨#[]⟩,.string ⟨#[]⟩,.int .i64 0] 142)).alloc (.cells #[.int .i64 4,.int .i64 2,.int .i64 1,.int .i64 1,.int .i64 16,.int .i64 16] 3)).heap[w.heap.size]? =some (.cells #[.string ⟨#[]⟩,.string ⟨#[]⟩,.int .i64 0] 142 (0,0)):=by
  rw[Below.heap_alloc _ _ _ (by simp)]
  exact World.alloc_heap_new w _
 clear cF
 go_enter Tryz.func166,Tryz.ntmps166
 go_wp2_with fail
 refine CF.out.mono ?_
 clear CF
 rintro e w2 (⟨h,_⟩ | ⟨_,v,rfl,hown,hb2⟩)
 ·exact absurd h (by have:pre zz 6=40:=rfl
                     omega)
 have hB2:Below w.heap.size w w2:=below2 hB0 hb2
 obtain⟨g,cap,rfl,hg1⟩:∃ g cap,v=.slice (some ⟨g,0,none⟩) 7 cap∧w.heap.size+2≤g:=by
  rcases hown.2 with⟨_,h0⟩ | ⟨g,cap,cur,hv,hg,_⟩
  ·omega
  ·exact⟨g,cap,hv,by simpa using hg⟩
 have hF2:=Lib.hid (fields_of hown)
 have HB:=Lib.hid ((hb2.block w.heap.size (by simp; omega)).trans bh)
 have hf0:w2.cell? ⟨g,0,none⟩=some (.string (s.extract 0 4)):=hF2.out 0 (by omega)
 have hf1:w2.cell? ⟨g,1,none⟩=some (.string (s.extract 4 6)):=hF2.out 1 (by omega)
 clear hown bh hb2 hB0
 go_wp2_with fail
 refine (number_any (s.extract 0 4) (by rw[ext_size s 0 4 (by omega)]; omega) (by rw[ext_size s 0 4 (by omega)]; omega) _).mono ?_
 rintro e w3 ⟨rfl,hb3⟩
 rw[gv_ext]
 have hB3:=below2 hB2 hb3
 have hF3:=Lib.hid (hF2.out.kept hb3)
 have HB3:=Lib.hid ((hb3.block w.heap.size (Array.getElem?_eq_some_iff.1 HB.out).1).trans HB.out)
 have HV:=Lib.hid (show ver s=gv s 0 (4 - 0) / 268435456 from rfl)
 have hq:gv s 0 (4 - 0)<4294967296:=gv_lt s 0 4 (by omega)
 clear hF2 HB hf0 hf1 hb3 hB2
 generalize gv s 0 (4 - 0)=q at *
 by_cases hv:ver s=6
 ·have hne:((q:Int) / 268435456 != 6)=false:=by rw[HV.out] at hv; simp; omega
  have hf1:w3.cell? ⟨g,1,none⟩=some (.string (s.extract 4 6)):=hF3.out 1 (by omega)
  go_wp2_with fail
  refine (number_any (s.extract 4 6) (by rw[ext_size s 4 6 (by omega)]; omega) (by rw[ext_size s 4 6 (by omega)]; omega) _).mono ?_
  rintro e w4 ⟨rfl,hb4⟩
  rw[gv_ext]
  have hB4:=below2 hB3 hb4
  have hF4:=Lib.hid (hF3.out.kept hb4)
  have HB4:=Lib.hid ((hb4.block w.heap.size (Array.getElem?_eq_some_iff.1 HB3.out).1).trans HB3.out)
  have HL:=Lib.hid (show len s=gv s 4 (6 - 4) from rfl)
  have hl:gv s 4 (6 - 4)<65536:=gv_lt s 4 2 (by omega)
  have HR:=Lib.hid (ext_size s 40 s.size (Nat.le_refl _))
  have hf6:w4.cell? ⟨g,6,none⟩=some (.string (s.extract 40 s.size)):=hF4.out 6 (by omega)
  clear hF3 HB3 hf1 hb4 hB3 hne HV hq
  generalize gv s 4 (6 - 4)=n at *
  generalize hRd:s.extract 40 s.size=R at *
  have hRs:R.size≤1099511627776:=by have:=HR.out; omega
  by_cases hn:R.size<n
  ·have hd:decide (R.size<n)=true:=decide_eq_true hn
   obtain⟨z0,z1,z2,zf⟩:=head_cells HB4.out
   have f0:=zf 0
   have f1:=zf 1
   have f2:=zf 2
   have PV:=Lib.hid (longV_length hv (by rw[HL.out]; have:=HR.out; omega))
   clear zf hF4 HB4
   go_wp2_with fail
   refine bodyPost_ret (v:=badV 4) (by simp[results,Tryz.results166,go_sem,z0,z1,z2]) rfl ⟨by rw[PV.out],?_⟩
   exact ((hB4.setCell (p:=⟨w.heap.size,0,none⟩) (by simp) _).setCell (p:=⟨w.heap.size,1,none⟩) (by simp) _).setCell (p:=⟨w.heap.size,2,none⟩) (by simp) _
  ·have hd:decide (R.size<n)=false:=decide_eq_false hn
   have PV:=Lib.hid (longV_ok hv (by rw[HL.out]; have:=HR.out; omega))
   go_wp2_with fail
   have hn0:n≤R.size:=by omega
   clear hd hf6 hn
   refine wp_region_inv (fun d a W=>∃ (x:Nat→Value) (b:Nat),a=frP s w.heap.size g cap n q R x∧InvT 11 12 w4 (.string ⟨#[]⟩) (.string ⟨#[]⟩) (.int .i64 0) (.string (s.extract 8 24)) (.string (s.extract 24 40)) (.int .i64 (gv s 6 1:Nat)) (valP s g cap) d x b W)
    (by kernel_rfl) (by kernel_rfl) ?step ?done ?start
   case start=>exact⟨fun _=>undef,0,rfl,InvT.start _ _ _ (Below.refl _ w4).drew⟩
   case step=>
    rintro d a W i hi hd hall ⟨x,b,rfl,hI⟩
    replace hi:i<13:=hi
    obtain rfl | rfl | rfl | rfl | rfl | rfl | rfl | rfl | rfl | rfl | rfl | rfl | rfl:i=0∨i=1∨i=2∨i=3∨i=4∨i=5∨i=6∨i=7∨i=8∨i=9∨i=10∨i=11∨i=12:=by omega
    ·clear hall
     refine wpOp_step rfl (fun K hK=>?_)
     simp only[List.getElem_toArray,List.getElem_cons_zero]
     go_simp
     exact hK _ _ ⟨_,_,by simp[upv,valP],hI.yields (i:=0) (by omega) (by omega) (Below.refl _ _)⟩
    ·have h0:x 0=.slice (some ⟨g,0,none⟩) 7 cap:=hI.pure 0 (by omega) (by omega) (hall 0 (by kernel_rfl))
     clear hall
     refine wpOp_step rfl (fun K hK=>?_)
     simp only[List.getElem_toArray,List.getElem_cons_zero,List.getElem_cons_succ]
     go_simp
     exact hK _ _ ⟨_,_,by simp[upv,valP,h0],hI.yields (i:=1) (by omega) (by omega) (Below.refl _ _)⟩
    ·have h1:x 1=.pointer (some ⟨g,4,none⟩):=hI.pure 1 (by omega) (by omega) (hall 1 (by kernel_rfl))
     have hc:W.cell? ⟨g,4,none⟩=some (.string (s.extract 8 24)):=(hF4.out.kept hI.below) 4 (by omega)
     clear hall
     refine wpOp_step rfl (fun K hK=>?_)
     simp only[List.getElem_toArray,List.getElem_cons_zero,List.getElem_cons_succ]
     go_simp
     exact hK _ _ ⟨_,_,by simp[upv,valP,h1],hI.yields (i:=2) (by omega) (by omega) (Below.refl _ _)⟩
    ·clear hall
     refine wpOp_step rfl (fun K hK=>?_)
     simp only[List.getElem_toArray,List.getElem_cons_zero,List.getElem_cons_succ]
     go_simp
     exact hK _ _ ⟨_,_,by simp[upv,valP],hI.yields (i:=3) (by omega) (by omega) (Below.refl _ _)⟩
    ·have h3:x 3=.slice (some ⟨g,0,none⟩) 7 cap:=hI.pure 3 (by omega) (by omega) (hall 3 (by kernel_rfl))
     clear hall
     refine wpOp_step rfl (fun K hK=>?_)
     simp only[List.getElem_toArray,List.getElem_cons_zero,List.getElem_cons_succ]
     go_simp
     exact hK _ _ ⟨_,_,by simp[upv,valP,h3],hI.yields (i:=4) (by omega) (by omega) (Below.refl _ _)⟩
    ·have h4:x 4=.pointer (some ⟨g,5,none⟩):=hI.pure 4 (by omega) (by omega) (hall 4 (by kernel_rfl))
     have hc:W.cell? ⟨g,5,none⟩=some (.string (s.extract 24 40)):=(hF4.out.kept hI.below) 5 (by omega)
     clear hall
     refine wpOp_step rfl (fun K hK=>?_)
     simp only[List.getElem_toArray,List.getElem_cons_zero,List.getElem_cons_succ]
     go_simp
     exact hK _ _ ⟨_,_,by simp[upv,valP,h4],hI.yields (i:=5) (by omega) (by omega) (Below.refl _ _)⟩
    ·clear hall
     refine wpOp_step rfl (fun K hK=>?_)
     simp only[List.getElem_toArray,List.getElem_cons_zero,List.getElem_cons_succ]
     go_simp
     exact hK _ _ ⟨_,_,by simp[upv,valP],hI.yields (i:=6) (by omega) (by omega) (Below.refl _ _)⟩
    ·have h6:x 6=.slice (some ⟨g,0,none⟩) 7 cap:=hI.pure 6 (by omega) (by omega) (hall 6 (by kernel_rfl))
     clear hall
     refine wpOp_step rfl (fun K hK=>?_)
     simp only[List.getElem_toArray,List.getElem_cons_zero,List.getElem_cons_succ]
     go_simp
     exact hK _ _ ⟨_,_,by simp[upv,valP,h6],hI.yields (i:=7) (by omega) (by omega) (Below.refl _ _)⟩
    ·have h7:x 7=.pointer (some ⟨g,2,none⟩):=hI.pure 7 (by omega) (by omega) (hall 7 (by kernel_rfl))
     have hc:W.cell? ⟨g,2,none⟩=some (.string (s.extract 6 7)):=(hF4.out.kept hI.below) 2 (by omega)
     clear hall
     refine wpOp_step rfl (fun K hK=>?_)
     simp only[List.getElem_toArray,List.getElem_cons_zero,List.getElem_cons_succ]
     go_simp
     exact hK _ _ ⟨_,_,by simp[upv,valP,h7],hI.yields (i:=8) (by omega) (by omega) (Below.refl _ _)⟩
    ·have h8:x 8=.string (s.extract 6 7):=hI.pure 8 (by omega) (by omega) (hall 8 (by kernel_rfl))
     clear hall
     refine wpOp_step rfl (fun K hK=>?_)
     simp only[List.getElem_toArray,List.getElem_cons_zero,List.getElem_cons_succ]
     go_simp
     refine (number_any (s.extract 6 7) (by rw[ext_size s 6 7 (by omega)]; omega) (by rw[ext_size s 6 7 (by omega)]; omega) _).mono ?_
     rintro e w5 ⟨rfl,hb5⟩
     rw[gv_ext]
     exact hK _ _ ⟨_,_,by simp[upv,valP,h8],hI.yields (i:=9) (by omega) (by omega) hb5⟩
    ·have h2:x 2=.string (s.extract 8 24):=hI.pure 2 (by omega) (by omega) (hall 2 (by kernel_rfl))
     have h5:x 5=.string (s.extract 24 40):=hI.pure 5 (by omega) (by omega) (hall 5 (by kernel_rfl))
     have h9:x 9=.int .i64 (gv s 6 1:Nat):=hI.pure 9 (by omega) (by omega) (hall 9 (by kernel_rfl))
     clear hall
     refine wpOp_step rfl (fun K hK=>?_)
     simp only[List.getElem_toArray,List.getElem_cons_zero,List.getElem_cons_succ]
     go_simp
     exact hK _ _ ⟨_,_,by simp[upv,valP,h2,h5,h9],hI.yields (i:=10) (by omega) (by omega) (Below.refl _ _)⟩
    ·clear hall
     refine wpOp_step rfl (fun K hK=>?_)
     simp only[List.getElem_toArray,List.getElem_cons_zero,List.getElem_cons_succ]
     go_simp
     exact hK _ _ ⟨_,_,by simp[upv],hI.makes (by omega) hd _⟩
    ·have h10:x 10=.agg #[.string (s.extract 8 24),.string (s.extract 24 40),.int .i64 (gv s 6 1:Nat)]:=hI.pure 10 (by omega) (by omega) (hall 10 (by kernel_rfl))
     have hdl:=hall 11 (by kernel_rfl)
     obtain⟨h11,_,hz,_⟩:=hI.cell hdl
     obtain⟨c0,c1,c2,cf⟩:=hz hd
     have f0:=cf 0
     have f1:=cf 1
     have f2:=cf 2
     clear cf hz
     clear hall
     refine wpOp_step rfl (fun K hK=>?_)
     simp only[List.getElem_toArray,List.getElem_cons_zero,List.getElem_cons_succ]
     go_simp
     exact hK _ _ ⟨_,_,rfl,hI.lays (by omega) hdl hd⟩
   case done=>
    rintro d a W hall ⟨x,b,rfl,hI⟩
    replace hall:∀ i,i<13→d i=true:=hall
    obtain⟨h11,hb,_,hz⟩:=hI.cell (hall 11 (by omega))
    obtain⟨c0,c1,c2,_⟩:=hz (hall 12 (by omega))
    have hBW:=hI.below
    have hB5:=below2 hB4 hBW
    obtain⟨z0,z1,z2,zf⟩:=head_cells ((hBW.block w.heap.size (Array.getElem?_eq_some_iff.1 HB4.out).1).trans HB4.out)
    have f0:=zf 0
    have f1:=zf 1
    have f2:=zf 2
    have hf6:W.cell? ⟨g,6,none⟩=some (.string R):=by rw[← hRd]; exact (hF4.out.kept hBW) 6 (by omega)
    have hblt:w.heap.size<w4.heap.size:=(Array.getElem?_eq_some_iff.1 HB4.out).1
    have m1:¬ (w.heap.size=b):=by omega
    have m2:¬ (w.heap.size=g):=by omega
    have hn':(n:Int)≤(R.size:Int):=by omega
    rename_i hl1 hr1
    clear hz hI hall zf hF4 HB4 hBW hB4 hl1 hr1 d
    simp only[frP,h11]
    clear h11
    have hC:=Lib.hid ((((hB5.drew).setCell (p:=⟨w.heap.size,0,none⟩) (by simp) (.string (s.extract 8 24))).setCell (p:=⟨w.heap.size,1,none⟩) (by simp) (.string (s.extract 24 40))).setCell (p:=⟨w.heap.size,2,none⟩) (by simp) (.int .i64 (gv s 6 1:Nat)))
    clear hB5 hblt hb hg1
    go_wp2_with fail
    go_region
    all_goals go_wp2
    have eR:R.extract 0 n=s.extract 40 (40+len s):=by
     have:=HR.out
     rw[← hRd,ext_ext s _ _ _ _ (by omega),HL.out]
    exact bodyPost_ret (v:=.tuple #[.agg #[.string (s.extract 8 24),.string (s.extract 24 40),.int .i64 (gv s 6 1:Nat)],.string (R.extract 0 n),.int .i64 0]) (by simp[results,Tryz.results166,go_sem,z0,z1,z2]) rfl ⟨by rw[PV.out,eR],hC.out⟩
 ·have hne:((q:Int) / 268435456 != 6)=true:=by rw[HV.out] at hv; simp; omega
  obtain⟨z0,z1,z2,zf⟩:=head_cells HB3.out
  have f0:=zf 0
  have f1:=zf 1
  have f2:=zf 2
  clear zf
  go_wp2_with fail
  refine bodyPost_ret (v:=badV 3) (by simp[results,Tryz.results166,go_sem,z0,z1,z2]) rfl ⟨by rw[longV_version hv],?_⟩
  exact ((hB3.setCell (p:=⟨w.heap.size,0,none⟩) (by simp) _).setCell (p:=⟨w.heap.size,1,none⟩) (by simp) _).setCell (p:=⟨w.heap.size,2,none⟩) (by simp) _
end Go.Proofs.YtbamodkgagcmnaaGreat.Ip6
namespace Go.Proofs.YtbamodkgagcmnaaGreat.Ip6
open Go.RowKit Go.Shelf Txt Rgn
open Oct (num bytes_length str)
def HeldL (B b:Nat) (l:List UInt8) (w W:World):Prop:=Held B b (Lib.byteCells l) w W
theorem heldL_new (w:World):HeldL w.heap.size w.heap.size [] w (w.alloc (.cells #[.pointer none,.slice none 0 0] 189)):=
 ⟨Lib.fresh_isBuilder _ _ w,below_alloc w _,by simp⟩
theorem heldL_write {B b:Nat} {l:List UInt8} {w W:World} (s:ByteArray) (h:HeldL B b l w W) (hlen:l.length+s.size≤1099511627776):
 Calls Tryz.prog 126 #[.pointer (some ⟨b,0,none⟩),.string s] W fun e W'=>e=.returned (.tuple #[.int .i64 s.size,.nilIface])∧HeldL B b (l ++ s.data.toList) w W':=by
 refine (held_write s h (by rw[Lib.byteCells_length]; omega)).mono fun _ _ ⟨he,hI⟩=>⟨he,?_⟩
 unfold HeldL
 rw[Lib.byteCells_append]
 exact hI
theorem heldL_number {B b:Nat} {l:List UInt8} {w W:World} (v n:Int) (h:HeldL B b l w W) (hv:0≤v) (hv2:v≤9223372036854775807) (hn:1≤n∧n≤8) (hlen:l.length≤1099511627776):
 Calls Tryz.prog 125 #[.pointer (some ⟨b,0,none⟩),.int .i64 v,.int .i64 n] W fun e W'=>e=.returned (.tuple #[])∧HeldL B b (l ++ Oct.bytes v.toNat n.toNat) w W':=by
 refine (textNumber_any B b _ v n w W h hv hv2 hn (by rw[Lib.byteCells_length]; omega)).mono fun _ _ ⟨he,hI⟩=>⟨he,?_⟩
 unfold HeldL
 rw[Lib.byteCells_append]
 exact hI
theorem heldL_string {B b:Nat} {l:List UInt8} {w W:World} (h:HeldL B b l w W) (h0:l≠[]):
 Calls Tryz.prog 127 #[.pointer (some ⟨b,0,none⟩)] W fun e W'=>e=.returned (.string ⟨l.toArray⟩)∧Below B w W':=
 (Sb.String_some B b l W h.1 h0).mono fun _ _ ⟨he,hb⟩=>⟨he,h.2.1.trans hb⟩
def putL (x y:ByteArray) (p:Nat) (r:ByteArray):List UInt8:=
 [] ++ Oct.bytes 1610612736 4 ++ Oct.bytes r.size 2 ++ Oct.bytes p 1 ++ Oct.bytes 64 1 ++ x.data.toList ++ y.data.toList ++ r.data.toList
set_option maxRecDepth 100000 in
set_option maxHeartbeats 2000000 in
theorem Put_good (x y:ByteArray) (p:Int) (r:ByteArray) (hx:x.size=16) (hy:y.size=16) (hp:0≤p∧p≤255) (hr:r.size≤65535) (w:World):
 Calls Tryz.prog 82 #[.agg #[.string x,.string y,.int .i64 p],.string r] w fun e W'=>e=.returned (.tuple #[.string ⟨(putL x y p.toNat r).toArray⟩,.int .i64 0])∧Below w.heap.size w W':=by
 have hB:=Lib.hid (below_alloc w (.cells #[.string x,.string y,.int .i64 p] 142))
 have H0:=heldL_new (w.alloc (.cells #[.string x,.string y,.int .i64 p] 142))
 have bh:(w.alloc (.cells #[.string x,.string y,.int .i64 p] 142)).heap[w.heap.size]? =some (.cells #[.string x,.string y,.int .i64 p] 142 (0,0)):=World.alloc_heap_new w _
 have hz:(w.alloc (.cells #[.string x,.string y,.int .i64 p] 142)).heap.size=w.heap.size+1:=by simp
 rw[hz] at H0
 have hd:∀ W,Below (w.heap.size+1) (w.alloc (.cells #[.string x,.string y,.int .i64 p] 142)) W→W.heap[w.heap.size]? =some (.cells #[.string x,.string y,.int .i64 p] 142 (0,0)):=fun W hb=>(hb.block w.heap.size (by omega)).trans bh
 have HD:=Lib.hid hd
 have d1:decide (p<0)=false:=decide_eq_false (by omega)
 have d2:decide (255<p)=false:=decide_eq_false (by omega)
 have HH:=Lib.hid H0
 have lx:=len_list x
 have ly:=len_list y
 clear H0 bh hz hd
 go_enter Tryz.func82,Tryz.ntmps82
 go_wp2_with fail
 generalize w.alloc (.cells #[.string x,.string y,.int .i64 p] 142)=W0 at *
 refine (heldL_number 1610612736 4 HH.out (by omega) (by omega) (by omega) (by simp)).mono ?_
 rintro e w1 ⟨rfl,h1⟩
 have H1:=Lib.hid h1
 clear h1 HH
 go_wp2_with fail
 refine (heldL_number (r.size:Int) 2 H1.out (by omega) (by omega) (by omega) (by simp[bytes_length])).mono ?_
 rintro e w2 ⟨rfl,h2⟩
 have c2:=(head_cells (HD.out w2 h2.2.1)).2.2.1
 have H2:=Lib.hid h2
 clear h2 H1
 go_wp2_with fail
 refine (heldL_number p 1 H2.out (by omega) (by omega) (by omega) (by simp[bytes_length])).mono ?_
 rintro e w3 ⟨rfl,h3⟩
 have H3:=Lib.hid h3
 clear h3 H2 c2
 go_wp2_with fail
 refine (heldL_number 64 1 H3.out (by omega) (by omega) (by omega) (by simp[bytes_length])).mono ?_
 rintro e w4 ⟨rfl,h4⟩
 have c4:=(head_cells (HD.out w4 h4.2.1)).1
 have H4:=Lib.hid h4
 clear h4 H3
 go_wp2_with fail
 refine (heldL_write x H4.out (by simp[bytes_length]; omega)).mono ?_
 rintro e w5 ⟨rfl,h5⟩
 have c5:=(head_cells (HD.out w5 h5.2.1)).2.1
 have H5:=Lib.hid h5
 clear h5 H4 c4
 go_wp2_with fail
 refine (heldL_write y H5.out (by simp only[List.length_append,bytes_length,lx,List.length_nil]; omega)).mono ?_
 rintro e w6 ⟨rfl,h6⟩
 have H6:=Lib.hid h6
 clear h6 H5 c5
 go_wp2_with fail
 refine (heldL_write r H6.out (by simp only[List.length_append,bytes_length,lx,ly,List.length_nil]; omega)).mono ?_
 rintro e w7 ⟨rfl,h7⟩
 have H7:=Lib.hid h7
 clear h7 H6
 go_wp2_with fail
 refine (heldL_string H7.out (by simp[Oct.bytes])).mono ?_
 rintro e w8 ⟨rfl,hb8⟩
 have hB8:Below w.heap.size w w8:=hB.out.trans (hb8.mono (by omega))
 have E8:([] ++ Oct.bytes (1610612736:Int).toNat (4:Int).toNat ++ Oct.bytes (r.size:Int).toNat (2:Int).toNat ++ Oct.bytes p.toNat (1:Int).toNat ++ Oct.bytes (64:Int).toNat (1:Int).toNat ++ x.data.toList ++ y.data.toList ++ r.data.toList)=putL x y p.toNat r:=rfl
 rw[E8]
 clear E8 H7
 generalize hL:putL x y p.toNat r=L at *
 go_wp2_with fail
 go_ret2
 exact⟨by subst hL; rfl,hB8⟩
end Go.Proofs.YtbamodkgagcmnaaGreat.Ip6
namespace Go.Proofs.YtbamodkgagcmnaaGreat.Ip6
open Go.RowKit Go.Shelf Txt
open Oct (num num_bytes bytes_length str)
def good (s:ByteArray):Prop:=40≤s.size∧ver s=6∧¬ s.size<40+len s
theorem ver_app (s b:ByteArray) (h:40≤s.size):ver (s ++ b)=ver s:=by unfold ver; rw[gv_app s b 0 4 (by omega)]
theorem len_app (s b:ByteArray) (h:40≤s.size):len (s ++ b)=len s:=by unfold len; rw[gv_app s b 4 2 (by omega)]
theorem good_app (s b:ByteArray) (h:good s):good (s ++ b)∧okV (s ++ b)=okV s:=by
 obtain⟨h0,h1,h2⟩:=h
 have hz:(s ++ b).size=s.size+b.size:=ByteArray.size_append
 refine⟨⟨by omega,(ver_app s b h0).trans h1,by rw[len_app s b h0]; omega⟩,?_⟩
 unfold okV
 rw[len_app s b h0,gv_app s b 6 1 (by omega),ext_app s b 8 24 (by omega),ext_app s b 24 40 (by omega),ext_app s b _ _ (by omega)]
def putS (x y:ByteArray) (p:Nat) (r:ByteArray):ByteArray:=⟨(putL x y p r).toArray⟩
def hdL (n p:Nat):List UInt8:=[96,0,0,0,UInt8.ofNat (n / 256),UInt8.ofNat n,UInt8.ofNat p,64]
theorem putS_list (x y:ByteArray) (p:Nat) (r:ByteArray):(putS x y p r).data.toList=hdL r.size p ++ (x.data.toList ++ (y.data.toList ++ r.data.toList)):=by
 show putL x y p r=_
 unfold putL
 simp only[List.append_assoc]
 rfl
theorem putS_size (x y:ByteArray) (p:Nat) (r:ByteArray) (hx:x.size=16) (hy:y.size=16):(putS x y p r).size=40+r.size:=by
 rw[← len_list,putS_list]
 simp only[List.length_append,len_list,hx,hy,hdL,List.length_cons,List.length_nil]; omega
theorem putS_fields (x y:ByteArray) (p:Nat) (r:ByteArray) (hx:x.size=16) (hy:y.size=16) (hp:p≤255) (hr:r.size≤65535):
 ver (putS x y p r)=6∧len (putS x y p r)=r.size∧gv (putS x y p r) 6 1=p∧
 (putS x y p r).extract 8 24=x∧(putS x y p r).extract 24 40=y∧(putS x y p r).extract 40 (40+r.size)=r:=by
 have hl:=putS_list x y p r
 have lx:=len_list x
 have ly:=len_list y
 have lr:=len_list r
 refine⟨?_,?_,?_,?_,?_,?_⟩
 ·unfold ver gv
  rw[hl]
  have e:num (((hdL r.size p ++ (x.data.toList ++ (y.data.toList ++ r.data.toList))).drop 0).take 4)=1610612736:=rfl
  rw[e]
 ·unfold len gv
  rw[hl]
  show num (Oct.bytes r.size 2)=_
  rw[num_bytes]; omega
 ·unfold gv
  rw[hl]
  show num (Oct.bytes p 1)=_
  rw[num_bytes]; omega
 ·apply ba_ext
  rw[ext_list,hl,List.drop_append_of_le_length (by simp[hdL])]
  show ([] ++ (x.data.toList ++ (y.data.toList ++ r.data.toList))).take 16=_
  rw[List.nil_append,List.take_append_of_le_length (by omega),List.take_of_length_le (by omega)]
 ·apply ba_ext
  rw[ext_list,hl,← List.append_assoc,List.drop_append_of_le_length (by simp[hdL,lx,hx]),List.drop_of_length_le (by simp[hdL,lx,hx]),List.nil_append,List.take_append_of_le_length (by omega),List.take_of_length_le (by omega)]
 ·apply ba_ext
  rw[ext_list,hl,← List.append_assoc,← List.append_assoc,List.drop_append_of_le_length (by simp[hdL,lx,hx,ly,hy]),List.drop_of_length_le (by simp[hdL,lx,hx,ly,hy]),List.nil_append,List.take_of_length_le (by omega)]
theorem putS_parsed (x y:ByteArray) (p:Nat) (r:ByteArray) (hx:x.size=16) (hy:y.size=16) (hp:p≤255) (hr:r.size≤65535):
 good (putS x y p r)∧okV (putS x y p r)=.tuple #[.agg #[.string x,.string y,.int .i64 (p:Nat)],.string r,.int .i64 0]:=by
 have hz:=putS_size x y p r hx hy
 obtain⟨g0,g2,g6,ex,ey,er⟩:=putS_fields x y p r hx hy hp hr
 refine⟨⟨by omega,g0,by rw[g2]; omega⟩,?_⟩
 unfold okV
 rw[g2,g6,ex,ey,er]
theorem Parse_good (s:ByteArray) (hs:s.size≤1099511627776) (h:good s) (w:World):
 Calls Tryz.prog 166 #[.string s] w fun e W'=>e=.returned (okV s)∧Below w.heap.size w W':=by
 have h1:=Parse_long s h.1 hs w
 rwa [longV_ok h.2.1 h.2.2] at h1
theorem Parse_version (s:ByteArray) (hs:s.size≤1099511627776) (h0:40≤s.size) (h:ver s≠6) (w:World):
 Calls Tryz.prog 166 #[.string s] w fun e W'=>e=.returned (badV 3)∧Below w.heap.size w W':=by
 have h1:=Parse_long s h0 hs w
 rwa [longV_version h] at h1
theorem Parse_length (s:ByteArray) (hs:s.size≤1099511627776) (h0:40≤s.size) (h:ver s=6) (h2:s.size<40+len s) (w:World):
 Calls Tryz.prog 166 #[.string s] w fun e W'=>e=.returned (badV 4)∧Below w.heap.size w W':=by
 have h1:=Parse_long s h0 hs w
 rwa [longV_length h h2] at h1
theorem Parse_bad (s:ByteArray) (hs:s.size≤1099511627776) (h:¬ good s):∃ c:Int,(2≤c∧c≤4)∧∀ w:World,
 Calls Tryz.prog 166 #[.string s] w fun e W'=>e=.returned (badV c)∧Below w.heap.size w W':=by
 by_cases h0:s.size<40
 ·exact⟨2,by omega,Parse_short s h0⟩
 ·by_cases h1:ver s=6
  ·by_cases h2:s.size<40+len s
   ·exact⟨4,by omega,Parse_length s hs (by omega) h1 h2⟩
   ·exact absurd ⟨by omega,h1,h2⟩ h
  ·exact⟨3,by omega,Parse_version s hs (by omega) h1⟩
theorem Parse_put (S b x y:ByteArray) (p:Int) (r:ByteArray) (hx:x.size=16) (hy:y.size=16) (hp:0≤p∧p≤255) (hr:r.size≤65535) (hb:b.size≤1000000) (hS:Hid (S=putS x y p.toNat r)) (w:World):
 Calls Tryz.prog 166 #[.string (S ++ b)] w fun e W'=>e=.returned (.tuple #[.agg #[.string x,.string y,.int .i64 p],.string r,.int .i64 0])∧Below w.heap.size w W':=by
 obtain⟨P,rfl⟩:=Int.eq_ofNat_of_zero_le hp.1
 rw[hS.out]
 have hz:=putS_size x y P r hx hy
 have h1:=putS_parsed x y P r hx hy (by omega) hr
 have h2:=good_app (putS x y P r) b h1.1
 have h:=Parse_good (putS x y P r ++ b) (by rw[ByteArray.size_append,hz]; omega) h2.1 w
 rw[h2.2,h1.2] at h
 exact h
theorem Parse_put0 (S x y:ByteArray) (p:Int) (r:ByteArray) (hx:x.size=16) (hy:y.size=16) (hp:0≤p∧p≤255) (hr:r.size≤65535) (hS:Hid (S=putS x y p.toNat r)) (w:World):
 Calls Tryz.prog 166 #[.string S] w fun e W'=>e=.returned (.tuple #[.agg #[.string x,.string y,.int .i64 p],.string r,.int .i64 0])∧Below w.heap.size w W':=by
 have h:=Parse_put S ⟨#[]⟩ x y p r hx hy hp hr (by decide) hS w
 rwa [app_nil] at h
theorem Put_named (x y:ByteArray) (p:Int) (r:ByteArray) (hx:x.size=16) (hy:y.size=16) (hp:0≤p∧p≤255) (hr:r.size≤65535) (w:World):
 Calls Tryz.prog 82 #[.agg #[.string x,.string y,.int .i64 p],.string r] w fun e W'=>∃ S:ByteArray,e=.returned (.tuple #[.string S,.int .i64 0])∧S.size=40+r.size∧Hid (S=putS x y p.toNat r)∧Below w.heap.size w W':=
 (Put_good x y p r hx hy hp hr w).mono fun _ _ ⟨he,hb⟩=>⟨_,he,putS_size x y p.toNat r hx hy,Lib.hid rfl,hb⟩
def Headed (W:World) (b:Nat) (x y:ByteArray) (p:Int):Prop:=W.heap[b]? =some (.cells #[.string x,.string y,.int .i64 p] 142 (0,0))
theorem headed_new (W:World) (x y:ByteArray) (p:Int):Headed (W.alloc (.cells #[.string x,.string y,.int .i64 p] 142)) W.heap.size x y p:=World.alloc_heap_new W _
theorem Headed.kept {W W':World} {b:Nat} {x y:ByteArray} {p:Int} (h:Headed W b x y p) (hb:Below W.heap.size W W'):Headed W' b x y p:=(hb.block b (Array.getElem?_eq_some_iff.1 h).1).trans h
theorem Headed.alloc {W:World} {b:Nat} {x y:ByteArray} {p:Int} (h:Headed W b x y p) (o:Obj):Headed (W.alloc o) b x y p:=h.kept (below_alloc W o)
theorem Headed.cells {W:World} {b:Nat} {x y:ByteArray} {p:Int} (h:Headed W b x y p):W.cell? ⟨b,0,none⟩=some (.string x)∧W.cell? ⟨b,1,none⟩=some (.string y)∧W.cell? ⟨b,2,none⟩=some (.int .i64 p):=
 ⟨(head_cells h).1,(head_cells h).2.1,(head_cells h).2.2.1⟩
end Go.Proofs.YtbamodkgagcmnaaGreat.Ip6
