/-
  The invariant of a region that makes a variable of any number of cells and lays a struct into it.
-/
import Derived.Test.YtbamodkgagcmnaaGreatBRgnE
import Derived.Test.YtbamodkgagcmnaaGreatBIp4E
import Derived.Test.YtbamodkgagcmnaaGreatBOctGE
import Derived.Test.YtbamodkgagcmnaaGreatBSumE
import Derived.Deep.RegionHeld3
import Derived.Test.YtbamodkgagcmnaaGreatBIp6E
import Derived.Test.YtbamodkgagcmnaaGreatPrtEE
set_option maxRecDepth 100000
namespace Go.Proofs.YtbamodkgagcmnaaGreat.Rgn
open Go Go.RowKit
structure InvB (al st:Nat) (W:World) (T:TypeId) (z v:Array Value) (vals:Nat→Value) (d:Nat→Bool) (x:Nat→Value) (b:Nat) (w:World):Prop where
 below:Below W.heap.size W w
 pure:∀ i,i≠al→i≠st→d i=true→x i=vals i
 order:d st=true→d al=true
 cell:d al=true→x al=.pointer (some ⟨b,0,none⟩)∧W.heap.size≤b∧(d st=false→w.heap[b]? =some (.cells z T (0,0)))∧(d st=true→w.heap[b]? =some (.cells v T (0,0)))
section
variable {al st:Nat} {W w:World} {T:TypeId} {z v:Array Value} {vals:Nat→Value} {d:Nat→Bool} {x:Nat→Value} {b:Nat}
theorem InvB.start (w:World) (x:Nat→Value) (b:Nat) (h:Below W.heap.size W w):InvB al st W T z v vals (fun _=>false) x b w:=
 ⟨h,fun _ _ _ h=>(by cases h),fun h=>(by cases h),fun h=>(by cases h)⟩
theorem block_kept {w w':World} {b:Nat} {o:Obj} (h:w.heap[b]? =some o) (hb:Below w.heap.size w w'):w'.heap[b]? =some o:=(hb.block b (Array.getElem?_eq_some_iff.1 h).1).trans h
theorem InvB.yields (h:InvB al st W T z v vals d x b w) {i:Nat} (h1:i≠al) (h2:i≠st) {w':World} (hb:Below w.heap.size w w'):InvB al st W T z v vals (upd d i) (upv x i (vals i)) b w' where
 below:=h.below.trans (hb.mono h.below.size)
 pure j ha hs hd:=by
  by_cases e:j=i
  ·subst e; rw[upv_same]
  ·rw[upv_other x _ e]; rw[upd_other d e] at hd; exact h.pure j ha hs hd
 order hd:=by
  rw[upd_other d (Ne.symm h2)] at hd; rw[upd_other d (Ne.symm h1)]; exact h.order hd
 cell hd:=by
  rw[upd_other d (Ne.symm h1)] at hd
  rw[upv_other x _ (Ne.symm h1),upd_other d (Ne.symm h2)]
  obtain⟨a1,a2,a3,a4⟩:=h.cell hd
  exact⟨a1,a2,fun e=>block_kept (a3 e) hb,fun e=>block_kept (a4 e) hb⟩
theorem InvB.makes (h:InvB al st W T z v vals d x b w) (hne:al≠st) (hd:d al=false):InvB al st W T z v vals (upd d al) (upv x al (.pointer (some ⟨w.heap.size,0,none⟩))) w.heap.size (w.alloc (.cells z T)) where
 below:=h.below.alloc h.below.size _
 pure j ha hs hd:=by
  rw[upd_other d ha] at hd; rw[upv_other x _ ha]; exact h.pure j ha hs hd
 order _:=upd_same _ _
 cell _:=by
  rw[upv_same,upd_other d (Ne.symm hne)]
  refine⟨rfl,h.below.size,fun _=>World.alloc_heap_new w _,fun e=>?_⟩
  rw[h.order e] at hd; cases hd
theorem InvB.lays (h:InvB al st W T z v vals d x b w) (hne:al≠st) (hd:d al=true) {w':World} (hw:w'.heap[b]? =some (.cells v T (0,0))) (hb:Below b w w'):InvB al st W T z v vals (upd d st) x b w' where
 below:=h.below.trans (hb.mono (h.cell hd).2.1)
 pure j ha hs hdj:=by
  rw[upd_other d hs] at hdj; exact h.pure j ha hs hdj
 order _:=by rw[upd_other d hne]; exact hd
 cell hdj:=by
  rw[upd_other d hne] at hdj
  rw[upd_same]
  obtain⟨a1,a2,_,_⟩:=h.cell hdj
  exact⟨a1,a2,fun e=>(by cases e),fun _=>hw⟩
end
end Go.Proofs.YtbamodkgagcmnaaGreat.Rgn
set_option maxRecDepth 100000
namespace Go.Proofs.YtbamodkgagcmnaaGreat.Ip4
open Go.RowKit Go.Shelf
open Oct (num)
set_option maxHeartbeats 800000 in
theorem refWord_any (s:ByteArray) (hs:s.size≤1099511627776) (a:Int) (ha:0≤a∧a+2≤s.size) (w:World):
 Calls Tryz.prog 172 #[.string s,.int .i64 a] w fun e W'=>e=.returned (.int .i64 (gv s a 2:Nat))∧w=W':=by
 have hl:=gv_le s a 2 (by omega)
 have e1:gv s a 2=Oct.getV s a 2:=if_pos ha.2
 rw[e1] at hl ⊢
 go_enter Tryz.func172,Tryz.ntmps172
 go_wp2_with fail
 refine (Oct.refGet_yes s a 2 w (by omega) (by omega)).mono ?_
 rintro e w1 ⟨rfl,rfl⟩
 go_wp2_with fail
 go_ret
 exact⟨rfl,rfl⟩
theorem gv_byte (s:ByteArray) (a:Nat) (h:a<s.size):gv s (a:Int) 1=(s[a]).toNat:=by
 refine (gv_of s a 1 (by omega)).trans ?_
 have h4:a<s.data.toList.length:=by rw[len_list]; exact h
 rw[List.drop_eq_getElem_cons h4]
 show num [s.data.toList[a]]=_
 rw[← Oct.byte_at s a h,List.getElem?_eq_getElem h4]
 simp[num]
theorem c_hit {s:ByteArray} {c k:Nat} (hk:k≤c) (h:so s k=true) (hno:∀ i,i<c→so s i=false):c=k:=by
 rcases Nat.lt_or_ge k c with h1 | h1
 ·rw[hno k h1] at h; cases h
 ·omega
theorem c_past {s:ByteArray} {c k:Nat} (hk:k≤c) (hk6:k<6) (h:so s k=false) (hyes:c<6→so s c=true):k+1≤c:=by
 rcases Nat.lt_or_ge k c with h1 | h1
 ·exact h1
 ·have e:c=k:=by omega
  have:=hyes (by omega)
  rw[e,h] at this; cases this
set_option maxRecDepth 100000 in
set_option maxHeartbeats 3200000 in
theorem refParse_any (s:ByteArray) (hs:s.size≤1099511627776) (c:Nat) (hc:c≤6) (hno:∀ i,i<c→so s i=false) (hyes:c<6→so s c=true) (w:World):
 Calls Tryz.prog 170 #[.string s] w fun e W'=>e=.returned (parseV s c)∧Below w.heap.size w W':=by
 by_cases h0:s.size<20
 ·have d0:decide ((s.size:Int)<20)=true:=decide_eq_true (by omega)
  have hc0:c=0:=c_hit (Nat.zero_le _) (by rw[so_0]; exact decide_eq_true h0) hno
  subst hc0
  clear hno hyes
  go_enter Tryz.func170,Tryz.ntmps170
  go_wp2_with fail
  refine bodyPost_ret (v:=badV 2) (by simp[results,Tryz.results170,go_sem]) rfl ⟨rfl,?_⟩
  exact below_alloc w _
 have d0:decide ((s.size:Int)<20)=false:=decide_eq_false (by omega)
 have e0:gv s 0 1=(s[0]).toNat:=gv_byte s 0 (by omega)
 have hq:gv s 0 1<256:=by rw[e0]; exact UInt8.toNat_lt _
 have hc1:1≤c:=c_past (Nat.zero_le _) (by omega) (by rw[so_0]; exact decide_eq_false h0) hyes
 have hpos:0<s.size:=by omega
 by_cases h1:ver s=4
 case neg=>
  have hcc:c=1:=c_hit hc1 (by rw[so_1]; exact decide_eq_true h1) hno
  subst hcc
  clear hno hyes
  have v4:(((s[0]).toNat:Int) / 16 % 256 != 4)=true:=bne_iff_ne.2 (by unfold ver at h1; omega)
  go_enter Tryz.func170,Tryz.ntmps170
  go_wp2_with fail
  refine bodyPost_ret (v:=badV 3) (by simp[results,Tryz.results170,go_sem]) rfl ⟨rfl,?_⟩
  exact below_alloc w _
 have v4:(((s[0]).toNat:Int) / 16 % 256 != 4)=false:=by
  rw[show ((s[0]).toNat:Int) / 16 % 256=4 by unfold ver at h1; omega]; rfl
 have hc2:2≤c:=c_past hc1 (by omega) (by rw[so_1]; exact decide_eq_false (fun e=>e h1)) hyes
 have s1:((s[0]).toNat:Int) % 16 * 4=(siz s:Nat):=by unfold siz; omega
 have hsl:siz s≤60:=by unfold siz; omega
 have hll:len s≤65535:=gv_le s 2 2 (by omega)
 have L2:=Lib.hid (show gv s 2 2=len s from rfl)
 clear e0 hq
 by_cases h2:siz s<20
 case pos=>
  have hcc:c=2:=c_hit hc2 (by rw[so_2]; exact decide_eq_true (.inl h2)) hno
  subst hcc
  clear hno hyes
  have d2:decide (((siz s:Nat):Int)<20)=true:=decide_eq_true (by omega)
  go_enter Tryz.func170,Tryz.ntmps170
  go_wp2_with fail
  refine (refWord_any s hs 2 (by omega) _).mono ?_
  rintro e w1 ⟨rfl,rfl⟩
  go_wp2_with fail
  refine bodyPost_ret (v:=badV 4) (by simp[results,Tryz.results170,go_sem]) rfl ⟨rfl,?_⟩
  exact below_alloc w _
 have d2:decide (((siz s:Nat):Int)<20)=false:=decide_eq_false (by omega)
 by_cases h3:s.size<siz s
 case pos=>
  have hcc:c=2:=c_hit hc2 (by rw[so_2]; exact decide_eq_true (.inr h3)) hno
  subst hcc
  clear hno hyes
  have d3:decide ((s.size:Int)<((siz s:Nat):Int))=true:=decide_eq_true (by omega)
  go_enter Tryz.func170,Tryz.ntmps170
  go_wp2_with fail
  refine (refWord_any s hs 2 (by omega) _).mono ?_
  rintro e w1 ⟨rfl,rfl⟩
  go_wp2_with fail
  refine bodyPost_ret (v:=badV 4) (by simp[results,Tryz.results170,go_sem]) rfl ⟨rfl,?_⟩
  exact below_alloc w _
 have d3:decide ((s.size:Int)<((siz s:Nat):Int))=false:=decide_eq_false (by omega)
 have hc3:3≤c:=c_past hc2 (by omega) (by rw[so_2]; exact decide_eq_false (by omega)) hyes
 by_cases h4:len s<siz s
 case pos=>
  have hcc:c=3:=c_hit hc3 (by rw[so_3]; exact decide_eq_true (.inl h4)) hno
  subst hcc
  clear hno hyes
  have d4:decide (((len s:Nat):Int)<((siz s:Nat):Int))=true:=decide_eq_true (by omega)
  go_enter Tryz.func170,Tryz.ntmps170
  go_wp2_with fail
  refine (refWord_any s hs 2 (by omega) _).mono ?_
  rintro e w1 ⟨rfl,rfl⟩
  rw[L2.out]
  go_wp2_with fail
  refine bodyPost_ret (v:=badV 4) (by simp[results,Tryz.results170,go_sem]) rfl ⟨rfl,?_⟩
  exact below_alloc w _
 have d4:decide (((len s:Nat):Int)<((siz s:Nat):Int))=false:=decide_eq_false (by omega)
 by_cases h5:s.size<len s
 case pos=>
  have hcc:c=3:=c_hit hc3 (by rw[so_3]; exact decide_eq_true (.inr h5)) hno
  subst hcc
  clear hno hyes
  have d5:decide ((s.size:Int)<((len s:Nat):Int))=true:=decide_eq_true (by omega)
  go_enter Tryz.func170,Tryz.ntmps170
  go_wp2_with fail
  refine (refWord_any s hs 2 (by omega) _).mono ?_
  rintro e w1 ⟨rfl,rfl⟩
  rw[L2.out]
  go_wp2_with fail
  refine bodyPost_ret (v:=badV 4) (by simp[results,Tryz.results170,go_sem]) rfl ⟨rfl,?_⟩
  exact below_alloc w _
 have d5:decide ((s.size:Int)<((len s:Nat):Int))=false:=decide_eq_false (by omega)
 have hc4:4≤c:=c_past hc3 (by omega) (by rw[so_3]; exact decide_eq_false (by omega)) hyes
 have z:=Lib.hid (show (s.extract 0 (siz s)).size≤1099511627776 by rw[ByteArray.size_extract]; omega)
 have i1:((siz s:Nat):Int)≤(s.size:Int):=by omega
 by_cases h6:Cks.fc (Cks.tot (s.extract 0 (siz s)).data.toList)=65535
 case neg=>
  have hcc:c=4:=c_hit hc4 (by rw[so_4]; exact decide_eq_true h6) hno
  subst hcc
  clear hno hyes
  go_enter Tryz.func170,Tryz.ntmps170
  go_wp2_with fail
  refine (refWord_any s hs 2 (by omega) _).mono ?_
  rintro e w1 ⟨rfl,rfl⟩
  rw[L2.out]
  go_wp2_with fail
  refine (Cks.refGood_any _ z.out _).mono ?_
  rintro e w2 ⟨rfl,rfl⟩
  rw[decide_eq_false h6]
  go_wp2_with fail
  refine bodyPost_ret (v:=badV 5) (by simp[results,Tryz.results170,go_sem]) rfl ⟨rfl,?_⟩
  exact below_alloc w _
 have hc5:5≤c:=c_past hc4 (by omega) (by rw[so_4]; exact decide_eq_false (fun e=>e h6)) hyes
 have H6:=Lib.hid (decide_eq_true h6)
 clear h6
 by_cases h7:gv s 6 2 % 16384=0
 case neg=>
  have hcc:c=5:=c_hit hc5 (by rw[so_5]; exact decide_eq_true h7) hno
  subst hcc
  clear hno hyes
  have d7:(((gv s 6 2:Nat):Int) % 16384 != 0)=true:=bne_iff_ne.2 (by omega)
  go_enter Tryz.func170,Tryz.ntmps170
  go_wp2_with fail
  refine (refWord_any s hs 2 (by omega) _).mono ?_
  rintro e w1 ⟨rfl,rfl⟩
  rw[L2.out]
  go_wp2_with fail
  refine (Cks.refGood_any _ z.out _).mono ?_
  rintro e w2 ⟨rfl,rfl⟩
  rw[H6.out]
  go_wp2_with fail
  refine (refWord_any s hs 6 (by omega) _).mono ?_
  rintro e w1 ⟨rfl,rfl⟩
  go_wp2_with fail
  refine bodyPost_ret (v:=badV 6) (by simp[results,Tryz.results170,go_sem]) rfl ⟨rfl,?_⟩
  exact below_alloc w _
 have hcc:c=6:=by
  have:=c_past hc5 (by omega) (by rw[so_5]; exact decide_eq_false (fun e=>e h7)) hyes
  omega
 subst hcc
 clear hno hyes
 have d7:((gv s 6 2:Nat):Int) % 16384=0:=by omega
 have PV:=Lib.hid (show parseV s 6=.tuple #[.agg #[.string (s.extract 12 16),.string (s.extract 16 20),.int .i64 (gv s 9 1:Nat)],.string (s.extract (siz s) (len s)),.int .i64 0] from if_neg (by omega))
 have E9:=Lib.hid (show IntKind.i64.wrap ((s[9]).toNat:Int)=(gv s 9 1:Nat) by
  rw[show gv s 9 1=(s[9]).toNat from gv_byte s 9 (by omega)]
  have:=(s[9]).toNat_lt
  exact IntWalk.i64_in _ (by omega))
 have i2:((siz s:Nat):Int)≤((len s:Nat):Int):=by omega
 have i3:((len s:Nat):Int)≤(s.size:Int):=by omega
 have i16:(16:Int)≤(s.size:Int):=by omega
 have i20:(20:Int)≤(s.size:Int):=by omega
 have i9:(9:Int)<(s.size:Int):=by omega
 go_enter Tryz.func170,Tryz.ntmps170
 go_wp2_with fail
 refine (refWord_any s hs 2 (by omega) _).mono ?_
 rintro e w1 ⟨rfl,rfl⟩
 rw[L2.out]
 go_wp2_with fail
 refine (Cks.refGood_any _ z.out _).mono ?_
 rintro e w2 ⟨rfl,rfl⟩
 rw[H6.out]
 go_wp2_with fail
 refine (refWord_any s hs 6 (by omega) _).mono ?_
 rintro e w1 ⟨rfl,rfl⟩
 go_wp2_with fail
 go_region_held3 (fun W=>Below w.heap.size w W) (first | exact (below_alloc w _).drew | exact (((below_alloc w _).drew.setCell (p:=⟨w.heap.size,0,none⟩) (by simp) _).setCell (p:=⟨w.heap.size,1,none⟩) (by simp) _).setCell (p:=⟨w.heap.size,2,none⟩) (by simp) _) (fail)
 rename_i hHeld
 go_wp2
 refine bodyPost_ret (v:=.tuple #[.agg #[.string (s.extract 12 16),.string (s.extract 16 20),.int .i64 (IntKind.i64.wrap ((s[9]).toNat:Int))],.string (s.extract (siz s) (len s)),.int .i64 0]) (by simp[results,Tryz.results170,go_sem]) rfl ⟨by rw[PV.out,E9.out],hHeld⟩
end Go.Proofs.YtbamodkgagcmnaaGreat.Ip4
namespace Go.Proofs.YtbamodkgagcmnaaGreat.Ip6
open Go.RowKit Go.Shelf Txt
open Oct (num)
set_option maxHeartbeats 800000 in
theorem refWord_any (s:ByteArray) (hs:s.size≤1099511627776) (a:Nat) (ha:a+2≤s.size) (w:World):
 Calls Tryz.prog 172 #[.string s,.int .i64 (a:Nat)] w fun e W'=>e=.returned (.int .i64 (gv s a 2:Nat))∧w=W':=by
 have hl:=gv_lt s a 2 ha
 have E:=Lib.hid (show Oct.getV s (a:Nat) 2=gv s a 2 from rfl)
 go_enter Tryz.func172,Tryz.ntmps172
 go_wp2_with fail
 refine (Oct.refGet_yes s a 2 w (by omega) (by omega)).mono ?_
 rintro e w1 ⟨rfl,rfl⟩
 rw[E.out]
 go_wp2_with fail
 go_ret
 exact⟨rfl,rfl⟩
theorem gv_byte (s:ByteArray) (a:Nat) (h:a<s.size):gv s a 1=(s[a]).toNat:=by
 have h4:a<s.data.toList.length:=by rw[len_list]; exact h
 unfold gv
 rw[List.drop_eq_getElem_cons h4]
 show num [s.data.toList[a]]=_
 rw[← Oct.byte_at s a h,List.getElem?_eq_getElem h4]
 simp[num]
theorem ver_byte (s:ByteArray) (h:40≤s.size):ver s=(s[0]).toNat / 16:=by
 have e:gv s 0 4=gv s 0 1 * 16777216+gv s 1 3:=by
  unfold gv
  have l3:((s.data.toList.drop 1).take 3).length=3:=by rw[List.length_take,List.length_drop,len_list]; omega
  have h2:(s.data.toList.drop 0).take 4=(s.data.toList.drop 0).take 1 ++ (s.data.toList.drop 1).take 3:=by
   rw[List.drop_zero,← List.take_add]
  rw[h2,Oct.num_append,l3]
 have h3:gv s 1 3<16777216:=gv_lt s 1 3 (by omega)
 unfold ver
 rw[e,gv_byte s 0 (by omega)]
 omega
set_option maxRecDepth 100000 in
set_option maxHeartbeats 3200000 in
theorem refParse_short (s:ByteArray) (h0:s.size<40) (w:World):
 Calls Tryz.prog 171 #[.string s] w fun e W'=>e=.returned (badV 2)∧Below w.heap.size w W':=by
 have d0:decide ((s.size:Int)<40)=true:=decide_eq_true (by omega)
 go_enter Tryz.func171,Tryz.ntmps171
 go_wp2_with fail
 exact bodyPost_ret (v:=badV 2) (by simp[results,Tryz.results171,go_sem]) rfl ⟨rfl,below_alloc w _⟩
set_option maxRecDepth 100000 in
set_option maxHeartbeats 3200000 in
theorem refParse_long (s:ByteArray) (h0:40≤s.size) (hs:s.size≤1099511627776) (w:World):
 Calls Tryz.prog 171 #[.string s] w fun e W'=>e=.returned (longV s)∧Below w.heap.size w W':=by
 have d0:decide ((s.size:Int)<40)=false:=decide_eq_false (by omega)
 have hpos:0<s.size:=by omega
 have e0:=ver_byte s h0
 have hq:=(s[0]).toNat_lt
 by_cases h1:ver s=6
 case neg=>
  have PV:=Lib.hid (longV_version h1)
  have v4:(((s[0]).toNat:Int) / 16 % 256 != 6)=true:=bne_iff_ne.2 (by omega)
  clear e0 hq h1
  go_enter Tryz.func171,Tryz.ntmps171
  go_wp2_with fail
  exact bodyPost_ret (v:=badV 3) (by simp[results,Tryz.results171,go_sem]) rfl ⟨by rw[PV.out],below_alloc w _⟩
 have v4:(((s[0]).toNat:Int) / 16 % 256 != 6)=false:=by
  rw[show ((s[0]).toNat:Int) / 16 % 256=6 by omega]; rfl
 have hll:len s<65536:=gv_lt s 4 2 (by omega)
 have L2:=Lib.hid (show gv s 4 2=len s from rfl)
 have q1:IntKind.i64.wrap ((s.size:Int) - 40)=(s.size:Int) - 40:=IntWalk.i64_in _ (by omega)
 have W4:=fun W=>Lib.hid (refWord_any s hs 4 (by omega) W)
 clear e0 hq
 by_cases h5:s.size<40+len s
 case pos=>
  have PV:=Lib.hid (longV_length h1 h5)
  have d5:decide ((s.size:Int) - 40<((len s:Nat):Int))=true:=decide_eq_true (by omega)
  go_enter Tryz.func171,Tryz.ntmps171
  go_wp2_with fail
  refine (W4 _).out.mono ?_
  rintro e w1 ⟨rfl,rfl⟩
  rw[L2.out]
  go_wp2_with fail
  exact bodyPost_ret (v:=badV 4) (by simp[results,Tryz.results171,go_sem]) rfl ⟨by rw[PV.out],below_alloc w _⟩
 have d5:decide ((s.size:Int) - 40<((len s:Nat):Int))=false:=decide_eq_false (by omega)
 have PV:=Lib.hid (longV_ok h1 h5)
 have E6:=Lib.hid (show IntKind.i64.wrap ((s[6]).toNat:Int)=(gv s 6 1:Nat) by
  rw[gv_byte s 6 (by omega)]
  have:=(s[6]).toNat_lt
  exact IntWalk.i64_in _ (by omega))
 have i24:(24:Int)≤(s.size:Int):=by omega
 have i40:(40:Int)≤(s.size:Int):=by omega
 have i6:(6:Int)<(s.size:Int):=by omega
 have q2:IntKind.i64.wrap (40+((len s:Nat):Int))=40+((len s:Nat):Int):=IntWalk.i64_in _ (by omega)
 have i2:(40:Int)≤40+((len s:Nat):Int):=by omega
 have i3:40+((len s:Nat):Int)≤(s.size:Int):=by omega
 have T4:=Lib.hid (show (40+((len s:Nat):Int)).toNat=40+len s by omega)
 go_enter Tryz.func171,Tryz.ntmps171
 go_wp2_with fail
 refine (W4 _).out.mono ?_
 rintro e w1 ⟨rfl,rfl⟩
 rw[L2.out]
 go_wp2_with fail
 go_region_held3 (fun W=>Below w.heap.size w W) (first | exact (below_alloc w _).drew | exact (((below_alloc w _).drew.setCell (p:=⟨w.heap.size,0,none⟩) (by simp) _).setCell (p:=⟨w.heap.size,1,none⟩) (by simp) _).setCell (p:=⟨w.heap.size,2,none⟩) (by simp) _) (fail)
 rename_i hHeld
 go_wp2
 exact bodyPost_ret (v:=.tuple #[.agg #[.string (s.extract 8 24),.string (s.extract 24 40),.int .i64 (IntKind.i64.wrap ((s[6]).toNat:Int))],.string (s.extract 40 (40+((len s:Nat):Int)).toNat),.int .i64 0]) (by simp[results,Tryz.results171,go_sem]) rfl ⟨by rw[PV.out,E6.out,T4.out],hHeld⟩
end Go.Proofs.YtbamodkgagcmnaaGreat.Ip6
namespace Go.Proofs.YtbamodkgagcmnaaGreat.Prt
open Go.RowKit Go.Shelf Txt
open Oct (num)
set_option maxHeartbeats 800000 in
theorem refWord_any (s:ByteArray) (hs:s.size≤1099511627776) (a:Nat) (ha:a+2≤s.size) (w:World):
 Calls Tryz.prog 172 #[.string s,.int .i64 (a:Nat)] w fun e W'=>e=.returned (.int .i64 (gv s a 2:Nat))∧w=W':=by
 have hl:=gv_lt s a 2 ha
 have E:=Lib.hid (show Oct.getV s (a:Nat) 2=gv s a 2 from rfl)
 go_enter Tryz.func172,Tryz.ntmps172
 go_wp2_with fail
 refine (Oct.refGet_yes s a 2 w (by omega) (by omega)).mono ?_
 rintro e w1 ⟨rfl,rfl⟩
 rw[E.out]
 go_wp2_with fail
 go_ret
 exact⟨rfl,rfl⟩
theorem gv_byte (s:ByteArray) (a:Nat) (h:a<s.size):gv s a 1=(s[a]).toNat:=by
 have h4:a<s.data.toList.length:=by rw[len_list]; exact h
 unfold gv
 rw[List.drop_eq_getElem_cons h4]
 show num [s.data.toList[a]]=_
 rw[← Oct.byte_at s a h,List.getElem?_eq_getElem h4]
 simp[num]
set_option maxRecDepth 100000 in
set_option maxHeartbeats 3200000 in
theorem refParse_none (p:Int) (h6:p≠6) (h17:p≠17) (s:ByteArray) (w:World):
 Calls Tryz.prog 137 #[.int .i64 p,.string s] w fun e W'=>e=.returned (badV 7)∧Below w.heap.size w W':=by
 have n6:(p != 6)=true:=bne_iff_ne.2 h6
 have n17:(p != 17)=true:=bne_iff_ne.2 h17
 go_enter Tryz.func137,Tryz.ntmps137
 go_wp2_with fail
 exact bodyPost_ret (v:=badV 7) (by simp[results,Tryz.results137,go_sem]) rfl ⟨rfl,below_alloc w _⟩
set_option maxRecDepth 100000 in
set_option maxHeartbeats 3200000 in
theorem refParse_tcp_short (s:ByteArray) (h:s.size<20) (w:World):
 Calls Tryz.prog 137 #[.int .i64 6,.string s] w fun e W'=>e=.returned (badV 2)∧Below w.heap.size w W':=by
 have d0:decide ((s.size:Int)<20)=true:=decide_eq_true (by omega)
 go_enter Tryz.func137,Tryz.ntmps137
 go_wp2_with fail
 exact bodyPost_ret (v:=badV 2) (by simp[results,Tryz.results137,go_sem]) rfl ⟨rfl,below_alloc w _⟩
set_option maxRecDepth 100000 in
set_option maxHeartbeats 3200000 in
theorem refParse_udp_short (s:ByteArray) (h:s.size<8) (w:World):
 Calls Tryz.prog 137 #[.int .i64 17,.string s] w fun e W'=>e=.returned (badV 2)∧Below w.heap.size w W':=by
 have d0:decide ((s.size:Int)<8)=true:=decide_eq_true (by omega)
 go_enter Tryz.func137,Tryz.ntmps137
 go_wp2_with fail
 exact bodyPost_ret (v:=badV 2) (by simp[results,Tryz.results137,go_sem]) rfl ⟨rfl,below_alloc w _⟩
set_option maxRecDepth 100000 in
set_option maxHeartbeats 3200000 in
theorem refParse_udp_low (s:ByteArray) (h:8≤s.size) (hs:s.size≤1099511627776) (h1:sizeU s<8) (w:World):
 Calls Tryz.prog 137 #[.int .i64 17,.string s] w fun e W'=>e=.returned (badV 4)∧Below w.heap.size w W':=by
 have d0:decide ((s.size:Int)<8)=false:=decide_eq_false (by omega)
 have W0:=fun W=>Lib.hid (refWord_any s hs 0 (by omega) W)
 have W2:=fun W=>Lib.hid (refWord_any s hs 2 (by omega) W)
 have W4:=fun W=>Lib.hid (refWord_any s hs 4 (by omega) W)
 have L4:=Lib.hid (show gv s 4 2=sizeU s from rfl)
 have d1:decide (((sizeU s:Nat):Int)<8)=true:=decide_eq_true (by omega)
 go_enter Tryz.func137,Tryz.ntmps137
 go_wp2_with fail
 refine (W0 _).out.mono ?_
 rintro e w1 ⟨rfl,rfl⟩
 go_wp2_with fail
 refine (W2 _).out.mono ?_
 rintro e w1 ⟨rfl,rfl⟩
 go_wp2_with fail
 refine (W4 _).out.mono ?_
 rintro e w1 ⟨rfl,rfl⟩
 rw[L4.out]
 go_wp2_with fail
 exact bodyPost_ret (v:=badV 4) (by simp[results,Tryz.results137,go_sem]) rfl ⟨rfl,below2 (below_alloc w _) (below_alloc _ _)⟩
set_option maxRecDepth 100000 in
set_option maxHeartbeats 3200000 in
theorem refParse_udp_high (s:ByteArray) (h:8≤s.size) (hs:s.size≤1099511627776) (h1:8≤sizeU s) (h2:s.size<sizeU s) (w:World):
 Calls Tryz.prog 137 #[.int .i64 17,.string s] w fun e W'=>e=.returned (badV 4)∧Below w.heap.size w W':=by
 have d0:decide ((s.size:Int)<8)=false:=decide_eq_false (by omega)
 have W0:=fun W=>Lib.hid (refWord_any s hs 0 (by omega) W)
 have W2:=fun W=>Lib.hid (refWord_any s hs 2 (by omega) W)
 have W4:=fun W=>Lib.hid (refWord_any s hs 4 (by omega) W)
 have L4:=Lib.hid (show gv s 4 2=sizeU s from rfl)
 have d1:decide (((sizeU s:Nat):Int)<8)=false:=decide_eq_false (by omega)
 have d2:decide ((s.size:Int)<((sizeU s:Nat):Int))=true:=decide_eq_true (by omega)
 go_enter Tryz.func137,Tryz.ntmps137
 go_wp2_with fail
 refine (W0 _).out.mono ?_
 rintro e w1 ⟨rfl,rfl⟩
 go_wp2_with fail
 refine (W2 _).out.mono ?_
 rintro e w1 ⟨rfl,rfl⟩
 go_wp2_with fail
 refine (W4 _).out.mono ?_
 rintro e w1 ⟨rfl,rfl⟩
 rw[L4.out]
 go_wp2_with fail
 exact bodyPost_ret (v:=badV 4) (by simp[results,Tryz.results137,go_sem]) rfl ⟨rfl,below2 (below_alloc w _) (below_alloc _ _)⟩
set_option maxRecDepth 100000 in
set_option maxHeartbeats 3200000 in
theorem refParse_udp_good (s:ByteArray) (h:8≤s.size) (hs:s.size≤1099511627776) (h1:8≤sizeU s) (h2:sizeU s≤s.size) (w:World):
 Calls Tryz.prog 137 #[.int .i64 17,.string s] w fun e W'=>e=.returned (okV (gv s 0 2:Nat) (gv s 2 2:Nat) 0)∧Below w.heap.size w W':=by
 have d0:decide ((s.size:Int)<8)=false:=decide_eq_false (by omega)
 have W0:=fun W=>Lib.hid (refWord_any s hs 0 (by omega) W)
 have W2:=fun W=>Lib.hid (refWord_any s hs 2 (by omega) W)
 have W4:=fun W=>Lib.hid (refWord_any s hs 4 (by omega) W)
 have L4:=Lib.hid (show gv s 4 2=sizeU s from rfl)
 have d1:decide (((sizeU s:Nat):Int)<8)=false:=decide_eq_false (by omega)
 have d2:decide ((s.size:Int)<((sizeU s:Nat):Int))=false:=decide_eq_false (by omega)
 go_enter Tryz.func137,Tryz.ntmps137
 go_wp2_with fail
 refine (W0 _).out.mono ?_
 rintro e w1 ⟨rfl,rfl⟩
 go_wp2_with fail
 refine (W2 _).out.mono ?_
 rintro e w1 ⟨rfl,rfl⟩
 go_wp2_with fail
 refine (W4 _).out.mono ?_
 rintro e w1 ⟨rfl,rfl⟩
 rw[L4.out]
 go_wp2_with fail
 exact bodyPost_ret (v:=okV (gv s 0 2:Nat) (gv s 2 2:Nat) 0) (by simp[results,Tryz.results137,go_sem]) rfl ⟨rfl,below2 (below_alloc w _) (below_alloc _ _)⟩
set_option maxRecDepth 100000 in
set_option maxHeartbeats 3200000 in
theorem refParse_tcp_low (s:ByteArray) (h:20≤s.size) (hs:s.size≤1099511627776) (h1:sizeT s<20) (w:World):
 Calls Tryz.prog 137 #[.int .i64 6,.string s] w fun e W'=>e=.returned (badV 8)∧Below w.heap.size w W':=by
 have d0:decide ((s.size:Int)<20)=false:=decide_eq_false (by omega)
 have d8:decide ((s.size:Int)<8)=false:=decide_eq_false (by omega)
 have W0:=fun W=>Lib.hid (refWord_any s hs 0 (by omega) W)
 have W2:=fun W=>Lib.hid (refWord_any s hs 2 (by omega) W)
 have h12:12<s.size:=by omega
 have i12:(12:Int)<(s.size:Int):=by omega
 have e12:sizeT s=(s[12]).toNat / 16 * 4:=by unfold sizeT; rw[gv_byte s 12 h12]
 have l12:=(s[12]).toNat_lt
 have d1:decide (((s[12]).toNat:Int) / 16 * 4<20)=true:=decide_eq_true (by omega)
 go_enter Tryz.func137,Tryz.ntmps137
 go_wp2_with fail
 refine (W0 _).out.mono ?_
 rintro e w1 ⟨rfl,rfl⟩
 go_wp2_with fail
 refine (W2 _).out.mono ?_
 rintro e w1 ⟨rfl,rfl⟩
 go_wp2_with fail
 exact bodyPost_ret (v:=badV 8) (by simp[results,Tryz.results137,go_sem]) rfl ⟨rfl,below2 (below_alloc w _) (below_alloc _ _)⟩
set_option maxRecDepth 100000 in
set_option maxHeartbeats 3200000 in
theorem refParse_tcp_high (s:ByteArray) (h:20≤s.size) (hs:s.size≤1099511627776) (h1:20≤sizeT s) (h2:s.size<sizeT s) (w:World):
 Calls Tryz.prog 137 #[.int .i64 6,.string s] w fun e W'=>e=.returned (badV 8)∧Below w.heap.size w W':=by
 have d0:decide ((s.size:Int)<20)=false:=decide_eq_false (by omega)
 have d8:decide ((s.size:Int)<8)=false:=decide_eq_false (by omega)
 have W0:=fun W=>Lib.hid (refWord_any s hs 0 (by omega) W)
 have W2:=fun W=>Lib.hid (refWord_any s hs 2 (by omega) W)
 have h12:12<s.size:=by omega
 have i12:(12:Int)<(s.size:Int):=by omega
 have e12:sizeT s=(s[12]).toNat / 16 * 4:=by unfold sizeT; rw[gv_byte s 12 h12]
 have l12:=(s[12]).toNat_lt
 have d1:decide (((s[12]).toNat:Int) / 16 * 4<20)=false:=decide_eq_false (by omega)
 have d2:decide ((s.size:Int)<((s[12]).toNat:Int) / 16 * 4)=true:=decide_eq_true (by omega)
 go_enter Tryz.func137,Tryz.ntmps137
 go_wp2_with fail
 refine (W0 _).out.mono ?_
 rintro e w1 ⟨rfl,rfl⟩
 go_wp2_with fail
 refine (W2 _).out.mono ?_
 rintro e w1 ⟨rfl,rfl⟩
 go_wp2_with fail
 exact bodyPost_ret (v:=badV 8) (by simp[results,Tryz.results137,go_sem]) rfl ⟨rfl,below2 (below_alloc w _) (below_alloc _ _)⟩
set_option maxRecDepth 100000 in
set_option maxHeartbeats 3200000 in
theorem refParse_tcp_good (s:ByteArray) (h:20≤s.size) (hs:s.size≤1099511627776) (h1:20≤sizeT s) (h2:sizeT s≤s.size) (w:World):
 Calls Tryz.prog 137 #[.int .i64 6,.string s] w fun e W'=>e=.returned (okV (gv s 0 2:Nat) (gv s 2 2:Nat) (gv s 13 1:Nat))∧Below w.heap.size w W':=by
 have d0:decide ((s.size:Int)<20)=false:=decide_eq_false (by omega)
 have d8:decide ((s.size:Int)<8)=false:=decide_eq_false (by omega)
 have W0:=fun W=>Lib.hid (refWord_any s hs 0 (by omega) W)
 have W2:=fun W=>Lib.hid (refWord_any s hs 2 (by omega) W)
 have h12:12<s.size:=by omega
 have i12:(12:Int)<(s.size:Int):=by omega
 have e12:sizeT s=(s[12]).toNat / 16 * 4:=by unfold sizeT; rw[gv_byte s 12 h12]
 have l12:=(s[12]).toNat_lt
 have d1:decide (((s[12]).toNat:Int) / 16 * 4<20)=false:=decide_eq_false (by omega)
 have d2:decide ((s.size:Int)<((s[12]).toNat:Int) / 16 * 4)=false:=decide_eq_false (by omega)
 have h13:13<s.size:=by omega
 have i13:(13:Int)<(s.size:Int):=by omega
 have E13:=Lib.hid (gv_byte s 13 h13)
 have l13:=(s[13]).toNat_lt
 go_enter Tryz.func137,Tryz.ntmps137
 go_wp2_with fail
 refine (W0 _).out.mono ?_
 rintro e w1 ⟨rfl,rfl⟩
 go_wp2_with fail
 refine (W2 _).out.mono ?_
 rintro e w1 ⟨rfl,rfl⟩
 go_wp2_with fail
 exact bodyPost_ret (v:=okV (gv s 0 2:Nat) (gv s 2 2:Nat) ((s[13]).toNat:Nat)) (by simp[results,Tryz.results137,go_sem]) rfl ⟨by rw[E13.out],below2 (below_alloc w _) (below_alloc _ _)⟩
theorem refParse_good (p:Int) (s:ByteArray) (hs:s.size≤1099511627776) (h:good p s) (w:World):
 Calls Tryz.prog 137 #[.int .i64 p,.string s] w fun e W'=>e=.returned (okV (gv s 0 2:Nat) (gv s 2 2:Nat) (flagsOf p s:Nat))∧Below w.heap.size w W':=by
 rcases h with⟨rfl,h0,h1,h2⟩ | ⟨rfl,h0,h1,h2⟩
 ·rw[flagsOf_tcp]
  exact refParse_tcp_good s h0 hs h1 h2 w
 ·rw[flagsOf_udp]
  exact refParse_udp_good s h0 hs h1 h2 w
theorem refParse_bad (p:Int) (s:ByteArray) (hs:s.size≤1099511627776) (h:¬ good p s) (w:World):
 Calls Tryz.prog 137 #[.int .i64 p,.string s] w fun e W'=>e=.returned (badV (errOf p s))∧Below w.heap.size w W':=by
 unfold good at h
 unfold errOf
 by_cases h6:p=6
 ·subst h6
  rw[if_pos rfl]
  by_cases h0:s.size<20
  ·rw[if_pos h0]; exact refParse_tcp_short s h0 w
  ·rw[if_neg h0]
   by_cases h1:sizeT s<20
   ·exact refParse_tcp_low s (by omega) hs h1 w
   ·exact refParse_tcp_high s (by omega) hs (by omega) (by omega) w
 ·rw[if_neg h6]
  by_cases h17:p=17
  ·subst h17
   rw[if_pos rfl]
   by_cases h0:s.size<8
   ·rw[if_pos h0]; exact refParse_udp_short s h0 w
   ·rw[if_neg h0]
    by_cases h1:sizeU s<8
    ·exact refParse_udp_low s (by omega) hs h1 w
    ·exact refParse_udp_high s (by omega) hs (by omega) (by omega) w
  ·rw[if_neg h17]
   exact refParse_none p h6 h17 s w
end Go.Proofs.YtbamodkgagcmnaaGreat.Prt
