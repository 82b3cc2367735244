/-
  Package port: Put.
-/
import Derived.Test.YtbamodkgagcmnaaGreatPrtCE
import Derived.Deep.RegionHeld3
import Derived.BigQuiet
import Derived.WalkSmall
set_option maxRecDepth 100000
namespace Go.Proofs.YtbamodkgagcmnaaGreat.Prt
open Go.RowKit Go.Shelf Txt Rgn
def ports (x y:Int):ByteArray:=Oct.str (Oct.bytes x.toNat 2) ++ Oct.str (Oct.bytes y.toNat 2)
def putT (x y f:Int):ByteArray:=ports x y ++ tailT f
def putU (x y:Int):ByteArray:=ports x y ++ tailU
theorem tailT_size (f:Int):(tailT f).size=16:=by
 unfold tailT
 rw[ByteArray.size_append,ByteArray.size_append,str_size (Oct.bytes f.toNat 1),Oct.bytes_length]
 rfl
theorem tcp_tails (f:Int) (h0:0≤f) (h1:f≤255) (w:World):
 Calls Tryz.prog 252 #[.agg #[],.int .i64 f] w fun e W'=>∃ S:ByteArray,e=.returned (.string S)∧S.size≤16∧Hid (S=tailT f)∧Below w.heap.size w W':=
 (tcp_tail f h0 h1 w).mono fun _ _ ⟨he,hb⟩=>⟨_,he,by rw[tailT_size]; omega,Lib.hid rfl,hb⟩
theorem udp_tails (f:Int) (w:World):
 Calls Tryz.prog 258 #[.agg #[],.int .i64 f] w fun e W'=>∃ S:ByteArray,e=.returned (.string S)∧S.size≤16∧Hid (S=tailU)∧Below w.heap.size w W':=
 (udp_tail f w).mono fun _ _ ⟨he,hb⟩=>⟨_,he,by decide,Lib.hid rfl,hb⟩
theorem nums_keep {w W W':World} {b:Nat} {v0 v1 v2:Value} (h:Below w.heap.size w W∧W.cell? ⟨b,0,none⟩=some v0∧W.cell? ⟨b,1,none⟩=some v1∧W.cell? ⟨b,2,none⟩=some v2) (hb:Below W.heap.size W W'):
 Below w.heap.size w W'∧W'.cell? ⟨b,0,none⟩=some v0∧W'.cell? ⟨b,1,none⟩=some v1∧W'.cell? ⟨b,2,none⟩=some v2:=
 ⟨below2 h.1 hb,(hb.cell (World.block_lt_of_cell? W _ h.2.1)).trans h.2.1,(hb.cell (World.block_lt_of_cell? W _ h.2.2.1)).trans h.2.2.1,(hb.cell (World.block_lt_of_cell? W _ h.2.2.2)).trans h.2.2.2⟩
set_option maxRecDepth 100000 in
set_option maxHeartbeats 4000000 in
theorem Put_tcp_good (x y f:Int) (h1:0≤x) (h2:x≤65535) (h3:0≤y) (h4:y≤65535) (h5:0≤f) (h6:f≤255) (w:World):
 Calls Tryz.prog 118 #[.int .i64 6,.agg #[.int .i64 x,.int .i64 y,.int .i64 f]] w fun e W'=>e=.returned (.tuple #[.string (putT x y f),.int .i64 0])∧Below w.heap.size w W':=by
 have m5:=fun W=>(at_tcp W).2.2.2.2.1
 have m6:=fun W=>(at_tcp W).2.2.2.2.2
 have d1:decide (x<0)=false:=decide_eq_false (by omega)
 have d2:decide (65535<x)=false:=decide_eq_false (by omega)
 have d3:decide (y<0)=false:=decide_eq_false (by omega)
 have d4:decide (65535<y)=false:=decide_eq_false (by omega)
 have d5:decide (f<0)=false:=decide_eq_false (by omega)
 have d6:decide (255<f)=false:=decide_eq_false (by omega)
 go_enter Tryz.func118,Tryz.ntmps118
 go_wp2_with fail
 refine (protocols_any _).mono ?_
 rintro e w2 ⟨b,rfl,hown,hb⟩
 have hl:=look_tcp hown
 clear hown
 obtain⟨z0,z1,z2,f0,f1,f2⟩:=res_cells rfl hb
 replace hb:=below2 (below_alloc w _) hb
 go_wp2_with fail
 go_region_held3 (fun W=>Below w.heap.size w W∧W.cell? ⟨w.heap.size,0,none⟩=some (.int .i64 x)∧W.cell? ⟨w.heap.size,1,none⟩=some (.int .i64 y)∧W.cell? ⟨w.heap.size,2,none⟩=some (.int .i64 f))
  (first | exact⟨hb.drew,z0,z1,z2⟩ | exact nums_keep (by assumption) hb3)
  (first | (go_at_call 250; (with_reducible refine (tcp_most _).mono ?_); rintro e w3 ⟨rfl,hb3⟩))
 rename_i hHeld
 clear hb z0 z1 z2 f0 f1 f2
 obtain⟨hb,z0,z1,z2⟩:=hHeld
 clear hb3 m5
 have q1:IntKind.u64.wrap x=x:=IntWalk.u64_in _ (by omega)
 have q2:IntKind.u64.wrap y=y:=IntWalk.u64_in _ (by omega)
 have A1:∀ (S T:ByteArray) (u:World),S.size≤8→T.size≤8→(Op.stringOp .add S T).run Tryz.prog u=.ok (.string (S ++ T)) u:=fun S T u hS hT=>run_string_add_sum u _ _ (by omega)
 have A2:∀ (S T U:ByteArray) (u:World),S.size≤8→T.size≤8→U.size≤16→(Op.stringOp .add (S ++ T) U).run Tryz.prog u=.ok (.string (S ++ T ++ U)) u:=fun S T U u hS hT hU=>run_string_add_sum u _ _ (by rw[ByteArray.size_append]; omega)
 go_wp2_with fail
 go_region_held3 (fun W=>Below w.heap.size w W∧W.cell? ⟨w.heap.size,0,none⟩=some (.int .i64 x)∧W.cell? ⟨w.heap.size,1,none⟩=some (.int .i64 y)∧W.cell? ⟨w.heap.size,2,none⟩=some (.int .i64 f))
  (first | exact⟨hb.drew,z0,z1,z2⟩ | exact nums_keep (by assumption) hb4)
  (first | (go_at_call 123; (with_reducible refine (Put_some _ _ _ ?_ ?_ ?_).mono ?_); omega; omega; omega; rintro e w4 ⟨S,rfl,hS,HS,hb4⟩) | (go_at_call 252; (with_reducible refine (tcp_tails _ ?_ ?_ _).mono ?_); omega; omega; rintro e w4 ⟨S,rfl,hS,HS,hb4⟩))
 rename_i u1 S1 hS1 HS1 hc1 u2 S2 hS2 HS2 hc2 hHeld
 go_wp2
 exact bodyPost_ret (v:=.tuple #[.string (S1 ++ S2 ++ S),.int .i64 0]) (by simp[results,Tryz.results118,go_sem]) rfl ⟨by rw[HS1.out,HS2.out,HS.out]; rfl,hHeld.1⟩
set_option maxRecDepth 100000 in
set_option maxHeartbeats 4000000 in
theorem Put_udp_good (x y:Int) (h1:0≤x) (h2:x≤65535) (h3:0≤y) (h4:y≤65535) (w:World):
 Calls Tryz.prog 118 #[.int .i64 17,.agg #[.int .i64 x,.int .i64 y,.int .i64 0]] w fun e W'=>e=.returned (.tuple #[.string (putU x y),.int .i64 0])∧Below w.heap.size w W':=by
 have m5:=fun W=>(at_udp W).2.2.2.2.1
 have m6:=fun W=>(at_udp W).2.2.2.2.2
 have d1:decide (x<0)=false:=decide_eq_false (by omega)
 have d2:decide (65535<x)=false:=decide_eq_false (by omega)
 have d3:decide (y<0)=false:=decide_eq_false (by omega)
 have d4:decide (65535<y)=false:=decide_eq_false (by omega)
 go_enter Tryz.func118,Tryz.ntmps118
 go_wp2_with fail
 refine (protocols_any _).mono ?_
 rintro e w2 ⟨b,rfl,hown,hb⟩
 have hl:=look_udp hown
 clear hown
 obtain⟨z0,z1,z2,f0,f1,f2⟩:=res_cells rfl hb
 replace hb:=below2 (below_alloc w _) hb
 go_wp2_with fail
 go_region_held3 (fun W=>Below w.heap.size w W∧W.cell? ⟨w.heap.size,0,none⟩=some (.int .i64 x)∧W.cell? ⟨w.heap.size,1,none⟩=some (.int .i64 y)∧W.cell? ⟨w.heap.size,2,none⟩=some (.int .i64 0))
  (first | exact⟨hb.drew,z0,z1,z2⟩ | exact nums_keep (by assumption) hb3)
  (first | (go_at_call 256; (with_reducible refine (udp_most _).mono ?_); rintro e w3 ⟨rfl,hb3⟩))
 rename_i hHeld
 clear hb z0 z1 z2 f0 f1 f2
 obtain⟨hb,z0,z1,z2⟩:=hHeld
 clear hb3 m5
 have q1:IntKind.u64.wrap x=x:=IntWalk.u64_in _ (by omega)
 have q2:IntKind.u64.wrap y=y:=IntWalk.u64_in _ (by omega)
 have A1:∀ (S T:ByteArray) (u:World),S.size≤8→T.size≤8→(Op.stringOp .add S T).run Tryz.prog u=.ok (.string (S ++ T)) u:=fun S T u hS hT=>run_string_add_sum u _ _ (by omega)
 have A2:∀ (S T U:ByteArray) (u:World),S.size≤8→T.size≤8→U.size≤16→(Op.stringOp .add (S ++ T) U).run Tryz.prog u=.ok (.string (S ++ T ++ U)) u:=fun S T U u hS hT hU=>run_string_add_sum u _ _ (by rw[ByteArray.size_append]; omega)
 go_wp2_with fail
 go_region_held3 (fun W=>Below w.heap.size w W∧W.cell? ⟨w.heap.size,0,none⟩=some (.int .i64 x)∧W.cell? ⟨w.heap.size,1,none⟩=some (.int .i64 y)∧W.cell? ⟨w.heap.size,2,none⟩=some (.int .i64 0))
  (first | exact⟨hb.drew,z0,z1,z2⟩ | exact nums_keep (by assumption) hb4)
  (first | (go_at_call 123; (with_reducible refine (Put_some _ _ _ ?_ ?_ ?_).mono ?_); omega; omega; omega; rintro e w4 ⟨S,rfl,hS,HS,hb4⟩) | (go_at_call 258; (with_reducible refine (udp_tails _ _).mono ?_); rintro e w4 ⟨S,rfl,hS,HS,hb4⟩))
 rename_i u1 S1 hS1 HS1 hc1 u2 S2 hS2 HS2 hc2 hHeld
 go_wp2
 exact bodyPost_ret (v:=.tuple #[.string (S1 ++ S2 ++ S),.int .i64 0]) (by simp[results,Tryz.results118,go_sem]) rfl ⟨by rw[HS1.out,HS2.out,HS.out]; rfl,hHeld.1⟩
end Go.Proofs.YtbamodkgagcmnaaGreat.Prt
set_option maxRecDepth 100000
namespace Go.Proofs.YtbamodkgagcmnaaGreat.Prt
open Go.RowKit Go.Shelf Txt
open Oct (num num_bytes bytes_length)
def good (p:Int) (s:ByteArray):Prop:=(p=6∧20≤s.size∧20≤sizeT s∧sizeT s≤s.size)∨(p=17∧8≤s.size∧8≤sizeU s∧sizeU s≤s.size)
def flagsOf (p:Int) (s:ByteArray):Nat:=if p=6 then gv s 13 1 else 0
theorem flagsOf_tcp (s:ByteArray):flagsOf 6 s=gv s 13 1:=if_pos rfl
theorem flagsOf_udp (s:ByteArray):flagsOf 17 s=0:=if_neg (by omega)
def errOf (p:Int) (s:ByteArray):Int:=if p=6 then (if s.size<20 then 2 else 8) else if p=17 then (if s.size<8 then 2 else 4) else 7
theorem errOf_ne (p:Int) (s:ByteArray):errOf p s≠0:=by
 unfold errOf; split
 ·split <;> omega
 ·split
  ·split <;> omega
  ·omega
theorem good_app (p:Int) (s b:ByteArray) (h:good p s):good p (s ++ b)∧gv (s ++ b) 0 2=gv s 0 2∧gv (s ++ b) 2 2=gv s 2 2∧flagsOf p (s ++ b)=flagsOf p s:=by
 have hz:(s ++ b).size=s.size+b.size:=ByteArray.size_append
 rcases h with⟨rfl,h0,h1,h2⟩ | ⟨rfl,h0,h1,h2⟩
 ·have e:sizeT (s ++ b)=sizeT s:=by unfold sizeT; rw[gv_app s b 12 1 (by omega)]
  exact⟨.inl ⟨rfl,by omega,by omega,by omega⟩,gv_app s b 0 2 (by omega),gv_app s b 2 2 (by omega),by rw[flagsOf_tcp,flagsOf_tcp,gv_app s b 13 1 (by omega)]⟩
 ·have e:sizeU (s ++ b)=sizeU s:=by unfold sizeU; rw[gv_app s b 4 2 (by omega)]
  exact⟨.inr ⟨rfl,by omega,by omega,by omega⟩,gv_app s b 0 2 (by omega),gv_app s b 2 2 (by omega),by rw[flagsOf_udp,flagsOf_udp]⟩
def fit (p x y f:Int):Prop:=(p=6∨p=17)∧(0≤x∧x≤65535)∧(0≤y∧y≤65535)∧0≤f∧(p=6→f≤255)∧(p=17→f=0)
def putS (p x y f:Int):ByteArray:=if p=6 then putT x y f else putU x y
theorem putS_tcp (x y f:Int):putS 6 x y f=putT x y f:=if_pos rfl
theorem putS_udp (x y f:Int):putS 17 x y f=putU x y:=if_neg (by omega)
theorem putT_list (x y f:Int):(putT x y f).data.toList=Oct.bytes x.toNat 2 ++ (Oct.bytes y.toNat 2 ++ ([0,0,0,0,0,0,0,0,80] ++ (Oct.bytes f.toNat 1 ++ [0,0,0,0,0,0]))):=rfl
theorem putU_list (x y:Int):(putU x y).data.toList=Oct.bytes x.toNat 2 ++ (Oct.bytes y.toNat 2 ++ [0,8,0,0]):=rfl
theorem putT_size (x y f:Int):(putT x y f).size=20:=by rw[← len_list,putT_list]; rfl
theorem putU_size (x y:Int):(putU x y).size=8:=by rw[← len_list,putU_list]; rfl
def most (p:Int):Nat:=if p=6 then 20 else 8
theorem putS_size (p x y f:Int):(putS p x y f).size=most p:=by
 unfold putS most
 split
 ·exact putT_size x y f
 ·exact putU_size x y
theorem putT_nums (x y f:Int) (hx:0≤x∧x≤65535) (hy:0≤y∧y≤65535) (hf:0≤f∧f≤255):
 sizeT (putT x y f)=20∧gv (putT x y f) 0 2=x.toNat∧gv (putT x y f) 2 2=y.toNat∧gv (putT x y f) 13 1=f.toNat:=by
 refine⟨?_,?_,?_,?_⟩
 ·unfold sizeT gv
  rw[putT_list]
  have e:num (((Oct.bytes x.toNat 2 ++ (Oct.bytes y.toNat 2 ++ ([0,0,0,0,0,0,0,0,80] ++ (Oct.bytes f.toNat 1 ++ [0,0,0,0,0,0])))).drop 12).take 1)=80:=rfl
  rw[e]
 ·unfold gv
  rw[putT_list]
  show num (Oct.bytes x.toNat 2)=_
  rw[num_bytes]; omega
 ·unfold gv
  rw[putT_list]
  show num (Oct.bytes y.toNat 2)=_
  rw[num_bytes]; omega
 ·unfold gv
  rw[putT_list]
  show num (Oct.bytes f.toNat 1)=_
  rw[num_bytes]; omega
theorem putU_nums (x y:Int) (hx:0≤x∧x≤65535) (hy:0≤y∧y≤65535):
 sizeU (putU x y)=8∧gv (putU x y) 0 2=x.toNat∧gv (putU x y) 2 2=y.toNat:=by
 refine⟨?_,?_,?_⟩
 ·unfold sizeU gv
  rw[putU_list]
  rfl
 ·unfold gv
  rw[putU_list]
  show num (Oct.bytes x.toNat 2)=_
  rw[num_bytes]; omega
 ·unfold gv
  rw[putU_list]
  show num (Oct.bytes y.toNat 2)=_
  rw[num_bytes]; omega
theorem putS_parsed (p x y f:Int) (h:fit p x y f):good p (putS p x y f)∧gv (putS p x y f) 0 2=x.toNat∧gv (putS p x y f) 2 2=y.toNat∧flagsOf p (putS p x y f)=f.toNat:=by
 obtain⟨hp,hx,hy,hf,h6,h17⟩:=h
 rcases hp with rfl | rfl
 ·obtain⟨n0,n1,n2,n3⟩:=putT_nums x y f hx hy ⟨hf,h6 rfl⟩
  have hz:=putT_size x y f
  rw[putS_tcp,flagsOf_tcp]
  exact⟨.inl ⟨rfl,by omega,by omega,by omega⟩,n1,n2,n3⟩
 ·obtain⟨n0,n1,n2⟩:=putU_nums x y hx hy
  have hz:=putU_size x y
  have hf0:=h17 rfl
  rw[putS_udp,flagsOf_udp]
  exact⟨.inr ⟨rfl,by omega,by omega,by omega⟩,n1,n2,by omega⟩
theorem good_fit (p:Int) (s:ByteArray) (h:good p s):fit p (gv s 0 2:Nat) (gv s 2 2:Nat) (flagsOf p s:Nat):=by
 rcases h with⟨rfl,h0,h1,h2⟩ | ⟨rfl,h0,h1,h2⟩
 ·have l0:=gv_lt s 0 2 (by omega)
  have l2:=gv_lt s 2 2 (by omega)
  have l3:=gv_lt s 13 1 (by omega)
  rw[flagsOf_tcp]
  exact⟨.inl rfl,by omega,by omega,by omega,by omega,by omega⟩
 ·have l0:=gv_lt s 0 2 (by omega)
  have l2:=gv_lt s 2 2 (by omega)
  rw[flagsOf_udp]
  exact⟨.inr rfl,by omega,by omega,by omega,by omega,by omega⟩
theorem Parse_good (p:Int) (s:ByteArray) (hs:s.size≤1099511627776) (h:good p s) (w:World):
 Calls Tryz.prog 185 #[.int .i64 p,.string s] w fun e W'=>e=.returned (okV (gv s 0 2:Nat) (gv s 2 2:Nat) (flagsOf p s:Nat))∧Below w.heap.size w W':=by
 rcases h with⟨rfl,h0,h1,h2⟩ | ⟨rfl,h0,h1,h2⟩
 ·rw[flagsOf_tcp]
  exact Parse_tcp_good s h0 hs h1 h2 w
 ·rw[flagsOf_udp]
  exact Parse_udp_good s h0 hs h1 h2 w
theorem Parse_bad (p:Int) (hp:(Lit.int .i64 p).wf=true) (s:ByteArray) (hs:s.size≤1099511627776) (h:¬ good p s) (w:World):
 Calls Tryz.prog 185 #[.int .i64 p,.string s] w fun e W'=>e=.returned (badV (errOf p s))∧Below w.heap.size w W':=by
 unfold good at h
 unfold errOf
 by_cases h6:p=6
 ·subst h6
  rw[if_pos rfl]
  by_cases h0:s.size<20
  ·rw[if_pos h0]; exact Parse_tcp_short s h0 w
  ·rw[if_neg h0]
   by_cases h1:sizeT s<20
   ·exact Parse_tcp_low s (by omega) hs h1 w
   ·exact Parse_tcp_high s (by omega) hs (by omega) (by omega) w
 ·rw[if_neg h6]
  by_cases h17:p=17
  ·subst h17
   rw[if_pos rfl]
   by_cases h0:s.size<8
   ·rw[if_pos h0]; exact Parse_udp_short s h0 w
   ·rw[if_neg h0]
    by_cases h1:sizeU s<8
    ·exact Parse_udp_low s (by omega) hs h1 w
    ·exact Parse_udp_high s (by omega) hs (by omega) (by omega) w
  ·rw[if_neg h17]
   exact Parse_none p hp h6 h17 s w
theorem Put_named (p x y f:Int) (h:fit p x y f) (w:World):
 Calls Tryz.prog 118 #[.int .i64 p,.agg #[.int .i64 x,.int .i64 y,.int .i64 f]] w fun e W'=>∃ S:ByteArray,e=.returned (.tuple #[.string S,.int .i64 0])∧S.size=most p∧Hid (S=putS p x y f)∧Below w.heap.size w W':=by
 have hz:=putS_size p x y f
 obtain⟨hp,hx,hy,hf,h6,h17⟩:=h
 rcases hp with rfl | rfl
 ·rw[putS_tcp] at hz ⊢
  exact (Put_tcp_good x y f hx.1 hx.2 hy.1 hy.2 hf (h6 rfl) w).mono fun _ _ ⟨he,hb⟩=>⟨_,he,hz,Lib.hid rfl,hb⟩
 ·obtain rfl:=h17 rfl
  rw[putS_udp] at hz ⊢
  exact (Put_udp_good x y hx.1 hx.2 hy.1 hy.2 w).mono fun _ _ ⟨he,hb⟩=>⟨_,he,hz,Lib.hid rfl,hb⟩
theorem Parse_put (S b:ByteArray) (p x y f:Int) (h:fit p x y f) (hb:b.size≤1000000) (hS:Hid (S=putS p x y f)) (w:World):
 Calls Tryz.prog 185 #[.int .i64 p,.string (S ++ b)] w fun e W'=>e=.returned (okV x y f)∧Below w.heap.size w W':=by
 rw[hS.out]
 have hz:=putS_size p x y f
 have hm:most p≤20:=by unfold most; split <;> omega
 obtain⟨k0,k1,k2,k3⟩:=putS_parsed p x y f h
 obtain⟨g0,g1,g2,g3⟩:=good_app p (putS p x y f) b k0
 have hc:=Parse_good p (putS p x y f ++ b) (by rw[ByteArray.size_append]; omega) g0 w
 obtain⟨_,hx,hy,hf,_,_⟩:=h
 rw[g1,g2,g3,k1,k2,k3,Int.toNat_of_nonneg hx.1,Int.toNat_of_nonneg hy.1,Int.toNat_of_nonneg hf] at hc
 exact hc
theorem Parse_put0 (S:ByteArray) (p x y f:Int) (h:fit p x y f) (hS:Hid (S=putS p x y f)) (w:World):
 Calls Tryz.prog 185 #[.int .i64 p,.string S] w fun e W'=>e=.returned (okV x y f)∧Below w.heap.size w W':=by
 have h:=Parse_put S ⟨#[]⟩ p x y f h (by decide) hS w
 rwa [app_nil] at h
def Headed (W:World) (b:Nat) (x y f:Int):Prop:=W.heap[b]? =some (.cells #[.int .i64 x,.int .i64 y,.int .i64 f] 178 (0,0))
theorem headed_new (W:World) (x y f:Int):Headed (W.alloc (.cells #[.int .i64 x,.int .i64 y,.int .i64 f] 178)) W.heap.size x y f:=World.alloc_heap_new W _
theorem Headed.kept {W W':World} {b:Nat} {x y f:Int} (h:Headed W b x y f) (hb:Below W.heap.size W W'):Headed W' b x y f:=(hb.block b (Array.getElem?_eq_some_iff.1 h).1).trans h
theorem Headed.alloc {W:World} {b:Nat} {x y f:Int} (h:Headed W b x y f) (o:Obj):Headed (W.alloc o) b x y f:=h.kept (below_alloc W o)
theorem Headed.cells {W:World} {b:Nat} {x y f:Int} (h:Headed W b x y f):W.cell? ⟨b,0,none⟩=some (.int .i64 x)∧W.cell? ⟨b,1,none⟩=some (.int .i64 y)∧W.cell? ⟨b,2,none⟩=some (.int .i64 f):=
 ⟨(head_cells h).1,(head_cells h).2.1,(head_cells h).2.2.1⟩
end Go.Proofs.YtbamodkgagcmnaaGreat.Prt
