/-
  Package port: number; what each protocol tells; the map of protocols.
-/
import Derived.Test.YtbamodkgagcmnaaGreatTxtE
import Derived.Test.YtbamodkgagcmnaaGreatBRgnE
import Derived.Maps.OwnSet
set_option maxRecDepth 100000
namespace Go.Proofs.YtbamodkgagcmnaaGreat.Prt
open Go.RowKit Go.Shelf Txt Rgn
abbrev tcpV:Value:=.iface 259 (.agg #[])
abbrev udpV:Value:=.iface 260 (.agg #[])
set_option maxRecDepth 100000 in
set_option maxHeartbeats 1000000 in
theorem number_any (s:ByteArray) (a n:Nat) (h1:1≤n) (h4:n≤4) (h:a+n≤s.size) (hs:s.size≤1099511627776) (w:World):
 Calls Tryz.prog 212 #[.string s,.int .i64 (a:Nat),.int .i64 (n:Nat)] w fun e W'=>e=.returned (.int .i64 (gv s a n:Nat))∧Below w.heap.size w W':=by
 have hn:=gv_lt s a n h
 have hp:256 ^ n≤4294967296:=by
  have:256 ^ n≤256 ^ 4:=Nat.pow_le_pow_right (by omega) h4
  simpa using this
 have hg:Oct.getV s (a:Int) (n:Int)=gv s a n:=by
  unfold Oct.getV gv
  rw[Int.toNat_natCast,Int.toNat_natCast]
 have q:=IntWalk.i64_in (gv s a n:Nat) (by omega)
 have G:=Lib.hid hg
 clear hg
 go_enter Tryz.func212,Tryz.ntmps212
 go_wp2_with fail
 refine (Oct.Get_yes s (a:Int) (n:Int) w (by omega) (by omega)).mono ?_
 rintro e w2 ⟨rfl,hb2⟩
 rw[G.out]
 go_wp2_with fail
 go_ret
 exact⟨rfl,hb2⟩
theorem Put_some (v n:Int) (w:World) (hv0:0≤v) (hv:v≤18446744073709551615) (h:1≤n∧n≤8):
 Calls Tryz.prog 123 #[.int .u64 v,.int .i64 n] w fun e W'=>∃ S:ByteArray,e=.returned (.string S)∧S.size≤8∧Hid (S=Oct.str (Oct.bytes v.toNat n.toNat))∧Below w.heap.size w W':=
 (Oct.Put_yes v n w hv0 hv (by omega)).mono fun _ _ ⟨he,hb⟩=>⟨_,he,by rw[str_size,Oct.bytes_length]; omega,Lib.hid rfl,hb⟩
theorem tcp_least (w:World):Calls Tryz.prog 249 #[.agg #[]] w fun e W'=>e=.returned (.int .i64 20)∧Below w.heap.size w W':=by
 go_enter Tryz.func249,Tryz.ntmps249
 go_wp2
 go_ret
 exact⟨rfl,below_alloc w _⟩
theorem udp_least (w:World):Calls Tryz.prog 255 #[.agg #[]] w fun e W'=>e=.returned (.int .i64 8)∧Below w.heap.size w W':=by
 go_enter Tryz.func255,Tryz.ntmps255
 go_wp2
 go_ret
 exact⟨rfl,below_alloc w _⟩
theorem tcp_most (w:World):Calls Tryz.prog 250 #[.agg #[]] w fun e W'=>e=.returned (.int .i64 255)∧Below w.heap.size w W':=by
 go_enter Tryz.func250,Tryz.ntmps250
 go_wp2
 go_ret
 exact⟨rfl,below_alloc w _⟩
theorem udp_most (w:World):Calls Tryz.prog 256 #[.agg #[]] w fun e W'=>e=.returned (.int .i64 0)∧Below w.heap.size w W':=by
 go_enter Tryz.func256,Tryz.ntmps256
 go_wp2
 go_ret
 exact⟨rfl,below_alloc w _⟩
theorem tcp_wrong (w:World):Calls Tryz.prog 253 #[.agg #[]] w fun e W'=>e=.returned (.int .i64 8)∧Below w.heap.size w W':=by
 go_enter Tryz.func253,Tryz.ntmps253
 go_wp2
 go_ret
 exact⟨rfl,below_alloc w _⟩
theorem udp_wrong (w:World):Calls Tryz.prog 259 #[.agg #[]] w fun e W'=>e=.returned (.int .i64 4)∧Below w.heap.size w W':=by
 go_enter Tryz.func259,Tryz.ntmps259
 go_wp2
 go_ret
 exact⟨rfl,below_alloc w _⟩
theorem udp_flags (s:ByteArray) (w:World):Calls Tryz.prog 254 #[.agg #[],.string s] w fun e W'=>e=.returned (.int .i64 0)∧Below w.heap.size w W':=by
 go_enter Tryz.func254,Tryz.ntmps254
 go_wp2
 go_ret
 exact⟨rfl,below_alloc w _⟩
theorem udp_tail (f:Int) (w:World):Calls Tryz.prog 258 #[.agg #[],.int .i64 f] w fun e W'=>e=.returned (.string ⟨#[0,8,0,0]⟩)∧Below w.heap.size w W':=by
 go_enter Tryz.func258,Tryz.ntmps258
 go_wp2
 go_ret
 exact⟨rfl,below_alloc w _⟩
theorem tcp_flags (s:ByteArray) (h:20≤s.size) (hs:s.size≤1099511627776) (w:World):
 Calls Tryz.prog 248 #[.agg #[],.string s] w fun e W'=>e=.returned (.int .i64 (gv s 13 1:Nat))∧Below w.heap.size w W':=by
 go_enter Tryz.func248,Tryz.ntmps248
 go_wp2_with fail
 refine (number_any s 13 1 (by omega) (by omega) (by omega) hs _).mono ?_
 rintro e w2 ⟨rfl,hb2⟩
 go_wp2_with fail
 go_ret
 exact⟨rfl,below2 (below_alloc w _) hb2⟩
theorem udp_size (s:ByteArray) (h:8≤s.size) (hs:s.size≤1099511627776) (w:World):
 Calls Tryz.prog 257 #[.agg #[],.string s] w fun e W'=>e=.returned (.int .i64 (gv s 4 2:Nat))∧Below w.heap.size w W':=by
 go_enter Tryz.func257,Tryz.ntmps257
 go_wp2_with fail
 refine (number_any s 4 2 (by omega) (by omega) (by omega) hs _).mono ?_
 rintro e w2 ⟨rfl,hb2⟩
 go_wp2_with fail
 go_ret
 exact⟨rfl,below2 (below_alloc w _) hb2⟩
theorem tcp_size (s:ByteArray) (h:20≤s.size) (hs:s.size≤1099511627776) (w:World):
 Calls Tryz.prog 251 #[.agg #[],.string s] w fun e W'=>e=.returned (.int .i64 (gv s 12 1 / 16 * 4:Nat))∧Below w.heap.size w W':=by
 have hl:=gv_lt s 12 1 (by omega)
 go_enter Tryz.func251,Tryz.ntmps251
 go_wp2_with fail
 refine (number_any s 12 1 (by omega) (by omega) (by omega) hs _).mono ?_
 rintro e w2 ⟨rfl,hb2⟩
 generalize hg:gv s 12 1=g at *
 go_wp2_with fail
 go_ret
 exact⟨by rw[hg]; simp,below2 (below_alloc w _) hb2⟩
end Go.Proofs.YtbamodkgagcmnaaGreat.Prt
namespace Go.Proofs.YtbamodkgagcmnaaGreat.Prt
open Go.RowKit Go.Shelf Txt Rgn
def tailT (f:Int):ByteArray:=(⟨#[0,0,0,0,0,0,0,0,80]⟩ ++ Oct.str (Oct.bytes f.toNat 1)) ++ ⟨#[0,0,0,0,0,0]⟩
def tailU:ByteArray:=⟨#[0,8,0,0]⟩
set_option maxHeartbeats 1000000 in
theorem tcp_tail (f:Int) (h0:0≤f) (h1:f≤255) (w:World):
 Calls Tryz.prog 252 #[.agg #[],.int .i64 f] w fun e W'=>e=.returned (.string (tailT f))∧Below w.heap.size w W':=by
 have q:=IntWalk.u64_in f (by omega)
 go_enter Tryz.func252,Tryz.ntmps252
 go_wp2_with fail
 refine (Put_some f 1 _ (by omega) (by omega) (by omega)).mono ?_
 rintro e w2 ⟨S,rfl,hz,hS,hb2⟩
 have hz1:(⟨#[0,0,0,0,0,0,0,0,80]⟩:ByteArray).size=9:=rfl
 go_wp2_with fail
 go_ret
 exact⟨by rw[hS.out]; rfl,below2 (below_alloc w _) hb2⟩
theorem und_map:Tryz.prog.underlying 227=some (.map 3 225):=by kernel_rfl
theorem und_int:Tryz.prog.underlying 3=some (.int .i64):=by kernel_rfl
theorem keyed:Maps.Keyed Tryz.prog 3:=Maps.int_keyed und_int
theorem zero_el (w:World):(zeroValue 225).run Tryz.prog w=.ok .nilIface w:=by kernel_rfl
open Classical in
noncomputable def rdP (v:Value):Option (DataW Unit × List MemPlace):=
 if v=tcpV then some (.lit (.int .i64 6),[]) else if v=udpV then some (.lit (.int .i64 17),[]) else if v=.nilIface then some (.lit (.int .i64 0),[]) else none
theorem rdP_tcp:rdP tcpV=some (.lit (.int .i64 6),[]):=by unfold rdP; rw[if_pos rfl]
theorem rdP_udp:rdP udpV=some (.lit (.int .i64 17),[]):=by unfold rdP; rw[if_neg (by simp),if_pos rfl]
theorem rdP_none:rdP .nilIface=some (.lit (.int .i64 0),[]):=by unfold rdP; rw[if_neg (by simp),if_neg (by simp),if_pos rfl]
theorem rdP_inv {v:Value} {n:Int} {ps:List MemPlace} (h:rdP v=some (.lit (.int .i64 n),ps)):(n=6∧v=tcpV)∨(n=17∧v=udpV)∨(n=0∧v=.nilIface):=by
 unfold rdP at h
 split at h
 ·simp at h; exact .inl ⟨by omega,by assumption⟩
 ·split at h
  ·simp at h; exact .inr (.inl ⟨by omega,by assumption⟩)
  ·split at h
   ·simp at h; exact .inr (.inr ⟨by omega,by assumption⟩)
   ·cases h
def both:DataW Unit:=((DataW.map []).put (.int .i64 6) (.lit (.int .i64 6))).put (.int .i64 17) (.lit (.int .i64 17))
set_option maxHeartbeats 1000000 in
theorem protocols_any (w:World):
 Calls Tryz.prog 157 #[] w fun e W'=>∃ b,e=.returned (.map (some b))∧W'.ownsMap Tryz.prog 3 rdP b 2 both∧Below w.heap.size w W':=by
 obtain⟨w1,r1,o1,g1⟩:=(World.ownsMap_made w Tryz.prog 3 rdP).update keyed und_map (by unfold maxLen; omega) (Maps.keyOf_int_mk und_int (a:=6) (by decide)) rdP_tcp
 obtain⟨w2,r2,o2,g2⟩:=o1.update keyed und_map (by unfold maxLen; omega) (Maps.keyOf_int_mk und_int (a:=17) (by decide)) rdP_udp
 have hB:Below w.heap.size w w2:=((below_alloc w (.map #[] 0)).grown g1 (by simp) (fun j hj=>by cases hj; exact Nat.le_refl _)).grown g2 (Nat.le_trans (by simp) g1.size) (fun j hj=>by cases hj; exact Nat.le_refl _)
 have O:=Lib.hid o2
 clear o1 o2 g1 g2
 have hmm:= @run_makeMap Tryz.prog
 go_enter Tryz.func157,Tryz.ntmps157
 go_wp2
 go_ret
 exact⟨_,rfl,O.out,hB⟩
theorem both_has (p:Int):Maps.has both (.int .i64 p)=(p == 6 || p == 17):=by
 by_cases h6:p=6
 ·subst h6; rfl
 ·by_cases h17:p=17
  ·subst h17; rfl
  ·unfold both
   rw[Maps.has_put_other (by simp[h17]),Maps.has_put_other (by simp[h6]),beq_false_of_ne h6,beq_false_of_ne h17]
   rfl
theorem look_any {W:World} {b:Nat} (h:W.ownsMap Tryz.prog 3 rdP b 2 both) (p:Int) (hp:(Lit.int .i64 p).wf=true):
 ∃ v,(Instr.lookup 227 (.map (some b)) (.int .i64 p) true).run Tryz.prog W=.ok (.tuple #[v,.bool (p == 6 || p == 17)]) W∧(p=6→v=tcpV)∧(p=17→v=udpV):=by
 obtain⟨v,ps,hr,hv⟩:=h.look_ok keyed und_map (zero_el W) rdP_none (Maps.keyOf_int_mk und_int hp)
 refine⟨v,?_,?_,?_⟩
 ·rw[hr,both_has]
 ·rintro rfl
  rcases rdP_inv (n:=6) hv with h | h | h
  ·exact h.2
  ·omega
  ·omega
 ·rintro rfl
  rcases rdP_inv (n:=17) hv with h | h | h
  ·omega
  ·exact h.2
  ·omega
theorem look_tcp {W:World} {b:Nat} (h:W.ownsMap Tryz.prog 3 rdP b 2 both):(Instr.lookup 227 (.map (some b)) (.int .i64 6) true).run Tryz.prog W=.ok (.tuple #[tcpV,.bool true]) W:=by
 obtain⟨v,hr,h6,_⟩:=look_any h 6 (by decide)
 obtain rfl:=h6 rfl
 exact hr
theorem look_udp {W:World} {b:Nat} (h:W.ownsMap Tryz.prog 3 rdP b 2 both):(Instr.lookup 227 (.map (some b)) (.int .i64 17) true).run Tryz.prog W=.ok (.tuple #[udpV,.bool true]) W:=by
 obtain⟨v,hr,_,h17⟩:=look_any h 17 (by decide)
 obtain rfl:=h17 rfl
 exact hr
theorem look_none {W:World} {b:Nat} (h:W.ownsMap Tryz.prog 3 rdP b 2 both) (p:Int) (hp:(Lit.int .i64 p).wf=true) (h6:p≠6) (h17:p≠17):
 ∃ v,(Instr.lookup 227 (.map (some b)) (.int .i64 p) true).run Tryz.prog W=.ok (.tuple #[v,.bool false]) W:=by
 obtain⟨v,hr,_,_⟩:=look_any h p hp
 rw[beq_false_of_ne h6,beq_false_of_ne h17] at hr
 exact⟨v,hr⟩
theorem at_tcp (w:World):
 (method 411 259 (.agg #[]) "gangplank/port.least").run Tryz.prog w=.ok (249,.agg #[]) w∧
 (method 411 259 (.agg #[]) "gangplank/port.size").run Tryz.prog w=.ok (251,.agg #[]) w∧
 (method 411 259 (.agg #[]) "gangplank/port.wrong").run Tryz.prog w=.ok (253,.agg #[]) w∧
 (method 411 259 (.agg #[]) "gangplank/port.flags").run Tryz.prog w=.ok (248,.agg #[]) w∧
 (method 411 259 (.agg #[]) "gangplank/port.most").run Tryz.prog w=.ok (250,.agg #[]) w∧
 (method 411 259 (.agg #[]) "gangplank/port.tail").run Tryz.prog w=.ok (252,.agg #[]) w:=
 ⟨by kernel_rfl,by kernel_rfl,by kernel_rfl,by kernel_rfl,by kernel_rfl,by kernel_rfl⟩
theorem at_udp (w:World):
 (method 411 260 (.agg #[]) "gangplank/port.least").run Tryz.prog w=.ok (255,.agg #[]) w∧
 (method 411 260 (.agg #[]) "gangplank/port.size").run Tryz.prog w=.ok (257,.agg #[]) w∧
 (method 411 260 (.agg #[]) "gangplank/port.wrong").run Tryz.prog w=.ok (259,.agg #[]) w∧
 (method 411 260 (.agg #[]) "gangplank/port.flags").run Tryz.prog w=.ok (254,.agg #[]) w∧
 (method 411 260 (.agg #[]) "gangplank/port.most").run Tryz.prog w=.ok (256,.agg #[]) w∧
 (method 411 260 (.agg #[]) "gangplank/port.tail").run Tryz.prog w=.ok (258,.agg #[]) w:=
 ⟨by kernel_rfl,by kernel_rfl,by kernel_rfl,by kernel_rfl,by kernel_rfl,by kernel_rfl⟩
end Go.Proofs.YtbamodkgagcmnaaGreat.Prt
set_option maxRecDepth 100000
namespace Go.Proofs.YtbamodkgagcmnaaGreat.Prt
open Go.RowKit Go.Shelf Txt Rgn
abbrev badV (e:Int):Value:=.tuple #[.agg #[.int .i64 0,.int .i64 0,.int .i64 0],.int .i64 e]
abbrev okV (a b f:Int):Value:=.tuple #[.agg #[.int .i64 a,.int .i64 b,.int .i64 f],.int .i64 0]
def sizeT (s:ByteArray):Nat:=gv s 12 1 / 16 * 4
def sizeU (s:ByteArray):Nat:=gv s 4 2
theorem head_cells {W:World} {b T:Nat} {v0 v1 v2:Value} (h:W.heap[b]? =some (.cells #[v0,v1,v2] T (0,0))):
 W.cell? ⟨b,0,none⟩=some v0∧W.cell? ⟨b,1,none⟩=some v1∧W.cell? ⟨b,2,none⟩=some v2∧W.frozen? ⟨b,0,none⟩=false∧W.frozen? ⟨b,1,none⟩=false∧W.frozen? ⟨b,2,none⟩=false:=
 ⟨by simp[World.cell?,h],by simp[World.cell?,h],by simp[World.cell?,h],by simp[World.frozen?,h],by simp[World.frozen?,h],by simp[World.frozen?,h]⟩
theorem res_cells {w W:World} {T:Nat} {o:Obj} {v0 v1 v2:Value} (ho:o=.cells #[v0,v1,v2] T (0,0)) (h:Below (w.alloc o).heap.size (w.alloc o) W):
 W.cell? ⟨w.heap.size,0,none⟩=some v0∧W.cell? ⟨w.heap.size,1,none⟩=some v1∧W.cell? ⟨w.heap.size,2,none⟩=some v2∧W.frozen? ⟨w.heap.size,0,none⟩=false∧W.frozen? ⟨w.heap.size,1,none⟩=false∧W.frozen? ⟨w.heap.size,2,none⟩=false:=by
 subst ho
 exact head_cells (T:=T) ((h.block w.heap.size (by simp)).trans (World.alloc_heap_new w _))
set_option maxRecDepth 100000 in
set_option maxHeartbeats 2000000 in
theorem Parse_none (p:Int) (hp:(Lit.int .i64 p).wf=true) (h6:p≠6) (h17:p≠17) (s:ByteArray) (w:World):
 Calls Tryz.prog 185 #[.int .i64 p,.string s] w fun e W'=>e=.returned (badV 7)∧Below w.heap.size w W':=by
 go_enter Tryz.func185,Tryz.ntmps185
 go_wp2_with fail
 refine (protocols_any _).mono ?_
 rintro e w2 ⟨b,rfl,hown,hb⟩
 obtain⟨v,hl⟩:=look_none hown p hp h6 h17
 clear hown
 obtain⟨z0,z1,z2,f0,f1,f2⟩:=res_cells rfl hb
 replace hb:=below2 (below_alloc w _) hb
 go_wp2_with fail
 refine bodyPost_ret (v:=badV 7) (by simp[results,Tryz.results185,go_sem,z0,z1,z2]) rfl ⟨rfl,?_⟩
 exact ((hb.setCell (p:=⟨w.heap.size,0,none⟩) (by simp) _).setCell (p:=⟨w.heap.size,1,none⟩) (by simp) _).setCell (p:=⟨w.heap.size,2,none⟩) (by simp) _
set_option maxRecDepth 100000 in
set_option maxHeartbeats 2000000 in
theorem Parse_tcp_short (s:ByteArray) (h:s.size<20) (w:World):
 Calls Tryz.prog 185 #[.int .i64 6,.string s] w fun e W'=>e=.returned (badV 2)∧Below w.heap.size w W':=by
 have m1:=fun W=>(at_tcp W).1
 have d1:decide ((s.size:Int)<20)=true:=decide_eq_true (by omega)
 go_enter Tryz.func185,Tryz.ntmps185
 go_wp2_with fail
 refine (protocols_any _).mono ?_
 rintro e w2 ⟨b,rfl,hown,hb⟩
 have hl:=look_tcp hown
 clear hown
 go_wp2_with fail
 refine (tcp_least _).mono ?_
 rintro e w3 ⟨rfl,hb3⟩
 replace hb:=below2 hb hb3
 clear hb3
 obtain⟨z0,z1,z2,f0,f1,f2⟩:=res_cells rfl hb
 replace hb:=below2 (below_alloc w _) hb
 go_wp2_with fail
 refine bodyPost_ret (v:=badV 2) (by simp[results,Tryz.results185,go_sem,z0,z1,z2]) rfl ⟨rfl,?_⟩
 exact ((hb.setCell (p:=⟨w.heap.size,0,none⟩) (by simp) _).setCell (p:=⟨w.heap.size,1,none⟩) (by simp) _).setCell (p:=⟨w.heap.size,2,none⟩) (by simp) _
theorem tcp_sizes (s:ByteArray) (h:20≤s.size) (hs:s.size≤1099511627776) (w:World):Calls Tryz.prog 251 #[.agg #[],.string s] w fun e W'=>e=.returned (.int .i64 (sizeT s:Nat))∧Below w.heap.size w W':=tcp_size s h hs w
set_option maxRecDepth 100000 in
set_option maxHeartbeats 2000000 in
theorem Parse_tcp_low (s:ByteArray) (h:20≤s.size) (hs:s.size≤1099511627776) (h2:sizeT s<20) (w:World):
 Calls Tryz.prog 185 #[.int .i64 6,.string s] w fun e W'=>e=.returned (badV 8)∧Below w.heap.size w W':=by
 have m1:=fun W=>(at_tcp W).1
 have m2:=fun W=>(at_tcp W).2.1
 have m3:=fun W=>(at_tcp W).2.2.1
 have d1:decide ((s.size:Int)<20)=false:=decide_eq_false (by omega)
 have d2:decide (((sizeT s:Nat):Int)<20)=true:=decide_eq_true (by omega)
 go_enter Tryz.func185,Tryz.ntmps185
 go_wp2_with fail
 refine (protocols_any _).mono ?_
 rintro e w2 ⟨b,rfl,hown,hb⟩
 have hl:=look_tcp hown
 clear hown
 go_wp2_with fail
 refine (tcp_least _).mono ?_
 rintro e w3 ⟨rfl,hb3⟩
 replace hb:=below2 hb hb3
 clear hb3
 go_wp2_with fail
 refine (tcp_sizes s h hs _).mono ?_
 rintro e w4 ⟨rfl,hb4⟩
 replace hb:=below2 hb hb4
 clear hb4
 go_wp2_with fail
 refine (tcp_least _).mono ?_
 rintro e w5 ⟨rfl,hb5⟩
 replace hb:=below2 hb hb5
 clear hb5
 go_wp2_with fail
 refine (tcp_wrong _).mono ?_
 rintro e w6 ⟨rfl,hb6⟩
 replace hb:=below2 hb hb6
 clear hb6
 obtain⟨z0,z1,z2,f0,f1,f2⟩:=res_cells rfl hb
 replace hb:=below2 (below_alloc w _) hb
 go_wp2_with fail
 refine bodyPost_ret (v:=badV 8) (by simp[results,Tryz.results185,go_sem,z0,z1,z2]) rfl ⟨rfl,?_⟩
 exact ((hb.setCell (p:=⟨w.heap.size,0,none⟩) (by simp) _).setCell (p:=⟨w.heap.size,1,none⟩) (by simp) _).setCell (p:=⟨w.heap.size,2,none⟩) (by simp) _
set_option maxRecDepth 100000 in
set_option maxHeartbeats 2000000 in
theorem Parse_tcp_high (s:ByteArray) (h:20≤s.size) (hs:s.size≤1099511627776) (h2:20≤sizeT s) (h3:s.size<sizeT s) (w:World):
 Calls Tryz.prog 185 #[.int .i64 6,.string s] w fun e W'=>e=.returned (badV 8)∧Below w.heap.size w W':=by
 have m1:=fun W=>(at_tcp W).1
 have m2:=fun W=>(at_tcp W).2.1
 have m3:=fun W=>(at_tcp W).2.2.1
 have d1:decide ((s.size:Int)<20)=false:=decide_eq_false (by omega)
 have d2:decide (((sizeT s:Nat):Int)<20)=false:=decide_eq_false (by omega)
 have d3:decide ((s.size:Int)<((sizeT s:Nat):Int))=true:=decide_eq_true (by omega)
 go_enter Tryz.func185,Tryz.ntmps185
 go_wp2_with fail
 refine (protocols_any _).mono ?_
 rintro e w2 ⟨b,rfl,hown,hb⟩
 have hl:=look_tcp hown
 clear hown
 go_wp2_with fail
 refine (tcp_least _).mono ?_
 rintro e w3 ⟨rfl,hb3⟩
 replace hb:=below2 hb hb3
 clear hb3
 go_wp2_with fail
 refine (tcp_sizes s h hs _).mono ?_
 rintro e w4 ⟨rfl,hb4⟩
 replace hb:=below2 hb hb4
 clear hb4
 go_wp2_with fail
 refine (tcp_least _).mono ?_
 rintro e w5 ⟨rfl,hb5⟩
 replace hb:=below2 hb hb5
 clear hb5
 go_wp2_with fail
 refine (tcp_sizes s h hs _).mono ?_
 rintro e w6 ⟨rfl,hb6⟩
 replace hb:=below2 hb hb6
 clear hb6
 go_wp2_with fail
 refine (tcp_wrong _).mono ?_
 rintro e w7 ⟨rfl,hb7⟩
 replace hb:=below2 hb hb7
 clear hb7
 obtain⟨z0,z1,z2,f0,f1,f2⟩:=res_cells rfl hb
 replace hb:=below2 (below_alloc w _) hb
 go_wp2_with fail
 refine bodyPost_ret (v:=badV 8) (by simp[results,Tryz.results185,go_sem,z0,z1,z2]) rfl ⟨rfl,?_⟩
 exact ((hb.setCell (p:=⟨w.heap.size,0,none⟩) (by simp) _).setCell (p:=⟨w.heap.size,1,none⟩) (by simp) _).setCell (p:=⟨w.heap.size,2,none⟩) (by simp) _
set_option maxRecDepth 100000 in
set_option maxHeartbeats 2000000 in
theorem Parse_tcp_good (s:ByteArray) (h:20≤s.size) (hs:s.size≤1099511627776) (h2:20≤sizeT s) (h3:sizeT s≤s.size) (w:World):
 Calls Tryz.prog 185 #[.int .i64 6,.string s] w fun e W'=>e=.returned (okV (gv s 0 2:Nat) (gv s 2 2:Nat) (gv s 13 1:Nat))∧Below w.heap.size w W':=by
 have m1:=fun W=>(at_tcp W).1
 have m2:=fun W=>(at_tcp W).2.1
 have m3:=fun W=>(at_tcp W).2.2.1
 have m4:=fun W=>(at_tcp W).2.2.2.1
 have d1:decide ((s.size:Int)<20)=false:=decide_eq_false (by omega)
 have d2:decide (((sizeT s:Nat):Int)<20)=false:=decide_eq_false (by omega)
 have d3:decide ((s.size:Int)<((sizeT s:Nat):Int))=false:=decide_eq_false (by omega)
 go_enter Tryz.func185,Tryz.ntmps185
 go_wp2_with fail
 refine (protocols_any _).mono ?_
 rintro e w2 ⟨b,rfl,hown,hb⟩
 have hl:=look_tcp hown
 clear hown
 go_wp2_with fail
 refine (tcp_least _).mono ?_
 rintro e w3 ⟨rfl,hb3⟩
 replace hb:=below2 hb hb3
 clear hb3
 go_wp2_with fail
 refine (tcp_sizes s h hs _).mono ?_
 rintro e w4 ⟨rfl,hb4⟩
 replace hb:=below2 hb hb4
 clear hb4
 go_wp2_with fail
 refine (tcp_least _).mono ?_
 rintro e w5 ⟨rfl,hb5⟩
 replace hb:=below2 hb hb5
 clear hb5
 go_wp2_with fail
 refine (tcp_sizes s h hs _).mono ?_
 rintro e w6 ⟨rfl,hb6⟩
 replace hb:=below2 hb hb6
 clear hb6
 go_wp2_with fail
 refine (number_any s 0 2 (by omega) (by omega) (by omega) hs _).mono ?_
 rintro e w7 ⟨rfl,hb7⟩
 replace hb:=below2 hb hb7
 clear hb7
 go_wp2_with fail
 refine (number_any s 2 2 (by omega) (by omega) (by omega) hs _).mono ?_
 rintro e w8 ⟨rfl,hb8⟩
 replace hb:=below2 hb hb8
 clear hb8
 go_wp2_with fail
 refine (tcp_flags s h hs _).mono ?_
 rintro e w9 ⟨rfl,hb9⟩
 replace hb:=below2 hb hb9
 clear hb9
 obtain⟨z0,z1,z2,f0,f1,f2⟩:=res_cells rfl hb
 replace hb:=below2 (below_alloc w _) hb
 go_wp2_with fail
 refine bodyPost_ret (v:=okV (gv s 0 2:Nat) (gv s 2 2:Nat) (gv s 13 1:Nat)) (by simp[results,Tryz.results185,go_sem,z0,z1,z2]) rfl ⟨rfl,?_⟩
 exact ((hb.setCell (p:=⟨w.heap.size,0,none⟩) (by simp) _).setCell (p:=⟨w.heap.size,1,none⟩) (by simp) _).setCell (p:=⟨w.heap.size,2,none⟩) (by simp) _
set_option maxRecDepth 100000 in
set_option maxHeartbeats 2000000 in
theorem Parse_udp_short (s:ByteArray) (h:s.size<8) (w:World):
 Calls Tryz.prog 185 #[.int .i64 17,.string s] w fun e W'=>e=.returned (badV 2)∧Below w.heap.size w W':=by
 have m1:=fun W=>(at_udp W).1
 have d1:decide ((s.size:Int)<8)=true:=decide_eq_true (by omega)
 go_enter Tryz.func185,Tryz.ntmps185
 go_wp2_with fail
 refine (protocols_any _).mono ?_
 rintro e w2 ⟨b,rfl,hown,hb⟩
 have hl:=look_udp hown
 clear hown
 go_wp2_with fail
 refine (udp_least _).mono ?_
 rintro e w3 ⟨rfl,hb3⟩
 replace hb:=below2 hb hb3
 clear hb3
 obtain⟨z0,z1,z2,f0,f1,f2⟩:=res_cells rfl hb
 replace hb:=below2 (below_alloc w _) hb
 go_wp2_with fail
 refine bodyPost_ret (v:=badV 2) (by simp[results,Tryz.results185,go_sem,z0,z1,z2]) rfl ⟨rfl,?_⟩
 exact ((hb.setCell (p:=⟨w.heap.size,0,none⟩) (by simp) _).setCell (p:=⟨w.heap.size,1,none⟩) (by simp) _).setCell (p:=⟨w.heap.size,2,none⟩) (by simp) _
theorem udp_sizes (s:ByteArray) (h:8≤s.size) (hs:s.size≤1099511627776) (w:World):Calls Tryz.prog 257 #[.agg #[],.string s] w fun e W'=>e=.returned (.int .i64 (sizeU s:Nat))∧Below w.heap.size w W':=udp_size s h hs w
set_option maxRecDepth 100000 in
set_option maxHeartbeats 2000000 in
theorem Parse_udp_low (s:ByteArray) (h:8≤s.size) (hs:s.size≤1099511627776) (h2:sizeU s<8) (w:World):
 Calls Tryz.prog 185 #[.int .i64 17,.string s] w fun e W'=>e=.returned (badV 4)∧Below w.heap.size w W':=by
 have m1:=fun W=>(at_udp W).1
 have m2:=fun W=>(at_udp W).2.1
 have m3:=fun W=>(at_udp W).2.2.1
 have d1:decide ((s.size:Int)<8)=false:=decide_eq_false (by omega)
 have d2:decide (((sizeU s:Nat):Int)<8)=true:=decide_eq_true (by omega)
 go_enter Tryz.func185,Tryz.ntmps185
 go_wp2_with fail
 refine (protocols_any _).mono ?_
 rintro e w2 ⟨b,rfl,hown,hb⟩
 have hl:=look_udp hown
 clear hown
 go_wp2_with fail
 refine (udp_least _).mono ?_
 rintro e w3 ⟨rfl,hb3⟩
 replace hb:=below2 hb hb3
 clear hb3
 go_wp2_with fail
 refine (udp_sizes s h hs _).mono ?_
 rintro e w4 ⟨rfl,hb4⟩
 replace hb:=below2 hb hb4
 clear hb4
 go_wp2_with fail
 refine (udp_least _).mono ?_
 rintro e w5 ⟨rfl,hb5⟩
 replace hb:=below2 hb hb5
 clear hb5
 go_wp2_with fail
 refine (udp_wrong _).mono ?_
 rintro e w6 ⟨rfl,hb6⟩
 replace hb:=below2 hb hb6
 clear hb6
 obtain⟨z0,z1,z2,f0,f1,f2⟩:=res_cells rfl hb
 replace hb:=below2 (below_alloc w _) hb
 go_wp2_with fail
 refine bodyPost_ret (v:=badV 4) (by simp[results,Tryz.results185,go_sem,z0,z1,z2]) rfl ⟨rfl,?_⟩
 exact ((hb.setCell (p:=⟨w.heap.size,0,none⟩) (by simp) _).setCell (p:=⟨w.heap.size,1,none⟩) (by simp) _).setCell (p:=⟨w.heap.size,2,none⟩) (by simp) _
set_option maxRecDepth 100000 in
set_option maxHeartbeats 2000000 in
theorem Parse_udp_high (s:ByteArray) (h:8≤s.size) (hs:s.size≤1099511627776) (h2:8≤sizeU s) (h3:s.size<sizeU s) (w:World):
 Calls Tryz.prog 185 #[.int .i64 17,.string s] w fun e W'=>e=.returned (badV 4)∧Below w.heap.size w W':=by
 have m1:=fun W=>(at_udp W).1
 have m2:=fun W=>(at_udp W).2.1
 have m3:=fun W=>(at_udp W).2.2.1
 have d1:decide ((s.size:Int)<8)=false:=decide_eq_false (by omega)
 have d2:decide (((sizeU s:Nat):Int)<8)=false:=decide_eq_false (by omega)
 have d3:decide ((s.size:Int)<((sizeU s:Nat):Int))=true:=decide_eq_true (by omega)
 go_enter Tryz.func185,Tryz.ntmps185
 go_wp2_with fail
 refine (protocols_any _).mono ?_
 rintro e w2 ⟨b,rfl,hown,hb⟩
 have hl:=look_udp hown
 clear hown
 go_wp2_with fail
 refine (udp_least _).mono ?_
 rintro e w3 ⟨rfl,hb3⟩
 replace hb:=below2 hb hb3
 clear hb3
 go_wp2_with fail
 refine (udp_sizes s h hs _).mono ?_
 rintro e w4 ⟨rfl,hb4⟩
 replace hb:=below2 hb hb4
 clear hb4
 go_wp2_with fail
 refine (udp_least _).mono ?_
 rintro e w5 ⟨rfl,hb5⟩
 replace hb:=below2 hb hb5
 clear hb5
 go_wp2_with fail
 refine (udp_sizes s h hs _).mono ?_
 rintro e w6 ⟨rfl,hb6⟩
 replace hb:=below2 hb hb6
 clear hb6
 go_wp2_with fail
 refine (udp_wrong _).mono ?_
 rintro e w7 ⟨rfl,hb7⟩
 replace hb:=below2 hb hb7
 clear hb7
 obtain⟨z0,z1,z2,f0,f1,f2⟩:=res_cells rfl hb
 replace hb:=below2 (below_alloc w _) hb
 go_wp2_with fail
 refine bodyPost_ret (v:=badV 4) (by simp[results,Tryz.results185,go_sem,z0,z1,z2]) rfl ⟨rfl,?_⟩
 exact ((hb.setCell (p:=⟨w.heap.size,0,none⟩) (by simp) _).setCell (p:=⟨w.heap.size,1,none⟩) (by simp) _).setCell (p:=⟨w.heap.size,2,none⟩) (by simp) _
set_option maxRecDepth 100000 in
set_option maxHeartbeats 2000000 in
theorem Parse_udp_good (s:ByteArray) (h:8≤s.size) (hs:s.size≤1099511627776) (h2:8≤sizeU s) (h3:sizeU s≤s.size) (w:World):
 Calls Tryz.prog 185 #[.int .i64 17,.string s] w fun e W'=>e=.returned (okV (gv s 0 2:Nat) (gv s 2 2:Nat) 0)∧Below w.heap.size w W':=by
 have m1:=fun W=>(at_udp W).1
 have m2:=fun W=>(at_udp W).2.1
 have m3:=fun W=>(at_udp W).2.2.1
 have m4:=fun W=>(at_udp W).2.2.2.1
 have d1:decide ((s.size:Int)<8)=false:=decide_eq_false (by omega)
 have d2:decide (((sizeU s:Nat):Int)<8)=false:=decide_eq_false (by omega)
 have d3:decide ((s.size:Int)<((sizeU s:Nat):Int))=false:=decide_eq_false (by omega)
 go_enter Tryz.func185,Tryz.ntmps185
 go_wp2_with fail
 refine (protocols_any _).mono ?_
 rintro e w2 ⟨b,rfl,hown,hb⟩
 have hl:=look_udp hown
 clear hown
 go_wp2_with fail
 refine (udp_least _).mono ?_
 rintro e w3 ⟨rfl,hb3⟩
 replace hb:=below2 hb hb3
 clear hb3
 go_wp2_with fail
 refine (udp_sizes s h hs _).mono ?_
 rintro e w4 ⟨rfl,hb4⟩
 replace hb:=below2 hb hb4
 clear hb4
 go_wp2_with fail
 refine (udp_least _).mono ?_
 rintro e w5 ⟨rfl,hb5⟩
 replace hb:=below2 hb hb5
 clear hb5
 go_wp2_with fail
 refine (udp_sizes s h hs _).mono ?_
 rintro e w6 ⟨rfl,hb6⟩
 replace hb:=below2 hb hb6
 clear hb6
 go_wp2_with fail
 refine (number_any s 0 2 (by omega) (by omega) (by omega) hs _).mono ?_
 rintro e w7 ⟨rfl,hb7⟩
 replace hb:=below2 hb hb7
 clear hb7
 go_wp2_with fail
 refine (number_any s 2 2 (by omega) (by omega) (by omega) hs _).mono ?_
 rintro e w8 ⟨rfl,hb8⟩
 replace hb:=below2 hb hb8
 clear hb8
 go_wp2_with fail
 refine (udp_flags s _).mono ?_
 rintro e w9 ⟨rfl,hb9⟩
 replace hb:=below2 hb hb9
 clear hb9
 obtain⟨z0,z1,z2,f0,f1,f2⟩:=res_cells rfl hb
 replace hb:=below2 (below_alloc w _) hb
 go_wp2_with fail
 refine bodyPost_ret (v:=okV (gv s 0 2:Nat) (gv s 2 2:Nat) 0) (by simp[results,Tryz.results185,go_sem,z0,z1,z2]) rfl ⟨rfl,?_⟩
 exact ((hb.setCell (p:=⟨w.heap.size,0,none⟩) (by simp) _).setCell (p:=⟨w.heap.size,1,none⟩) (by simp) _).setCell (p:=⟨w.heap.size,2,none⟩) (by simp) _
end Go.Proofs.YtbamodkgagcmnaaGreat.Prt
