/-
  Package packet: parse, of heads of either version.
-/
import Derived.Test.YtbamodkgagcmnaaGreatBPkaE
import Derived.Test.YtbamodkgagcmnaaGreatBIp4E
import Derived.Test.YtbamodkgagcmnaaGreatBIp6E
import Derived.Test.YtbamodkgagcmnaaGreatPrtEE
import Derived.Laws.BitsAllLaws
set_option maxRecDepth 100000
namespace Go.Proofs.YtbamodkgagcmnaaGreat.Pkt
open Go.RowKit Go.Shelf Txt Rgn
def Tells (k:Nat) (args:Array Value) (v:Value):Prop:=∀ w:World,Calls Tryz.prog k args w fun e W'=>e=.returned v∧Below w.heap.size w W'
def Packed (W:World) (b:Nat) (V:Int) (x y:ByteArray) (F T p f:Int):Prop:=W.heap[b]? =some (.cells (pktC V x y F T p f) 81 (0,0))
section
variable {W W':World} {b:Nat} {V:Int} {x y:ByteArray} {F T p f:Int}
theorem packed_new (W:World) (V:Int) (x y:ByteArray) (F T p f:Int):Packed (W.alloc (.cells (pktC V x y F T p f) 81)) W.heap.size V x y F T p f:=World.alloc_heap_new W _
theorem Packed.kept (h:Packed W b V x y F T p f) (hb:Below W.heap.size W W'):Packed W' b V x y F T p f:=(hb.block b (Array.getElem?_eq_some_iff.1 h).1).trans h
theorem Packed.alloc (h:Packed W b V x y F T p f) (o:Obj):Packed (W.alloc o) b V x y F T p f:=h.kept (below_alloc W o)
theorem Packed.cells (h:Packed W b V x y F T p f):W.cell? ⟨b,0,none⟩=some (.int .i64 V)∧W.cell? ⟨b,1,none⟩=some (.string x)∧W.cell? ⟨b,2,none⟩=some (.string y)∧W.cell? ⟨b,3,none⟩=some (.int .i64 F)∧W.cell? ⟨b,4,none⟩=some (.int .i64 T)∧W.cell? ⟨b,5,none⟩=some (.int .i64 p)∧W.cell? ⟨b,6,none⟩=some (.int .i64 f):=
 ⟨cell_of h 0,cell_of h 1,cell_of h 2,cell_of h 3,cell_of h 4,cell_of h 5,cell_of h 6⟩
theorem Packed.free (h:Packed W b V x y F T p f) (i:Nat):W.frozen? ⟨b,i,none⟩=false:=free_of h i
theorem seven_cells (h:Packed W b V x y F T p f) {V':Int} {x' y':ByteArray} {F' T' p' f':Int} {C:World→Prop} (hC:∀ W',Packed W' b V' x' y' F' T' p' f'→Below b W W'→C W'):
 C (((((((W.setCell ⟨b,0,none⟩ (.int .i64 V')).setCell ⟨b,1,none⟩ (.string x')).setCell ⟨b,2,none⟩ (.string y')).setCell ⟨b,3,none⟩ (.int .i64 F')).setCell ⟨b,4,none⟩ (.int .i64 T')).setCell ⟨b,5,none⟩ (.int .i64 p')).setCell ⟨b,6,none⟩ (.int .i64 f')):=by
 have h1:((W.setCell ⟨b,0,none⟩ (.int .i64 V'))).heap[b]? =some (.cells #[.int .i64 V',.string x,.string y,.int .i64 F,.int .i64 T,.int .i64 p,.int .i64 f] 81 (0,0)):=set_of h 0 _
 have h2:(((W.setCell ⟨b,0,none⟩ (.int .i64 V')).setCell ⟨b,1,none⟩ (.string x'))).heap[b]? =some (.cells #[.int .i64 V',.string x',.string y,.int .i64 F,.int .i64 T,.int .i64 p,.int .i64 f] 81 (0,0)):=set_of h1 1 _
 have h3:((((W.setCell ⟨b,0,none⟩ (.int .i64 V')).setCell ⟨b,1,none⟩ (.string x')).setCell ⟨b,2,none⟩ (.string y'))).heap[b]? =some (.cells #[.int .i64 V',.string x',.string y',.int .i64 F,.int .i64 T,.int .i64 p,.int .i64 f] 81 (0,0)):=set_of h2 2 _
 have h4:(((((W.setCell ⟨b,0,none⟩ (.int .i64 V')).setCell ⟨b,1,none⟩ (.string x')).setCell ⟨b,2,none⟩ (.string y')).setCell ⟨b,3,none⟩ (.int .i64 F'))).heap[b]? =some (.cells #[.int .i64 V',.string x',.string y',.int .i64 F',.int .i64 T,.int .i64 p,.int .i64 f] 81 (0,0)):=set_of h3 3 _
 have h5:((((((W.setCell ⟨b,0,none⟩ (.int .i64 V')).setCell ⟨b,1,none⟩ (.string x')).setCell ⟨b,2,none⟩ (.string y')).setCell ⟨b,3,none⟩ (.int .i64 F')).setCell ⟨b,4,none⟩ (.int .i64 T'))).heap[b]? =some (.cells #[.int .i64 V',.string x',.string y',.int .i64 F',.int .i64 T',.int .i64 p,.int .i64 f] 81 (0,0)):=set_of h4 4 _
 have h6:(((((((W.setCell ⟨b,0,none⟩ (.int .i64 V')).setCell ⟨b,1,none⟩ (.string x')).setCell ⟨b,2,none⟩ (.string y')).setCell ⟨b,3,none⟩ (.int .i64 F')).setCell ⟨b,4,none⟩ (.int .i64 T')).setCell ⟨b,5,none⟩ (.int .i64 p'))).heap[b]? =some (.cells #[.int .i64 V',.string x',.string y',.int .i64 F',.int .i64 T',.int .i64 p',.int .i64 f] 81 (0,0)):=set_of h5 5 _
 have h7:((((((((W.setCell ⟨b,0,none⟩ (.int .i64 V')).setCell ⟨b,1,none⟩ (.string x')).setCell ⟨b,2,none⟩ (.string y')).setCell ⟨b,3,none⟩ (.int .i64 F')).setCell ⟨b,4,none⟩ (.int .i64 T')).setCell ⟨b,5,none⟩ (.int .i64 p')).setCell ⟨b,6,none⟩ (.int .i64 f'))).heap[b]? =some (.cells #[.int .i64 V',.string x',.string y',.int .i64 F',.int .i64 T',.int .i64 p',.int .i64 f'] 81 (0,0)):=set_of h6 6 _
 exact hC _ h7 ((((((((Below.refl b W).setCell (Nat.le_refl b) _).setCell (Nat.le_refl b) _).setCell (Nat.le_refl b) _).setCell (Nat.le_refl b) _).setCell (Nat.le_refl b) _).setCell (Nat.le_refl b) _).setCell (Nat.le_refl b) _)
end
abbrev hdV (x y:ByteArray) (p:Int) (r:ByteArray) (e:Int):Value:=.tuple #[.agg #[.string x,.string y,.int .i64 p],.string r,.int .i64 e]
abbrev ptV (F T f e:Int):Value:=.tuple #[.agg #[.int .i64 F,.int .i64 T,.int .i64 f],.int .i64 e]
abbrev outV (V:Int) (x y:ByteArray) (F T p f e:Int):Value:=.tuple #[pktV V x y F T p f,.int .i64 e]
abbrev noP (e:Int):Value:=outV 0 ⟨#[]⟩ ⟨#[]⟩ 0 0 0 0 e
abbrev fnV (k:Nat):Value:=.func (.func k) #[] #[]
set_option maxRecDepth 100000 in
set_option maxHeartbeats 2000000 in
theorem parse4_bad (V:Int) (s x y:ByteArray) (p:Int) (r:ByteArray) (e:Int) (h:Tells 164 #[.string s] (hdV x y p r e)) (he:e≠0):
 Tells 163 #[.int .i64 V,.string s,fnV 164] (noP e):=by
 intro w
 have he2:(e != 0)=true:=bne_iff_ne.2 he
 clear he
 have P0:=Lib.hid (packed_new w 0 ⟨#[]⟩ ⟨#[]⟩ 0 0 0 0)
 have H:=Lib.hid h
 clear h
 go_enter Tryz.func163,Tryz.ntmps163
 go_wp2_with fail
 refine (H.out _).mono ?_
 rintro e' w1 ⟨rfl,hb1⟩
 have P1:=Lib.hid ((P0.out.kept hb1).alloc (.cells #[.string x,.string y,.int .i64 p] 139))
 have B1:=Lib.hid (below2 (below2 (below_alloc w _) hb1) (below_alloc w1 (.cells #[.string x,.string y,.int .i64 p] 139)))
 clear hb1 P0 H
 obtain⟨k0,k1,k2,k3,k4,k5,k6⟩:=P1.out.cells
 have fr:=P1.out.free
 go_wp2_with fail
 refine seven_cells (C:=fun W'=>bodyPost _ _ _ _ _ W') P1.out ?_
 intro W6 hK6 hb6
 have B6:=Lib.hid (B1.out.trans hb6)
 clear hb6 k0 k1 k2 k3 k4 k5 k6 fr P1 B1
 obtain⟨k0,k1,k2,k3,k4,k5,k6⟩:=hK6.cells
 exact bodyPost_ret (v:=noP e) (by simp[results,Tryz.results163,go_sem,k0,k1,k2,k3,k4,k5,k6]) rfl ⟨rfl,B6.out⟩
set_option maxRecDepth 100000 in
set_option maxHeartbeats 2000000 in
theorem parse4_port (V:Int) (s x y:ByteArray) (p:Int) (r:ByteArray) (F T f e:Int) (h:Tells 164 #[.string s] (hdV x y p r 0)) (q:Tells 185 #[.int .i64 p,.string r] (ptV F T f e)) (he:e≠0):
 Tells 163 #[.int .i64 V,.string s,fnV 164] (noP e):=by
 intro w
 have he2:(e != 0)=true:=bne_iff_ne.2 he
 clear he
 have Q:=Lib.hid q
 clear q
 have P0:=Lib.hid (packed_new w 0 ⟨#[]⟩ ⟨#[]⟩ 0 0 0 0)
 have H:=Lib.hid h
 clear h
 go_enter Tryz.func163,Tryz.ntmps163
 go_wp2_with fail
 refine (H.out _).mono ?_
 rintro e' w1 ⟨rfl,hb1⟩
 have P1:=Lib.hid ((P0.out.kept hb1).alloc (.cells #[.string x,.string y,.int .i64 p] 139))
 have B1:=Lib.hid (below2 (below2 (below_alloc w _) hb1) (below_alloc w1 (.cells #[.string x,.string y,.int .i64 p] 139)))
 clear hb1 P0 H
 have G1:=Lib.hid (below_alloc (w1.alloc (.cells #[.string x,.string y,.int .i64 p] 139)) (.cells #[.string x,.string y,.int .i64 p] 139))
 have P2:=Lib.hid (P1.out.kept G1.out)
 have B2:=Lib.hid (below2 B1.out G1.out)
 have I2:=Lib.hid (Ip4.headed_new (w1.alloc (.cells #[.string x,.string y,.int .i64 p] 139)) x y p)
 rw[World.size_alloc] at I2
 clear P1 B1 G1
 go_wp2_with fail
 refine (Q.out _).mono ?_
 rintro e' w2 ⟨rfl,hb2⟩
 have P3:=Lib.hid (P2.out.kept hb2)
 have B3:=Lib.hid (below2 B2.out hb2)
 have I3:=Lib.hid (I2.out.kept hb2)
 clear hb2 P2 B2 I2 Q
 have P4:=Lib.hid (P3.out.alloc (.cells #[.int .i64 F,.int .i64 T,.int .i64 f] 178))
 have B4:=Lib.hid (below2 B3.out (below_alloc w2 (.cells #[.int .i64 F,.int .i64 T,.int .i64 f] 178)))
 clear P3 B3 I3
 obtain⟨k0,k1,k2,k3,k4,k5,k6⟩:=P4.out.cells
 have fr:=P4.out.free
 go_wp2_with fail
 refine seven_cells (C:=fun W'=>bodyPost _ _ _ _ _ W') P4.out ?_
 intro W6 hK6 hb6
 have B6:=Lib.hid (B4.out.trans hb6)
 clear hb6 k0 k1 k2 k3 k4 k5 k6 fr P4 B4
 obtain⟨k0,k1,k2,k3,k4,k5,k6⟩:=hK6.cells
 exact bodyPost_ret (v:=noP e) (by simp[results,Tryz.results163,go_sem,k0,k1,k2,k3,k4,k5,k6]) rfl ⟨rfl,B6.out⟩
set_option maxRecDepth 100000 in
set_option maxHeartbeats 2000000 in
theorem parse4_good (V:Int) (s x y:ByteArray) (p:Int) (r:ByteArray) (F T f:Int) (h:Tells 164 #[.string s] (hdV x y p r 0)) (q:Tells 185 #[.int .i64 p,.string r] (ptV F T f 0)):
 Tells 163 #[.int .i64 V,.string s,fnV 164] (outV V x y F T p f 0):=by
 intro w
 have Q:=Lib.hid q
 clear q
 have P0:=Lib.hid (packed_new w 0 ⟨#[]⟩ ⟨#[]⟩ 0 0 0 0)
 have H:=Lib.hid h
 clear h
 go_enter Tryz.func163,Tryz.ntmps163
 go_wp2_with fail
 refine (H.out _).mono ?_
 rintro e' w1 ⟨rfl,hb1⟩
 have P1:=Lib.hid ((P0.out.kept hb1).alloc (.cells #[.string x,.string y,.int .i64 p] 139))
 have B1:=Lib.hid (below2 (below2 (below_alloc w _) hb1) (below_alloc w1 (.cells #[.string x,.string y,.int .i64 p] 139)))
 clear hb1 P0 H
 have G1:=Lib.hid (below_alloc (w1.alloc (.cells #[.string x,.string y,.int .i64 p] 139)) (.cells #[.string x,.string y,.int .i64 p] 139))
 have P2:=Lib.hid (P1.out.kept G1.out)
 have B2:=Lib.hid (below2 B1.out G1.out)
 have I2:=Lib.hid (Ip4.headed_new (w1.alloc (.cells #[.string x,.string y,.int .i64 p] 139)) x y p)
 rw[World.size_alloc] at I2
 clear P1 B1 G1
 go_wp2_with fail
 refine (Q.out _).mono ?_
 rintro e' w2 ⟨rfl,hb2⟩
 have P3:=Lib.hid (P2.out.kept hb2)
 have B3:=Lib.hid (below2 B2.out hb2)
 have I3:=Lib.hid (I2.out.kept hb2)
 clear hb2 P2 B2 I2 Q
 have P4:=Lib.hid ((P3.out.alloc (.cells #[.int .i64 F,.int .i64 T,.int .i64 f] 178)).alloc (.cells (keyC V x y F T p) 79))
 have B4:=Lib.hid (below2 (below2 B3.out (below_alloc w2 (.cells #[.int .i64 F,.int .i64 T,.int .i64 f] 178))) (below_alloc _ (.cells (keyC V x y F T p) 79)))
 have I4:=I3.out.alloc (.cells #[.int .i64 F,.int .i64 T,.int .i64 f] 178)
 obtain⟨i0,i1,i2⟩:=I4.cells
 clear P3 B3 I3 I4
 obtain⟨k0,k1,k2,k3,k4,k5,k6⟩:=P4.out.cells
 have fr:=P4.out.free
 go_wp2_with fail
 refine seven_cells (C:=fun W'=>bodyPost _ _ _ _ _ W') P4.out ?_
 intro W6 hK6 hb6
 have B6:=Lib.hid (B4.out.trans hb6)
 clear hb6 k0 k1 k2 k3 k4 k5 k6 fr P4 B4
 obtain⟨k0,k1,k2,k3,k4,k5,k6⟩:=hK6.cells
 exact bodyPost_ret (v:=outV V x y F T p f 0) (by simp[results,Tryz.results163,go_sem,k0,k1,k2,k3,k4,k5,k6]) rfl ⟨rfl,B6.out⟩
set_option maxRecDepth 100000 in
set_option maxHeartbeats 2000000 in
theorem parse6_bad (V:Int) (s x y:ByteArray) (p:Int) (r:ByteArray) (e:Int) (h:Tells 166 #[.string s] (hdV x y p r e)) (he:e≠0):
 Tells 165 #[.int .i64 V,.string s,fnV 166] (noP e):=by
 intro w
 have he2:(e != 0)=true:=bne_iff_ne.2 he
 clear he
 have P0:=Lib.hid (packed_new w 0 ⟨#[]⟩ ⟨#[]⟩ 0 0 0 0)
 have H:=Lib.hid h
 clear h
 go_enter Tryz.func165,Tryz.ntmps165
 go_wp2_with fail
 refine (H.out _).mono ?_
 rintro e' w1 ⟨rfl,hb1⟩
 have P1:=Lib.hid ((P0.out.kept hb1).alloc (.cells #[.string x,.string y,.int .i64 p] 142))
 have B1:=Lib.hid (below2 (below2 (below_alloc w _) hb1) (below_alloc w1 (.cells #[.string x,.string y,.int .i64 p] 142)))
 clear hb1 P0 H
 obtain⟨k0,k1,k2,k3,k4,k5,k6⟩:=P1.out.cells
 have fr:=P1.out.free
 go_wp2_with fail
 refine seven_cells (C:=fun W'=>bodyPost _ _ _ _ _ W') P1.out ?_
 intro W6 hK6 hb6
 have B6:=Lib.hid (B1.out.trans hb6)
 clear hb6 k0 k1 k2 k3 k4 k5 k6 fr P1 B1
 obtain⟨k0,k1,k2,k3,k4,k5,k6⟩:=hK6.cells
 exact bodyPost_ret (v:=noP e) (by simp[results,Tryz.results165,go_sem,k0,k1,k2,k3,k4,k5,k6]) rfl ⟨rfl,B6.out⟩
set_option maxRecDepth 100000 in
set_option maxHeartbeats 2000000 in
theorem parse6_port (V:Int) (s x y:ByteArray) (p:Int) (r:ByteArray) (F T f e:Int) (h:Tells 166 #[.string s] (hdV x y p r 0)) (q:Tells 185 #[.int .i64 p,.string r] (ptV F T f e)) (he:e≠0):
 Tells 165 #[.int .i64 V,.string s,fnV 166] (noP e):=by
 intro w
 have he2:(e != 0)=true:=bne_iff_ne.2 he
 clear he
 have Q:=Lib.hid q
 clear q
 have P0:=Lib.hid (packed_new w 0 ⟨#[]⟩ ⟨#[]⟩ 0 0 0 0)
 have H:=Lib.hid h
 clear h
 go_enter Tryz.func165,Tryz.ntmps165
 go_wp2_with fail
 refine (H.out _).mono ?_
 rintro e' w1 ⟨rfl,hb1⟩
 have P1:=Lib.hid ((P0.out.kept hb1).alloc (.cells #[.string x,.string y,.int .i64 p] 142))
 have B1:=Lib.hid (below2 (below2 (below_alloc w _) hb1) (below_alloc w1 (.cells #[.string x,.string y,.int .i64 p] 142)))
 clear hb1 P0 H
 have G1:=Lib.hid (below_alloc (w1.alloc (.cells #[.string x,.string y,.int .i64 p] 142)) (.cells #[.string x,.string y,.int .i64 p] 139))
 have P2:=Lib.hid (P1.out.kept G1.out)
 have B2:=Lib.hid (below2 B1.out G1.out)
 have I2:=Lib.hid (Ip4.headed_new (w1.alloc (.cells #[.string x,.string y,.int .i64 p] 142)) x y p)
 rw[World.size_alloc] at I2
 clear P1 B1 G1
 go_wp2_with fail
 refine (Q.out _).mono ?_
 rintro e' w2 ⟨rfl,hb2⟩
 have P3:=Lib.hid (P2.out.kept hb2)
 have B3:=Lib.hid (below2 B2.out hb2)
 have I3:=Lib.hid (I2.out.kept hb2)
 clear hb2 P2 B2 I2 Q
 have P4:=Lib.hid (P3.out.alloc (.cells #[.int .i64 F,.int .i64 T,.int .i64 f] 178))
 have B4:=Lib.hid (below2 B3.out (below_alloc w2 (.cells #[.int .i64 F,.int .i64 T,.int .i64 f] 178)))
 clear P3 B3 I3
 obtain⟨k0,k1,k2,k3,k4,k5,k6⟩:=P4.out.cells
 have fr:=P4.out.free
 go_wp2_with fail
 refine seven_cells (C:=fun W'=>bodyPost _ _ _ _ _ W') P4.out ?_
 intro W6 hK6 hb6
 have B6:=Lib.hid (B4.out.trans hb6)
 clear hb6 k0 k1 k2 k3 k4 k5 k6 fr P4 B4
 obtain⟨k0,k1,k2,k3,k4,k5,k6⟩:=hK6.cells
 exact bodyPost_ret (v:=noP e) (by simp[results,Tryz.results165,go_sem,k0,k1,k2,k3,k4,k5,k6]) rfl ⟨rfl,B6.out⟩
set_option maxRecDepth 100000 in
set_option maxHeartbeats 2000000 in
theorem parse6_good (V:Int) (s x y:ByteArray) (p:Int) (r:ByteArray) (F T f:Int) (h:Tells 166 #[.string s] (hdV x y p r 0)) (q:Tells 185 #[.int .i64 p,.string r] (ptV F T f 0)):
 Tells 165 #[.int .i64 V,.string s,fnV 166] (outV V x y F T p f 0):=by
 intro w
 have Q:=Lib.hid q
 clear q
 have P0:=Lib.hid (packed_new w 0 ⟨#[]⟩ ⟨#[]⟩ 0 0 0 0)
 have H:=Lib.hid h
 clear h
 go_enter Tryz.func165,Tryz.ntmps165
 go_wp2_with fail
 refine (H.out _).mono ?_
 rintro e' w1 ⟨rfl,hb1⟩
 have P1:=Lib.hid ((P0.out.kept hb1).alloc (.cells #[.string x,.string y,.int .i64 p] 142))
 have B1:=Lib.hid (below2 (below2 (below_alloc w _) hb1) (below_alloc w1 (.cells #[.string x,.string y,.int .i64 p] 142)))
 clear hb1 P0 H
 have G1:=Lib.hid (below_alloc (w1.alloc (.cells #[.string x,.string y,.int .i64 p] 142)) (.cells #[.string x,.string y,.int .i64 p] 139))
 have P2:=Lib.hid (P1.out.kept G1.out)
 have B2:=Lib.hid (below2 B1.out G1.out)
 have I2:=Lib.hid (Ip4.headed_new (w1.alloc (.cells #[.string x,.string y,.int .i64 p] 142)) x y p)
 rw[World.size_alloc] at I2
 clear P1 B1 G1
 go_wp2_with fail
 refine (Q.out _).mono ?_
 rintro e' w2 ⟨rfl,hb2⟩
 have P3:=Lib.hid (P2.out.kept hb2)
 have B3:=Lib.hid (below2 B2.out hb2)
 have I3:=Lib.hid (I2.out.kept hb2)
 clear hb2 P2 B2 I2 Q
 have P4:=Lib.hid ((P3.out.alloc (.cells #[.int .i64 F,.int .i64 T,.int .i64 f] 178)).alloc (.cells (keyC V x y F T p) 79))
 have B4:=Lib.hid (below2 (below2 B3.out (below_alloc w2 (.cells #[.int .i64 F,.int .i64 T,.int .i64 f] 178))) (below_alloc _ (.cells (keyC V x y F T p) 79)))
 have I4:=I3.out.alloc (.cells #[.int .i64 F,.int .i64 T,.int .i64 f] 178)
 obtain⟨i0,i1,i2⟩:=I4.cells
 clear P3 B3 I3 I4
 obtain⟨k0,k1,k2,k3,k4,k5,k6⟩:=P4.out.cells
 have fr:=P4.out.free
 go_wp2_with fail
 refine seven_cells (C:=fun W'=>bodyPost _ _ _ _ _ W') P4.out ?_
 intro W6 hK6 hb6
 have B6:=Lib.hid (B4.out.trans hb6)
 clear hb6 k0 k1 k2 k3 k4 k5 k6 fr P4 B4
 obtain⟨k0,k1,k2,k3,k4,k5,k6⟩:=hK6.cells
 exact bodyPost_ret (v:=outV V x y F T p f 0) (by simp[results,Tryz.results165,go_sem,k0,k1,k2,k3,k4,k5,k6]) rfl ⟨rfl,B6.out⟩
end Go.Proofs.YtbamodkgagcmnaaGreat.Pkt
namespace Go.Proofs.YtbamodkgagcmnaaGreat.Pkt
open Go.RowKit Go.Shelf Txt Rgn
def top (s:ByteArray):Nat:=gv s 0 1 / 16
set_option maxRecDepth 100000 in
set_option maxHeartbeats 2000000 in
theorem Parse_empty (s:ByteArray) (hs:s.size=0):Tells 128 #[.string s] (noP 2):=by
 intro w
 have P0:=Lib.hid (packed_new w 0 ⟨#[]⟩ ⟨#[]⟩ 0 0 0 0)
 go_enter Tryz.func128,Tryz.ntmps128
 go_wp2_with fail
 refine (Oct.Get_no s 0 1 _ (by omega) (by omega) (by omega)).mono ?_
 rintro e w1 ⟨rfl,hb1⟩
 have P1:=Lib.hid (P0.out.kept hb1)
 have B1:=Lib.hid (below2 (below_alloc w _) hb1)
 clear hb1 P0
 obtain⟨k0,k1,k2,k3,k4,k5,k6⟩:=P1.out.cells
 have fr:=P1.out.free
 go_wp2_with fail
 refine seven_cells (C:=fun W'=>bodyPost _ _ _ _ _ W') P1.out ?_
 intro W6 hK6 hb6
 have B6:=Lib.hid (B1.out.trans hb6)
 clear hb6 k0 k1 k2 k3 k4 k5 k6 fr P1 B1
 obtain⟨k0,k1,k2,k3,k4,k5,k6⟩:=hK6.cells
 exact bodyPost_ret (v:=noP 2) (by simp[results,Tryz.results128,go_sem,k0,k1,k2,k3,k4,k5,k6]) rfl ⟨rfl,B6.out⟩
set_option maxRecDepth 100000 in
set_option maxHeartbeats 2000000 in
theorem Parse_other (s:ByteArray) (h0:0<s.size) (hs:s.size≤1099511627776) (ht:top s≠4∧top s≠6):Tells 128 #[.string s] (noP 3):=by
 intro w
 have P0:=Lib.hid (packed_new w 0 ⟨#[]⟩ ⟨#[]⟩ 0 0 0 0)
 have hg:Oct.getV s 0 1=gv s 0 1:=rfl
 have hl:=gv_lt s 0 1 (by omega)
 have G:=Lib.hid hg
 unfold top at ht
 generalize gv s 0 1=b at *
 clear hg
 have t4:((b:Int) / 16 == 4)=false:=beq_false_of_ne (by omega)
 have t6:((b:Int) / 16 == 6)=false:=beq_false_of_ne (by omega)
 clear ht
 go_enter Tryz.func128,Tryz.ntmps128
 go_wp2_with fail
 refine (Oct.Get_yes s 0 1 _ (by omega) (by omega)).mono ?_
 rintro e' w1 ⟨rfl,hb1⟩
 rw[G.out]
 have P1:=Lib.hid (P0.out.kept hb1)
 have B1:=Lib.hid (below2 (below_alloc w _) hb1)
 clear hb1 P0 G
 obtain⟨k0,k1,k2,k3,k4,k5,k6⟩:=P1.out.cells
 have fr:=P1.out.free
 go_wp2_with fail
 refine seven_cells (C:=fun W'=>bodyPost _ _ _ _ _ W') P1.out ?_
 intro W6 hK6 hb6
 have B6:=Lib.hid (B1.out.trans hb6)
 clear hb6 k0 k1 k2 k3 k4 k5 k6 fr P1 B1
 obtain⟨k0,k1,k2,k3,k4,k5,k6⟩:=hK6.cells
 exact bodyPost_ret (v:=noP 3) (by simp[results,Tryz.results128,go_sem,k0,k1,k2,k3,k4,k5,k6]) rfl ⟨rfl,B6.out⟩
set_option maxRecDepth 100000 in
set_option maxHeartbeats 2000000 in
theorem Parse_four (s:ByteArray) (h0:0<s.size) (hs:s.size≤1099511627776) (ht:top s=4) (V:Int) (x y:ByteArray) (F T p f e:Int) (h:Tells 163 #[.int .i64 4,.string s,fnV 164] (outV V x y F T p f e)):Tells 128 #[.string s] (outV V x y F T p f e):=by
 intro w
 have P0:=Lib.hid (packed_new w 0 ⟨#[]⟩ ⟨#[]⟩ 0 0 0 0)
 have hg:Oct.getV s 0 1=gv s 0 1:=rfl
 have hl:=gv_lt s 0 1 (by omega)
 have G:=Lib.hid hg
 unfold top at ht
 generalize gv s 0 1=b at *
 clear hg
 have t4:((b:Int) / 16 == 4)=true:=beq_iff_eq.2 (by omega)
 have H:=Lib.hid h
 clear ht h
 go_enter Tryz.func128,Tryz.ntmps128
 go_wp2_with fail
 refine (Oct.Get_yes s 0 1 _ (by omega) (by omega)).mono ?_
 rintro e' w1 ⟨rfl,hb1⟩
 rw[G.out]
 have P1:=Lib.hid (P0.out.kept hb1)
 have B1:=Lib.hid (below2 (below_alloc w _) hb1)
 clear hb1 P0 G
 obtain⟨k0,k1,k2,k3,k4,k5,k6⟩:=P1.out.cells
 have fr:=P1.out.free
 go_wp2_with fail
 refine (H.out _).mono ?_
 rintro e'' w2 ⟨rfl,hb2⟩
 have P2:=Lib.hid (P1.out.kept hb2)
 have B2:=Lib.hid (below2 B1.out hb2)
 clear hb2 P1 B1 k0 k1 k2 k3 k4 k5 k6 fr H
 obtain⟨k0,k1,k2,k3,k4,k5,k6⟩:=P2.out.cells
 have fr:=P2.out.free
 go_wp2_with fail
 refine seven_cells (C:=fun W'=>bodyPost _ _ _ _ _ W') P2.out ?_
 intro W6 hK6 hb6
 have B6:=Lib.hid (B2.out.trans hb6)
 clear hb6 k0 k1 k2 k3 k4 k5 k6 fr P2 B2
 obtain⟨k0,k1,k2,k3,k4,k5,k6⟩:=hK6.cells
 exact bodyPost_ret (v:=outV V x y F T p f e) (by simp[results,Tryz.results128,go_sem,k0,k1,k2,k3,k4,k5,k6]) rfl ⟨rfl,B6.out⟩
set_option maxRecDepth 100000 in
set_option maxHeartbeats 2000000 in
theorem Parse_six (s:ByteArray) (h0:0<s.size) (hs:s.size≤1099511627776) (ht:top s=6) (V:Int) (x y:ByteArray) (F T p f e:Int) (h:Tells 165 #[.int .i64 6,.string s,fnV 166] (outV V x y F T p f e)):Tells 128 #[.string s] (outV V x y F T p f e):=by
 intro w
 have P0:=Lib.hid (packed_new w 0 ⟨#[]⟩ ⟨#[]⟩ 0 0 0 0)
 have hg:Oct.getV s 0 1=gv s 0 1:=rfl
 have hl:=gv_lt s 0 1 (by omega)
 have G:=Lib.hid hg
 unfold top at ht
 generalize gv s 0 1=b at *
 clear hg
 have t4:((b:Int) / 16 == 4)=false:=beq_false_of_ne (by omega)
 have t6:((b:Int) / 16 == 6)=true:=beq_iff_eq.2 (by omega)
 have H:=Lib.hid h
 clear ht h
 go_enter Tryz.func128,Tryz.ntmps128
 go_wp2_with fail
 refine (Oct.Get_yes s 0 1 _ (by omega) (by omega)).mono ?_
 rintro e' w1 ⟨rfl,hb1⟩
 rw[G.out]
 have P1:=Lib.hid (P0.out.kept hb1)
 have B1:=Lib.hid (below2 (below_alloc w _) hb1)
 clear hb1 P0 G
 obtain⟨k0,k1,k2,k3,k4,k5,k6⟩:=P1.out.cells
 have fr:=P1.out.free
 go_wp2_with fail
 refine (H.out _).mono ?_
 rintro e'' w2 ⟨rfl,hb2⟩
 have P2:=Lib.hid (P1.out.kept hb2)
 have B2:=Lib.hid (below2 B1.out hb2)
 clear hb2 P1 B1 k0 k1 k2 k3 k4 k5 k6 fr H
 obtain⟨k0,k1,k2,k3,k4,k5,k6⟩:=P2.out.cells
 have fr:=P2.out.free
 go_wp2_with fail
 refine seven_cells (C:=fun W'=>bodyPost _ _ _ _ _ W') P2.out ?_
 intro W6 hK6 hb6
 have B6:=Lib.hid (B2.out.trans hb6)
 clear hb6 k0 k1 k2 k3 k4 k5 k6 fr P2 B2
 obtain⟨k0,k1,k2,k3,k4,k5,k6⟩:=hK6.cells
 exact bodyPost_ret (v:=outV V x y F T p f e) (by simp[results,Tryz.results128,go_sem,k0,k1,k2,k3,k4,k5,k6]) rfl ⟨rfl,B6.out⟩
end Go.Proofs.YtbamodkgagcmnaaGreat.Pkt
namespace Go.Proofs.YtbamodkgagcmnaaGreat.Pkt
open Go.RowKit Go.Shelf Txt Rgn
abbrev txV (R:ByteArray) (e:Int):Value:=.tuple #[.string R,.int .i64 e]
set_option maxRecDepth 100000 in
set_option maxHeartbeats 2000000 in
theorem put4_head (V:Int) (x y:ByteArray) (F T p f:Int) (S R:ByteArray) (e:Int) (q:Tells 118 #[.int .i64 p,.agg #[.int .i64 F,.int .i64 T,.int .i64 f]] (txV S 0)) (h:Tells 80 #[.agg #[.string x,.string y,.int .i64 p],.string S] (txV R e)):
 Tells 79 #[pktV V x y F T p f,fnV 80] (txV R e):=by
 have H:=Lib.hid h
 clear h
 intro w
 have P0:=Lib.hid ((packed_new w V x y F T p f).alloc (.cells (keyC V x y F T p) 79))
 have K0:=Lib.hid (keyed_new (w.alloc (.cells (pktC V x y F T p f) 81)) V x y F T p)
 rw[World.size_alloc] at K0
 have B0:=Lib.hid (below2 (below_alloc w (.cells (pktC V x y F T p f) 81)) (below_alloc _ (.cells (keyC V x y F T p) 79)))
 obtain⟨k0,k1,k2,k3,k4,k5,k6⟩:=P0.out.cells
 have Q:=Lib.hid q
 clear q
 go_enter Tryz.func79,Tryz.ntmps79
 go_wp2_with fail
 refine (Q.out _).mono ?_
 rintro e' w1 ⟨rfl,hb1⟩
 have B1:=Lib.hid (below2 B0.out hb1)
 have K1:=Lib.hid (K0.out.kept hb1)
 clear hb1 P0 K0 B0 k0 k1 k2 k3 k4 k5 k6 Q
 obtain⟨c0,c1,c2,c3,c4,c5⟩:=K1.out.cells
 go_wp2_with fail
 refine (H.out _).mono ?_
 rintro e' w2 ⟨rfl,hb2⟩
 have B2:=Lib.hid (below2 B1.out hb2)
 clear hb2 K1 B1 c0 c1 c2 c3 c4 c5 H
 go_wp2_with fail
 exact bodyPost_ret (v:=txV R e) (by simp[results,Tryz.results79,go_sem]) rfl ⟨rfl,B2.out⟩
set_option maxRecDepth 100000 in
set_option maxHeartbeats 2000000 in
theorem put6_head (V:Int) (x y:ByteArray) (F T p f:Int) (S R:ByteArray) (e:Int) (q:Tells 118 #[.int .i64 p,.agg #[.int .i64 F,.int .i64 T,.int .i64 f]] (txV S 0)) (h:Tells 82 #[.agg #[.string x,.string y,.int .i64 p],.string S] (txV R e)):
 Tells 81 #[pktV V x y F T p f,fnV 82] (txV R e):=by
 have H:=Lib.hid h
 clear h
 intro w
 have P0:=Lib.hid ((packed_new w V x y F T p f).alloc (.cells (keyC V x y F T p) 79))
 have K0:=Lib.hid (keyed_new (w.alloc (.cells (pktC V x y F T p f) 81)) V x y F T p)
 rw[World.size_alloc] at K0
 have B0:=Lib.hid (below2 (below_alloc w (.cells (pktC V x y F T p f) 81)) (below_alloc _ (.cells (keyC V x y F T p) 79)))
 obtain⟨k0,k1,k2,k3,k4,k5,k6⟩:=P0.out.cells
 have Q:=Lib.hid q
 clear q
 go_enter Tryz.func81,Tryz.ntmps81
 go_wp2_with fail
 refine (Q.out _).mono ?_
 rintro e' w1 ⟨rfl,hb1⟩
 have B1:=Lib.hid (below2 B0.out hb1)
 have K1:=Lib.hid (K0.out.kept hb1)
 clear hb1 P0 K0 B0 k0 k1 k2 k3 k4 k5 k6 Q
 obtain⟨c0,c1,c2,c3,c4,c5⟩:=K1.out.cells
 go_wp2_with fail
 refine (H.out _).mono ?_
 rintro e' w2 ⟨rfl,hb2⟩
 have B2:=Lib.hid (below2 B1.out hb2)
 clear hb2 K1 B1 c0 c1 c2 c3 c4 c5 H
 go_wp2_with fail
 exact bodyPost_ret (v:=txV R e) (by simp[results,Tryz.results81,go_sem]) rfl ⟨rfl,B2.out⟩
set_option maxRecDepth 100000 in
set_option maxHeartbeats 2000000 in
theorem Put_four (x y:ByteArray) (F T p f:Int) (R:ByteArray) (e:Int) (h:Tells 79 #[pktV 4 x y F T p f,fnV 80] (txV R e)):Tells 40 #[pktV 4 x y F T p f] (txV R e):=by
 have H:=Lib.hid h
 clear h
 intro w
 have P0:=Lib.hid (packed_new w 4 x y F T p f)
 have B0:=Lib.hid (below_alloc w (.cells (pktC 4 x y F T p f) 81))
 obtain⟨k0,k1,k2,k3,k4,k5,k6⟩:=P0.out.cells
 go_enter Tryz.func40,Tryz.ntmps40
 go_wp2_with fail
 refine (H.out _).mono ?_
 rintro e' w1 ⟨rfl,hb1⟩
 have B1:=Lib.hid (below2 B0.out hb1)
 clear hb1 P0 B0 k0 k1 k2 k3 k4 k5 k6 H
 go_wp2_with fail
 exact bodyPost_ret (v:=txV R e) (by simp[results,Tryz.results40,go_sem]) rfl ⟨rfl,B1.out⟩
set_option maxRecDepth 100000 in
set_option maxHeartbeats 2000000 in
theorem Put_six (x y:ByteArray) (F T p f:Int) (R:ByteArray) (e:Int) (h:Tells 81 #[pktV 6 x y F T p f,fnV 82] (txV R e)):Tells 40 #[pktV 6 x y F T p f] (txV R e):=by
 have H:=Lib.hid h
 clear h
 intro w
 have P0:=Lib.hid (packed_new w 6 x y F T p f)
 have B0:=Lib.hid (below_alloc w (.cells (pktC 6 x y F T p f) 81))
 obtain⟨k0,k1,k2,k3,k4,k5,k6⟩:=P0.out.cells
 go_enter Tryz.func40,Tryz.ntmps40
 go_wp2_with fail
 refine (H.out _).mono ?_
 rintro e' w1 ⟨rfl,hb1⟩
 have B1:=Lib.hid (below2 B0.out hb1)
 clear hb1 P0 B0 k0 k1 k2 k3 k4 k5 k6 H
 go_wp2_with fail
 exact bodyPost_ret (v:=txV R e) (by simp[results,Tryz.results40,go_sem]) rfl ⟨rfl,B1.out⟩
set_option maxRecDepth 100000 in
set_option maxHeartbeats 2000000 in
theorem Closing_any (V:Int) (x y:ByteArray) (F T p f:Int):Tells 131 #[pktV V x y F T p f] (.bool (p == 6 && bits .and .i64 f 5 != 0)):=by
 intro w
 have P0:=Lib.hid (packed_new w V x y F T p f)
 have B0:=Lib.hid (below_alloc w (.cells (pktC V x y F T p f) 81))
 obtain⟨k0,k1,k2,k3,k4,k5,k6⟩:=P0.out.cells
 by_cases h6:p=6
 ·subst h6
  go_enter Tryz.func131,Tryz.ntmps131
  go_wp2_with fail
  go_ret
  exact⟨rfl,B0.out⟩
 ·have n6:(p == 6)=false:=beq_false_of_ne h6
  clear h6
  go_enter Tryz.func131,Tryz.ntmps131
  go_wp2_with fail
  go_ret
  exact⟨by rw[n6]; rfl,B0.out⟩
end Go.Proofs.YtbamodkgagcmnaaGreat.Pkt
namespace Go.Proofs.YtbamodkgagcmnaaGreat.Pkt
open Go.RowKit Go.Shelf Txt Rgn
def okP (V:Int) (x y:ByteArray) (F T p f:Int):Prop:=(V=4∧x.size=4∧y.size=4∨V=6∧x.size=16∧y.size=16)∧Prt.fit p F T f
theorem okP_right {V:Int} {x y:ByteArray} {F T p f:Int} (h:okP V x y F T p f):right V x y F T p:=⟨h.1,h.2.1,h.2.2.1,h.2.2.2.1⟩
def hl (V:Int):Nat:=if V=4 then 20 else 40
def putW (V:Int) (x y:ByteArray) (F T p f:Int):ByteArray:=if V=4 then Ip4.putS x y p.toNat (Prt.putS p F T f) else Ip6.putS x y p.toNat (Prt.putS p F T f)
theorem most_le (p:Int):Prt.most p≤20:=by unfold Prt.most; split <;> omega
theorem fit_proto {p F T f:Int} (h:Prt.fit p F T f):0≤p∧p≤255:=by rcases h.1 with e | e <;> omega
theorem port_good (p F T f:Int) (h:Prt.fit p F T f):Tells 118 #[.int .i64 p,.agg #[.int .i64 F,.int .i64 T,.int .i64 f]] (txV (Prt.putS p F T f) 0):=fun w=>
 (Prt.Put_named p F T f h w).mono fun _ _ ⟨_,he,_,hS,hb⟩=>⟨by rw[he,hS.out],hb⟩
theorem putW_size (V:Int) (x y:ByteArray) (F T p f:Int) (h:okP V x y F T p f):(putW V x y F T p f).size=hl V+Prt.most p:=by
 have hz:=Prt.putS_size p F T f
 rcases h.1 with⟨rfl,hx,hy⟩ | ⟨rfl,hx,hy⟩
 ·rw[show putW 4 x y F T p f=Ip4.putS x y p.toNat (Prt.putS p F T f) from if_pos rfl,Ip4.putS_size _ _ _ _ hx hy,hz]; rfl
 ·rw[show putW 6 x y F T p f=Ip6.putS x y p.toNat (Prt.putS p F T f) from if_neg (by omega),Ip6.putS_size _ _ _ _ hx hy,hz]; rfl
def closes (p f:Int):Bool:=p == 6 && bits .and .i64 f 5 != 0
theorem Closing_is (V:Int) (x y:ByteArray) (F T p f:Int):Tells 131 #[pktV V x y F T p f] (.bool (closes p f)):=Closing_any V x y F T p f
theorem num_one (l:List UInt8) (h:l.length≤1):Oct.num l<256:=by
 have:=Oct.num_lt l
 have h2:256 ^ l.length≤256 ^ 1:=Nat.pow_le_pow_right (by omega) h
 omega
theorem wf_small (p:Int) (h0:0≤p) (h1:p≤255):(Lit.int .i64 p).wf=true:=by
 have a:IntKind.i64.min= -9223372036854775808:=by decide
 have b:IntKind.i64.max=9223372036854775807:=by decide
 simp only[Lit.wf,a,b,Bool.and_eq_true,decide_eq_true_eq]; omega
theorem Put_told (V:Int) (x y:ByteArray) (F T p f:Int) (h:okP V x y F T p f):
 Tells 40 #[pktV V x y F T p f] (txV (putW V x y F T p f) 0):=by
 obtain⟨h1,hf⟩:=h
 have hp:=fit_proto hf
 have hm:=most_le p
 have hz:=Prt.putS_size p F T f
 rcases h1 with⟨rfl,hx,hy⟩ | ⟨rfl,hx,hy⟩
 ·rw[show putW 4 x y F T p f=Ip4.putS x y p.toNat (Prt.putS p F T f) from if_pos rfl]
  refine Put_four _ _ _ _ _ _ _ _ (put4_head _ _ _ _ _ _ _ _ _ _ (port_good p F T f hf) fun w=>?_)
  exact (Ip4.Put_named x y p _ hx hy hp (by omega) w).mono fun _ _ ⟨_,he,_,hS,hb⟩=>⟨by rw[he,hS.out],hb⟩
 ·rw[show putW 6 x y F T p f=Ip6.putS x y p.toNat (Prt.putS p F T f) from if_neg (by omega)]
  refine Put_six _ _ _ _ _ _ _ _ (put6_head _ _ _ _ _ _ _ _ _ _ (port_good p F T f hf) fun w=>?_)
  exact (Ip6.Put_named x y p _ hx hy hp (by omega) w).mono fun _ _ ⟨_,he,_,hS,hb⟩=>⟨by rw[he,hS.out],hb⟩
theorem putW_top (V:Int) (x y:ByteArray) (F T p f:Int) (h:okP V x y F T p f):gv (putW V x y F T p f) 0 1 / 16=V.toNat:=by
 have hp:=fit_proto h.2
 rcases h.1 with⟨rfl,hx,hy⟩ | ⟨rfl,hx,hy⟩
 ·rw[show putW 4 x y F T p f=Ip4.putS x y p.toNat (Prt.putS p F T f) from if_pos rfl]
  unfold gv
  rw[Ip4.putS_list]
  simp[Ip4.hdL,Oct.num]
 ·rw[show putW 6 x y F T p f=Ip6.putS x y p.toNat (Prt.putS p F T f) from if_neg (by omega)]
  unfold gv
  rw[Ip6.putS_list]
  simp[Ip6.hdL,Oct.num]
theorem Parse_put (V:Int) (x y:ByteArray) (F T p f:Int) (h:okP V x y F T p f) (b:ByteArray) (hb:b.size≤1000000):Tells 128 #[.string (putW V x y F T p f ++ b)] (outV V x y F T p f 0):=by
 have hp:=fit_proto h.2
 have hm:=most_le p
 have hz:=Prt.putS_size p F T f
 have hS:=putW_size V x y F T p f h
 have h20:20≤hl V:=by unfold hl; split <;> omega
 have h40:hl V≤40:=by unfold hl; split <;> omega
 have ht:top (putW V x y F T p f ++ b)=V.toNat:=by
  unfold top; rw[gv_app _ _ 0 1 (by omega)]; exact putW_top V x y F T p f h
 have hA:(putW V x y F T p f ++ b).size=(putW V x y F T p f).size+b.size:=ByteArray.size_append
 have q:Tells 185 #[.int .i64 p,.string (Prt.putS p F T f)] (ptV F T f 0):=fun w=>Prt.Parse_put0 _ p F T f h.2 (Lib.hid rfl) w
 rcases h.1 with⟨rfl,hx,hy⟩ | ⟨rfl,hx,hy⟩
 ·refine Parse_four _ (by omega) (by omega) ht _ _ _ _ _ _ _ _ (parse4_good 4 _ x y p (Prt.putS p F T f) F T f (fun w=>?_) q)
  exact Ip4.Parse_put _ b x y p _ hx hy hp (by omega) hb (Lib.hid (if_pos rfl)) w
 ·refine Parse_six _ (by omega) (by omega) ht _ _ _ _ _ _ _ _ (parse6_good 6 _ x y p (Prt.putS p F T f) F T f (fun w=>?_) q)
  exact Ip6.Parse_put _ b x y p _ hx hy hp (by omega) hb (Lib.hid (if_neg (by omega))) w
end Go.Proofs.YtbamodkgagcmnaaGreat.Pkt
