/-
  Package packet: a record's bytes in an array: how copy and clear fill it; fill.
-/
import Derived.Test.YtbamodkgagcmnaaGreatTxtE
import Derived.Test.YtbamodkgagcmnaaGreatBRgnE
import Derived.Laws.CopyRow
import Derived.Laws.CopyOwn
import Derived.Laws.BytesArg
import Derived.Lib.UnsafeStr
import Derived.Lib.Strings
import Derived.Deep.RegionHeld3
import Derived.Laws.StructEq
set_option maxRecDepth 100000
namespace Go.Proofs.YtbamodkgagcmnaaGreat.Pkt
open Go.RowKit Go.Shelf Txt Rgn
open Lib (byteCells)
theorem cells_append (a b:List UInt8):byteCells (a ++ b)=byteCells a ++ byteCells b:=by simp[byteCells]
theorem cells_length (l:List UInt8):(byteCells l).length=l.length:=by simp[byteCells]
theorem cells_take (l:List UInt8) (n:Nat):(byteCells l).take n=byteCells (l.take n):=by simp[byteCells,List.map_take]
theorem cells_drop (l:List UInt8) (n:Nat):(byteCells l).drop n=byteCells (l.drop n):=by simp[byteCells,List.map_drop]
theorem cells_small (l:List UInt8):∀ v ∈ byteCells l,v.oneCell'=true:=by
 intro v hv
 obtain⟨b,_,rfl⟩:=List.mem_map.1 hv
 rfl
theorem cells_zero (n:Nat):List.replicate n (Value.int .u8 0)=byteCells (List.replicate n 0):=by simp[byteCells]
def Rec (W:World) (b:Nat) (L:List UInt8):Prop:=W.heap[b]? =some (.cells (byteCells L).toArray 241 (0,0))
def recW (W:World) (b:Nat) (L:List UInt8):World:=W.setRow b (byteCells L).toArray
theorem Rec.turned {W:World} {b:Nat} {L:List UInt8} (h:Rec W b L) (M:List UInt8):Rec (recW W b M) b M:=setRow_heap W b _ _ _ _ h
theorem Rec.kept {W W':World} {b:Nat} {L:List UInt8} (h:Rec W b L) (hb:Below W.heap.size W W'):Rec W' b L:=(hb.block b (Array.getElem?_eq_some_iff.1 h).1).trans h
theorem recW_twice (W:World) (b:Nat) (L M:List UInt8):recW (recW W b L) b M=recW W b M:=setRow_setRow W b _ _
theorem recW_other (W:World) (b k:Nat) (L:List UInt8) (h:k≠b):(recW W b L).heap[k]? =W.heap[k]? :=setRow_other W b k _ h
theorem recW_size (W:World) (b:Nat) (L:List UInt8):(recW W b L).heap.size=W.heap.size:=by simp[recW,World.setRow]
def lay (L:List UInt8) (o:Nat) (M:List UInt8):List UInt8:=L.take o ++ (M ++ L.drop (o+M.length))
theorem lay_length (L:List UInt8) (o:Nat) (M:List UInt8) (h:o+M.length≤L.length):(lay L o M).length=L.length:=by simp[lay]; omega
theorem lay_lay (L:List UInt8) (o:Nat) (M K:List UInt8) (h:o+M.length+K.length≤L.length):lay (lay L o M) (o+M.length) K=lay L o (M ++ K):=by
 have ho:(L.take o).length=o:=by rw[List.length_take]; omega
 unfold lay
 rw[← List.append_assoc (L.take o) M,List.take_append_of_le_length (by simp; omega),List.take_of_length_le (by simp; omega),List.drop_append,List.drop_eq_nil_of_le (by simp; omega),List.nil_append,List.drop_drop]
 simp only[List.length_append,ho,List.append_assoc]
 congr 4; omega
def pad (n:Nat) (l:List UInt8):List UInt8:=l.take n ++ List.replicate (n - l.length) 0
theorem pad_length (n:Nat) (l:List UInt8):(pad n l).length=n:=by simp[pad]; omega
theorem pad_long (n:Nat) (l:List UInt8) (h:n≤l.length):pad n l=l.take n:=by unfold pad; rw[show n - l.length=0 by omega]; simp
theorem pad_short (n:Nat) (l:List UInt8) (h:l.length≤n):pad n l=l ++ List.replicate (n - l.length) 0:=by unfold pad; rw[List.take_of_length_le h]
theorem u8_size:(Tryz.prog.info? 5).map (·.size)=some 1:=by kernel_rfl
theorem run_copy_rec (W:World) (b:Nat) (L:List UInt8) (h:Rec W b L) (sT ty:TypeId) (o n c:Nat) (hn:o+n≤L.length) (s:ByteArray):
 (Builtin.copy_ #[185,sT] ty #[.slice (some ⟨b,o,none⟩) n c,.string s]).run Tryz.prog W=.ok (goInt (s.data.toList.take n).length) (recW W b (lay L o (s.data.toList.take n))):=by
 have hst:=run_storeCells_at (P:=Tryz.prog) b o 241 (byteCells (s.data.toList.take n)) 0 (byteCells L).toArray W h (by simp[cells_length]; omega) (cells_small _)
 have hm:Nat.min s.size n=(s.data.toList.take n).length:=by rw[List.length_take,len_list]; exact Nat.min_comm _ _
 have htk:List.take (s.data.toList.take n).length (List.map (fun b:UInt8=>Value.int IntKind.u8 (b.toNat:Int)) s.data.toList)=byteCells (s.data.toList.take n):=by
  rw[← List.map_take,List.length_take,← List.take_take,List.take_of_length_le (Nat.le_refl s.data.toList.length)]
  rfl
 simp only[Nat.add_zero,cells_length] at hst
 have he:recW W b (lay L o (s.data.toList.take n))=W.setRow b ((byteCells L).toArray.toList.take o ++ byteCells (s.data.toList.take n) ++ (byteCells L).toArray.toList.drop (o+(s.data.toList.take n).length)).toArray:=by
  unfold recW lay
  rw[cells_append,cells_append,← cells_take,← cells_drop,List.append_assoc]
 rw[he]
 cases hq:Tryz.prog.info? 5 with
 | none=>have:=u8_size; simp[hq] at this
 | some i=>
   simp[Builtin.copy_,run_underlying Tryz.underlying185,Builtin.lenOf,Builtin.firstCells,sizeOf,typeInfo,hq]
   rw[hm,htk,hst]
   simp[Result.andThen]
theorem run_clear_none (W:World) (ty:TypeId) (a:Option Addr) (c:Nat):(Builtin.clear_ #[185] ty #[.slice a 0 c]).run Tryz.prog W=.ok (.tuple #[]) W:=by
 cases a <;> simp[Builtin.clear_,run_underlying Tryz.underlying185]
theorem run_clear_rec (W:World) (b:Nat) (L:List UInt8) (h:Rec W b L) (ty:TypeId) (o n c:Nat) (h0:0<n) (hn:o+n≤L.length):
 (Builtin.clear_ #[185] ty #[.slice (some ⟨b,o,none⟩) n c]).run Tryz.prog W=.ok (.tuple #[]) (recW W b (lay L o (List.replicate n 0))):=by
 have hz:∀ w,(zeroValue 5).run Tryz.prog w=.ok (.int .u8 0) w:=fun w=>by kernel_rfl
 have hst:=run_storeCells_at (P:=Tryz.prog) b o 241 (byteCells (List.replicate n 0)) 0 (byteCells L).toArray W h (by simp[cells_length]; omega) (cells_small _)
 have hzc:(Builtin.zeroCells (Value.int .u8 0).cells n).toList=byteCells (List.replicate n 0):=by
  rw[← cells_zero]
  apply List.ext_getElem
  ·simp[Builtin.zeroCells,Value.cells]
  ·intro i h1 h2
   simp[Builtin.zeroCells,Value.cells,Nat.mod_one]
 simp only[Nat.add_zero,cells_length,List.length_replicate] at hst
 have he:recW W b (lay L o (List.replicate n 0))=W.setRow b ((byteCells L).toArray.toList.take o ++ byteCells (List.replicate n 0) ++ (byteCells L).toArray.toList.drop (o+n)).toArray:=by
  unfold recW lay
  rw[cells_append,cells_append,← cells_take,← cells_drop,List.append_assoc,List.length_replicate]
 rw[he]
 obtain⟨m,rfl⟩:∃ m,n=m+1:=⟨n - 1,by omega⟩
 simp[Builtin.clear_,run_underlying Tryz.underlying185,hz,hzc,hst]
set_option maxRecDepth 100000 in
set_option maxHeartbeats 1000000 in
theorem fill_any (b o n c:Nat) (s:ByteArray) (L:List UInt8) (hn:o+n≤L.length) (hc:n≤c) (w:World) (h:Rec w b L):
 Calls Tryz.prog 196 #[.slice (some ⟨b,o,none⟩) n c,.string s] w fun e W'=>e=.returned (.tuple #[])∧W'=recW w b (lay L o (pad n s.data.toList)):=by
 have e1:=fun sT ty=>run_copy_rec w b L h sT ty o n c hn s
 have hl:(s.data.toList.take n).length=min n s.size:=by rw[List.length_take,len_list]
 by_cases hk:n≤s.size
 ·have e2:(s.data.toList.take n).length=n:=by omega
  rw[e2] at e1
  have e3:=fun ty a c'=>run_clear_none (recW w b (lay L o (s.data.toList.take n))) ty a c'
  have E:=Lib.hid (show pad n s.data.toList=s.data.toList.take n from pad_long _ _ (by rw[len_list]; exact hk))
  clear hl e2
  generalize s.data.toList.take n=M at *
  go_enter Tryz.func196,Tryz.ntmps196
  go_wp2_with fail
  all_goals (go_end0; exact⟨rfl,by rw[E.out]⟩)
 ·have hk2:s.size<n:=by omega
  have e0:s.data.toList.take n=s.data.toList:=List.take_of_length_le (by rw[len_list]; omega)
  have e2:s.data.toList.length=s.size:=len_list s
  rw[e0,e2] at e1
  have hr:Rec (recW w b (lay L o s.data.toList)) b (lay L o s.data.toList):=h.turned _
  have e3:=fun ty c'=>run_clear_rec (recW w b (lay L o s.data.toList)) b _ hr ty (o+s.size) (n - s.size) c' (by omega) (by rw[lay_length _ _ _ (by omega)]; omega)
  have e4:=lay_lay L o s.data.toList (List.replicate (n - s.size) 0) (by rw[List.length_replicate]; omega)
  rw[e2] at e4
  rw[recW_twice,e4] at e3
  have E:=Lib.hid (show pad n s.data.toList=s.data.toList ++ List.replicate (n - s.size) 0 from by rw[pad_short _ _ (by omega),e2])
  clear hl hr e0 e2 e4 h
  generalize s.data.toList ++ List.replicate (n - s.size) 0=M at *
  generalize lay L o s.data.toList=K at *
  go_enter Tryz.func196,Tryz.ntmps196
  go_wp2_with fail
  go_end0
  exact⟨rfl,by rw[E.out]⟩
end Go.Proofs.YtbamodkgagcmnaaGreat.Pkt
namespace Go.Proofs.YtbamodkgagcmnaaGreat.Pkt
open Go.RowKit Go.Shelf Txt Rgn
open Lib (byteCells)
abbrev keyC (V:Int) (x y:ByteArray) (F T p:Int):Array Value:=#[.int .i64 V,.string x,.string y,.int .i64 F,.int .i64 T,.int .i64 p]
abbrev keyV (V:Int) (x y:ByteArray) (F T p:Int):Value:=.agg (keyC V x y F T p)
def Keyed (W:World) (b:Nat) (V:Int) (x y:ByteArray) (F T p:Int):Prop:=W.heap[b]? =some (.cells (keyC V x y F T p) 79 (0,0))
theorem cell_of {W:World} {b:Nat} {C:Array Value} {t:TypeId} (h:W.heap[b]? =some (.cells C t (0,0))) (i:Nat):W.cell? ⟨b,i,none⟩=C[i]? :=by simp[World.cell?,h]
theorem free_of {W:World} {b:Nat} {C:Array Value} {t:TypeId} (h:W.heap[b]? =some (.cells C t (0,0))) (i:Nat):W.frozen? ⟨b,i,none⟩=false:=by simp[World.frozen?,h]
section
variable {W W':World} {b:Nat} {V:Int} {x y:ByteArray} {F T p:Int}
theorem keyed_new (W:World) (V:Int) (x y:ByteArray) (F T p:Int):Keyed (W.alloc (.cells (keyC V x y F T p) 79)) W.heap.size V x y F T p:=World.alloc_heap_new W _
theorem Keyed.kept (h:Keyed W b V x y F T p) (hb:Below W.heap.size W W'):Keyed W' b V x y F T p:=(hb.block b (Array.getElem?_eq_some_iff.1 h).1).trans h
theorem Keyed.alloc (h:Keyed W b V x y F T p) (o:Obj):Keyed (W.alloc o) b V x y F T p:=h.kept (below_alloc W o)
theorem Keyed.cells (h:Keyed W b V x y F T p):W.cell? ⟨b,0,none⟩=some (.int .i64 V)∧W.cell? ⟨b,1,none⟩=some (.string x)∧W.cell? ⟨b,2,none⟩=some (.string y)∧W.cell? ⟨b,3,none⟩=some (.int .i64 F)∧W.cell? ⟨b,4,none⟩=some (.int .i64 T)∧W.cell? ⟨b,5,none⟩=some (.int .i64 p):=
 ⟨cell_of h 0,cell_of h 1,cell_of h 2,cell_of h 3,cell_of h 4,cell_of h 5⟩
theorem Keyed.free (h:Keyed W b V x y F T p) (i:Nat):W.frozen? ⟨b,i,none⟩=false:=free_of h i
end
set_option maxRecDepth 100000 in
set_option maxHeartbeats 1000000 in
theorem number_any (s:ByteArray) (a n:Nat) (hn:1≤n∧n≤2) (ha:a+n≤s.size) (hs:s.size≤1000) (w:World):
 Calls Tryz.prog 197 #[.string s,.int .i64 (a:Nat),.int .i64 (n:Nat)] w fun e W'=>e=.returned (.int .i64 (gv s a n:Nat))∧Below w.heap.size w W':=by
 have hg:Oct.getV s (a:Int) (n:Int)=gv s a n:=by unfold Oct.getV gv; rw[Int.toNat_natCast,Int.toNat_natCast]
 have hl:=gv_lt s a n ha
 have hl2:gv s a n<65536:=by
  rcases (show n=1∨n=2 by omega) with rfl | rfl <;> omega
 have q:=IntWalk.i64_in (gv s a n:Nat) (by omega)
 have G:=Lib.hid hg
 clear hg hl
 go_enter Tryz.func197,Tryz.ntmps197
 go_wp2_with fail
 refine (Oct.Get_yes s (a:Int) (n:Int) w (by omega) (by omega)).mono ?_
 rintro e w2 ⟨rfl,hb2⟩
 rw[G.out]
 go_wp2_with fail
 go_ret
 exact⟨rfl,hb2⟩
def addr (v:Int):Nat:=if v=4 then 4 else if v=6 then 16 else 0
set_option maxHeartbeats 1000000 in
theorem address_any (v:Int) (w:World):Calls Tryz.prog 198 #[.int .i64 v] w fun e W'=>e=.returned (.int .i64 (addr v:Nat))∧w=W':=by
 by_cases h4:v=4
 ·subst h4
  go_enter Tryz.func198,Tryz.ntmps198
  go_wp2_with fail
  go_ret
  exact⟨rfl,rfl⟩
 ·have n4:(v == 4)=false:=beq_false_of_ne h4
  by_cases h6:v=6
  ·subst h6
   clear n4
   go_enter Tryz.func198,Tryz.ntmps198
   go_wp2_with fail
   go_ret
   exact⟨rfl,rfl⟩
  ·have n6:(v == 6)=false:=beq_false_of_ne h6
   have E:=Lib.hid (show addr v=0 by unfold addr; rw[if_neg h4,if_neg h6])
   clear h4 h6
   go_enter Tryz.func198,Tryz.ntmps198
   go_wp2_with fail
   go_ret
   exact⟨by rw[E.out]; rfl,rfl⟩
def low (v:Int):Nat:=(v % 18446744073709551616).toNat
theorem low_wrap (v:Int):IntKind.u64.wrap v=(low v:Nat):=by
 unfold low
 simp only[IntKind.wrap,IntKind.signed,IntKind.bits]; simp; omega
theorem low_lt (v:Int):low v<18446744073709551616:=by unfold low; omega
def nums (V F T p:Int):List UInt8:=Oct.bytes (low V) 1 ++ Oct.bytes (low p) 1 ++ Oct.bytes (low F) 2 ++ Oct.bytes (low T) 2
theorem nums_length (V F T p:Int):(nums V F T p).length=6:=by simp[nums,Oct.bytes_length]
def recL (V:Int) (x y:ByteArray) (F T p:Int):List UInt8:=nums V F T p ++ (pad 16 x.data.toList ++ pad 16 y.data.toList)
theorem recL_length (V:Int) (x y:ByteArray) (F T p:Int):(recL V x y F T p).length=38:=by simp[recL,nums_length,pad_length]
theorem lay3 (L N X Y:List UInt8) (hL:L.length=38) (hN:N.length=6) (hX:X.length=16) (hY:Y.length=16):lay (lay (lay L 0 N) 6 X) 22 Y=N ++ (X ++ Y):=by
 have e1:=lay_lay L 0 N X (by omega)
 rw[hN,Nat.zero_add] at e1
 have e2:=lay_lay L 0 (N ++ X) Y (by simp; omega)
 rw[List.length_append,hN,hX] at e2
 rw[e1,show (22:Nat)=0+(6+16) by omega,e2]
 unfold lay
 rw[List.drop_eq_nil_of_le (by simp; omega)]
 simp
theorem Put_some (v n:Int) (w:World) (hv0:0≤v) (hv:v≤18446744073709551615) (h:1≤n∧n≤2):
 Calls Tryz.prog 123 #[.int .u64 v,.int .i64 n] w fun e W'=>∃ S:ByteArray,e=.returned (.string S)∧S.size≤2∧Hid (S=Oct.str (Oct.bytes v.toNat n.toNat))∧Below w.heap.size w W':=
 (Oct.Put_yes v n w hv0 hv (by omega)).mono fun _ _ ⟨he,hb⟩=>⟨_,he,by rw[str_size,Oct.bytes_length]; omega,Lib.hid rfl,hb⟩
theorem st_keep {w W W':World} {h:Nat} {V:Int} {x y:ByteArray} {F T p:Int} (hS:Below w.heap.size w W∧Keyed W h V x y F T p∧W.cell? ⟨h,0,none⟩=some (.int .i64 V)∧W.cell? ⟨h,3,none⟩=some (.int .i64 F)∧W.cell? ⟨h,4,none⟩=some (.int .i64 T)∧W.cell? ⟨h,5,none⟩=some (.int .i64 p)) (hb:Below W.heap.size W W'):
 Below w.heap.size w W'∧Keyed W' h V x y F T p∧W'.cell? ⟨h,0,none⟩=some (.int .i64 V)∧W'.cell? ⟨h,3,none⟩=some (.int .i64 F)∧W'.cell? ⟨h,4,none⟩=some (.int .i64 T)∧W'.cell? ⟨h,5,none⟩=some (.int .i64 p):=
 ⟨below2 hS.1 hb,hS.2.1.kept hb,(hS.2.1.kept hb).cells.1,(hS.2.1.kept hb).cells.2.2.2.1,(hS.2.1.kept hb).cells.2.2.2.2.1,(hS.2.1.kept hb).cells.2.2.2.2.2⟩
structure St (b h:Nat) (L:List UInt8) (V:Int) (x y:ByteArray) (F T p:Int) (w0 W:World):Prop where
 ne:h≠b
 rec':Rec W b L
 key:Keyed W h V x y F T p
 grown:w0.grownBy W (some b)
theorem St.drew {b h:Nat} {L:List UInt8} {V:Int} {x y:ByteArray} {F T p:Int} {w0 W:World} (hs:St b h L V x y F T p w0 W):St b h L V x y F T p w0 W.drew:=
 ⟨hs.ne,hs.rec',hs.key,hs.grown.os,hs.grown.tape,hs.grown.output,hs.grown.size,hs.grown.block⟩
theorem St.turned {b h:Nat} {L:List UInt8} {V:Int} {x y:ByteArray} {F T p:Int} {w0 W:World} (hs:St b h L V x y F T p w0 W) (M:List UInt8):St b h M V x y F T p w0 (recW W b M):=
 ⟨hs.ne,hs.rec'.turned M,(recW_other W b h M hs.ne).trans hs.key,hs.grown.os,hs.grown.tape,hs.grown.output,by rw[recW_size]; exact hs.grown.size,fun k hk hn=>(recW_other W b k M (fun e=>hn (by rw[e]))).trans (hs.grown.block k hk hn)⟩
set_option maxRecDepth 100000 in
set_option maxHeartbeats 2000000 in
theorem put_any (b:Nat) (L:List UInt8) (hL:L.length=38) (V:Int) (x y:ByteArray) (F T p:Int) (w:World) (h:Rec w b L):
 Calls Tryz.prog 167 #[.pointer (some ⟨b,0,none⟩),keyV V x y F T p] w fun e W'=>e=.returned (.tuple #[])∧Rec W' b (recL V x y F T p)∧w.grownBy W' (some b):=by
 have hbw:b<w.heap.size:=(Array.getElem?_eq_some_iff.1 h).1
 have K0:=keyed_new w V x y F T p
 obtain⟨c0,c1,c2,c3,c4,c5⟩:=K0.cells
 have q0:=low_wrap V
 have q1:=low_wrap p
 have q2:=low_wrap F
 have q3:=low_wrap T
 have l0:=low_lt V
 have l1:=low_lt p
 have l2:=low_lt F
 have l3:=low_lt T
 have HR:=Lib.hid h
 have HK:=Lib.hid K0
 have HN:=Lib.hid (show nums V F T p=Oct.bytes (low V) 1 ++ Oct.bytes (low p) 1 ++ Oct.bytes (low F) 2 ++ Oct.bytes (low T) 2 from rfl)
 generalize low V=nV at *
 generalize low p=np at *
 generalize low F=nF at *
 generalize low T=nT at *
 clear h K0
 have A1:∀ (S T:ByteArray) (u:World),S.size≤2→T.size≤2→(Op.stringOp .add S T).run Tryz.prog u=.ok (.string (S ++ T)) u:=fun S T u hS hT=>run_string_add_sum u _ _ (by omega)
 have A2:∀ (S T R:ByteArray) (u:World),S.size≤2→T.size≤2→R.size≤2→(Op.stringOp .add (S ++ T) R).run Tryz.prog u=.ok (.string (S ++ T ++ R)) u:=fun S T R u hS hT hR=>run_string_add_sum u _ _ (by rw[ByteArray.size_append]; omega)
 have A3:∀ (S T R M:ByteArray) (u:World),S.size≤2→T.size≤2→R.size≤2→M.size≤2→(Op.stringOp .add (S ++ T ++ R) M).run Tryz.prog u=.ok (.string (S ++ T ++ R ++ M)) u:=fun S T R M u hS hT hR hM=>run_string_add_sum u _ _ (by rw[ByteArray.size_append,ByteArray.size_append]; omega)
 go_enter Tryz.func167,Tryz.ntmps167
 go_wp2_with fail
 go_region_held3 (fun W=>Below w.heap.size w W∧Keyed W w.heap.size V x y F T p∧W.cell? ⟨w.heap.size,0,none⟩=some (.int .i64 V)∧W.cell? ⟨w.heap.size,3,none⟩=some (.int .i64 F)∧W.cell? ⟨w.heap.size,4,none⟩=some (.int .i64 T)∧W.cell? ⟨w.heap.size,5,none⟩=some (.int .i64 p))
  (first | exact⟨(below_alloc w _).drew,HK.out,c0,c3,c4,c5⟩ | exact st_keep (by assumption) hb3)
  (first | (go_at_call 123; (with_reducible refine (Put_some _ _ _ ?_ ?_ ?_).mono ?_); omega; omega; omega; rintro e w3 ⟨S,rfl,hS,HS,hb3⟩))
 rename_i S1 hS1 HS1 hx1 u2 S2 hS2 HS2 hx2 u3 S3 hS3 HS3 hx3 hHeld
 obtain⟨hB3,hK3,_,_,_,_⟩:=hHeld
 have hN:(S1 ++ S2 ++ S3 ++ S).data.toList=nums V F T p:=by
  rw[HN.out,app_list,app_list,app_list,HS1.out,HS2.out,HS3.out,HS.out]; rfl
 have zN:(S1 ++ S2 ++ S3 ++ S).size=6:=by rw[← len_list,hN,nums_length]
 have hR3:Rec w3 b L:=HR.out.kept hB3
 have pN:pad 6 (S1 ++ S2 ++ S3 ++ S).data.toList=nums V F T p:=by rw[hN,pad_long _ _ (by rw[nums_length]; omega),List.take_of_length_le (by rw[nums_length]; omega)]
 clear hx1 hx2 hx3 hb3 A1 A2 A3 HS HS1 HS2 HS3 hS hS1 hS2 hS3 c0 c1 c2 c3 c4 c5 HK HN q0 q1 q2 q3 l0 l1 l2 l3 hN
 generalize S1 ++ S2 ++ S3 ++ S=N at *
 have F1:=Lib.hid (fill_any b 0 6 38 N L (by omega) (by omega) w3 hR3)
 clear hR3
 go_wp2_with fail
 refine F1.out.mono ?_
 rintro e w4 ⟨rfl,hw4⟩
 have hG:St b w.heap.size (lay L 0 (nums V F T p)) V x y F T p w w4:=by
  rw[hw4,pN]
  exact St.turned ⟨by omega,HR.out.kept hB3,hK3,hB3.os,hB3.tape,hB3.output,hB3.size,fun k hk _=>hB3.block k hk⟩ _
 have zL:(lay L 0 (nums V F T p)).length=38:=by rw[lay_length _ _ _ (by rw[nums_length]; omega),hL]
 have HL:=Lib.hid (lay3 L (nums V F T p) (pad 16 x.data.toList) (pad 16 y.data.toList) hL (nums_length ..) (pad_length ..) (pad_length ..))
 clear hw4 F1 pN zN hK3 HR hB3
 generalize lay L 0 (nums V F T p)=L1 at *
 have HG:=Lib.hid hG.drew
 have F2:=Lib.hid (fill_any b 6 16 32 x L1 (by omega) (by omega) w4.drew HG.out.rec')
 obtain⟨c0,c1,c2,c3,c4,c5⟩:=HG.out.key.cells
 go_wp2_with fail
 go_region_held3 (fun W=>Keyed W w.heap.size V x y F T p∧W.cell? ⟨w.heap.size,1,none⟩=some (.string x))
  (first | exact⟨HG.out.key,c1⟩ | exact⟨hG5.key,hG5.key.cells.2.1⟩)
  (first | (go_at_call 196; refine F2.out.mono ?_; rintro e w5 ⟨rfl,hw5⟩; have hG5:St b w.heap.size (lay L1 6 (pad 16 x.data.toList)) V x y F T p w w5:=by { rw[hw5]; exact HG.out.turned _ }; clear hw5))
 have zL2:(lay L1 6 (pad 16 x.data.toList)).length=38:=by rw[lay_length _ _ _ (by rw[pad_length]; omega),zL]
 clear F2 c0 c1 c2 c3 c4 c5 HG hG zL
 generalize lay L1 6 (pad 16 x.data.toList)=L2 at *
 have HG:=Lib.hid hG5.drew
 clear hG5
 have F3:=Lib.hid (fill_any b 22 16 16 y L2 (by omega) (by omega) w5.drew HG.out.rec')
 obtain⟨c0,c1,c2,c3,c4,c5⟩:=HG.out.key.cells
 go_wp2_with fail
 go_region_held3 (fun W=>Keyed W w.heap.size V x y F T p∧W.cell? ⟨w.heap.size,2,none⟩=some (.string y))
  (first | exact⟨HG.out.key,c2⟩ | exact⟨hG6.key,hG6.key.cells.2.2.1⟩)
  (first | (go_at_call 196; refine F3.out.mono ?_; rintro e w6 ⟨rfl,hw6⟩; have hG6:St b w.heap.size (lay L2 22 (pad 16 y.data.toList)) V x y F T p w w6:=by { rw[hw6]; exact HG.out.turned _ }; clear hw6))
 go_wp2_with fail
 go_end0
 exact⟨rfl,by have:=hG6.rec'; rw[HL.out] at this; exact this,hG6.grown⟩
end Go.Proofs.YtbamodkgagcmnaaGreat.Pkt
namespace Go.Proofs.YtbamodkgagcmnaaGreat.Pkt
open Go.RowKit Go.Shelf Txt Rgn
open Lib (byteCells)
theorem run_text (W:World) (b:Nat) (L:List UInt8) (h:Rec W b L) (hL:L.length=38):(convert 185 9 (.slice (some ⟨b,0,none⟩) 38 38)).run Tryz.prog W=.ok (.string (Oct.str L)) W:=by
 have:=run_convert_bytes_arg (P:=Tryz.prog) W 185 5 Tryz.underlying185 Tryz.underlying5 b 0 38 38 (L.map fun b=>(b.toNat:Int)) (by simp[hL])
  (fun i hi=>by
    rw[Nat.zero_add,cell_of h i]
    simp[byteCells,List.getD,hL,hi]) 9 Tryz.underlying9
 rw[this,Oct.strOfNums_bytes]
abbrev rV (s:ByteArray):Nat:=gv s 0 1
abbrev rP (s:ByteArray):Nat:=gv s 1 1
abbrev rF (s:ByteArray):Nat:=gv s 2 2
abbrev rT (s:ByteArray):Nat:=gv s 4 2
def okR (s:ByteArray):Prop:=(rV s=4∨rV s=6)∧(rP s=6∨rP s=17)
theorem set_of {W:World} {b:Nat} {C:Array Value} {t:TypeId} (h:W.heap[b]? =some (.cells C t (0,0))) (i:Nat) (v:Value):(W.setCell ⟨b,i,none⟩ v).heap[b]? =some (.cells (C.setIfInBounds i v) t (0,0)):=
 heap_setCell_same W b i C t v h
theorem six_cells {W:World} {b:Nat} {V:Int} {x y:ByteArray} {F T p:Int} (h:Keyed W b V x y F T p) {V':Int} {x' y':ByteArray} {F' T' p':Int} {C:World→Prop} (hC:∀ W',Keyed W' b V' x' y' F' T' p'→Below b W W'→C W'):
 C ((((((W.setCell ⟨b,0,none⟩ (.int .i64 V')).setCell ⟨b,1,none⟩ (.string x')).setCell ⟨b,2,none⟩ (.string y')).setCell ⟨b,3,none⟩ (.int .i64 F')).setCell ⟨b,4,none⟩ (.int .i64 T')).setCell ⟨b,5,none⟩ (.int .i64 p')):=
 hC _ (set_of (set_of (set_of (set_of (set_of (set_of h 0 _) 1 _) 2 _) 3 _) 4 _) 5 _)
  ((((((Below.refl b W).setCell (Nat.le_refl b) _).setCell (Nat.le_refl b) _).setCell (Nat.le_refl b) _).setCell (Nat.le_refl b) _).setCell (Nat.le_refl b) _ |>.setCell (Nat.le_refl b) _)
theorem address_is (v n:Int) (h:(addr v:Int)=n) (w:World):Calls Tryz.prog 198 #[.int .i64 v] w fun e W'=>e=.returned (.int .i64 n)∧w=W':=h ▸ address_any v w
end Go.Proofs.YtbamodkgagcmnaaGreat.Pkt
namespace Go.Proofs.YtbamodkgagcmnaaGreat.Pkt
open Go.RowKit Go.Shelf Txt Rgn
open Lib (byteCells)
abbrev frK (h k:Nat) (s:ByteArray) (n:Nat) (y x:Nat→Value):Act:= { tmps:=#[y 0,y 1,.pointer (some ⟨h,0,none⟩),y 3,.string s,.pointer (some ⟨k,0,none⟩),.int .i64 (n:Nat),y 7,y 8,y 9,y 10,y 11,y 12,y 13,y 14,y 15,y 16,y 17,y 18,y 19,y 20,y 21,y 22,y 23,y 24,y 25,y 26,y 27,y 28,y 29,y 30,y 31,y 32,y 33,y 34,y 35,x 0,x 1,x 2,x 3,x 4,x 5,x 6,x 7,x 8,x 10,undef],defers:=[] }
theorem cut_text (s:ByteArray) (a n:Nat) (h:a+n≤s.size) (W:World):(Instr.slice 9 (.string s) (some (.int .i64 (a:Nat))) (some (.int .i64 ((a:Nat)+(n:Int)))) none).run Tryz.prog W=.ok (.string (s.extract a (a+n))) W:=by
 have h1:(0:Int)≤a∧(a:Int)≤((a:Int)+(n:Int)).toNat:=by omega
 have h2:(0:Int)≤(a:Int)+(n:Int)∧(a:Int)+(n:Int)≤s.size:=by omega
 have e:((a:Int)+(n:Int)).toNat=a+n:=by omega
 simp[Instr.slice,Instr.sliceBounds,Instr.sliceBound,run_underlying Tryz.underlying9,asIntOf,h1,h2,e]
def lit (l:List Value):Nat→Value:=fun j=>l.getD j undef
def valK (k:Nat) (s:ByteArray) (n:Nat):Nat→Value
 | 0 | 4=>.string s
 | 1 | 5=>.int .i64 (n:Nat)
 | 2=>.int .i64 ((6+n:Nat):Int)
 | 3=>.string (s.extract 6 (6+n))
 | 6=>.int .i64 ((22+n:Nat):Int)
 | 7=>.string (s.extract 22 (22+n))
 | 8=>.pointer (some ⟨k,1,none⟩)
 | 10=>.pointer (some ⟨k,2,none⟩)
 | _=>undef
structure StK (h k:Nat) (V:Int) (X Y:ByteArray) (F T p:Int) (w:World) (d:Nat→Bool) (W:World):Prop where
 key:Keyed W k V (if d 9=true then X else ⟨#[]⟩) (if d 11=true then Y else ⟨#[]⟩) F T p
 res:Keyed W h 0 ⟨#[]⟩ ⟨#[]⟩ 0 0 0
 below:Below w.heap.size w W
section
variable {h k:Nat} {V:Int} {X Y:ByteArray} {F T p:Int} {w W:World} {d:Nat→Bool}
theorem StK.upd (hs:StK h k V X Y F T p w d W) (i:Nat) (h9:i≠9) (h11:i≠11):StK h k V X Y F T p w (Rgn.upd d i) W:=by
 refine⟨?_,hs.res,hs.below⟩
 rw[upd_other d (Ne.symm h9),upd_other d (Ne.symm h11)]
 exact hs.key
theorem StK.set9 (hs:StK h k V X Y F T p w d W) (hne:h≠k) (hk:w.heap.size≤k):StK h k V X Y F T p w (Rgn.upd d 9) (W.setCell ⟨k,1,none⟩ (.string X)):=by
 refine⟨?_,(Below.heap_setCell W ⟨k,1,none⟩ _ h hne).trans hs.res,hs.below.setCell (p:=⟨k,1,none⟩) hk _⟩
 rw[upd_same,upd_other d (by omega),if_pos rfl]
 exact set_of hs.key 1 _
theorem StK.set11 (hs:StK h k V X Y F T p w d W) (hne:h≠k) (hk:w.heap.size≤k):StK h k V X Y F T p w (Rgn.upd d 11) (W.setCell ⟨k,2,none⟩ (.string Y)):=by
 refine⟨?_,(Below.heap_setCell W ⟨k,2,none⟩ _ h hne).trans hs.res,hs.below.setCell (p:=⟨k,2,none⟩) hk _⟩
 rw[upd_same,upd_other d (by omega),if_pos rfl]
 exact set_of hs.key 2 _
end
set_option maxRecDepth 100000 in
set_option maxHeartbeats 2000000 in
theorem key_good (b:Nat) (L:List UInt8) (hL:L.length=38) (h:okR (Oct.str L)) (n:Nat) (hn:addr (gv (Oct.str L) 0 1:Nat)=n) (hn1:1≤n) (hn2:n≤16) (w:World) (hR:Rec w b L):
 Calls Tryz.prog 168 #[.pointer (some ⟨b,0,none⟩)] w fun e W'=>e=.returned (.tuple #[keyV (rV (Oct.str L):Nat) ((Oct.str L).extract 6 (6+n)) ((Oct.str L).extract 22 (22+n)) (rF (Oct.str L):Nat) (rT (Oct.str L):Nat) (rP (Oct.str L):Nat),.bool true])∧Below w.heap.size w W':=by
 have zS:(Oct.str L).size=38:=by rw[str_size,hL]
 have e1:=run_text (w.alloc (.cells (keyC 0 ⟨#[]⟩ ⟨#[]⟩ 0 0 0) 79)) b L (hR.kept (below_alloc w _)) hL
 generalize Oct.str L=s at *
 have C0:=fun W=>Lib.hid (number_any s 0 1 (by omega) (by omega) (by omega) W)
 have C1:=fun W=>Lib.hid (number_any s 1 1 (by omega) (by omega) (by omega) W)
 have C2:=fun W=>Lib.hid (number_any s 2 2 (by omega) (by omega) (by omega) W)
 have C3:=fun W=>Lib.hid (number_any s 4 2 (by omega) (by omega) (by omega) W)
 have hp:=h.2
 have AD:=fun W=>Lib.hid (address_is (gv s 0 1:Nat) (n:Int) (by rw[hn]) W)
 have n0:((n:Int) == 0)=false:=beq_false_of_ne (by omega)
 have a1:IntKind.i64.wrap (6+(n:Int))=((6+n:Nat):Int):=by rw[IntWalk.i64_in _ (by omega)]; omega
 have a2:IntKind.i64.wrap (22+(n:Int))=((22+n:Nat):Int):=by rw[IntWalk.i64_in _ (by omega)]; omega
 clear h hR hn
 change gv s 1 1=6∨gv s 1 1=17 at hp
 unfold rV rF rT rP
 have p6:(((gv s 1 1:Nat):Int) != 6)=false∨(((gv s 1 1:Nat):Int) != 6)=true∧(((gv s 1 1:Nat):Int) != 17)=false:=by
  rcases hp with e | e <;> rw[e]
  ·exact .inl rfl
  ·exact .inr ⟨rfl,rfl⟩
 clear hp
 rcases p6 with p6 | ⟨p6,p17⟩
 ·skip
  generalize gv s 0 1=v at *
  generalize gv s 1 1=p at *
  generalize gv s 2 2=f at *
  generalize gv s 4 2=t at *
  go_enter Tryz.func168,Tryz.ntmps168
  go_wp2_with fail
  refine (C0 _).out.mono ?_
  rintro e w1 ⟨rfl,hb1⟩
  have K1:=Lib.hid ((keyed_new w 0 ⟨#[]⟩ ⟨#[]⟩ 0 0 0).kept hb1)
  have B1:=Lib.hid (below2 (below_alloc w _) hb1)
  clear hb1
  go_wp2_with fail
  refine (C1 _).out.mono ?_
  rintro e w2 ⟨rfl,hb2⟩
  have K2:=Lib.hid (K1.out.kept hb2)
  have B2:=Lib.hid (below2 B1.out hb2)
  clear hb2 K1 B1
  go_wp2_with fail
  refine (C2 _).out.mono ?_
  rintro e w3 ⟨rfl,hb3⟩
  have K3:=Lib.hid (K2.out.kept hb3)
  have B3:=Lib.hid (below2 B2.out hb3)
  clear hb3 K2 B2
  go_wp2_with fail
  refine (C3 _).out.mono ?_
  rintro e w4 ⟨rfl,hb4⟩
  have KL:=Lib.hid (show w.heap.size<w4.heap.size from Nat.lt_of_lt_of_le (Array.getElem?_eq_some_iff.1 K3.out).1 hb4.size)
  have K4:=Lib.hid ((K3.out.kept hb4).alloc (.cells (keyC v ⟨#[]⟩ ⟨#[]⟩ f t p) 79))
  have M4:=Lib.hid (keyed_new w4 v ⟨#[]⟩ ⟨#[]⟩ f t p)
  have B4:=Lib.hid (below2 (below2 B3.out hb4) (below_alloc w4 (.cells (keyC v ⟨#[]⟩ ⟨#[]⟩ f t p) 79)))
  clear hb4 K3 B3 C0 C1 C2 C3
  obtain⟨c0,c1,c2,c3,c4,c5⟩:=M4.out.cells
  have fr:=K4.out.free
  obtain⟨k0,k1,k2,k3,k4,k5⟩:=K4.out.cells
  go_wp2_with fail
  refine (AD _).out.mono ?_
  rintro e w5 ⟨rfl,rfl⟩
  go_wp2_with fail
  have hk:=KL.out
  change Code.wp _ _ _ (frK w.heap.size w4.heap.size s n (lit [.pointer (some ⟨b,0,none⟩),undef,undef,.bool false,undef,undef,undef,.pointer (some ⟨b,0,none⟩),.pointer (some ⟨b,0,none⟩),.slice (some ⟨b,0,none⟩) 38 38,.string s,.string s,.int .i64 (v:Nat),.string s,.int .i64 (p:Nat),.string s,.int .i64 (f:Nat),.string s,.int .i64 (t:Nat),.agg #[.int .i64 (v:Nat),.string ⟨#[]⟩,.string ⟨#[]⟩,.int .i64 (f:Nat),.int .i64 (t:Nat),.int .i64 (p:Nat)],.pointer (some ⟨w4.heap.size,0,none⟩),.int .i64 (v:Nat),.int .i64 (n:Nat),.int .i64 (n:Nat),.bool false,.bool false,.pointer (some ⟨w4.heap.size,5,none⟩),.int .i64 (p:Nat),.bool false,.bool false,undef,undef,undef,.bool false,.bool false,undef]) (fun _=>undef)) _
  generalize lit [.pointer (some ⟨b,0,none⟩),undef,undef,.bool false,undef,undef,undef,.pointer (some ⟨b,0,none⟩),.pointer (some ⟨b,0,none⟩),.slice (some ⟨b,0,none⟩) 38 38,.string s,.string s,.int .i64 (v:Nat),.string s,.int .i64 (p:Nat),.string s,.int .i64 (f:Nat),.string s,.int .i64 (t:Nat),.agg #[.int .i64 (v:Nat),.string ⟨#[]⟩,.string ⟨#[]⟩,.int .i64 (f:Nat),.int .i64 (t:Nat),.int .i64 (p:Nat)],.pointer (some ⟨w4.heap.size,0,none⟩),.int .i64 (v:Nat),.int .i64 (n:Nat),.int .i64 (n:Nat),.bool false,.bool false,.pointer (some ⟨w4.heap.size,5,none⟩),.int .i64 (p:Nat),.bool false,.bool false,undef,undef,undef,.bool false,.bool false,undef]=y
  clear k0 k1 k2 k3 k4 k5 c0 c1 c2 c3 c4 c5 fr AD e1
  have T0:=Lib.hid (show StK w.heap.size w4.heap.size v (s.extract 6 (6+n)) (s.extract 22 (22+n)) f t p w (fun _=>false) (w4.alloc (.cells (keyC v ⟨#[]⟩ ⟨#[]⟩ f t p) 79)).drew from⟨M4.out,K4.out,B4.out.drew⟩)
  clear M4 K4 B4
  refine wp_region_inv (fun d a W=>∃ x:Nat→Value,a=frK w.heap.size w4.heap.size s n y x∧InvJ 12 (valK w4.heap.size s n) (StK w.heap.size w4.heap.size v (s.extract 6 (6+n)) (s.extract 22 (22+n)) f t p w) d x W) (by kernel_rfl) (by kernel_rfl) ?step ?done ?start
  case start=>exact⟨fun _=>undef,rfl,InvJ.start _ T0.out⟩
  case step=>
   rintro d a W i hi hd hall ⟨x,rfl,hI⟩
   replace hi:i<12:=hi
   have hst:=Lib.hid hI.st
   obtain rfl | rfl | rfl | rfl | rfl | rfl | rfl | rfl | rfl | rfl | rfl | rfl:i=0∨i=1∨i=2∨i=3∨i=4∨i=5∨i=6∨i=7∨i=8∨i=9∨i=10∨i=11:=by omega
   ·clear hall
    refine wpOp_step rfl (fun K hK=>?_)
    simp only[List.getElem_toArray,List.getElem_cons_zero]
    go_simp
    exact hK _ _ ⟨_,by simp[upv,valK],hI.yields 0 (hst.out.upd 0 (by omega) (by omega))⟩
   ·clear hall
    refine wpOp_step rfl (fun K hK=>?_)
    simp only[List.getElem_toArray,List.getElem_cons_zero,List.getElem_cons_succ]
    go_simp
    exact hK _ _ ⟨_,by simp[upv,valK],hI.yields 1 (hst.out.upd 1 (by omega) (by omega))⟩
   ·have h1:x 1=.int .i64 (n:Nat):=hI.pure 1 (by omega) (hall 1 (by kernel_rfl))
    clear hall
    refine wpOp_step rfl (fun K hK=>?_)
    simp only[List.getElem_toArray,List.getElem_cons_zero,List.getElem_cons_succ]
    go_simp
    exact hK _ _ ⟨_,by simp[upv,valK,h1],hI.yields 2 (hst.out.upd 2 (by omega) (by omega))⟩
   ·have h0:x 0=.string s:=hI.pure 0 (by omega) (hall 0 (by kernel_rfl))
    have h2:x 2=.int .i64 ((6+n:Nat):Int):=hI.pure 2 (by omega) (hall 2 (by kernel_rfl))
    have ES:(Instr.slice 9 (.string s) (some (.int .i64 6)) (some (.int .i64 (6+(n:Int)))) none).run Tryz.prog W=.ok (.string (s.extract 6 (6+n))) W:=cut_text s 6 n (by omega) W
    clear hall
    refine wpOp_step rfl (fun K hK=>?_)
    simp only[List.getElem_toArray,List.getElem_cons_zero,List.getElem_cons_succ]
    go_simp
    exact hK _ _ ⟨_,by simp[upv,valK,h0,h2],hI.yields 3 (hst.out.upd 3 (by omega) (by omega))⟩
   ·clear hall
    refine wpOp_step rfl (fun K hK=>?_)
    simp only[List.getElem_toArray,List.getElem_cons_zero,List.getElem_cons_succ]
    go_simp
    exact hK _ _ ⟨_,by simp[upv,valK],hI.yields 4 (hst.out.upd 4 (by omega) (by omega))⟩
   ·clear hall
    refine wpOp_step rfl (fun K hK=>?_)
    simp only[List.getElem_toArray,List.getElem_cons_zero,List.getElem_cons_succ]
    go_simp
    exact hK _ _ ⟨_,by simp[upv,valK],hI.yields 5 (hst.out.upd 5 (by omega) (by omega))⟩
   ·have h5:x 5=.int .i64 (n:Nat):=hI.pure 5 (by omega) (hall 5 (by kernel_rfl))
    clear hall
    refine wpOp_step rfl (fun K hK=>?_)
    simp only[List.getElem_toArray,List.getElem_cons_zero,List.getElem_cons_succ]
    go_simp
    exact hK _ _ ⟨_,by simp[upv,valK,h5],hI.yields 6 (hst.out.upd 6 (by omega) (by omega))⟩
   ·have h4:x 4=.string s:=hI.pure 4 (by omega) (hall 4 (by kernel_rfl))
    have h6:x 6=.int .i64 ((22+n:Nat):Int):=hI.pure 6 (by omega) (hall 6 (by kernel_rfl))
    have ES:(Instr.slice 9 (.string s) (some (.int .i64 22)) (some (.int .i64 (22+(n:Int)))) none).run Tryz.prog W=.ok (.string (s.extract 22 (22+n))) W:=cut_text s 22 n (by omega) W
    clear hall
    refine wpOp_step rfl (fun K hK=>?_)
    simp only[List.getElem_toArray,List.getElem_cons_zero,List.getElem_cons_succ]
    go_simp
    exact hK _ _ ⟨_,by simp[upv,valK,h4,h6],hI.yields 7 (hst.out.upd 7 (by omega) (by omega))⟩
   ·clear hall
    refine wpOp_step rfl (fun K hK=>?_)
    simp only[List.getElem_toArray,List.getElem_cons_zero,List.getElem_cons_succ]
    go_simp
    exact hK _ _ ⟨_,by simp[upv,valK],hI.yields 8 (hst.out.upd 8 (by omega) (by omega))⟩
   ·have h8:x 8=.pointer (some ⟨w4.heap.size,1,none⟩):=hI.pure 8 (by omega) (hall 8 (by kernel_rfl))
    have h3:x 3=.string (s.extract 6 (6+n)):=hI.pure 3 (by omega) (hall 3 (by kernel_rfl))
    obtain⟨_,m1,m2,_,_,_⟩:=hst.out.key.cells
    have fz:=hst.out.key.free 1
    clear hall
    refine wpOp_step rfl (fun K hK=>?_)
    simp only[List.getElem_toArray,List.getElem_cons_zero,List.getElem_cons_succ]
    go_simp
    exact hK _ _ ⟨_,by simp[upv,h8,h3],hI.yields 9 (hst.out.set9 (by omega) (by omega))⟩
   ·clear hall
    refine wpOp_step rfl (fun K hK=>?_)
    simp only[List.getElem_toArray,List.getElem_cons_zero,List.getElem_cons_succ]
    go_simp
    exact hK _ _ ⟨_,by simp[upv,valK],hI.yields 10 (hst.out.upd 10 (by omega) (by omega))⟩
   ·have h10:x 10=.pointer (some ⟨w4.heap.size,2,none⟩):=hI.pure 10 (by omega) (hall 10 (by kernel_rfl))
    have h7:x 7=.string (s.extract 22 (22+n)):=hI.pure 7 (by omega) (hall 7 (by kernel_rfl))
    obtain⟨_,m1,m2,_,_,_⟩:=hst.out.key.cells
    have fz:=hst.out.key.free 2
    clear hall
    refine wpOp_step rfl (fun K hK=>?_)
    simp only[List.getElem_toArray,List.getElem_cons_zero,List.getElem_cons_succ]
    go_simp
    exact hK _ _ ⟨_,by simp[upv,h10,h7],hI.yields 11 (hst.out.set11 (by omega) (by omega))⟩
  case done=>
   rintro d a W hall ⟨x,rfl,hI⟩
   replace hall:∀ i,i<12→d i=true:=hall
   have hkey:=hI.st.key
   rw[hall 9 (by omega),hall 11 (by omega),if_pos rfl,if_pos rfl] at hkey
   have hK:=Lib.hid hkey
   have hR:=Lib.hid hI.st.res
   have hB:=Lib.hid hI.st.below
   clear hI hall T0 hkey
   obtain⟨c0,c1,c2,c3,c4,c5⟩:=hK.out.cells
   obtain⟨k0,k1,k2,k3,k4,k5⟩:=hR.out.cells
   have fr:=hR.out.free
   go_wp2_with fail
   refine six_cells (C:=fun W'=>bodyPost _ _ _ _ _ W') hR.out ?_
   intro W6 hK6 hb6
   have B6:=Lib.hid (hB.out.trans hb6)
   clear hb6 k0 k1 k2 k3 k4 k5 c0 c1 c2 c3 c4 c5 fr hK hR hB
   obtain⟨k0,k1,k2,k3,k4,k5⟩:=hK6.cells
   exact bodyPost_ret (v:=.tuple #[keyV v (s.extract 6 (6+n)) (s.extract 22 (22+n)) f t p,.bool true]) (by simp[results,Tryz.results168,go_sem,k0,k1,k2,k3,k4,k5]) rfl ⟨rfl,B6.out⟩
 ·skip
  generalize gv s 0 1=v at *
  generalize gv s 1 1=p at *
  generalize gv s 2 2=f at *
  generalize gv s 4 2=t at *
  go_enter Tryz.func168,Tryz.ntmps168
  go_wp2_with fail
  refine (C0 _).out.mono ?_
  rintro e w1 ⟨rfl,hb1⟩
  have K1:=Lib.hid ((keyed_new w 0 ⟨#[]⟩ ⟨#[]⟩ 0 0 0).kept hb1)
  have B1:=Lib.hid (below2 (below_alloc w _) hb1)
  clear hb1
  go_wp2_with fail
  refine (C1 _).out.mono ?_
  rintro e w2 ⟨rfl,hb2⟩
  have K2:=Lib.hid (K1.out.kept hb2)
  have B2:=Lib.hid (below2 B1.out hb2)
  clear hb2 K1 B1
  go_wp2_with fail
  refine (C2 _).out.mono ?_
  rintro e w3 ⟨rfl,hb3⟩
  have K3:=Lib.hid (K2.out.kept hb3)
  have B3:=Lib.hid (below2 B2.out hb3)
  clear hb3 K2 B2
  go_wp2_with fail
  refine (C3 _).out.mono ?_
  rintro e w4 ⟨rfl,hb4⟩
  have KL:=Lib.hid (show w.heap.size<w4.heap.size from Nat.lt_of_lt_of_le (Array.getElem?_eq_some_iff.1 K3.out).1 hb4.size)
  have K4:=Lib.hid ((K3.out.kept hb4).alloc (.cells (keyC v ⟨#[]⟩ ⟨#[]⟩ f t p) 79))
  have M4:=Lib.hid (keyed_new w4 v ⟨#[]⟩ ⟨#[]⟩ f t p)
  have B4:=Lib.hid (below2 (below2 B3.out hb4) (below_alloc w4 (.cells (keyC v ⟨#[]⟩ ⟨#[]⟩ f t p) 79)))
  clear hb4 K3 B3 C0 C1 C2 C3
  obtain⟨c0,c1,c2,c3,c4,c5⟩:=M4.out.cells
  have fr:=K4.out.free
  obtain⟨k0,k1,k2,k3,k4,k5⟩:=K4.out.cells
  go_wp2_with fail
  refine (AD _).out.mono ?_
  rintro e w5 ⟨rfl,rfl⟩
  go_wp2_with fail
  have hk:=KL.out
  change Code.wp _ _ _ (frK w.heap.size w4.heap.size s n (lit [.pointer (some ⟨b,0,none⟩),undef,undef,.bool false,undef,undef,undef,.pointer (some ⟨b,0,none⟩),.pointer (some ⟨b,0,none⟩),.slice (some ⟨b,0,none⟩) 38 38,.string s,.string s,.int .i64 (v:Nat),.string s,.int .i64 (p:Nat),.string s,.int .i64 (f:Nat),.string s,.int .i64 (t:Nat),.agg #[.int .i64 (v:Nat),.string ⟨#[]⟩,.string ⟨#[]⟩,.int .i64 (f:Nat),.int .i64 (t:Nat),.int .i64 (p:Nat)],.pointer (some ⟨w4.heap.size,0,none⟩),.int .i64 (v:Nat),.int .i64 (n:Nat),.int .i64 (n:Nat),.bool false,.bool false,.pointer (some ⟨w4.heap.size,5,none⟩),.int .i64 (p:Nat),.bool true,.bool true,.pointer (some ⟨w4.heap.size,5,none⟩),.int .i64 (p:Nat),.bool false,.bool false,.bool false,undef]) (fun _=>undef)) _
  generalize lit [.pointer (some ⟨b,0,none⟩),undef,undef,.bool false,undef,undef,undef,.pointer (some ⟨b,0,none⟩),.pointer (some ⟨b,0,none⟩),.slice (some ⟨b,0,none⟩) 38 38,.string s,.string s,.int .i64 (v:Nat),.string s,.int .i64 (p:Nat),.string s,.int .i64 (f:Nat),.string s,.int .i64 (t:Nat),.agg #[.int .i64 (v:Nat),.string ⟨#[]⟩,.string ⟨#[]⟩,.int .i64 (f:Nat),.int .i64 (t:Nat),.int .i64 (p:Nat)],.pointer (some ⟨w4.heap.size,0,none⟩),.int .i64 (v:Nat),.int .i64 (n:Nat),.int .i64 (n:Nat),.bool false,.bool false,.pointer (some ⟨w4.heap.size,5,none⟩),.int .i64 (p:Nat),.bool true,.bool true,.pointer (some ⟨w4.heap.size,5,none⟩),.int .i64 (p:Nat),.bool false,.bool false,.bool false,undef]=y
  clear k0 k1 k2 k3 k4 k5 c0 c1 c2 c3 c4 c5 fr AD e1
  have T0:=Lib.hid (show StK w.heap.size w4.heap.size v (s.extract 6 (6+n)) (s.extract 22 (22+n)) f t p w (fun _=>false) (w4.alloc (.cells (keyC v ⟨#[]⟩ ⟨#[]⟩ f t p) 79)).drew from⟨M4.out,K4.out,B4.out.drew⟩)
  clear M4 K4 B4
  refine wp_region_inv (fun d a W=>∃ x:Nat→Value,a=frK w.heap.size w4.heap.size s n y x∧InvJ 12 (valK w4.heap.size s n) (StK w.heap.size w4.heap.size v (s.extract 6 (6+n)) (s.extract 22 (22+n)) f t p w) d x W) (by kernel_rfl) (by kernel_rfl) ?step ?done ?start
  case start=>exact⟨fun _=>undef,rfl,InvJ.start _ T0.out⟩
  case step=>
   rintro d a W i hi hd hall ⟨x,rfl,hI⟩
   replace hi:i<12:=hi
   have hst:=Lib.hid hI.st
   obtain rfl | rfl | rfl | rfl | rfl | rfl | rfl | rfl | rfl | rfl | rfl | rfl:i=0∨i=1∨i=2∨i=3∨i=4∨i=5∨i=6∨i=7∨i=8∨i=9∨i=10∨i=11:=by omega
   ·clear hall
    refine wpOp_step rfl (fun K hK=>?_)
    simp only[List.getElem_toArray,List.getElem_cons_zero]
    go_simp
    exact hK _ _ ⟨_,by simp[upv,valK],hI.yields 0 (hst.out.upd 0 (by omega) (by omega))⟩
   ·clear hall
    refine wpOp_step rfl (fun K hK=>?_)
    simp only[List.getElem_toArray,List.getElem_cons_zero,List.getElem_cons_succ]
    go_simp
    exact hK _ _ ⟨_,by simp[upv,valK],hI.yields 1 (hst.out.upd 1 (by omega) (by omega))⟩
   ·have h1:x 1=.int .i64 (n:Nat):=hI.pure 1 (by omega) (hall 1 (by kernel_rfl))
    clear hall
    refine wpOp_step rfl (fun K hK=>?_)
    simp only[List.getElem_toArray,List.getElem_cons_zero,List.getElem_cons_succ]
    go_simp
    exact hK _ _ ⟨_,by simp[upv,valK,h1],hI.yields 2 (hst.out.upd 2 (by omega) (by omega))⟩
   ·have h0:x 0=.string s:=hI.pure 0 (by omega) (hall 0 (by kernel_rfl))
    have h2:x 2=.int .i64 ((6+n:Nat):Int):=hI.pure 2 (by omega) (hall 2 (by kernel_rfl))
    have ES:(Instr.slice 9 (.string s) (some (.int .i64 6)) (some (.int .i64 (6+(n:Int)))) none).run Tryz.prog W=.ok (.string (s.extract 6 (6+n))) W:=cut_text s 6 n (by omega) W
    clear hall
    refine wpOp_step rfl (fun K hK=>?_)
    simp only[List.getElem_toArray,List.getElem_cons_zero,List.getElem_cons_succ]
    go_simp
    exact hK _ _ ⟨_,by simp[upv,valK,h0,h2],hI.yields 3 (hst.out.upd 3 (by omega) (by omega))⟩
   ·clear hall
    refine wpOp_step rfl (fun K hK=>?_)
    simp only[List.getElem_toArray,List.getElem_cons_zero,List.getElem_cons_succ]
    go_simp
    exact hK _ _ ⟨_,by simp[upv,valK],hI.yields 4 (hst.out.upd 4 (by omega) (by omega))⟩
   ·clear hall
    refine wpOp_step rfl (fun K hK=>?_)
    simp only[List.getElem_toArray,List.getElem_cons_zero,List.getElem_cons_succ]
    go_simp
    exact hK _ _ ⟨_,by simp[upv,valK],hI.yields 5 (hst.out.upd 5 (by omega) (by omega))⟩
   ·have h5:x 5=.int .i64 (n:Nat):=hI.pure 5 (by omega) (hall 5 (by kernel_rfl))
    clear hall
    refine wpOp_step rfl (fun K hK=>?_)
    simp only[List.getElem_toArray,List.getElem_cons_zero,List.getElem_cons_succ]
    go_simp
    exact hK _ _ ⟨_,by simp[upv,valK,h5],hI.yields 6 (hst.out.upd 6 (by omega) (by omega))⟩
   ·have h4:x 4=.string s:=hI.pure 4 (by omega) (hall 4 (by kernel_rfl))
    have h6:x 6=.int .i64 ((22+n:Nat):Int):=hI.pure 6 (by omega) (hall 6 (by kernel_rfl))
    have ES:(Instr.slice 9 (.string s) (some (.int .i64 22)) (some (.int .i64 (22+(n:Int)))) none).run Tryz.prog W=.ok (.string (s.extract 22 (22+n))) W:=cut_text s 22 n (by omega) W
    clear hall
    refine wpOp_step rfl (fun K hK=>?_)
    simp only[List.getElem_toArray,List.getElem_cons_zero,List.getElem_cons_succ]
    go_simp
    exact hK _ _ ⟨_,by simp[upv,valK,h4,h6],hI.yields 7 (hst.out.upd 7 (by omega) (by omega))⟩
   ·clear hall
    refine wpOp_step rfl (fun K hK=>?_)
    simp only[List.getElem_toArray,List.getElem_cons_zero,List.getElem_cons_succ]
    go_simp
    exact hK _ _ ⟨_,by simp[upv,valK],hI.yields 8 (hst.out.upd 8 (by omega) (by omega))⟩
   ·have h8:x 8=.pointer (some ⟨w4.heap.size,1,none⟩):=hI.pure 8 (by omega) (hall 8 (by kernel_rfl))
    have h3:x 3=.string (s.extract 6 (6+n)):=hI.pure 3 (by omega) (hall 3 (by kernel_rfl))
    obtain⟨_,m1,m2,_,_,_⟩:=hst.out.key.cells
    have fz:=hst.out.key.free 1
    clear hall
    refine wpOp_step rfl (fun K hK=>?_)
    simp only[List.getElem_toArray,List.getElem_cons_zero,List.getElem_cons_succ]
    go_simp
    exact hK _ _ ⟨_,by simp[upv,h8,h3],hI.yields 9 (hst.out.set9 (by omega) (by omega))⟩
   ·clear hall
    refine wpOp_step rfl (fun K hK=>?_)
    simp only[List.getElem_toArray,List.getElem_cons_zero,List.getElem_cons_succ]
    go_simp
    exact hK _ _ ⟨_,by simp[upv,valK],hI.yields 10 (hst.out.upd 10 (by omega) (by omega))⟩
   ·have h10:x 10=.pointer (some ⟨w4.heap.size,2,none⟩):=hI.pure 10 (by omega) (hall 10 (by kernel_rfl))
    have h7:x 7=.string (s.extract 22 (22+n)):=hI.pure 7 (by omega) (hall 7 (by kernel_rfl))
    obtain⟨_,m1,m2,_,_,_⟩:=hst.out.key.cells
    have fz:=hst.out.key.free 2
    clear hall
    refine wpOp_step rfl (fun K hK=>?_)
    simp only[List.getElem_toArray,List.getElem_cons_zero,List.getElem_cons_succ]
    go_simp
    exact hK _ _ ⟨_,by simp[upv,h10,h7],hI.yields 11 (hst.out.set11 (by omega) (by omega))⟩
  case done=>
   rintro d a W hall ⟨x,rfl,hI⟩
   replace hall:∀ i,i<12→d i=true:=hall
   have hkey:=hI.st.key
   rw[hall 9 (by omega),hall 11 (by omega),if_pos rfl,if_pos rfl] at hkey
   have hK:=Lib.hid hkey
   have hR:=Lib.hid hI.st.res
   have hB:=Lib.hid hI.st.below
   clear hI hall T0 hkey
   obtain⟨c0,c1,c2,c3,c4,c5⟩:=hK.out.cells
   obtain⟨k0,k1,k2,k3,k4,k5⟩:=hR.out.cells
   have fr:=hR.out.free
   go_wp2_with fail
   refine six_cells (C:=fun W'=>bodyPost _ _ _ _ _ W') hR.out ?_
   intro W6 hK6 hb6
   have B6:=Lib.hid (hB.out.trans hb6)
   clear hb6 k0 k1 k2 k3 k4 k5 c0 c1 c2 c3 c4 c5 fr hK hR hB
   obtain⟨k0,k1,k2,k3,k4,k5⟩:=hK6.cells
   exact bodyPost_ret (v:=.tuple #[keyV v (s.extract 6 (6+n)) (s.extract 22 (22+n)) f t p,.bool true]) (by simp[results,Tryz.results168,go_sem,k0,k1,k2,k3,k4,k5]) rfl ⟨rfl,B6.out⟩
end Go.Proofs.YtbamodkgagcmnaaGreat.Pkt
namespace Go.Proofs.YtbamodkgagcmnaaGreat.Pkt
open Go.RowKit Go.Shelf Txt Rgn
open Lib (byteCells)
def right (V:Int) (x y:ByteArray) (F T p:Int):Prop:=(V=4∧x.size=4∧y.size=4∨V=6∧x.size=16∧y.size=16)∧(p=6∨p=17)∧(0≤F∧F≤65535)∧(0≤T∧T≤65535)
def recS (V:Int) (x y:ByteArray) (F T p:Int):ByteArray:=Oct.str (recL V x y F T p)
section
variable (V:Int) (x y:ByteArray) (F T p:Int)
theorem nums_list:nums V F T p=[UInt8.ofNat (low V),UInt8.ofNat (low p),UInt8.ofNat (low F / 256),UInt8.ofNat (low F),UInt8.ofNat (low T / 256),UInt8.ofNat (low T)]:=rfl
theorem recS_list:(recS V x y F T p).data.toList=recL V x y F T p:=rfl
theorem recS_size:(recS V x y F T p).size=38:=by rw[← len_list,recS_list,recL_length]
theorem recS_nums:gv (recS V x y F T p) 0 1=low V % 256∧gv (recS V x y F T p) 1 1=low p % 256∧gv (recS V x y F T p) 2 2=low F % 65536∧gv (recS V x y F T p) 4 2=low T % 65536:=by
 unfold gv
 rw[recS_list]
 unfold recL
 rw[nums_list]
 refine⟨?_,?_,?_,?_⟩
 ·simp[Oct.num]
 ·simp[Oct.num]
 ·simp[Oct.num]; omega
 ·simp[Oct.num]; omega
theorem recS_src (h:x.size≤16):(recS V x y F T p).extract 6 (6+x.size)=x:=by
 refine ba_ext ?_
 rw[ext_list,recS_list]
 unfold recL
 rw[List.drop_append,nums_length,List.drop_eq_nil_of_le (by rw[nums_length]; omega),List.nil_append,Nat.sub_self,List.drop_zero,Nat.add_sub_cancel_left,pad_short _ _ (by rw[len_list]; exact h),List.append_assoc,
  List.take_append_of_le_length (by rw[len_list]; omega),List.take_of_length_le (by rw[len_list]; omega)]
theorem recS_dst (h:y.size≤16):(recS V x y F T p).extract 22 (22+y.size)=y:=by
 refine ba_ext ?_
 rw[ext_list,recS_list]
 unfold recL
 rw[← List.append_assoc,List.drop_append,List.drop_eq_nil_of_le (by simp[nums_length,pad_length]),List.nil_append,List.length_append,nums_length,pad_length,Nat.sub_self,List.drop_zero,Nat.add_sub_cancel_left,pad_short _ _ (by rw[len_list]; exact h),
  List.take_append_of_le_length (by rw[len_list]; omega),List.take_of_length_le (by rw[len_list]; omega)]
variable {V x y F T p}
theorem low_is {v:Int} (h:0≤v) (h2:v≤65535):low v=v.toNat:=by unfold low; omega
theorem right_told (h:right V x y F T p):okR (recS V x y F T p)∧((gv (recS V x y F T p) 0 1:Nat):Int)=V∧((gv (recS V x y F T p) 1 1:Nat):Int)=p∧((gv (recS V x y F T p) 2 2:Nat):Int)=F∧((gv (recS V x y F T p) 4 2:Nat):Int)=T:=by
 obtain⟨h1,h2,h3,h4⟩:=h
 obtain⟨e0,e1,e2,e3⟩:=recS_nums V x y F T p
 have a0:low V=V.toNat:=low_is (by omega) (by omega)
 have a1:low p=p.toNat:=low_is (by omega) (by omega)
 rw[a0] at e0
 rw[a1] at e1
 rw[low_is h3.1 h3.2] at e2
 rw[low_is h4.1 h4.2] at e3
 refine⟨⟨?_,?_⟩,?_,?_,?_,?_⟩
 ·show gv _ 0 1=4∨gv _ 0 1=6
  omega
 ·show gv _ 1 1=6∨gv _ 1 1=17
  omega
 ·omega
 ·omega
 ·omega
 ·omega
theorem right_size (h:right V x y F T p):x.size=addr V∧y.size=addr V∧1≤addr V∧addr V≤16:=by
 unfold addr
 rcases h.1 with⟨e,h1,h2⟩ | ⟨e,h1,h2⟩
 ·rw[if_pos e]; omega
 ·rw[if_neg (by omega),if_pos e]; omega
end
theorem text_cmp (x y:ByteArray):(x.toList == y.toList)=decide (x=y):=by
 rw[ByteArray.toList_eq,ByteArray.toList_eq]
 by_cases e:x=y
 ·rw[e,decide_eq_true rfl]; exact beq_self_eq_true _
 ·rw[decide_eq_false e]; exact beq_false_of_ne fun h=>e (ba_ext h)
theorem key_cmp (V:Int) (x y:ByteArray) (F T p V':Int) (x' y':ByteArray) (F' T' p':Int) (b:Bool) (h:(V=V'∧x=x'∧y=y'∧F=F'∧T=T'∧p=p')↔b=true) (W:World):
 (Op.equalIn 10000 79 (keyV V x y F T p) (keyV V' x' y' F' T' p')).run Tryz.prog W=.ok b W:=by
 have hx:=text_cmp x x'
 have hy:=text_cmp y y'
 go_simp
 cases b <;> (repeat' split) <;> simp_all
abbrev pktC (V:Int) (x y:ByteArray) (F T p f:Int):Array Value:=#[.int .i64 V,.string x,.string y,.int .i64 F,.int .i64 T,.int .i64 p,.int .i64 f]
abbrev pktV (V:Int) (x y:ByteArray) (F T p f:Int):Value:=.agg (pktC V x y F T p f)
end Go.Proofs.YtbamodkgagcmnaaGreat.Pkt
namespace Go.Proofs.YtbamodkgagcmnaaGreat.Pkt
open Go.RowKit Go.Shelf Txt Rgn
open Lib (byteCells)
theorem grown_below {w W:World} {b B:Nat} (h:w.grownBy W (some b)) (hB:B≤b) (hB2:B≤w.heap.size):Below B w W:=
 ⟨h.os,h.tape,h.output,h.size,fun k hk=>h.block k (by omega) (fun e=>by cases e; omega)⟩
theorem Keyed.grown {W W':World} {b k:Nat} {V:Int} {x y:ByteArray} {F T p:Int} (h:Keyed W k V x y F T p) (hg:W.grownBy W' (some b)) (hn:k≠b):Keyed W' k V x y F T p:=
 (hg.block k (Array.getElem?_eq_some_iff.1 h).1 (fun e=>hn (by cases e; rfl))).trans h
theorem rec_new (W:World):Rec (W.alloc (.cells (byteCells (List.replicate 38 0)).toArray 241)) W.heap.size (List.replicate 38 0):=World.alloc_heap_new W _
theorem key_right (b:Nat) (V:Int) (x y:ByteArray) (F T p:Int) (h:right V x y F T p) (W:World) (hR:Rec W b (recL V x y F T p)):
 Calls Tryz.prog 168 #[.pointer (some ⟨b,0,none⟩)] W fun e W'=>e=.returned (.tuple #[keyV V x y F T p,.bool true])∧Below W.heap.size W W':=by
 obtain⟨hok,t0,t1,t2,t3⟩:=right_told h
 have sz:=right_size h
 have es:=recS_src V x y F T p (by omega)
 have ed:=recS_dst V x y F T p (by omega)
 rw[sz.1] at es
 rw[sz.2.1] at ed
 have:=key_good b (recL V x y F T p) (recL_length ..) hok (addr V) (show addr ((gv (recS V x y F T p) 0 1:Nat):Int)=addr V by rw[t0]) sz.2.2.1 sz.2.2.2 W hR
 change Calls _ _ _ _ fun e W'=>e=.returned (.tuple #[keyV (gv (recS V x y F T p) 0 1:Nat) ((recS V x y F T p).extract 6 (6+addr V)) ((recS V x y F T p).extract 22 (22+addr V)) (gv (recS V x y F T p) 2 2:Nat) (gv (recS V x y F T p) 4 2:Nat) (gv (recS V x y F T p) 1 1:Nat),.bool true])∧_ at this
 rwa [t0,t1,t2,t3,es,ed] at this
def bytesV (ok:Bool) (s:ByteArray):Value:=match ok with
 | true=>.tuple #[.string s,.bool true]
 | false=>.tuple #[.string ⟨#[]⟩,.bool false]
set_option maxRecDepth 100000 in
set_option maxHeartbeats 2000000 in
theorem Bytes_gen (V:Int) (x y:ByteArray) (F T p V':Int) (x' y':ByteArray) (F' T' p':Int) (ok:Bool)
 (hk:∀ b W,Rec W b (recL V x y F T p)→Calls Tryz.prog 168 #[.pointer (some ⟨b,0,none⟩)] W fun e W'=>e=.returned (.tuple #[keyV V' x' y' F' T' p',.bool ok])∧Below W.heap.size W W')
 (same:Bool) (hs:(V'=V∧x'=x∧y'=y∧F'=F∧T'=T∧p'=p)↔same=true) (w:World):
 Calls Tryz.prog 130 #[keyV V x y F T p] w fun e W'=>e=.returned (bytesV (ok && same) (recS V x y F T p))∧Below w.heap.size w W':=by
 have K1:=(keyed_new w V x y F T p).alloc (.cells (byteCells (List.replicate 38 0)).toArray 241)
 have R1:=rec_new (w.alloc (.cells (keyC V x y F T p) 79))
 rw[World.size_alloc] at R1
 have B1:=(below_alloc w (.cells (keyC V x y F T p) 79)).alloc (by simp) (.cells (byteCells (List.replicate 38 0)).toArray 241)
 have P1:=Lib.hid (put_any (w.heap.size+1) (List.replicate 38 0) (by simp) V x y F T p _ R1)
 have HK1:=Lib.hid K1
 have HB1:=Lib.hid B1
 have HK:=Lib.hid (hk (w.heap.size+1))
 clear K1 R1 B1 hk
 have CC:=key_cmp V' x' y' F' T' p' V x y F T p same hs
 clear hs
 go_enter Tryz.func130,Tryz.ntmps130
 go_wp2_with fail
 refine P1.out.mono ?_
 rintro e w3 ⟨rfl,hR3,hG3⟩
 have B3:=Lib.hid (HB1.out.trans (grown_below hG3 (by omega) (by simp; omega)))
 have K3:=Lib.hid (HK1.out.grown hG3 (by omega))
 have R3:=Lib.hid hR3
 clear hR3 hG3 P1 HK1 HB1
 go_wp2_with fail
 refine (HK.out _ R3.out).mono ?_
 rintro e w4 ⟨rfl,hb4⟩
 have B4:=Lib.hid (below2 B3.out hb4)
 obtain⟨k0,k1,k2,k3,k4,k5⟩:=(K3.out.kept hb4).alloc (.cells (keyC V' x' y' F' T' p') 79) |>.cells
 have hR4:=(R3.out.kept hb4).kept (below_alloc w4 (.cells (keyC V' x' y' F' T' p') 79))
 have e4:=run_text _ _ _ hR4 (recL_length ..)
 clear hb4 B3 K3 R3 HK hR4
 have BL:=Lib.hid (below2 B4.out (below_alloc w4 (.cells (keyC V' x' y' F' T' p') 79)))
 clear B4
 cases ok with
 | false=>
   go_wp2_with fail
   exact bodyPost_ret (v:=.tuple #[.string ⟨#[]⟩,.bool false]) (by simp[results,Tryz.results130,go_sem]) rfl ⟨rfl,BL.out⟩
 | true=>
   cases same with
   | false=>
     go_wp2_with fail
     exact bodyPost_ret (v:=.tuple #[.string ⟨#[]⟩,.bool false]) (by simp[results,Tryz.results130,go_sem]) rfl ⟨rfl,BL.out⟩
   | true=>
     go_wp2_with fail
     exact bodyPost_ret (v:=.tuple #[.string (Oct.str (recL V x y F T p)),.bool true]) (by simp[results,Tryz.results130,go_sem]) rfl ⟨rfl,BL.out⟩
theorem Bytes_yes (V:Int) (x y:ByteArray) (F T p:Int) (h:right V x y F T p) (w:World):
 Calls Tryz.prog 130 #[keyV V x y F T p] w fun e W'=>e=.returned (.tuple #[.string (recS V x y F T p),.bool true])∧Below w.heap.size w W':=
 Bytes_gen V x y F T p V x y F T p true (fun b W hR=>key_right b V x y F T p h W hR) true (by simp) w
end Go.Proofs.YtbamodkgagcmnaaGreat.Pkt
