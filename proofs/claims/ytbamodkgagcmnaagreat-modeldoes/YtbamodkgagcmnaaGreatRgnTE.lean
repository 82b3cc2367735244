/-
  The invariant of a region that hands a struct of three cells to a variable of its own.
-/
import Derived.Test.YtbamodkgagcmnaaGreatBRgnE
set_option maxRecDepth 100000
namespace Go.Proofs.YtbamodkgagcmnaaGreat.Rgn
open Go Go.RowKit
def Cells3 (v0 v1 v2:Value) (w:World) (b:Nat):Prop:=w.cell? ⟨b,0,none⟩=some v0∧w.cell? ⟨b,1,none⟩=some v1∧w.cell? ⟨b,2,none⟩=some v2∧∀ i,w.frozen? ⟨b,i,none⟩=false
theorem Cells3.lt {v0 v1 v2:Value} {w:World} {b:Nat} (h:Cells3 v0 v1 v2 w b):b<w.heap.size:=World.block_lt_of_cell? w _ h.1
theorem Cells3.below {v0 v1 v2:Value} {w w':World} {b:Nat} (h:Cells3 v0 v1 v2 w b) (hb:Below w.heap.size w w'):Cells3 v0 v1 v2 w' b:=
 ⟨(hb.cell (p:=⟨b,0,none⟩) h.lt).trans h.1,(hb.cell (p:=⟨b,1,none⟩) h.lt).trans h.2.1,(hb.cell (p:=⟨b,2,none⟩) h.lt).trans h.2.2.1,fun i=>(hb.frozen (p:=⟨b,i,none⟩) h.lt).trans (h.2.2.2 i)⟩
theorem cells3_of {W:World} {b T:Nat} {v0 v1 v2:Value} (h:W.heap[b]? =some (.cells #[v0,v1,v2] T (0,0))):Cells3 v0 v1 v2 W b:=
 ⟨by simp[World.cell?,h],by simp[World.cell?,h],by simp[World.cell?,h],fun i=>by simp[World.frozen?,h]⟩
theorem Cells3.new (w:World) (v0 v1 v2:Value) (T:TypeId):Cells3 v0 v1 v2 (w.alloc (.cells #[v0,v1,v2] T)) w.heap.size:=by
 exact cells3_of (World.alloc_heap_new w (.cells #[v0,v1,v2] T))
theorem Cells3.again {v0 v1 v2:Value} {w:World} {b:Nat} (h:Cells3 v0 v1 v2 w b):Cells3 v0 v1 v2 (((w.setCell ⟨b,0,none⟩ v0).setCell ⟨b,1,none⟩ v1).setCell ⟨b,2,none⟩ v2) b:=by
 obtain⟨h0,h1,h2,hf⟩:=h
 have e0:(w.setCell ⟨b,0,none⟩ v0).cell? ⟨b,1,none⟩=some v1:=(World.cell?_setCell_other _ _ _ _ (by simp)).trans h1
 have e1:(w.setCell ⟨b,0,none⟩ v0).cell? ⟨b,2,none⟩=some v2:=(World.cell?_setCell_other _ _ _ _ (by simp)).trans h2
 have e2:((w.setCell ⟨b,0,none⟩ v0).setCell ⟨b,1,none⟩ v1).cell? ⟨b,2,none⟩=some v2:=(World.cell?_setCell_other _ _ _ _ (by simp)).trans e1
 refine⟨?_,?_,?_,fun i=>?_⟩
 ·exact (World.cell?_setCell_other _ _ _ _ (by simp)).trans ((World.cell?_setCell_other _ _ _ _ (by simp)).trans (World.cell?_setCell_same' _ _ _ (by rw[h0]; rfl)))
 ·exact (World.cell?_setCell_other _ _ _ _ (by simp)).trans (World.cell?_setCell_same' _ _ _ (by rw[e0]; rfl))
 ·exact World.cell?_setCell_same' _ _ _ (by rw[e2]; rfl)
 ·rw[World.frozen?_setCell,World.frozen?_setCell,World.frozen?_setCell]; exact hf i
structure InvH (al st:Nat) (W:World) (v0 v1 v2:Value) (vals:Nat→Value) (d:Nat→Bool) (x:Nat→Value) (b:Nat) (w:World):Prop where
 below:Below W.heap.size W w
 pure:∀ i,i≠al→i≠st→d i=true→x i=vals i
 cell:d al=true→x al=.pointer (some ⟨b,0,none⟩)∧W.heap.size≤b∧Cells3 v0 v1 v2 w b
section
variable {al st:Nat} {W w:World} {v0 v1 v2:Value} {vals:Nat→Value} {d:Nat→Bool} {x:Nat→Value} {b:Nat}
theorem InvH.start (w:World) (x:Nat→Value) (b:Nat) (h:Below W.heap.size W w):InvH al st W v0 v1 v2 vals (fun _=>false) x b w:=
 ⟨h,fun _ _ _ h=>(by cases h),fun h=>(by cases h)⟩
theorem InvH.yields (h:InvH al st W v0 v1 v2 vals d x b w) {i:Nat} (h1:i≠al) {w':World} (hb:Below w.heap.size w w'):InvH al st W v0 v1 v2 vals (upd d i) (upv x i (vals i)) b w' where
 below:=h.below.trans (hb.mono h.below.size)
 pure j ha hs hd:=by
  by_cases e:j=i
  ·subst e; rw[upv_same]
  ·rw[upv_other x _ e]; rw[upd_other d e] at hd; exact h.pure j ha hs hd
 cell hd:=by
  rw[upd_other d (Ne.symm h1)] at hd
  rw[upv_other x _ (Ne.symm h1)]
  obtain⟨a1,a2,a3⟩:=h.cell hd
  exact⟨a1,a2,a3.below hb⟩
theorem InvH.makes (h:InvH al st W v0 v1 v2 vals d x b w) (T:TypeId):InvH al st W v0 v1 v2 vals (upd d al) (upv x al (.pointer (some ⟨w.heap.size,0,none⟩))) w.heap.size (w.alloc (.cells #[v0,v1,v2] T)) where
 below:=h.below.alloc h.below.size _
 pure j ha hs hd:=by
  rw[upd_other d ha] at hd; rw[upv_other x _ ha]; exact h.pure j ha hs hd
 cell _:=by
  rw[upv_same]
  exact⟨rfl,h.below.size,Cells3.new _ _ _ _ _⟩
theorem InvH.lays (h:InvH al st W v0 v1 v2 vals d x b w) (hne:al≠st) (hd:d al=true):InvH al st W v0 v1 v2 vals (upd d st) x b (((w.setCell ⟨b,0,none⟩ v0).setCell ⟨b,1,none⟩ v1).setCell ⟨b,2,none⟩ v2) where
 below:=((h.below.setCell (p:=⟨b,0,none⟩) (h.cell hd).2.1 _).setCell (p:=⟨b,1,none⟩) (h.cell hd).2.1 _).setCell (p:=⟨b,2,none⟩) (h.cell hd).2.1 _
 pure j ha hs hdj:=by
  rw[upd_other d hs] at hdj; exact h.pure j ha hs hdj
 cell hdj:=by
  rw[upd_other d hne] at hdj
  obtain⟨a1,a2,a3⟩:=h.cell hdj
  exact⟨a1,a2,a3.again⟩
end
end Go.Proofs.YtbamodkgagcmnaaGreat.Rgn
set_option maxRecDepth 100000
namespace Go.Proofs.YtbamodkgagcmnaaGreat.Rgn
open Go Go.RowKit
theorem Cells3.laid {u0 u1 u2:Value} (v0 v1 v2:Value) {w:World} {b:Nat} (h:Cells3 u0 u1 u2 w b):Cells3 v0 v1 v2 (((w.setCell ⟨b,0,none⟩ v0).setCell ⟨b,1,none⟩ v1).setCell ⟨b,2,none⟩ v2) b:=by
 obtain⟨h0,h1,h2,hf⟩:=h
 have e0:(w.setCell ⟨b,0,none⟩ v0).cell? ⟨b,1,none⟩=some u1:=(World.cell?_setCell_other _ _ _ _ (by simp)).trans h1
 have e1:(w.setCell ⟨b,0,none⟩ v0).cell? ⟨b,2,none⟩=some u2:=(World.cell?_setCell_other _ _ _ _ (by simp)).trans h2
 have e2:((w.setCell ⟨b,0,none⟩ v0).setCell ⟨b,1,none⟩ v1).cell? ⟨b,2,none⟩=some u2:=(World.cell?_setCell_other _ _ _ _ (by simp)).trans e1
 refine⟨?_,?_,?_,fun i=>?_⟩
 ·exact (World.cell?_setCell_other _ _ _ _ (by simp)).trans ((World.cell?_setCell_other _ _ _ _ (by simp)).trans (World.cell?_setCell_same' _ _ _ (by rw[h0]; rfl)))
 ·exact (World.cell?_setCell_other _ _ _ _ (by simp)).trans (World.cell?_setCell_same' _ _ _ (by rw[e0]; rfl))
 ·exact World.cell?_setCell_same' _ _ _ (by rw[e2]; rfl)
 ·rw[World.frozen?_setCell,World.frozen?_setCell,World.frozen?_setCell]; exact hf i
structure InvT (al st:Nat) (W:World) (z0 z1 z2 v0 v1 v2:Value) (vals:Nat→Value) (d:Nat→Bool) (x:Nat→Value) (b:Nat) (w:World):Prop where
 below:Below W.heap.size W w
 pure:∀ i,i≠al→i≠st→d i=true→x i=vals i
 order:d st=true→d al=true
 cell:d al=true→x al=.pointer (some ⟨b,0,none⟩)∧W.heap.size≤b∧(d st=false→Cells3 z0 z1 z2 w b)∧(d st=true→Cells3 v0 v1 v2 w b)
section
variable {al st:Nat} {W w:World} {z0 z1 z2 v0 v1 v2:Value} {vals:Nat→Value} {d:Nat→Bool} {x:Nat→Value} {b:Nat}
theorem InvT.start (w:World) (x:Nat→Value) (b:Nat) (h:Below W.heap.size W w):InvT al st W z0 z1 z2 v0 v1 v2 vals (fun _=>false) x b w:=
 ⟨h,fun _ _ _ h=>(by cases h),fun h=>(by cases h),fun h=>(by cases h)⟩
theorem InvT.yields (h:InvT al st W z0 z1 z2 v0 v1 v2 vals d x b w) {i:Nat} (h1:i≠al) (h2:i≠st) {w':World} (hb:Below w.heap.size w w'):InvT al st W z0 z1 z2 v0 v1 v2 vals (upd d i) (upv x i (vals i)) b w' where
 below:=h.below.trans (hb.mono h.below.size)
 pure j ha hs hd:=by
  by_cases e:j=i
  ·subst e; rw[upv_same]
  ·rw[upv_other x _ e]; rw[upd_other d e] at hd; exact h.pure j ha hs hd
 order hd:=by
  rw[upd_other d (Ne.symm h2)] at hd; rw[upd_other d (Ne.symm h1)]; exact h.order hd
 cell hd:=by
  rw[upd_other d (Ne.symm h1)] at hd
  rw[upv_other x _ (Ne.symm h1),upd_other d (Ne.symm h2)]
  obtain⟨a1,a2,a3,a4⟩:=h.cell hd
  exact⟨a1,a2,fun e=>(a3 e).below hb,fun e=>(a4 e).below hb⟩
theorem InvT.makes (h:InvT al st W z0 z1 z2 v0 v1 v2 vals d x b w) (hne:al≠st) (hd:d al=false) (T:TypeId):InvT al st W z0 z1 z2 v0 v1 v2 vals (upd d al) (upv x al (.pointer (some ⟨w.heap.size,0,none⟩))) w.heap.size (w.alloc (.cells #[z0,z1,z2] T)) where
 below:=h.below.alloc h.below.size _
 pure j ha hs hd:=by
  rw[upd_other d ha] at hd; rw[upv_other x _ ha]; exact h.pure j ha hs hd
 order _:=upd_same _ _
 cell _:=by
  rw[upv_same,upd_other d (Ne.symm hne)]
  refine⟨rfl,h.below.size,fun _=>Cells3.new _ _ _ _ _,fun e=>?_⟩
  rw[h.order e] at hd; cases hd
theorem InvT.lays (h:InvT al st W z0 z1 z2 v0 v1 v2 vals d x b w) (hne:al≠st) (hd:d al=true) (hs:d st=false):InvT al st W z0 z1 z2 v0 v1 v2 vals (upd d st) x b (((w.setCell ⟨b,0,none⟩ v0).setCell ⟨b,1,none⟩ v1).setCell ⟨b,2,none⟩ v2) where
 below:=((h.below.setCell (p:=⟨b,0,none⟩) (h.cell hd).2.1 _).setCell (p:=⟨b,1,none⟩) (h.cell hd).2.1 _).setCell (p:=⟨b,2,none⟩) (h.cell hd).2.1 _
 pure j ha hs hdj:=by
  rw[upd_other d hs] at hdj; exact h.pure j ha hs hdj
 order _:=by rw[upd_other d hne]; exact hd
 cell hdj:=by
  rw[upd_other d hne] at hdj
  rw[upd_same]
  obtain⟨a1,a2,a3,_⟩:=h.cell hdj
  exact⟨a1,a2,fun e=>(by cases e),fun _=>(a3 hs).laid _ _ _⟩
end
end Go.Proofs.YtbamodkgagcmnaaGreat.Rgn
