/-
  Pools: the document's answer (package gangplankref08), all other calls.
-/
import Derived.Test.YtbamodkgagcmnaaGreatPolRefpE
import Derived.BigQuiet
import Derived.WalkSmall
set_option maxRecDepth 100000
namespace Go.Proofs.YtbamodkgagcmnaaGreat.Pol
open Go.RowKit Go.Shelf Rgn
set_option maxRecDepth 100000 in
set_option maxHeartbeats 4000000 in
theorem refSame_any (a:Option Addr) (cap:Nat) (bs:List Bk) (a':Option Addr) (cap':Nat) (bs':List Bk) (c:Bool) (hc:bs=bs'↔c=true) (w:World) (h:Lies w a cap bs) (h':Lies w a' cap' bs'):
 Calls Tryz.prog 19 #[polV a cap bs,polV a' cap' bs'] w fun e W'=>e=.returned (.bool c)∧Below w.heap.size w W':=by
 have H:=Lib.hid h
 have H':=Lib.hid h'
 have HC:=Lib.hid hc
 have hlen:=h.len
 have hmax:=h.max
 have hlen':=h'.len
 have hmax':=h'.max
 unfold maxLen at hmax hmax'
 clear h h' hc
 by_cases hL:bs.length=bs'.length
 ·have e0:((bs.length:Int) != (bs'.length:Int))=false:=by simp[hL]
  have HL:=Lib.hid hL
  clear hL
  go_enter Tryz.func19,Tryz.ntmps19
  go_wp2
  go_loopw [5] (fun i W=>∃ k:Nat,k≤bs.length∧i=.int .i64 k∧(∀ j,j<k→bs[j]? =bs'[j]?)∧Below w.heap.size w W) (fun i _=>bs.length - (intOf i).toNat)
  case atStart=>exact⟨0,Nat.zero_le _,rfl,fun j hj=>absurd hj (by omega),Below.refl _ _⟩
  case round=>
   obtain⟨k,hk,rfl,hno,hB⟩:=hrel
   have HN:=Lib.hid hno
   have HB:=Lib.hid hB
   clear hno hB
   by_cases hlt:k<bs.length
   ·obtain⟨b,off,rfl,c0,c1⟩:=(H.out.kept HB.out).at hlt
    have hlt':k<bs'.length:=HL.out ▸ hlt
    obtain⟨b',off',rfl,c0',c1'⟩:=(H'.out.kept HB.out).at hlt'
    have HI:=Lib.hid (show bs[k]? =some bs[k] from List.getElem?_eq_getElem hlt)
    have HI':=Lib.hid (show bs'[k]? =some bs'[k] from List.getElem?_eq_getElem hlt')
    generalize bs[k]=x at *
    generalize bs'[k]=y at *
    by_cases hx:x=y
    ·have CC:=bk_cmp x y true (by simp[hx])
     have HE:=Lib.hid (show bs[k]? =bs'[k]? by rw[HI.out,HI'.out,hx])
     clear hx
     go_wp2_with fail
     go_quiet (fail)
     have HB2:=Lib.hid (below_drewN HB.out nq)
     go_wp2
     refine⟨⟨k+1,by omega,by go_num,fun j hj=>?_,HB2.out⟩,by simp[intOf]; omega⟩
     by_cases e:j=k
     ·subst e; exact HE.out
     ·exact HN.out j (by omega)
    ·have CC:=bk_cmp x y false (by simp[hx])
     have HF:=Lib.hid (show c=false by
      cases c with
      | false=>rfl
      | true=>
        have e:=HC.out.2 rfl
        have h1:=HI.out
        rw[e,HI'.out] at h1
        cases h1; exact absurd rfl hx)
     clear hx
     go_wp2_with fail
     go_quiet (fail)
     have HB2:=Lib.hid (below_drewN HB.out nq)
     go_wp2
     go_ret
     exact⟨by rw[HF.out]; rfl,HB2.out⟩
   ·have HF:=Lib.hid (HC.out.1 (by
     apply List.ext_getElem?
     intro j
     by_cases hj:j<bs.length
     ·exact HN.out j (by omega)
     ·rw[List.getElem?_eq_none (by omega),List.getElem?_eq_none (by rw[← HL.out]; omega)]))
    go_wp2
    go_ret
    exact⟨by rw[HF.out]; rfl,HB.out⟩
 ·have e0:((bs.length:Int) != (bs'.length:Int))=true:=bne_iff_ne.2 (by omega)
  have HF:=Lib.hid (show c=false by
   cases c with
   | false=>rfl
   | true=>exact absurd (congrArg List.length (HC.out.2 rfl)) hL)
  clear hL
  go_enter Tryz.func19,Tryz.ntmps19
  go_wp2
  go_ret
  exact⟨by rw[HF.out]; rfl,Below.refl _ _⟩
end Go.Proofs.YtbamodkgagcmnaaGreat.Pol
