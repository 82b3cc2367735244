/-
  The document's answer for flows (package gangplankref12): Delete.
-/
import Derived.Test.YtbamodkgagcmnaaGreatBFlrE
import Derived.Test.YtbamodkgagcmnaaGreatMdlRE
import Derived.Test.YtbamodkgagcmnaaGreatPolRefpE
import Derived.Test.YtbamodkgagcmnaaGreatBPrfE
import Derived.Test.YtbamodkgagcmnaaGreatBFnvE
import Derived.Test.YtbamodkgagcmnaaGreatRinCqE
set_option maxRecDepth 100000
namespace Go.Proofs.YtbamodkgagcmnaaGreat.Flo
open Go.RowKit Go.Shelf RowG Tab Prb
set_option maxHeartbeats 400000 in
theorem refDelete_any (a:Option Addr) (cap:Nat) (T:List Ent) (k:ByteArray) (w:World) (hT:Lies entK w a cap T) (hk:k.size≤4611686018427387904) (hTk:∀ x ∈ T,x.key.size≤4611686018427387904) (hl:T.length≤1000000000000):
 Calls Tryz.prog 63 #[rowV a cap T,.string k] w fun e W'=>∃ v,e=.returned (.tuple #[v,.bool (find home T k).isSome])∧Gives W' v (delT T k)∧Below w.heap.size w W':=by
 have F:=Lib.hid (refFind_any a cap T k w hT hk (by omega))
 have C:=Lib.hid (fun q=>refBury_any a cap T q w hT hl)
 have HT:=Lib.hid hT
 clear hT
 go_enter Tryz.func63,Tryz.ntmps63
 go_wp2_with fail
 refine F.out.mono ?_
 rintro e w1 ⟨rfl,rfl⟩
 cases hf:find home T k with
 | none=>
   have HD:=Lib.hid (show delT T k=T by unfold delT; rw[hf])
   have HF:=Lib.hid hf
   rw[show zOf none= -1 from rfl]
   clear hf F
   go_wp2_with fail
   refine bodyPost_ret (v:=.tuple #[rowV a cap T,.bool false]) (by simp[results,Tryz.results63,go_sem]) rfl ?_
   exact⟨_,by rw[HF.out]; rfl,by rw[HD.out]; exact⟨_,_,rfl,HT.out⟩,Below.refl _ _⟩
 | some q=>
   have HD:=Lib.hid (show delT T k=settleC (T.set q tomb) by unfold delT; rw[hf])
   have HF:=Lib.hid hf
   have HK:=Lib.hid (show ∀ x ∈ T.set q tomb,x.key.size≤4611686018427387904 from laid_keys (x:=tomb) (o:=some q) hTk (by show 0≤_; omega))
   have hUl:(T.set q tomb).length≤1000000000000:=by rw[List.length_set]; exact hl
   rw[show zOf (some q)=(q:Int) from rfl]
   have d0:decide ((q:Int)<0)=false:=decide_eq_false (by omega)
   clear hf F
   go_wp2_with fail
   refine (C.out q).mono ?_
   rintro e w2 ⟨v,rfl,hg,hb⟩
   have HB:=Lib.hid hb
   generalize T.set q tomb=U at *
   obtain⟨a1,cap1,rfl,hl1⟩:=hg
   have TT:=Lib.hid (refSettle_any a1 cap1 U w2 hl1 HK.out hUl)
   clear hb hl1
   go_wp2_with fail
   refine TT.out.mono ?_
   rintro e w4 ⟨v4,rfl,hgv,hb4⟩
   have G4:=Lib.hid hgv
   have B4:=Lib.hid (below2 HB.out hb4)
   obtain⟨a4,cap4,rfl,-⟩:=hgv
   clear hb4
   go_wp2_with fail
   refine bodyPost_ret (v:=.tuple #[rowV a4 cap4 (settleC U),.bool true]) (by simp[results,Tryz.results63,go_sem]) rfl ?_
   exact⟨_,by rw[HF.out]; rfl,by rw[HD.out]; exact G4.out,B4.out⟩
end Go.Proofs.YtbamodkgagcmnaaGreat.Flo
set_option maxRecDepth 100000
namespace Go.Proofs.YtbamodkgagcmnaaGreat.Mdl
open Go.RowKit Go.Shelf RowG Trn
open Pol (polV chk)
open Prb (home)
open Tab (Ent)
open Go.Proofs.YtbamodkgagcmnaaGreat.Mod (Bk Ans ansV deals hasId Asked shardZ)
theorem asked_of {a:Option Addr} {cap:Nat} {T:List Ent} {pa:Option Addr} {pc:Nat} {P:List Bk} {k:ByteArray} {w:World} (hT:Lies entK w a cap T) (hP:Pol.Lies w pa pc P) (hk:k.size≤60) (hs:Flo.Short 60 T) (hl:T.length≤64) (hPl:P.length≤1000000):Asked home a cap T pa pc P k w (hashN k) (fun id=>Pol.find P id 0) (pickK P k) where
 tab:=hT
 find:=fun W hb=>(Prb.refFind_any a cap T k W (hT.kept hb) (by omega) (by omega)).mono fun _ _ ⟨h1,h2⟩=>⟨h1,h2.symm⟩
 has:=fun id W hb=>(Pol.refFind_any pa pc P id W (hP.kept hb)).mono fun _ _ ⟨h1,h2⟩=>⟨h1,h2.symm⟩
 is:=fun id=>(has_find P id 0).symm
 sum:=fun W _=>(Fnv.refSum_any k W (by omega)).mono fun _ _ ⟨h1,h2⟩=>⟨h1,h2.symm⟩
 pick:=fun W hb=>Rin.refPick_any pa pc P (hashN k:Nat) W (hP.kept hb) hPl
 del:=fun W hb=>(Flo.refDelete_any a cap T k W (hT.kept hb) (by omega) (fun x hx=>by have:=hs x hx; omega) (by omega)).mono fun _ _ ⟨v,h1,h2,h3⟩=>⟨v,_,h1,by rw[← del_is hl]; exact tab_gives h2,h3⟩
 put:=fun id dl W hb=>(Flo.refPut_any a cap T k id dl W (hT.kept hb) (by omega) (by omega)).mono fun _ _ ⟨v,h1,h2,h3⟩=>by
  rcases put_is T k id dl with⟨U,e1,e2,e3⟩ | ⟨e1,e2,e3⟩
  ·exact⟨v,by rw[h1,e3,e1]; rfl,by rw[e1]; rw[e2] at h2; exact tab_gives h2,h3⟩
  ·exact⟨v,by rw[h1,e3,e1]; rfl,by rw[e1]; rw[e2] at h2; exact tab_gives h2,h3⟩
theorem refdecide_told {a:Option Addr} {cap:Nat} {T:List Ent} {pa:Option Addr} {pc:Nat} {P:List Bk} {k:ByteArray} {w:World} (c:Bool) (now idle:Int) (hT:Lies entK w a cap T) (hP:Pol.Lies w pa pc P) (hk:k.size≤60) (hs:Flo.Short 60 T) (hl:T.length≤64) (hPl:P.length≤1000000):
 Calls Tryz.prog 25 #[rowV a cap T,polV pa pc P,.string k,.bool c,.int .i64 now,.int .i64 idle] w fun e W'=>∃ ua uc,e=.returned (.tuple #[rowV ua uc (deals home pickK T P k c now (IntKind.i64.wrap (now+idle))).1,ansV (deals home pickK T P k c now (IntKind.i64.wrap (now+idle))).2])∧Lies entK W' ua uc (deals home pickK T P k c now (IntKind.i64.wrap (now+idle))).1∧Below w.heap.size w W':=
 (Mod.refDecide_any (asked_of hT hP hk hs hl hPl) c now idle).mono fun _ _ ⟨_,he,⟨ua,uc,hv,hu⟩,hb⟩=>⟨ua,uc,by rw[he,hv]; rfl,hu,hb⟩
theorem hash_lt (k:ByteArray):hashN k<18446744073709551616:=Fnv.jn_lt _ _ (by decide)
theorem refshard_told (k:ByteArray) (n:Int) (hn:(Lit.int .i64 n).wf=true) (w:World) (hk:k.size≤60):Calls Tryz.prog 27 #[.string k,.int .i64 n] w fun e W'=>e=.returned (.int .i64 (shardZ (hashN k) n))∧W'=w:=
 Mod.refShard_any k (hashN k) (hash_lt k) n hn w (Fnv.refSum_any k w (by omega))
end Go.Proofs.YtbamodkgagcmnaaGreat.Mdl
