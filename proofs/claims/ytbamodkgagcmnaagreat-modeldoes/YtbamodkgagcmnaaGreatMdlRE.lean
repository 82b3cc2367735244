/-
  Package model: plain facts for the laws: many operations one behind the other.
-/
import Derived.Test.YtbamodkgagcmnaaGreatMdlXE
import Derived.Test.YtbamodkgagcmnaaGreatMdlYE
import Derived.Test.YtbamodkgagcmnaaGreatMdlKE
import Derived.Test.YtbamodkgagcmnaaGreatSwpBE
import Derived.Test.YtbamodkgagcmnaaGreatBPlmE
import Derived.Test.YtbamodkgagcmnaaGreatBFloE
import Derived.Test.YtbamodkgagcmnaaGreatBRinE
import Derived.Test.YtbamodkgagcmnaaGreatRinCpE
import Derived.Test.YtbamodkgagcmnaaGreatBFnvE
set_option maxRecDepth 100000
namespace Go.Proofs.YtbamodkgagcmnaaGreat.Mdl
open Go.RowKit Go.Shelf RowG Trn
open Pol (chk)
open Prb (home)
open Mdo (StM stV StOk pol_lies)
open Go.Proofs.YtbamodkgagcmnaaGreat.Mod (Bk Mo Cfg okB inB Ans Inv total)
noncomputable abbrev goes (mo:Mo) (l:List Mod.Op):Mo:=Mod.runs home pickK shardN goodB mo l
abbrev opSt (g:ByteArray→Option (ByteArray × Bool)) (idle:Int) (x:StM):Mod.Op:=opOf x.kd (g x.pkt) x.pool x.sh x.now idle
abbrev opsOf (g:ByteArray→Option (ByteArray × Bool)) (idle:Int) (L:List StM):List Mod.Op:=L.map (opSt g idle)
theorem goes_next {g:ByteArray→Option (ByteArray × Bool)} {idle:Int} {L:List StM} {k:Nat} (hk:k<L.length) (mo:Mo):goes mo ((opsOf g idle L).take (k+1))=(step (goes mo ((opsOf g idle L).take k)) (opSt g idle L[k])).1:=by
 have hk':k<(opsOf g idle L).length:=by simpa using hk
 have:=Mod.runs_take (home:=home) (pick:=pickK) (shardOf:=shardN) (good:=goodB) (m:=mo) hk'
 unfold goes
 rw[this]
 simp[step]
theorem shard_ok (k:ByteArray) (n:Nat):shardN k n<n∨n=0:=by
 rcases Nat.eq_zero_or_pos n with h | h
 ·exact .inr h
 ·exact .inl (shardN_lt k h)
theorem good_nil:goodB []=true:=(good_iff _).1 ⟨by simp,fun i x h=>by simp at h⟩
theorem inv_goes {n cap:Nat} (hn:0<n):∀ (l:List Mod.Op) (mo:Mo),Inv home shardN goodB n cap mo→Inv home shardN goodB n cap (goes mo l)
 | [],_,h=>h
 | o :: l,_,h=>inv_goes hn l _ (Mod.inv_do (fun k=>shard_ok k n) h hn o)
theorem inv_new {n cap:Nat} (hn:0<n) (l:List Mod.Op):Inv home shardN goodB n cap (goes (Mod.new n cap) l):=inv_goes hn l _ (Mod.inv_new n cap good_nil)
theorem ok_nat {W S cap idle K:Int} (h:okB ⟨W,S,cap,idle,K⟩=true):∃ n c:Nat,S=n∧cap=c∧0<n∧n≤16∧0<c∧c≤64∧0≤idle∧idle≤1000000:=by
 unfold okB inB at h
 simp only[Bool.and_eq_true,decide_eq_true_eq] at h
 obtain⟨_,h2,h3,h4,_⟩:=h
 exact⟨S.toNat,cap.toNat,by omega,by omega,by omega,by omega,by omega,by omega,by omega,by omega⟩
theorem tab_at {n cap:Nat} {mo:Mo} (h:Inv home shardN goodB n cap mo) {k:Nat} (hk:k<n):∃ hk':k<mo.tables.length,tabAt mo (k:Int)=mo.tables[k]∧Tab.Right home mo.tables[k]∧(mo.tables[k]).length=cap:=by
 obtain⟨h1,h2,h3,h4⟩:=h.at hk
 refine⟨h1,?_,h3,h4⟩
 unfold tabAt
 rw[if_pos (by omega),Int.toNat_natCast,h2]
theorem st_keep {W W':World} {b o:Nat} {x:StM} (s:W.cell? ⟨b,o,none⟩=some (.int .i64 x.kd)∧W.cell? ⟨b,o+1,none⟩=some (.string x.pkt)∧W.cell? ⟨b,o+2,none⟩=some (.slice x.p x.pool.length x.c)∧W.cell? ⟨b,o+3,none⟩=some (.int .i64 x.sh)∧W.cell? ⟨b,o+4,none⟩=some (.int .i64 x.now)) (hb:Below W.heap.size W W'):
 W'.cell? ⟨b,o,none⟩=some (.int .i64 x.kd)∧W'.cell? ⟨b,o+1,none⟩=some (.string x.pkt)∧W'.cell? ⟨b,o+2,none⟩=some (.slice x.p x.pool.length x.c)∧W'.cell? ⟨b,o+3,none⟩=some (.int .i64 x.sh)∧W'.cell? ⟨b,o+4,none⟩=some (.int .i64 x.now):=by
 obtain⟨h0,h1,h2,h3,h4⟩:=s
 exact⟨(hb.cell (World.block_lt_of_cell? _ _ h0)).trans h0,(hb.cell (World.block_lt_of_cell? _ _ h1)).trans h1,(hb.cell (World.block_lt_of_cell? _ _ h2)).trans h2,(hb.cell (World.block_lt_of_cell? _ _ h3)).trans h3,(hb.cell (World.block_lt_of_cell? _ _ h4)).trans h4⟩
theorem st_turn {W W':World} {b o:Nat} {x:StM} {f:Foot} (s:W.cell? ⟨b,o,none⟩=some (.int .i64 x.kd)∧W.cell? ⟨b,o+1,none⟩=some (.string x.pkt)∧W.cell? ⟨b,o+2,none⟩=some (.slice x.p x.pool.length x.c)∧W.cell? ⟨b,o+3,none⟩=some (.int .i64 x.sh)∧W.cell? ⟨b,o+4,none⟩=some (.int .i64 x.now)) (ht:Turned f.has W W') (hn:¬ f.has b):
 W'.cell? ⟨b,o,none⟩=some (.int .i64 x.kd)∧W'.cell? ⟨b,o+1,none⟩=some (.string x.pkt)∧W'.cell? ⟨b,o+2,none⟩=some (.slice x.p x.pool.length x.c)∧W'.cell? ⟨b,o+3,none⟩=some (.int .i64 x.sh)∧W'.cell? ⟨b,o+4,none⟩=some (.int .i64 x.now):=by
 obtain⟨h0,h1,h2,h3,h4⟩:=s
 exact⟨ht.cell h0 hn,ht.cell h1 hn,ht.cell h2 hn,ht.cell h3 hn,ht.cell h4 hn⟩
theorem not_has {f:Foot} {B b:Nat} (h:f.from' B) (hb:b<B):¬ f.has b:=fun e=>by have:=has_from h b e; omega
end Go.Proofs.YtbamodkgagcmnaaGreat.Mdl
set_option maxRecDepth 100000
namespace Go.Proofs.YtbamodkgagcmnaaGreat.Mdl
open Go.RowKit Go.Shelf RowG Trn
open Prb (home)
open Mdo (StM stK StOk pol_lies)
open Tab (Ent Right count places)
open Go.Proofs.YtbamodkgagcmnaaGreat.Mod (Bk Mo Cfg Ans Inv ansV ansC opV opC fresh fresh_le)
section
variable {w0 wb wr:World} {f:Foot} {idle:Int} {mo0:Mo} {g:ByteArray→Option (ByteArray × Bool)} {L:List StM} {a:Option Addr} {c:Nat} {k:Nat}
theorem turn_cells (hS:Stand wb wr f idle (goes mo0 ((opsOf g idle L).take k)) []) (hk:k<L.length) (hl:Lies stK wb a c L):
 ∃ b off,a=some ⟨b,off,none⟩∧(wr.cell? ⟨b,off+k * 5,none⟩=some (.int .i64 L[k].kd)∧wr.cell? ⟨b,off+k * 5+1,none⟩=some (.string L[k].pkt)∧wr.cell? ⟨b,off+k * 5+2,none⟩=some (.slice L[k].p L[k].pool.length L[k].c)∧wr.cell? ⟨b,off+k * 5+3,none⟩=some (.int .i64 L[k].sh)∧wr.cell? ⟨b,off+k * 5+4,none⟩=some (.int .i64 L[k].now))∧¬ f.has b:=by
 obtain⟨b,off,e,q0,q1,q2,q3,q4⟩:=lies_st hl hk
 exact⟨b,off,e,st_keep ⟨q0,q1,q2,q3,q4⟩ hS.below,not_has hS.from' (World.block_lt_of_cell? _ _ q0)⟩
end
theorem Held.keys {w:World} {f:Foot} {idle:Int} {mo:Mo} (h:Held w f idle mo) (i:Int):∀ x ∈ tabAt mo i,x.key.size≤4611686018427387904:=by
 obtain⟨pa,pc,P,sc,m,rfl,hl⟩:=h
 rw[tab_atM]
 intro x hx
 have:=(atM_good hl i).keys x hx; omega
theorem few_and {s:Bool} {L:List StM} (h:(s && decide (fewL L))=true):L.length≤12∧∀ x ∈ L,x.pkt.size≤100:=by
 rw[Bool.and_eq_true,decide_eq_true_eq] at h
 exact⟨h.2.1,fun x hx=>(h.2.2 x hx).1⟩
end Go.Proofs.YtbamodkgagcmnaaGreat.Mdl
set_option maxRecDepth 100000
namespace Go.Proofs.YtbamodkgagcmnaaGreat.Mdl
open Go.RowKit Go.Shelf RowG
open Prb (home)
open Tab (Ent Right)
open Flo (keys)
open Go.Proofs.YtbamodkgagcmnaaGreat.Mod (Bk Mo Inv)
section
variable {n cap:Nat} {mo:Mo}
end
end Go.Proofs.YtbamodkgagcmnaaGreat.Mdl
set_option maxRecDepth 100000
namespace Go.Proofs.YtbamodkgagcmnaaGreat.Pol
open Go.RowKit Go.Shelf Rgn
structure Left (id:Int) (bs ds:List Bk) (i j:Nat):Prop where
 lt:i<j
 le:j≤bs.length
 len:ds.length=bs.length
 done:ds.take i=without (bs.take j) id
 rest:ds.drop j=bs.drop j
theorem Left.at {id:Int} {bs ds:List Bk} {i j:Nat} (h:Left id bs ds i j) (hj:j<bs.length):∃ x,ds[j]? =some x∧bs[j]? =some x:=by
 refine⟨bs[j],?_,List.getElem?_eq_getElem hj⟩
 have:=congrArg (fun l=>l[0]?) h.rest
 simp only[List.getElem?_drop,Nat.add_zero] at this
 rw[this]; exact List.getElem?_eq_getElem hj
theorem Left.start (id:Int) (bs:List Bk) (k:Nat) (hk:k<bs.length) (hno:∀ j x,j<k→bs[j]? =some x→x.1≠id) (h:∀ x,bs[k]? =some x→x.1=id):Left id bs bs k (k+1):=by
 refine⟨by omega,by omega,rfl,?_,rfl⟩
 rw[take_more bs k hk]
 have e:=h bs[k] (List.getElem?_eq_getElem hk)
 simp only[without,List.filter_append,List.filter_cons,List.filter_nil]
 rw[if_neg (by simp[e]),List.append_nil]
 refine (List.filter_eq_self.2 fun x hx=>?_).symm
 obtain⟨j,hj,rfl⟩:=List.getElem_of_mem hx
 have hj':j<k:=by simp at hj; omega
 have:=hno j bs[j] hj' (List.getElem?_eq_getElem (by omega))
 simpa using this
theorem Left.skip {id:Int} {bs ds:List Bk} {i j:Nat} (h:Left id bs ds i j) (hj:j<bs.length) (he:∀ x,bs[j]? =some x→x.1=id):Left id bs ds i (j+1):=by
 have e:=he bs[j] (List.getElem?_eq_getElem hj)
 refine⟨by have:=h.lt; omega,by omega,h.len,?_,?_⟩
 ·rw[take_more bs j hj,h.done]
  simp only[without,List.filter_append,List.filter_cons,List.filter_nil]
  rw[if_neg (by simp[e]),List.append_nil]
 ·have:=congrArg (List.drop 1) h.rest
  rwa [List.drop_drop,List.drop_drop] at this
theorem Left.keep {id:Int} {bs ds:List Bk} {i j:Nat} (h:Left id bs ds i j) (hj:j<bs.length) (x:Bk) (hx:bs[j]? =some x) (he:x.1≠id):Left id bs (ds.set i x) (i+1) (j+1):=by
 have hlt:=h.lt
 have hx':bs[j]=x:=by rw[List.getElem?_eq_getElem hj] at hx; exact Option.some.inj hx
 refine⟨by omega,by omega,by rw[List.length_set]; exact h.len,?_,?_⟩
 ·rw[take_more bs j hj,hx']
  have e1:without (bs.take j ++ [x]) id=without (bs.take j) id ++ [x]:=by simp[without,he]
  rw[e1,← h.done,take_more _ i (by rw[List.length_set,h.len]; omega),List.take_set_of_le (Nat.le_refl _)]
  congr 1; simp
 ·have:=congrArg (List.drop 1) h.rest
  rw[List.drop_drop,List.drop_drop] at this
  rw[List.drop_set_of_lt (by omega)]; exact this
end Go.Proofs.YtbamodkgagcmnaaGreat.Pol
set_option maxRecDepth 100000
namespace Go.Proofs.YtbamodkgagcmnaaGreat.Mdl
open Go.RowKit Go.Shelf RowG Trn
open Pol (polV chk without)
open Prb (home)
open Tab (Ent Right)
open Go.Proofs.YtbamodkgagcmnaaGreat.Mod (Bk Ans ansV ansC AnsBox deals hasId)
theorem two_keep {w W W':World} {b:Nat} {s1 s2:Value} (h:Below w.heap.size w W∧W.cell? ⟨b,1,none⟩=some s1∧W.cell? ⟨b,2,none⟩=some s2) (hb:Below W.heap.size W W'):
 Below w.heap.size w W'∧W'.cell? ⟨b,1,none⟩=some s1∧W'.cell? ⟨b,2,none⟩=some s2:=
 ⟨below2 h.1 hb,(hb.cell (World.block_lt_of_cell? _ _ h.2.1)).trans h.2.1,(hb.cell (World.block_lt_of_cell? _ _ h.2.2)).trans h.2.2⟩
end Go.Proofs.YtbamodkgagcmnaaGreat.Mdl
