/-
  Package flows: how a tomb is laid in a table's own copy, as contracts.
-/
import Derived.Test.YtbamodkgagcmnaaGreatBFloE
import Derived.Test.YtbamodkgagcmnaaGreatBTabE
import Derived.Test.YtbamodkgagcmnaaGreatBPolE
import Derived.Laws.EntriesVeiled
import Derived.Lib.SliceRun
set_option maxRecDepth 100000
namespace Go.Proofs.YtbamodkgagcmnaaGreat.Flo
open Go.RowKit Go.Shelf RowG Tab Prb
set_option maxHeartbeats 1000000 in
theorem bury1_told (Bc Be:Nat) (a:Option Addr) (cap:Nat) (T:List Ent) (k:ByteArray) (w:World) (hc:w.cell? ⟨Bc,0,none⟩=some (rowV a cap T)) (he:w.cell? ⟨Be,0,none⟩=some (.string k)) (hT:Lies entK w a cap T) (hk:k.size≤4611686018427387904):
 Calls Tryz.prog 143 #[ptr Bc,ptr Be] w fun e W'=>e=.returned (.tuple #[.int .i64 (zOf (find home T k)),.bool (find home T k).isSome])∧Below w.heap.size w W':=by
 have F:=Lib.hid (Find_told a cap T k w hT hk)
 clear hT
 go_enter Tryz.func143,Tryz.ntmps143
 go_wp2_with fail
 refine F.out.mono ?_
 rintro e w1 ⟨rfl,hb⟩
 have HB:=Lib.hid hb
 clear hb F
 cases hf:find home T k with
 | some q=>
   rw[show zOf (some q)=(q:Int) from rfl]
   have d1:decide (0≤(q:Int))=true:=decide_eq_true (by omega)
   have HF:=Lib.hid hf
   clear hf
   go_wp2_with fail
   refine bodyPost_ret (v:=.tuple #[.int .i64 (q:Int),.bool true]) (by simp[results,Tryz.results143,go_sem]) rfl ?_
   exact⟨by rw[HF.out]; rfl,HB.out⟩
 | none=>
   rw[show zOf none= -1 from rfl]
   have HF:=Lib.hid hf
   clear hf
   go_wp2_with fail
   refine bodyPost_ret (v:=.tuple #[.int .i64 (-1),.bool false]) (by simp[results,Tryz.results143,go_sem]) rfl ?_
   exact⟨by rw[HF.out]; rfl,HB.out⟩
set_option maxRecDepth 100000 in
set_option maxHeartbeats 400000 in
theorem lay_bury (B Bc Be:Nat) (v:Value) (T:List Ent) (k:ByteArray) (x:Ent) (w:World) (hO:RowG.Own entK 66 B w v T) (hc:w.cell? ⟨Bc,0,none⟩=some v) (he:w.cell? ⟨Be,0,none⟩=some (.string k)) (hk:k.size≤4611686018427387904):
 Calls Tryz.prog 142 #[v,entV x,.func (.func 143) #[] #[ptr Bc,ptr Be]] w fun e W'=>e=.returned (.bool (find home T k).isSome)∧RowG.Own entK 66 B W' v (laid T x (find home T k))∧w.grownBy W' v.ownBlock:=by
 have al:Below w.heap.size w (w.alloc (.cells #[.int .i64 x.st,.string x.key,.int .i64 x.be,.int .i64 x.dl] 66)):=(Below.refl _ w).alloc (Nat.le_refl _) _
 have x4:=four_cells w x
 have hc1:=(al.cell (p:=⟨Bc,0,none⟩) (World.block_lt_of_cell? w _ hc)).trans hc
 have he1:=(al.cell (p:=⟨Be,0,none⟩) (World.block_lt_of_cell? w _ he)).trans he
 have O1:=Lib.hid (hO.kept al)
 have hsz:=World.size_alloc w (.cells #[.int .i64 x.st,.string x.key,.int .i64 x.be,.int .i64 x.dl] 66)
 obtain⟨a,cap,rfl,hl⟩:=O1.out.lies
 have C:=Lib.hid (bury1_told Bc Be a cap T k _ hc1 he1 hl hk)
 have AL:=Lib.hid al
 have HO:=Lib.hid hO
 have HP:=Lib.hid (show ∀ q,find home T k=some q→q<T.length from fun q h=>find_lt h)
 clear hl hc he hc1 he1 al hO
 go_enter Tryz.func142,Tryz.ntmps142
 go_wp2_with fail
 generalize w.alloc (.cells #[.int .i64 x.st,.string x.key,.int .i64 x.be,.int .i64 x.dl] 66)=w1 at *
 refine C.out.mono ?_
 rintro e w2 ⟨rfl,hb⟩
 obtain⟨x0,x1,x2,x3⟩:=x4
 have y0:=(hb.cell (p:=⟨w.heap.size,0,none⟩) (by show w.heap.size<w1.heap.size; omega)).trans x0
 have y1:=(hb.cell (p:=⟨w.heap.size,1,none⟩) (by show w.heap.size<w1.heap.size; omega)).trans x1
 have y2:=(hb.cell (p:=⟨w.heap.size,2,none⟩) (by show w.heap.size<w1.heap.size; omega)).trans x2
 have y3:=(hb.cell (p:=⟨w.heap.size,3,none⟩) (by show w.heap.size<w1.heap.size; omega)).trans x3
 have O2:=Lib.hid (O1.out.kept hb)
 have G2:=Lib.hid (grown_none (below2 AL.out hb))
 have hz2:=hb.size
 clear hb x0 x1 x2 x3 O1 C AL
 cases hp:find home T k with
 | none=>
   rw[show zOf none= -1 from rfl,show (none:Option Nat).isSome=false from rfl]
   have HH:=Lib.hid hp
   clear hp HP
   go_wp2_with fail
   go_ret
   exact⟨by rw[HH.out]; rfl,by rw[HH.out]; exact O2.out,grown_wide G2.out _⟩
 | some q=>
   rw[show zOf (some q)=(q:Int) from rfl,show (some q).isSome=true from rfl]
   have hq:=HP.out q hp
   have HH:=Lib.hid hp
   clear hp HP
   obtain⟨g,cap',hv,hg,R⟩:=O2.out.row (fun e=>by rw[e] at hq; exact absurd hq (by simp))
   have hv':a=some ⟨g,0,none⟩∧cap=cap':=by cases hv; exact⟨rfl,rfl⟩
   obtain⟨rfl,rfl⟩:=hv'
   clear hv
   have hln:=R.len
   unfold maxLen at hln
   have hgw:g<w.heap.size:=by
    have:=World.ownsRow.lt HO.out g rfl
    omega
   obtain⟨z0,z1,z2,z3⟩:=R.ent hq
   have f0:=R.free (q * 4)
   have f1:=R.free (q * 4+1)
   have f2:=R.free (q * 4+2)
   have f3:=R.free (q * 4+3)
   have RR:=Lib.hid (R.put4 hq x)
   have GG:=Lib.hid (grown_trans (grown_wide G2.out _) (put4_grown w2 g q x))
   have hlen:rowV (some ⟨g,0,none⟩) cap (T.set q x)=rowV (some ⟨g,0,none⟩) cap T:=by simp[rowV]
   have HL:=Lib.hid hlen
   clear hlen R O2 G2 HO
   generalize T[q]=y at *
   have hne:g≠w.heap.size:=by omega
   go_wp2_with fail
   go_ret
   refine⟨by rw[HH.out]; rfl,?_,GG.out⟩
   rw[HH.out]
   have:=RR.out.own (B:=B) hg
   rw[HL.out] at this
   exact this
set_option maxHeartbeats 200000 in
theorem bury_told (B:Nat) (v:Value) (T:List Ent) (k:ByteArray) (w:World) (hO:RowG.Own entK 66 B w v T) (hk:k.size≤4611686018427387904):
 Calls Tryz.prog 94 #[v,.string k] w fun e W'=>e=.returned (.bool (find home T k).isSome)∧RowG.Own entK 66 B W' v (laid T tomb (find home T k))∧w.grownBy W' v.ownBlock:=by
 obtain⟨a,cap,rfl,-⟩:=hO.lies
 have b1:Below w.heap.size w (w.alloc (.cells #[rowV a cap T] 153)):=(Below.refl _ w).alloc (Nat.le_refl _) _
 have hs1:=World.size_alloc w (.cells #[rowV a cap T] 153)
 have c0:=(Fnv.cell_new_o w (rowV a cap T) 153).1
 have x4:=(Fnv.cell_new_o (w.alloc (.cells #[rowV a cap T] 153)) (.string k) 9).1
 have b2:Below (w.alloc (.cells #[rowV a cap T] 153)).heap.size (w.alloc (.cells #[rowV a cap T] 153)) ((w.alloc (.cells #[rowV a cap T] 153)).alloc (.cells #[.string k] 9)):=(Below.refl _ _).alloc (Nat.le_refl _) _
 have c1:=(b2.cell (p:=⟨w.heap.size,0,none⟩) (by show w.heap.size<(w.alloc _).heap.size; omega)).trans c0
 have O2:=(hO.kept b1).kept b2
 rw[hs1] at x4
 have C:=Lib.hid (lay_bury B w.heap.size (w.heap.size+1) (rowV a cap T) T k tomb _ O2 c1 x4 hk)
 have G:=Lib.hid (grown_wide (grown_none (below2 b1 b2)) (rowV a cap T).ownBlock)
 clear c0 b1 b2 O2 hO
 go_enter Tryz.func94,Tryz.ntmps94
 go_wp2_with fail
 refine C.out.mono ?_
 rintro e w2 ⟨rfl,hO2,hg⟩
 have HO:=Lib.hid hO2
 have HG:=Lib.hid (grown_trans G.out hg)
 clear hO2 hg
 go_wp2_with fail
 go_ret
 exact⟨rfl,HO.out,HG.out⟩
end Go.Proofs.YtbamodkgagcmnaaGreat.Flo
namespace Go.Proofs.YtbamodkgagcmnaaGreat.Flo
open Go.RowKit Go.Shelf RowG Tab Prb
attribute [local go_sem] Oper.semAt_some
set_option maxHeartbeats 400000 in
theorem Delete_told (a:Option Addr) (cap:Nat) (T:List Ent) (k:ByteArray) (w:World) (hT:Lies entK w a cap T) (hk:k.size≤4611686018427387904) (hTk:∀ x ∈ T,x.key.size≤4611686018427387904) (hl:T.length≤3518437208883):
 Calls Tryz.prog 57 #[rowV a cap T,.string k] w fun e W'=>∃ v,e=.returned (.tuple #[v,.bool (find home T k).isSome])∧Gives W' v (delT T k)∧Below w.heap.size w W':=by
 have C:=Lib.hid (Clone_any a cap T w hT hl)
 clear hT
 go_enter Tryz.func57,Tryz.ntmps57
 go_wp2_with fail
 refine C.out.mono ?_
 rintro e w1 ⟨v,rfl,hO,hb⟩
 have P:=Lib.hid (bury_told w.heap.size v T k w1 hO hk)
 have HB:=Lib.hid hb
 have HS:=Lib.hid hb.size
 have HR:=Lib.hid (fun k e=>(World.ownsRow.lt hO k e).1)
 obtain⟨a',cap',rfl,-⟩:=hO.lies
 clear hb hO C
 go_wp2_with fail
 refine P.out.mono ?_
 rintro e w2 ⟨rfl,hO2,hg⟩
 have HG:=Lib.hid (HB.out.grown hg HS.out HR.out)
 have HO:=Lib.hid hO2
 clear hO2 hg P HB HS HR
 cases hf:find home T k with
 | none=>
   rw[hf] at HO
   obtain⟨a2,cap2,hv,hl2⟩:=HO.out.lies
   have HL:=Lib.hid (show Gives w2 (rowV a' cap' T) T from⟨a2,cap2,hv,hl2⟩)
   have HD:=Lib.hid (show delT T k=T by unfold delT; rw[hf])
   have HF:=Lib.hid hf
   clear hv hl2 HO hf
   rw[show (none:Option Nat).isSome=false from rfl]
   go_wp2_with fail
   refine bodyPost_ret (v:=.tuple #[rowV a' cap' T,.bool false]) (by simp[results,Tryz.results57,go_sem]) rfl ?_
   exact⟨_,by rw[HF.out]; rfl,by rw[HD.out]; exact HL.out,HG.out⟩
 | some q=>
   rw[hf] at HO
   have HD:=Lib.hid (show delT T k=settleC (laid T tomb (some q)) by unfold delT; rw[hf]; rfl)
   have HF:=Lib.hid hf
   have hlen:=laid_length T tomb (some q)
   have hUk:=Lib.hid (laid_keys (x:=tomb) (o:=some q) hTk (by show 0≤_; omega))
   have hV:rowV a' cap' T=rowV a' cap' (laid T tomb (some q)):=by simp[rowV,hlen]
   rw[hV] at HO ⊢
   rw[show (some q).isSome=true from rfl]
   clear hf hV
   generalize laid T tomb (some q)=U at *
   obtain⟨a2,cap2,hv,hl2⟩:=HO.out.lies
   have hv':a'=a2∧cap'=cap2:=by cases hv; exact⟨rfl,rfl⟩
   obtain⟨rfl,rfl⟩:=hv'
   have HL:=Lib.hid hl2
   clear hv hl2 HO
   have hcl:=count_le 2 U
   have hUl:U.length≤3518437208883:=by omega
   clear hlen
   go_wp2_with fail
   refine (Count_told a' cap' U 2 w2 HL.out).mono ?_
   rintro e w3 ⟨rfl,hb3⟩
   have HL3:=Lib.hid (HL.out.kept hb3)
   have HB3:=Lib.hid (HG.out.trans (hb3.mono HG.out.size))
   clear hb3 HL HG
   have TT:=Lib.hid (Tidy_told a' cap' U w3 HL3.out hUk.out)
   have HSt:=Lib.hid (show settleC U=if U.length<2 * count 2 U then tidyC U else U from rfl)
   generalize count 2 U=n at *
   by_cases hn:U.length<2 * n
   ·rw[if_pos hn] at HSt
    have d0:decide ((U.length:Int)<2 * (n:Int))=true:=decide_eq_true (by omega)
    go_wp2_with fail
    refine TT.out.mono ?_
    rintro e w4 ⟨v4,rfl,hgv,hb4⟩
    have G4:=Lib.hid hgv
    have B4:=Lib.hid (HB3.out.trans (hb4.mono HB3.out.size))
    obtain⟨a4,cap4,rfl,-⟩:=hgv
    clear hb4
    go_wp2_with fail
    refine bodyPost_ret (v:=.tuple #[rowV a4 cap4 (tidyC U),.bool true]) (by simp[results,Tryz.results57,go_sem]) rfl ?_
    exact⟨_,by rw[HF.out]; rfl,by rw[HD.out,HSt.out]; exact G4.out,B4.out⟩
   ·rw[if_neg hn] at HSt
    have d0:decide ((U.length:Int)<2 * (n:Int))=false:=decide_eq_false (by omega)
    go_wp2_with fail
    refine bodyPost_ret (v:=.tuple #[rowV a' cap' U,.bool true]) (by simp[results,Tryz.results57,go_sem]) rfl ?_
    exact⟨_,by rw[HF.out]; rfl,by rw[HD.out,HSt.out]; exact⟨_,_,rfl,HL3.out⟩,HB3.out⟩
end Go.Proofs.YtbamodkgagcmnaaGreat.Flo
namespace Go.Proofs.YtbamodkgagcmnaaGreat.Flo
open Go.RowKit Go.Shelf RowG Tab Prb
attribute [local go_sem] Oper.semAt_some
def txtK:Kind ByteArray:=⟨1,fun s=>[.string s],by decide,fun _=>rfl,fun x u hu=>by simp at hu; subst hu; rfl⟩
def Texts (W:World) (v:Value) (ks:List ByteArray):Prop:=∃ a cap,v=rowV a cap ks∧Lies txtK W a cap ks
theorem Texts.kept {W W':World} {v:Value} {ks:List ByteArray} (h:Texts W v ks) (hb:Below W.heap.size W W'):Texts W' v ks:=by
 obtain⟨a,cap,e,hl⟩:=h
 exact⟨a,cap,e,hl.kept hb⟩
def keys (T:List Ent):List ByteArray:=(T.filter fun e=>e.st == 1).map (·.key)
structure Sk (n1 p:Nat) (w:World) (ks:List ByteArray) (V:World):Prop where
 box:∃ v,V.heap[p]? =some (.cells #[v] 68 (0,0))∧RowG.Own txtK 9 n1 V v ks
 below:Below w.heap.size w V
 size:n1≤V.heap.size
theorem Sk.own {β:Type} {n1 p B:Nat} {w:World} (f:β→List ByteArray) (hB:n1≤B) (h0:w.heap.size≤n1):OwnFrom B (fun s V=>Sk n1 p w (f s) V):=fun bs X Y row h hg hr=>by
 obtain⟨v,hv,ho⟩:=h.box
 refine⟨⟨v,(hg.block p (Array.getElem?_eq_some_iff.1 hv).1 (fun e=>?_)).trans hv,?_⟩,h.below.grown hg (Nat.le_trans h0 h.size) (fun k e=>by have:=(hr k e).1; omega),Nat.le_trans h.size hg.size⟩
 ·obtain⟨_,o,hob,hc⟩:=hr p e.symm
  rw[hv] at hob; cases hob; cases hc
 ·refine World.ownsRow.kept ho hg ?_
  cases row with
  | none=>cases v.ownBlock <;> simp
  | some r=>
    obtain⟨_,o,hob,hc⟩:=hr r rfl
    exact own_ne ho hob (fun cur e=>by subst e; cases hc)
end Go.Proofs.YtbamodkgagcmnaaGreat.Flo
set_option maxRecDepth 100000
namespace Go.Proofs.YtbamodkgagcmnaaGreat.Flo
open RowG Tab Prb
section
variable {T U:List Ent} {k o:ByteArray} {b d:Int} {q n:Nat}
theorem put_no (h:place T k=none) (b d:Int):putT T k b d=T∧putE T k=12∧find home T k=none∧count 1 T=T.length:=by
 have h2:=put_laid T k b d
 rw[h] at h2
 have hn:put home T k b d=none:=by
  cases hp:put home T k b d with
  | none=>rfl
  | some U=>rw[hp] at h2; cases h2.2
 obtain⟨h3,h4⟩:=put_none hn
 refine⟨by unfold putT; rw[h]; rfl,by unfold putE; rw[h]; rfl,h3,count_all.2 h4⟩
theorem put_yes (h:place T k=some q) (b d:Int):put home T k b d=some (putT T k b d)∧putE T k=0:=by
 have h2:=put_laid T k b d
 refine⟨?_,by unfold putE; rw[h]; rfl⟩
 unfold putT
 rw[h] at h2 ⊢
 cases hp:put home T k b d with
 | none=>rw[hp] at h2; cases h2.2
 | some U=>rw[hp] at h2; exact congrArg some h2.1
theorem ent_mem {a:Nat} (h:a<T.length):ent T a ∈ T:=by rw[ent_at h]; exact List.getElem_mem h
def Short (n:Nat) (T:List Ent):Prop:=∀ x ∈ T,x.key.size≤n
theorem short_laid {x:Ent} {p:Option Nat} (h:Short n T) (hx:x.key.size≤n):Short n (laid T x p):=laid_keys h hx
theorem short_put (h:Short n T) (hk:k.size≤n):Short n (putT T k b d):=short_laid h hk
theorem short_new (m n:Nat):Short n (new m):=by
 intro x hx
 rw[show x=ent0 from List.eq_of_mem_replicate hx]
 show 0≤n
 omega
theorem short_tidy (h:Short n T):Short n (tidyC T):=by
 have key:∀ (l:List (Fin T.length)) (U:List Ent),Short n U→Short n (l.foldl (fun U i=>more U (ent T i.1)) U):=by
  intro l
  induction l with
  | nil=>intro U hU; exact hU
  | cons i l ih=>intro U hU; exact ih _ (short_laid hU (h _ (ent_mem i.2)))
 exact key _ _ (short_new _ _)
theorem short_settle (h:Short n T):Short n (settleC T):=by
 unfold settleC
 split
 ·exact short_tidy h
 ·exact h
theorem short_del (h:Short n T):Short n (delT T k):=by
 unfold delT
 split
 ·exact short_settle (short_laid (p:=some _) h (by show 0≤n; omega))
 ·exact h
theorem Short.wide {m:Nat} (h:Short n T) (hm:n≤m):∀ x ∈ T,x.key.size≤m:=fun x hx=>Nat.le_trans (h x hx) hm
theorem settleC_settle (h:T.length≤64):settleC T=Tab.settle home T:=by
 unfold settleC Tab.settle
 rw[tidyC_tidy h]
structure Less (T U:List Ent) (k:ByteArray):Prop where
 len:U.length=T.length
 right:Right home U
 gone:find home U k=none
 cnt:count 1 U+1=count 1 T
 tombs:2 * count 2 U≤U.length
 none:∀ o,k≠o→(find home T o=none↔find home U o=none)
 same:∀ o,k≠o→∀ p r,find home T o=some p→find home U o=some r→ent U r=ent T p
structure Many (n:Nat) (own:List ByteArray) (T:List Ent):Prop where
 len:T.length=n
 right:Right home T
 short:Short 60 T
 mem:∀ k,k ∈ own↔find home T k≠none
 cnt:count 1 T=own.length
end
end Go.Proofs.YtbamodkgagcmnaaGreat.Flo
set_option maxRecDepth 100000
namespace Go.Proofs.YtbamodkgagcmnaaGreat.Pol
open Go.RowKit Go.Shelf Rgn
abbrev bkV (x:Bk):Value:=.agg #[.int .i64 x.1,.int .i64 x.2]
def idx (q:Bk→Bool):List Bk→Nat→Int
 | [],_=> -1
 | x :: bs,k=>if q x=true then k else idx q bs (k+1)
theorem idx_drop (q:Bk→Bool) (bs:List Bk):∀ (k m:Nat),k≤bs.length→(∀ j x,j<k→bs[j]? =some x→q x=false)→idx q bs m=idx q (bs.drop k) (m+k):=by
 induction bs with
 | nil=>intro k m hk _; simp at hk; subst hk; rfl
 | cons x bs ih=>
   intro k m hk hno
   cases k with
   | zero=>rfl
   | succ k=>
     rw[List.drop_succ_cons]
     have h0:=hno 0 x (by omega) rfl
     rw[show idx q (x :: bs) m=idx q bs (m+1) from if_neg (by simp[h0]),ih k (m+1) (by simpa using hk) (fun j y hj hy=>hno (j+1) y (by omega) (by simpa using hy))]
     congr 1; omega
theorem idx_hit (q:Bk→Bool) (bs:List Bk) (k:Nat) (hk:k<bs.length) (hno:∀ j x,j<k→bs[j]? =some x→q x=false) (h:q bs[k]=true):idx q bs 0=k:=by
 rw[idx_drop q bs k 0 (by omega) hno,List.drop_eq_getElem_cons hk,Nat.zero_add]
 exact if_pos h
theorem idx_none (q:Bk→Bool) (bs:List Bk) (hno:∀ j x,j<bs.length→bs[j]? =some x→q x=false):idx q bs 0= -1:=by
 rw[idx_drop q bs bs.length 0 (Nat.le_refl _) hno,List.drop_length]; rfl
theorem idx_find (bs:List Bk) (id:Int):∀ k,idx (fun x=>x.1 == id) bs k=find bs id k:=by
 induction bs with
 | nil=>intro k; rfl
 | cons x bs ih=>intro k; unfold idx find; rw[ih]; by_cases h:x.1=id <;> simp[h]
def Asks (k:Nat) (cb:Array Value) (q:Bk→Bool) (w:World):Prop:=
 ∀ (x:Bk) W,Below w.heap.size w W→Calls Tryz.prog k (#[bkV x] ++ cb) W fun e W'=>e=.returned (.bool (q x))∧Below W.heap.size W W'
set_option maxRecDepth 100000 in
set_option maxHeartbeats 2000000 in
theorem first_any (a:Option Addr) (cap:Nat) (bs:List Bk) (g n:Nat) (hn:n≤1000) (k:Nat→Nat) (cb:Nat→Array Value) (q:Nat→Bk→Bool) (qq:Bk→Bool) (w:World) (h:Lies w a cap bs) (hg:g<w.heap.size)
 (hq:∀ j,j<n→w.cell? ⟨g,j,none⟩=some (.func (.func (k j)) #[] (cb j)))
 (hen:∀ j,j<n→Enters Tryz.prog (k j)) (hc:∀ j,j<n→Asks (k j) (cb j) (q j) w)
 (hqq:∀ x,qq x=true↔∃ j,j<n∧q j x=true):
 Calls Tryz.prog 67 #[polV a cap bs,.slice (some ⟨g,0,none⟩) n n] w fun e W'=>e=.returned (.int .i64 (idx qq bs 0))∧Below w.heap.size w W':=by
 have H:=Lib.hid h
 have HQ:=Lib.hid hqq
 clear h hqq
 go_enter Tryz.func67,Tryz.ntmps67
 go_wp2
 go_loopw [4,11] (fun v i W=>∃ m:Nat,m≤bs.length∧v=.int .i64 0∧i=.int .i64 m∧(∀ j x,j<m→bs[j]? =some x→qq x=false)∧Below w.heap.size w W) (fun _ i _=>bs.length - (intOf i).toNat)
 case atStart=>exact⟨0,Nat.zero_le _,rfl,rfl,fun j x hj=>absurd hj (by omega),Below.refl _ _⟩
 case round=>
  obtain⟨m,hm,rfl,rfl,hno,hB⟩:=hrel
  have HN:=Lib.hid hno
  have HB:=Lib.hid hB
  clear hno hB
  by_cases hlt:m<bs.length
  ·obtain⟨b,off,rfl,c0,c1⟩:=(H.out.kept HB.out).at hlt
   have hC:=H.out.len
   have hM:=H.out.max
   unfold maxLen at hM
   have HH:=Lib.hid (idx_hit qq bs m hlt HN.out)
   have HI:=Lib.hid (show bs[m]? =some bs[m] from List.getElem?_eq_getElem hlt)
   generalize bs[m]=x at *
   go_wp2
   have HB1:=Lib.hid (HB.out.alloc HB.out.size (.cells #[.int .i64 x.1,.int .i64 x.2] 83))
   have HBn:=Lib.hid (Below.refl (wr.heap.size+1) (wr.alloc (.cells #[.int .i64 x.1,.int .i64 x.2] 83)))
   have d0:(wr.alloc (.cells #[.int .i64 x.1,.int .i64 x.2] 83)).cell? ⟨wr.heap.size,0,none⟩=some (.int .i64 x.1):=by simp
   have d1:(wr.alloc (.cells #[.int .i64 x.1,.int .i64 x.2] 83)).cell? ⟨wr.heap.size,1,none⟩=some (.int .i64 x.2):=by simp
   have ds:wr.heap.size<(wr.alloc (.cells #[.int .i64 x.1,.int .i64 x.2] 83)).heap.size:=by simp
   generalize wr.alloc (.cells #[.int .i64 x.1,.int .i64 x.2] 83)=w1 at *
   generalize wr.heap.size=B at *
   go_loopw [4,18] (fun v i W=>∃ j:Nat,j≤n∧v=.int .i64 0∧i=.int .i64 j∧(∀ j',j'<j→q j' x=false)∧Below w1.heap.size w1 W) (fun _ i _=>n - (intOf i).toNat)
   case atStart=>exact⟨0,Nat.zero_le _,rfl,rfl,fun j hj=>absurd hj (by omega),Below.refl _ _⟩
   case round=>
    obtain⟨j,hj,rfl,rfl,hqn,hB2⟩:=hrel
    have HQN:=Lib.hid hqn
    have HB2:=Lib.hid hB2
    have e0:=(hB2.cell (p:=⟨B,0,none⟩) ds).trans d0
    have e1:=(hB2.cell (p:=⟨B,1,none⟩) ds).trans d1
    clear hqn hB2 d0 d1
    by_cases hjn:j<n
    ·have cq:=((HB1.out.trans (HB2.out.mono HB1.out.size)).cell (p:=⟨g,j,none⟩) hg).trans (hq j hjn)
     have en:∀ (args:Array Value) (w:World),(callFunc (k j) args).run Tryz.prog w=.ok (.enter (k j) args) w:=hen j hjn
     have C:=Lib.hid (hc j hjn x)
     clear hq hen hc c0 c1
     have HW:=Lib.hid (HB1.out.trans (HB2.out.mono HB1.out.size))
     go_wp2_with fail
     refine (C.out _ HW.out).mono ?_
     rintro e w2 ⟨rfl,hb2⟩
     have HB3:=Lib.hid (below2 HB2.out hb2)
     have HW3:=Lib.hid (HW.out.trans (hb2.mono HW.out.size))
     clear hb2
     cases hqx:q j x with
     | true=>
       have HT:=Lib.hid (HH.out ((HQ.out x).2 ⟨j,hjn,hqx⟩))
       go_wp2_with fail
       go_ret
       exact⟨by rw[HT.out]; rfl,HW3.out⟩
     | false=>
       have HF:=Lib.hid (show ∀ j',j'<j+1→q j' x=false from fun j' h'=>by
        by_cases e:j'=j
        ·rw[e]; exact hqx
        ·exact HQN.out j' (by omega))
       clear hqx
       go_wp2_with fail
       go_roundw
       case rel=>exact⟨j+1,by omega,rfl,by go_num,HF.out,HB3.out⟩
       case measure=>simp[intOf]; omega
    ·have HF:=Lib.hid (show qq x=false by
      cases hx:qq x with
      | false=>rfl
      | true=>
        obtain⟨j',h1,h2⟩:=(HQ.out x).1 hx
        rw[HQN.out j' (by omega)] at h2; exact absurd h2 (by simp))
     have HW:=Lib.hid (HB1.out.trans (HB2.out.mono HB1.out.size))
     clear hq hen hc c0 c1
     go_wp2_with fail
     go_roundw
     case rel=>
      refine⟨m+1,by omega,rfl,by go_num,fun j' y h' hy=>?_,HW.out⟩
      by_cases e:j'=m
      ·rw[e,HI.out] at hy; cases hy; exact HF.out
      ·exact HN.out j' y (by omega) hy
     case measure=>simp[intOf]; omega
  ·go_wp2
   go_ret
   rw[idx_none qq bs (fun j x hj=>HN.out j x (by omega))]
   exact⟨rfl,HB.out⟩
set_option maxHeartbeats 800000 in
theorem of_any (id:Int) (w:World):
 Calls Tryz.prog 71 #[.int .i64 id] w fun e W'=>e=.returned (.func (.func 105) #[] #[.pointer (some ⟨w.heap.size,0,none⟩)])∧W'=w.alloc (.cells #[.int .i64 id] 3):=by
 go_enter Tryz.func71,Tryz.ntmps71
 go_wp2
 go_ret
 exact⟨rfl,rfl⟩
set_option maxHeartbeats 800000 in
theorem of_asks (id:Int) (B:Nat) (w:World) (hB:B<w.heap.size) (hc:w.cell? ⟨B,0,none⟩=some (.int .i64 id)):Asks 105 #[.pointer (some ⟨B,0,none⟩)] (fun x=>x.1 == id) w:=by
 intro x W hb
 have c0:=(hb.cell (p:=⟨B,0,none⟩) hB).trans hc
 have hl:=Nat.lt_of_lt_of_le hB hb.size
 have c1:(W.alloc (.cells #[.int .i64 x.1,.int .i64 x.2] 83)).cell? ⟨B,0,none⟩=some (.int .i64 id):=((below_alloc W _).cell (p:=⟨B,0,none⟩) hl).trans c0
 have al:=Lib.hid (below_alloc W (.cells #[.int .i64 x.1,.int .i64 x.2] 83))
 clear hb hc c0
 go_enter Tryz.func105,Tryz.ntmps105
 go_wp2
 go_ret
 exact⟨rfl,al.out⟩
theorem first_one (a:Option Addr) (cap:Nat) (bs:List Bk) (id:Int) (B:Nat) (w:World) (h:Lies w a cap bs) (hB:B<w.heap.size) (hc:w.cell? ⟨B,0,none⟩=some (.int .i64 id)):
 Calls Tryz.prog 67 #[polV a cap bs,.slice (some ⟨w.heap.size,0,none⟩) 1 1] (w.alloc (.cells #[.func (.func 105) #[] #[.pointer (some ⟨B,0,none⟩)]] 126))
  fun e W'=>e=.returned (.int .i64 (find bs id 0))∧Below w.heap.size w W':=by
 have al:=below_alloc w (.cells #[.func (.func 105) #[] #[.pointer (some ⟨B,0,none⟩)]] 126)
 refine (first_any a cap bs w.heap.size 1 (by omega) (fun _=>105) (fun _=>#[.pointer (some ⟨B,0,none⟩)]) (fun _ x=>x.1 == id) (fun x=>x.1 == id) _ (h.kept al) (by simp) ?_ (fun _ _=>enters_of Tryz.func105 (by kernel_rfl) rfl) (fun _ _=>of_asks id B _ (by simp; omega) ((al.cell (p:=⟨B,0,none⟩) hB).trans hc)) (fun x=>⟨fun h=>⟨0,by omega,h⟩,fun⟨_,_,h⟩=>h⟩)).mono ?_
 ·intro j hj
  obtain rfl:j=0:=by omega
  simp
 ·rintro e W' ⟨rfl,hb⟩
  exact⟨by rw[idx_find],below2 al hb⟩
set_option maxHeartbeats 2000000 in
theorem Find_told (a:Option Addr) (cap:Nat) (bs:List Bk) (id:Int) (w:World) (h:Lies w a cap bs):
 Calls Tryz.prog 34 #[polV a cap bs,.int .i64 id] w fun e W'=>e=.returned (.int .i64 (find bs id 0))∧Below w.heap.size w W':=by
 have H:=Lib.hid h
 clear h
 go_enter Tryz.func34,Tryz.ntmps34
 go_wp2_with fail
 refine (of_any id w).mono ?_
 rintro e w1 ⟨rfl,hw1⟩
 have b1:=Lib.hid (show Below w.heap.size w w1 by rw[hw1]; exact below_alloc _ _)
 have c1:w1.cell? ⟨w.heap.size,0,none⟩=some (.int .i64 id):=by rw[hw1]; simp
 have l1:w.heap.size<w1.heap.size:=by rw[hw1]; simp
 have C:=Lib.hid (first_one a cap bs id w.heap.size w1 (H.out.kept b1.out) l1 c1)
 clear hw1
 go_wp2_with fail
 refine C.out.mono ?_
 rintro e w2 ⟨rfl,hb2⟩
 have b2:=Lib.hid (below2 b1.out hb2)
 clear hb2
 go_wp2_with fail
 go_ret
 exact⟨rfl,b2.out⟩
end Go.Proofs.YtbamodkgagcmnaaGreat.Pol
namespace Go.Proofs.YtbamodkgagcmnaaGreat.Pol
open Go.RowKit Go.Shelf Rgn
def Gives (W:World) (v:Value) (bs:List Bk):Prop:=∃ a cap,v=polV a cap bs∧Lies W a cap bs
theorem eql_nil (a:Option Addr) (n c n' c':Nat) (w:World):(binOp .eql 32 (.slice a n c) (.slice none n' c')).run Tryz.prog w=.ok (.bool a.isNone) w:=Lib.run_eql_slice_nil w _ _ a n c n' c' Tryz.underlying32
theorem flat_one (bs:List Bk):∀ u ∈ flat bs,u.oneCell'=true:=by
 intro u hu
 simp only[flat,List.mem_flatMap] at hu
 obtain⟨x,_,hx⟩:=hu
 simp at hx; rcases hx with rfl | rfl <;> rfl
theorem flat_lies {W:World} {b off cap:Nat} {bs:List Bk} (h:Lies W (some ⟨b,off,none⟩) cap bs) (j:Nat) (u:Value) (hj:(flat bs)[j]? =some u):W.cell? ⟨b,off+j,none⟩=some u:=by
 have hl:j<bs.length * 2:=by
  rw[← flat_length]; exact (List.getElem?_eq_some_iff.1 hj).1
 have hk:j / 2<bs.length:=by omega
 obtain⟨b',off',e,hc⟩:=h.cell (fun e=>by rw[e] at hk; exact absurd hk (by simp))
 cases e
 obtain⟨c0,c1⟩:=hc (j / 2) bs[j / 2] (List.getElem?_eq_getElem hk)
 obtain⟨f0,f1⟩:=flat_get bs (j / 2) bs[j / 2] (List.getElem?_eq_getElem hk)
 rcases Nat.mod_two_eq_zero_or_one j with h0 | h0
 ·have e:j / 2 * 2=j:=by omega
  rw[e] at f0 c0
  rw[f0] at hj; cases hj; exact c0
 ·have e:j / 2 * 2+1=j:=by omega
  rw[e] at f1
  rw[Nat.add_assoc,e] at c1
  rw[f1] at hj; cases hj; exact c1
theorem Lies.addr {W:World} {p:Addr} {cap:Nat} {bs:List Bk} (h:Lies W (some p) cap bs) (hn:bs≠[]):∃ b off,p=⟨b,off,none⟩:=by
 obtain⟨b,off,e,_⟩:=h.cell hn
 cases e; exact⟨b,off,rfl⟩
set_option maxHeartbeats 2000000 in
theorem Clone_any (a:Option Addr) (cap:Nat) (bs:List Bk) (w:World) (h:Lies w a cap bs) (hl:bs.length≤8796093022207):
 Calls Tryz.prog 52 #[polV a cap bs] w fun e W'=>∃ v,e=.returned v∧Own w.heap.size W' v bs∧Below w.heap.size w W':=by
 have H:=Lib.hid h
 clear h
 have q22:=eql_nil
 cases a with
 | none=>
   have e:bs=[]:=by
    cases bs with
    | nil=>rfl
    | cons x bs=>obtain⟨b,off,e,_⟩:=H.out.cell (by simp); cases e
   subst e
   go_enter Tryz.func52,Tryz.ntmps52
   go_wp2
   go_ret
   exact⟨_,rfl,own_nil _ _,Below.refl _ _⟩
 | some p=>
   obtain⟨i0,hi,hz0,hz1,hz2⟩:=info_parts info_bk
   have HC:=Lib.hid (show ∀ j u,(flat bs)[j]? =some u→w.cell? (p.add j)=some u from fun j u hj=>by
    have hn:bs≠[]:=fun e=>by subst e; simp[flat] at hj
    obtain⟨b,off,rfl⟩:=H.out.addr hn
    rw[Addr.add_lit]
    exact flat_lies H.out j u hj)
   go_enter Tryz.func52,Tryz.ntmps52
   go_wp2_with (at_builtin; refine wpList_append_own _ rfl _ _ 32 rfl w.heap.size 83 i0 (.agg #[.int .i64 0,.int .i64 0]) 2 16 Tryz.underlying32 hi hz0 hz1 hz2 rfl (by decide) _ _ _ rfl (World.ownsRow_made w #[] 0 (Nat.le_refl _) (Nat.zero_le _) (by simp)) p bs.length cap (flat bs) rfl ?qc1 ?qc2 ?qc3 ?qc4 ?qc5 ?qc6 ?_)
   case qc1=>exact flat_length bs
   case qc2=>intro j u hj; exact Lib.cell?_alloc_some _ (HC.out j u hj)
   case qc3=>exact flat_one bs
   case qc4=>unfold maxLen; omega
   case qc5=>omega
   case qc6=>simp
   intro v' w1 hown hgrow hnil
   have HO:=Lib.hid hown
   have HG:=Lib.hid hgrow
   clear hown hgrow hnil
   go_wp2
   go_ret
   refine⟨_,rfl,?_,?_⟩
   ·have:=HO.out
    unfold Own
    simpa using this
   ·exact ((Below.refl _ w).alloc (Nat.le_refl _) _).grown HG.out (by simp) (by intro k hk; simp[Value.ownBlock] at hk; omega)
def Row (W:World) (g cap:Nat) (bs:List Bk):Prop:=
 ∃ cur:Array Value,W.heap[g]? =some (.cells cur 83 (0,0))∧bs.length≤cap∧cap≤maxLen∧cur.size=cap * 2∧cur.toList.take (bs.length * 2)=flat bs
theorem Own.row {B:Nat} {W:World} {v:Value} {bs:List Bk} (h:Own B W v bs) (hn:bs≠[]):∃ g cap,v=polV (some ⟨g,0,none⟩) cap bs∧B≤g∧Row W g cap bs:=by
 rcases h.2 with⟨_,h0⟩ | ⟨g,cap,cur,rfl,hb,r⟩
 ·exact absurd (List.eq_nil_of_length_eq_zero h0) hn
 ·exact⟨g,cap,rfl,hb,cur,r⟩
theorem Row.own {B:Nat} {W:World} {g cap:Nat} {bs:List Bk} (h:Row W g cap bs) (hB:B≤g):Own B W (polV (some ⟨g,0,none⟩) cap bs) bs:=by
 obtain⟨cur,r⟩:=h
 exact⟨flat_length bs,.inr ⟨g,cap,cur,rfl,hB,r⟩⟩
theorem Row.lt {W:World} {g cap:Nat} {bs:List Bk} (h:Row W g cap bs):g<W.heap.size:=by
 obtain⟨cur,hg,_⟩:=h
 rcases Nat.lt_or_ge g W.heap.size with h | h
 ·exact h
 ·rw[Array.getElem?_eq_none h] at hg; cases hg
theorem Row.len {W:World} {g cap:Nat} {bs:List Bk} (h:Row W g cap bs):bs.length≤cap∧cap≤maxLen:=by
 obtain⟨cur,_,h1,h2,_⟩:=h; exact⟨h1,h2⟩
theorem Row.kept {W W':World} {g cap:Nat} {bs:List Bk} (h:Row W g cap bs) (hb:Below W.heap.size W W'):Row W' g cap bs:=by
 have hl:=h.lt
 obtain⟨cur,hg,r⟩:=h
 exact⟨cur,(hb.block g hl).trans hg,r⟩
theorem Row.cell {W:World} {g cap:Nat} {bs:List Bk} (h:Row W g cap bs) {i:Nat} (hi:i<bs.length):
 W.cell? ⟨g,i * 2,none⟩=some (.int .i64 bs[i].1)∧W.cell? ⟨g,i * 2+1,none⟩=some (.int .i64 bs[i].2)∧W.frozen? ⟨g,i * 2,none⟩=false∧W.frozen? ⟨g,i * 2+1,none⟩=false:=by
 obtain⟨cur,hg,h1,h2,h3,h4⟩:=h
 obtain⟨f0,f1⟩:=flat_get bs i bs[i] (List.getElem?_eq_getElem hi)
 rw[← h4,List.getElem?_take_of_lt (by omega)] at f0 f1
 rw[Array.getElem?_toList] at f0 f1
 refine⟨?_,?_,?_,?_⟩ <;> simp[World.cell?,World.frozen?,hg,f0,f1]
theorem Row.lies {W:World} {g cap:Nat} {bs:List Bk} (h:Row W g cap bs):Lies W (some ⟨g,0,none⟩) cap bs:=
 ⟨h.len.2,h.len.1,fun _=>⟨g,0,rfl,fun i x hi=>by
   obtain⟨hl,e⟩:=List.getElem?_eq_some_iff.1 hi
   obtain⟨c0,c1,_⟩:=h.cell hl
   rw[e] at c0 c1
   rw[Nat.zero_add]; exact⟨c0,c1⟩⟩⟩
theorem flat_set (bs:List Bk):∀ (i:Nat) (x:Bk),flat (bs.set i x)=((flat bs).set (i * 2) (.int .i64 x.1)).set (i * 2+1) (.int .i64 x.2):=by
 induction bs with
 | nil=>intro i x; simp[flat]
 | cons y bs ih=>
   intro i x
   have e:∀ (y:Bk) bs,flat (y :: bs)=.int .i64 y.1 :: .int .i64 y.2 :: flat bs:=fun y bs=>by simp[flat]
   cases i with
   | zero=>simp[e]
   | succ i=>
     rw[List.set_cons_succ,e,e,ih i x,show (i+1) * 2=i * 2+1+1 by omega]
     simp[List.set_cons_succ]
def put2 (W:World) (g i:Nat) (x:Bk):World:=(W.setCell ⟨g,i * 2,none⟩ (.int .i64 x.1)).setCell ⟨g,i * 2+1,none⟩ (.int .i64 x.2)
theorem Row.put {W:World} {g cap:Nat} {bs:List Bk} (h:Row W g cap bs) (i:Nat) (x:Bk):Row (put2 W g i x) g cap (bs.set i x):=by
 obtain⟨cur,hg,h1,h2,h3,h4⟩:=h
 refine⟨(cur.setIfInBounds (i * 2) (.int .i64 x.1)).setIfInBounds (i * 2+1) (.int .i64 x.2),heap_setCell_same _ _ _ _ _ _ (heap_setCell_same _ _ _ _ _ _ hg),by simpa using h1,h2,by simpa using h3,?_⟩
 rw[List.length_set,flat_set,← h4]
 simp[List.take_set]
theorem Row.put_other {W:World} {g cap:Nat} {bs:List Bk} (h:Row W g cap bs) {a:Addr} (ha:g≠a.block) (v:Value):Row (W.setCell a v) g cap bs:=by
 obtain⟨cur,hg,r⟩:=h
 exact⟨cur,(heap_setCell_other _ _ _ _ ha).trans hg,r⟩
theorem Row.drew {W:World} {g cap:Nat} {bs:List Bk} (h:Row W g cap bs):Row W.drew g cap bs:=h
theorem Row.cut {W:World} {g cap:Nat} {bs:List Bk} (h:Row W g cap bs) (i:Nat):Row W g cap (bs.take i):=by
 obtain⟨cur,hg,h1,h2,h3,h4⟩:=h
 have hl:(bs.take i).length≤bs.length:=by simp; omega
 refine⟨cur,hg,by omega,h2,h3,?_⟩
 have e:flat (bs.take i)=(flat bs).take ((bs.take i).length * 2):=by
  have e1:flat bs=flat (bs.take i) ++ flat (bs.drop i):=by
   conv=>lhs; rw[← List.take_append_drop i bs]
   unfold flat
   rw[List.flatMap_append]
  rw[e1]
  exact (List.take_left' (flat_length (bs.take i))).symm
 rw[e,← h4,List.take_take]
 congr 1; omega
theorem below_put {B:Nat} {w W:World} (h:Below B w W) {g:Nat} (hg:B≤g) (i:Nat) (x:Bk):Below B w (put2 W g i x):=(h.setCell (p:=⟨g,i * 2,none⟩) hg _).setCell (p:=⟨g,i * 2+1,none⟩) hg _
end Go.Proofs.YtbamodkgagcmnaaGreat.Pol
