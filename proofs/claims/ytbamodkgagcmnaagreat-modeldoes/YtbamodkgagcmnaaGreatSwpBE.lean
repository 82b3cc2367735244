/-
  Package sweep: Step and All, as contracts.
-/
import Derived.Test.YtbamodkgagcmnaaGreatSwpAE
import Derived.Test.YtbamodkgagcmnaaGreatBRgnE
import Derived.Laws.EntriesVeiled
import Derived.BigQuiet
import Derived.Deep.RegionHeld3
set_option maxRecDepth 100000
namespace Go.Proofs.YtbamodkgagcmnaaGreat.Swp
open Go.RowKit Go.Shelf RowG Tab Prb Flo Rgn
attribute [local go_sem] Oper.semAt_some
theorem inv_change {m k:Nat} {W w:World} {ty:Nat→TypeId} {zero val val' vals vals':Nat→Value} {d:Nat→Bool} {x:Nat→Value} {b:Nat→Nat} (h:Inv m k W ty zero val vals d x b w)
 (hv:∀ i,i<m→d i=true→vals' i=vals i) (hc:∀ i,m≤i→i<m+k→d (i+k)=true→val' i=val i):Inv m k W ty zero val' vals' d x b w where
 below:=h.below
 pure i hi hd:=(h.pure i hi hd).trans (hv i hi hd).symm
 order:=h.order
 cell i h1 h2 hd:=by
  obtain⟨a1,a2,a3⟩:=h.cell i h1 h2 hd
  refine⟨a1,a2,?_⟩
  by_cases hk:d (i+k)=true
  ·rw[if_pos hk] at a3 ⊢; rw[hc i h1 h2 hk]; exact a3
  ·rw[if_neg hk] at a3 ⊢; exact a3
 apart:=h.apart
theorem own_set {W:World} {B b:Nat} {t:TypeId} {u v y:Value} {T:List Ent} (h:RowG.Own entK 66 B W v T) (hb:Boxed W b t u) (ht:t≠66):RowG.Own entK 66 B (W.setCell ⟨b,0,none⟩ y) v T:=
 World.ownsRow.kept h (grownBy_setCell' W b y) (.inr (hb.not_row ht h).symm)
abbrev frA (a:Option Addr) (cap:Nat) (T:List Ent) (f q now:Int) (B:Nat) (x:Nat→Value):Act:= { tmps:=#[rowV a cap T,.int .i64 f,.int .i64 q,.int .i64 now,.pointer (some ⟨B,0,none⟩),undef,undef,undef,.slice none 0 0,.int .i64 0,.int .i64 0,x 6,x 7,undef,undef,undef,x 0,x 1,x 2,x 3,x 4,x 5,undef,undef,undef,undef,undef,undef,undef,undef,undef,undef,undef,undef,undef,undef,undef,undef,undef,undef,undef,undef,undef,undef,undef,undef,undef,undef,undef,undef,undef,undef,undef,undef,undef,undef,undef,undef,undef,undef,undef],defers:=[] }
abbrev frB (a:Option Addr) (cap:Nat) (T:List Ent) (f q now:Int) (B bc bn bd bo B1:Nat) (v:Value) (h x:Nat) (z:Nat→Value):Act:= { tmps:=#[rowV a cap T,.int .i64 f,.int .i64 q,.int .i64 now,.pointer (some ⟨B,0,none⟩),undef,undef,undef,.slice none 0 0,.int .i64 0,.int .i64 0,.pointer (some ⟨bc,0,none⟩),.pointer (some ⟨bn,0,none⟩),.pointer (some ⟨bd,0,none⟩),.pointer (some ⟨bo,0,none⟩),.int .i64 (x:Nat),rowV a cap T,v,.int .i64 f,rowV a cap T,.int .i64 (T.length:Nat),.int .i64 (h:Nat),.int .i64 now,overV now,.int .i64 (h:Nat),.int .i64 q,rowV a cap T,.int .i64 (T.length:Nat),.func (.func 156) #[] #[.pointer (some ⟨B1,0,none⟩),.pointer (some ⟨B1+1,0,none⟩),.pointer (some ⟨B1+2,0,none⟩)],.int .i64 (x:Nat),z 0,z 1,z 2,z 3,z 4,z 5,undef,undef,undef,undef,undef,undef,undef,undef,undef,undef,undef,undef,undef,undef,undef,undef,undef,undef,undef,undef,undef,undef,undef,undef,undef],defers:=[] }
def valB (now:Int) (v:Value) (g x:Nat) (e:Ent) (c:Bool):Nat→Value
 | 0=>overV now
 | 1=>v
 | 2=>.int .i64 (x:Nat)
 | 3=>.pointer (some ⟨g,x * 4,none⟩)
 | 4=>entV e
 | _=>.bool c
theorem lies_set {W:World} {b:Nat} {t:TypeId} {s:Option Addr} {m n:Nat} {a:Option Addr} {cap:Nat} {T:List Ent} (h:Lies entK W a cap T) (hb:Boxed W b t (.slice s m n)) (y:Value):Lies entK (W.setCell ⟨b,0,none⟩ y) a cap T:=by
 refine⟨h.max,h.len,fun hne=>?_⟩
 obtain⟨b',off,e,hc⟩:=h.cell hne
 have hbp:b≠b':=by
  rintro rfl
  cases T with
  | nil=>exact hne rfl
  | cons x T=>
    have:=hc 0 x rfl 0 _ rfl
    simp only[World.cell?,show W.heap[b]? =_ from hb] at this
    rcases Nat.eq_zero_or_pos off with h0 | h0
    ·subst h0; simp[entK] at this
    ·simp[Array.getElem?_eq_none (show (#[Value.slice s m n]).size≤off by simp; omega)] at this
 exact⟨b',off,e,fun i x hi j v hj=>(World.cell?_setCell_far _ _ _ _ hbp).trans (hc i x hi j v hj)⟩
abbrev frC (a:Option Addr) (cap:Nat) (T:List Ent) (f q now:Int) (B bc bn bd bo B1 D:Nat) (v:Value) (h:Nat) (z:Nat→Value):Act:= { tmps:=#[rowV a cap T,.int .i64 f,.int .i64 q,.int .i64 now,.pointer (some ⟨B,0,none⟩),undef,undef,undef,.slice none 0 0,.int .i64 0,.int .i64 0,.pointer (some ⟨bc,0,none⟩),.pointer (some ⟨bn,0,none⟩),.pointer (some ⟨bd,0,none⟩),.pointer (some ⟨bo,0,none⟩),undef,rowV a cap T,v,.int .i64 f,rowV a cap T,.int .i64 (T.length:Nat),.int .i64 (h:Nat),.int .i64 now,overV now,.int .i64 (h:Nat),.int .i64 q,rowV a cap T,.int .i64 (T.length:Nat),.func (.func 156) #[] #[.pointer (some ⟨B1,0,none⟩),.pointer (some ⟨B1+1,0,none⟩),.pointer (some ⟨B1+2,0,none⟩)],undef,undef,undef,undef,undef,undef,undef,undef,undef,undef,undef,undef,undef,undef,undef,undef,undef,z 0,z 1,z 2,z 3,z 4,z 5,z 6,z 7,z 8,z 9,undef,undef,undef,undef,undef],defers:=[{ target:=.collected D,args:=#[] }] }
def valC (c0 c1:Bool) (v:Value) (dn cnt n:Nat):Nat→Value
 | 0=>.int .i64 (dn:Nat)
 | 1=>.bool c0
 | 2=>.bool c0
 | 3=>if c0 then v else undef
 | 4=>if c0 then .int .i64 (cnt:Nat) else undef
 | 5=>if c0 then .int .i64 (2 * (cnt:Int)) else undef
 | 6=>if c0 then v else undef
 | 7=>if c0 then .int .i64 (n:Nat) else undef
 | 8=>if c0 then .bool c1 else undef
 | _=>.bool (c0 && c1)
theorem wpOpIn_left {n:Nat} {P:Program} {ops:Array Oper} {Q:Exit→Act→World→Prop} {i:Nat} {o:Oper} {K:Act→World→Prop} {a:Act} {w:World} (ho:ops[i]? =some o) (hw:Region.wanted o (yielded ops a.tmps)=false)
 (h:∀ K':Act→World→Prop,(∀ a w,K a w→K' a w)→K' (a.put o.dst undef) w):wpOpIn Fence.wide n P ops Q i K a w:=by
 refine wpOpIn_step ho fun K' hK'=>?_
 rw[if_neg (by rw[hw]; simp)]
 exact⟨fun _ _=>trivial,h K' hK'⟩
theorem wpOpIn_done {F:Fence} {n:Nat} {P:Program} {ops:Array Oper} {Q:Exit→Act→World→Prop} {i:Nat} {o:Oper} {K:Act→World→Prop} {a:Act} {w:World} (ho:ops[i]? =some o) (hw:Region.wanted o (yielded ops a.tmps)=true)
 (h:∀ K':Act→World→Prop,(∀ a w,K a w→K' a w)→Oper.wpIn F n P o a w K' Q):wpOpIn F n P ops Q i K a w:=by
 refine wpOpIn_step ho fun K' hK'=>?_
 rw[if_pos hw]
 exact h K' hK'
theorem sweep_keys {now:Int} {n:Nat}:∀ (l:List Nat) (T:List Ent),(∀ x ∈ T,x.key.size≤n)→∀ x ∈ (Tab.sweep now l T).1,x.key.size≤n
 | [],_,h=>h
 | i :: l,T,h=>by
   rw[sweep_cons]
   split
   ·refine sweep_keys l (T.set i tomb) fun x hx=>?_
    rcases List.mem_or_eq_of_mem_set hx with hx | rfl
    ·exact h x hx
    ·show 0≤n; omega
   ·exact sweep_keys l T h
def tyA:Nat→TypeId
 | 6=>50
 | _=>3
def zeroA:Nat→Value
 | 6=>.slice none 0 0
 | _=>.int .i64 0
def valA (v:Value) (h:Nat):Nat→Value
 | 6=>v
 | _=>.int .i64 (h:Nat)
def valsA (r v:Value) (n h:Nat) (f:Int):Nat→Value
 | 0=>r
 | 1=>v
 | 2=>.int .i64 f
 | 3=>r
 | 4=>.int .i64 (n:Nat)
 | _=>.int .i64 (h:Nat)
def St (w:World) (b0 bc bn bd bo:Nat) (r v:Value) (now:Int) (nx dn:Int) (U:List Ent) (W:World):Prop:=
 (((Boxed W b0 50 r∧Boxed W bc 50 v)∧(Boxed W bn 3 (.int .i64 nx)∧Boxed W bd 3 (.int .i64 dn)))∧Boxed W bo 155 (overV now))∧(RowG.Own entK 66 w.heap.size W v U∧Below w.heap.size w W)
structure Ap (n b0 bc bn bd bo:Nat):Prop where
 nn:n≤bn
 nd:n≤bd
 n0:b0≠bn
 nc:bc≠bn
 no:bo≠bn
 dn:bn≠bd
 d0:b0≠bd
 dc:bc≠bd
 od:bo≠bd
section
variable {w W W':World} {b0 bc bn bd bo:Nat} {r v:Value} {now nx dn:Int} {U:List Ent}
theorem St.kept (h:St w b0 bc bn bd bo r v now nx dn U W) (hb:Below W.heap.size W W'):St w b0 bc bn bd bo r v now nx dn U W':=by
 obtain⟨⟨⟨⟨h1,h2⟩,h3,h4⟩,h5⟩,h6,h7⟩:=h
 exact⟨⟨⟨⟨boxed_below h1 hb,boxed_below h2 hb⟩,boxed_below h3 hb,boxed_below h4 hb⟩,boxed_below h5 hb⟩,h6.kept hb,h7.trans (hb.mono h7.size)⟩
theorem St.next (h:St w b0 bc bn bd bo r v now nx dn U W) (ap:Ap w.heap.size b0 bc bn bd bo) (y:Int):St w b0 bc bn bd bo r v now y dn U (W.setCell ⟨bn,0,none⟩ (.int .i64 y)):=by
 obtain⟨⟨⟨⟨h1,h2⟩,h3,h4⟩,h5⟩,h6,h7⟩:=h
 exact⟨⟨⟨⟨h1.other ap.n0 _,h2.other ap.nc _⟩,h3.set _,h4.other ap.dn.symm _⟩,h5.other ap.no _⟩,own_set h6 h3 (by decide),h7.setCell (p:=⟨bn,0,none⟩) ap.nn _⟩
theorem St.due (h:St w b0 bc bn bd bo r v now nx dn U W) (ap:Ap w.heap.size b0 bc bn bd bo) (y:Int):St w b0 bc bn bd bo r v now nx y U (W.setCell ⟨bd,0,none⟩ (.int .i64 y)):=by
 obtain⟨⟨⟨⟨h1,h2⟩,h3,h4⟩,h5⟩,h6,h7⟩:=h
 exact⟨⟨⟨⟨h1.other ap.d0 _,h2.other ap.dc _⟩,h3.other ap.dn _,h4.set _⟩,h5.other ap.od _⟩,own_set h6 h4 (by decide),h7.setCell (p:=⟨bd,0,none⟩) ap.nd _⟩
theorem St.bury {g n cap i:Nat} (h:St w b0 bc bn bd bo r (.slice (some ⟨g,0,none⟩) n cap) now nx dn U W) (hn:U.length=n) (hi:i<n) (x:Ent):St w b0 bc bn bd bo r (.slice (some ⟨g,0,none⟩) n cap) now nx dn (U.set i x) (put4 W g i x):=by
 subst hn
 obtain⟨⟨⟨⟨h1,h2⟩,h3,h4⟩,h5⟩,h6,h7⟩:=h
 obtain⟨g',cap',hv,hg,R⟩:=h6.row (fun e=>by rw[e] at hi; exact absurd hi (by simp))
 have hv':g=g'∧cap=cap':=by cases hv; exact⟨rfl,rfl⟩
 obtain⟨rfl,rfl⟩:=hv'
 have hG:=put4_grown W g i x
 have ne:∀ {b t u},Boxed W b t u→t≠66→some b≠some g:=fun hb ht=>hb.not_row ht h6
 refine⟨⟨⟨⟨h1.kept hG (ne h1 (by decide)),h2.kept hG (ne h2 (by decide))⟩,h3.kept hG (ne h3 (by decide)),h4.kept hG (ne h4 (by decide))⟩,h5.kept hG (ne h5 (by decide))⟩,?_,below_put4 h7 hg i x⟩
 have:=(R.put4 hi x).own hg
 rwa [show rowV (some ⟨g,0,none⟩) cap (U.set i x)=.slice (some ⟨g,0,none⟩) U.length cap by simp[rowV]] at this
theorem st_own {β:Type} {B:Nat} (hB:w.heap.size≤B) (nx dn:β→Int) (U:β→List Ent):OwnFrom B (fun s W=>St w b0 bc bn bd bo r v now (nx s) (dn s) (U s) W):=
 OwnFrom.and (OwnFrom.and (OwnFrom.and (OwnFrom.and ((boxed_own b0 _ (fun _=>r)).from _) ((boxed_own bc _ (fun _=>v)).from _)) (OwnFrom.and ((boxed_own bn _ (fun s=>.int .i64 (nx s))).from _) ((boxed_own bd _ (fun s=>.int .i64 (dn s))).from _))) ((boxed_own bo _ (fun _=>overV now)).from _)) (OwnFrom.and (ownFrom_own U) (ownFrom_below (Nat.le_refl _) hB))
end
theorem norm_next' (n:Nat) (f:Int):norm n f<n∨norm n f=0:=by
 by_cases hn:0<n
 ·exact .inl (norm_lt f hn)
 ·obtain rfl:n=0:=by omega
  exact .inr (norm_zero f)
def swS (now:Int) (T:List Ent) (pre:List (Fin T.length)):List Ent × Nat:=Tab.sweep now (pre.map (·.1)) T
theorem swS_length (now:Int) (T:List Ent) (pre:List (Fin T.length)):(swS now T pre).1.length=T.length:=sweep_length _ _ _
theorem swS_le (now:Int) (T:List Ent) (pre:List (Fin T.length)):(swS now T pre).2≤pre.length:=by
 have key:∀ (l:List Nat) (T:List Ent),(Tab.sweep now l T).2≤l.length:=by
  intro l
  induction l with
  | nil=>intro T; exact Nat.le_refl _
  | cons i l ih=>
    intro T
    rw[sweep_cons]
    split
    ·have:=ih (T.set i tomb)
     show (Tab.sweep now l (T.set i tomb)).2+1≤l.length+1
     omega
    ·have:=ih T
     rw[List.length_cons]; omega
 have:=key (pre.map (·.1)) T
 simpa [swS] using this
theorem swS_yes {now:Int} {T:List Ent} {pre:List (Fin T.length)} {x:Fin T.length} (h:Due (ent (swS now T pre).1 x.1) now):swS now T (pre ++ [x])=((swS now T pre).1.set x.1 tomb,(swS now T pre).2+1):=by
 unfold swS at *
 rw[List.map_append,sweep_append]
 show ((Tab.sweep now [x.1] _).1,_+(Tab.sweep now [x.1] _).2)=_
 rw[sweep_cons,if_pos h]
 rfl
theorem swS_no {now:Int} {T:List Ent} {pre:List (Fin T.length)} {x:Fin T.length} (h:¬ Due (ent (swS now T pre).1 x.1) now):swS now T (pre ++ [x])=swS now T pre:=by
 unfold swS at *
 rw[List.map_append,sweep_append]
 show ((Tab.sweep now [x.1] _).1,_+(Tab.sweep now [x.1] _).2)=_
 rw[sweep_cons,if_neg h]
 rfl
def nxS (n h:Nat) (pre:List (Fin n)):Nat:=match pre.getLast? with
 | some x=>(x.1+1) % n
 | none=>h
theorem nxS_snoc (n h:Nat) (pre:List (Fin n)) (x:Fin n):nxS n h (pre ++ [x])=(x.1+1) % n:=by
 unfold nxS
 rw[List.getLast?_append]; rfl
theorem nxS_all {n h m:Nat} (hm:m≤n) (hh:h<n∨h=0):nxS n h (placesF n h m)=nextP n h m:=by
 unfold nextP
 by_cases hn:0<n
 ·rw[if_neg (by omega)]
  cases m with
  | zero=>
    rw[placesF_zero]
    show h=(h+0) % n
    rw[Nat.add_zero,Nat.mod_eq_of_lt (by omega)]
  | succ k=>
    rw[placesF_succ h k hn,nxS_snoc]
    show ((h+k) % n+1) % n=(h+(k+1)) % n
    rw[Nat.mod_add_mod,Nat.add_assoc]
 ·obtain rfl:n=0:=by omega
  obtain rfl:m=0:=by omega
  rw[placesF_zero,if_pos rfl]
  rcases hh with hh | rfl
  ·omega
  ·rfl
set_option maxRecDepth 100000 in
set_option maxHeartbeats 1000000 in
theorem Step_in (m:Nat) (hm:5≤m) (a:Option Addr) (cap:Nat) (T:List Ent) (f q now:Int) (w:World) (hT:Lies entK w a cap T) (hk:∀ x ∈ T,x.key.size≤4611686018427387904) (hl:T.length≤3518437208883):
 CallsIn Fence.wide m Tryz.prog 78 #[rowV a cap T,.int .i64 f,.int .i64 q,.int .i64 now] w fun e W'=>∃ v,e=.returned (.tuple #[v,.int .i64 (nextP T.length (norm T.length f) (span q T.length):Nat),.int .i64 (dueN now (places T.length (norm T.length f) (span q T.length)) T:Nat)])∧Gives W' v (stepC now (places T.length (norm T.length f) (span q T.length)) T)∧Below w.heap.size w W':=by
 have h1:1≤m:=by omega
 have hlow:=lies_below hT
 have hmx:=hT.max
 have hln:=hT.len
 unfold maxLen at hmx
 have b1:Below w.heap.size w (w.alloc (.cells #[rowV a cap T] 50)):=(Below.refl _ w).alloc (Nat.le_refl _) _
 have hs1:=World.size_alloc w (.cells #[rowV a cap T] 50)
 have x0:=Boxed.new w 50 (rowV a cap T)
 have HT:=Lib.hid (hT.kept b1)
 refine callsIn_of_wp_marks Tryz.func78 rfl trivial ?_ rfl
 simp only[Tryz.ntmps78,List.size_toArray,List.length_cons,List.length_nil,Nat.reduceAdd,Nat.reduceSub,Array.replicate_succ,Array.replicate_zero,List.push_toArray,List.append_toArray,List.nil_append,List.cons_append]
 gi_wp2
 generalize w.alloc (.cells #[rowV a cap T] 50)=W1 at *
 have HS1:=Lib.hid hs1
 have HB1:=Lib.hid b1
 have HX0:=Lib.hid x0
 clear hs1 b1 x0 hT
 refine wpIn_region_inv (fun d A V=>∃ (x:Nat→Value) (b:Nat→Nat) (v:Value),A=frA a cap T f q now w.heap.size x∧Inv 6 2 W1 tyA zeroA (valA v (norm T.length f)) (valsA (rowV a cap T) v T.length (norm T.length f) f) d x b V∧(d 1=true→RowG.Own entK 66 w.heap.size V v T)∧(d 8=true→d 1=true)) (by kernel_rfl) (by kernel_rfl) ?step ?done ?start
 case start=>exact⟨fun _=>undef,fun _=>0,undef,rfl,Inv.start _ _ _ (Below.refl _ W1).drew,fun h=>(by cases h),fun h=>(by cases h)⟩
 case step=>
  rintro d A V i hi hd hall ⟨x,b,v,rfl,hI,hO,h8⟩
  replace hi:i<10:=hi
  have HB:=Lib.hid (hI.below)
  have HO:=Lib.hid hO
  have H8:=Lib.hid h8
  have HV:=Lib.hid (boxed_below HX0.out hI.below)
  have HL:=Lib.hid (HT.out.kept hI.below)
  have HSz:=Lib.hid (show w.heap.size<V.heap.size by have:=HS1.out; have:=hI.below.size; omega)
  clear hO h8
  obtain rfl | rfl | rfl | rfl | rfl | rfl | rfl | rfl | rfl | rfl:i=0∨i=1∨i=2∨i=3∨i=4∨i=5∨i=6∨i=7∨i=8∨i=9:=by omega
  ·have c0:=HV.out.cell
   clear hall
   refine wpOpIn_free rfl rfl (fun K hK=>?_)
   simp only[List.getElem_toArray,List.getElem_cons_zero]
   go_simp
   exact hK _ _ ⟨_,_,v,by simp[upv,valsA],hI.yields (i:=0) (by omega) (Below.refl _ _),fun h=>(by rw[upd_other d (by omega)] at h; exact HO.out h),fun h=>(by rw[upd_other d (by omega)] at h ⊢; exact H8.out h)⟩
  ·have h0:x 0=rowV a cap T:=hI.pure 0 (by omega) (hall 0 (by kernel_rfl))
   clear hall
   refine wpOpIn_free rfl rfl (fun K hK=>?_)
   simp only[List.getElem_toArray,List.getElem_cons_zero,List.getElem_cons_succ]
   go_simp
   refine⟨trivial,(callsIn_wide.2 (Clone_any a cap T V HL.out hl)).mono ?_⟩
   rintro e w3 ⟨v3,rfl,hO3,hb3⟩
   have hI2:=inv_change (val':=valA v3 (norm T.length f)) (vals':=valsA (rowV a cap T) v3 T.length (norm T.length f) f) hI (fun i hi hdi=>?_) (fun i h1 h2 hdi=>?_)
   ·exact hK _ _ ⟨_,_,v3,by simp[upv,valsA,h0],hI2.yields (i:=1) (by omega) hb3,fun _=>own_less (Nat.le_of_lt HSz.out) hO3,fun h=>upd_same _ _⟩
   ·have hne:i≠1:=fun e=>by rw[e,hd] at hdi; cases hdi
    obtain rfl | rfl | rfl | rfl | rfl:i=0∨i=2∨i=3∨i=4∨i=5:=by omega
    all_goals rfl
   ·obtain rfl | rfl:i=6∨i=7:=by omega
    ·have:=H8.out hdi; rw[hd] at this; cases this
    ·rfl
  ·clear hall
   refine wpOpIn_free rfl rfl (fun K hK=>?_)
   simp only[List.getElem_toArray,List.getElem_cons_zero,List.getElem_cons_succ]
   go_simp
   exact hK _ _ ⟨_,_,v,by simp[upv,valsA],hI.yields (i:=2) (by omega) (Below.refl _ _),fun h=>(by rw[upd_other d (by omega)] at h; exact HO.out h),fun h=>(by rw[upd_other d (by omega)] at h ⊢; exact H8.out h)⟩
  ·have c0:=HV.out.cell
   clear hall
   refine wpOpIn_free rfl rfl (fun K hK=>?_)
   simp only[List.getElem_toArray,List.getElem_cons_zero,List.getElem_cons_succ]
   go_simp
   exact hK _ _ ⟨_,_,v,by simp[upv,valsA],hI.yields (i:=3) (by omega) (Below.refl _ _),fun h=>(by rw[upd_other d (by omega)] at h; exact HO.out h),fun h=>(by rw[upd_other d (by omega)] at h ⊢; exact H8.out h)⟩
  ·have h3:x 3=rowV a cap T:=hI.pure 3 (by omega) (hall 3 (by kernel_rfl))
   clear hall
   refine wpOpIn_free rfl rfl (fun K hK=>?_)
   simp only[List.getElem_toArray,List.getElem_cons_zero,List.getElem_cons_succ]
   go_simp
   exact hK _ _ ⟨_,_,v,by simp[upv,valsA,h3],hI.yields (i:=4) (by omega) (Below.refl _ _),fun h=>(by rw[upd_other d (by omega)] at h; exact HO.out h),fun h=>(by rw[upd_other d (by omega)] at h ⊢; exact H8.out h)⟩
  ·have h2:x 2=.int .i64 f:=hI.pure 2 (by omega) (hall 2 (by kernel_rfl))
   have h4:x 4=.int .i64 (T.length:Nat):=hI.pure 4 (by omega) (hall 4 (by kernel_rfl))
   clear hall
   refine wpOpIn_free rfl rfl (fun K hK=>?_)
   simp only[List.getElem_toArray,List.getElem_cons_zero,List.getElem_cons_succ]
   go_simp
   refine⟨trivial,(callsIn_wide.2 (start_told f T.length V)).mono ?_⟩
   rintro e w3 ⟨rfl,rfl⟩
   exact hK _ _ ⟨_,_,v,by simp[upv,valsA,h2,h4],hI.yields (i:=5) (by omega) (Below.refl _ _),fun h=>(by rw[upd_other d (by omega)] at h; exact HO.out h),fun h=>(by rw[upd_other d (by omega)] at h ⊢; exact H8.out h)⟩
  ·clear hall
   refine wpOpIn_free rfl rfl (fun K hK=>?_)
   simp only[List.getElem_toArray,List.getElem_cons_zero,List.getElem_cons_succ]
   go_simp
   exact hK _ _ ⟨_,_,v,rfl,hI.makes (i:=6) (by omega) (by omega) hd,fun h=>(by rw[upd_other d (by omega)] at h; exact (HO.out h).kept ((Below.refl _ V).alloc (Nat.le_refl _) _)),fun h=>(by rw[upd_other d (by omega)] at h ⊢; exact H8.out h)⟩
  ·clear hall
   refine wpOpIn_free rfl rfl (fun K hK=>?_)
   simp only[List.getElem_toArray,List.getElem_cons_zero,List.getElem_cons_succ]
   go_simp
   exact hK _ _ ⟨_,_,v,rfl,hI.makes (i:=7) (by omega) (by omega) hd,fun h=>(by rw[upd_other d (by omega)] at h; exact (HO.out h).kept ((Below.refl _ V).alloc (Nat.le_refl _) _)),fun h=>(by rw[upd_other d (by omega)] at h ⊢; exact H8.out h)⟩
  ·have h1:x 1=v:=hI.pure 1 (by omega) (hall 1 (by kernel_rfl))
   have hdl:=hall 6 (by kernel_rfl)
   have hd1:d 1=true→RowG.Own entK 66 w.heap.size V v T:=HO.out
   have hc1:=hall 1 (by kernel_rfl)
   obtain⟨av,cv,ev,-⟩:=(HO.out hc1).lies
   subst ev
   obtain⟨h9,_,hB2⟩:=hI.cell 6 (by omega) (by omega) hdl
   have c2:=hB2.cell
   have f2:=hB2.frozen
   have HB2:=Lib.hid hB2
   clear hall hB2
   refine wpOpIn_free rfl rfl (fun K hK=>?_)
   simp only[List.getElem_toArray,List.getElem_cons_zero,List.getElem_cons_succ]
   go_simp
   exact hK _ _ ⟨_,_,_,rfl,hI.lays (i:=6) (by omega) (by omega) hdl,fun h=>(by rw[upd_other d (by omega)] at h; exact own_set (hd1 h) HB2.out (by decide)),fun h=>(by rw[upd_other d (by omega)]; exact hc1)⟩
  ·have h5:x 5=.int .i64 (norm T.length f:Nat):=hI.pure 5 (by omega) (hall 5 (by kernel_rfl))
   have hdl:=hall 7 (by kernel_rfl)
   have hd1:d 1=true→RowG.Own entK 66 w.heap.size V v T:=HO.out
   obtain⟨h9,_,hB2⟩:=hI.cell 7 (by omega) (by omega) hdl
   have c2:=hB2.cell
   have f2:=hB2.frozen
   have HB2:=Lib.hid hB2
   clear hall hB2
   refine wpOpIn_free rfl rfl (fun K hK=>?_)
   simp only[List.getElem_toArray,List.getElem_cons_zero,List.getElem_cons_succ]
   go_simp
   exact hK _ _ ⟨_,_,_,rfl,hI.lays (i:=7) (by omega) (by omega) hdl,fun h=>(by rw[upd_other d (by omega)] at h; exact own_set (hd1 h) HB2.out (by decide)),fun h=>(by rw[upd_other d (by omega)]; rw[upd_other d (by omega)] at h; exact H8.out h)⟩
 case done=>
  rintro d A V hall ⟨x,b,v,rfl,hI,hO,-⟩
  replace hall:∀ i,i<10→d i=true:=hall
  have x0:x 0=rowV a cap T:=hI.pure 0 (by omega) (hall 0 (by omega))
  have x1:x 1=v:=hI.pure 1 (by omega) (hall 1 (by omega))
  have x2:x 2=.int .i64 f:=hI.pure 2 (by omega) (hall 2 (by omega))
  have x3:x 3=rowV a cap T:=hI.pure 3 (by omega) (hall 3 (by omega))
  have x4:x 4=.int .i64 (T.length:Nat):=hI.pure 4 (by omega) (hall 4 (by omega))
  have x5:x 5=.int .i64 (norm T.length f:Nat):=hI.pure 5 (by omega) (hall 5 (by omega))
  obtain⟨x6,l6,r6⟩:=hI.cell 6 (by omega) (by omega) (hall 6 (by omega))
  obtain⟨x7,l7,r7⟩:=hI.cell 7 (by omega) (by omega) (hall 7 (by omega))
  have hne:b 6≠b 7:=fun e=>absurd (hI.apart 6 7 (by omega) (by omega) (by omega) (by omega) (hall 6 (by omega)) (hall 7 (by omega)) e) (by omega)
  rw[if_pos (hall (6+2) (by omega))] at r6
  rw[if_pos (hall (7+2) (by omega))] at r7
  have hO2:=hO (hall 1 (by omega))
  have hB:=hI.below
  clear hI hall hO
  generalize b 6=bc at *
  generalize b 7=bn at *
  simp only[frA,x0,x1,x2,x3,x4,x5,x6,x7]
  clear x0 x1 x2 x3 x4 x5 x6 x7 x b d
  replace r6:Boxed V bc 50 v:=r6
  replace r7:Boxed V bn 3 (.int .i64 (norm T.length f:Nat)):=r7
  obtain⟨av,cv,rfl,-⟩:=hO2.lies
  have k1:=Boxed.new (V.alloc (.cells #[.int .i64 0] 3)) 155 (overV now)
  have k0:=(Boxed.new V 3 (.int .i64 0)).alloc (.cells #[overV now] 155)
  simp only[World.size_alloc] at k1
  have hVs:=hB.size
  have hV0:w.heap.size<V.heap.size:=by have:=HS1.out; omega
  have hlc:=r6.lt
  have hln':=r7.lt
  have t2:Boxed ((V.alloc (.cells #[.int .i64 0] 3)).alloc (.cells #[overV now] 155)) w.heap.size 50 (rowV a cap T):=((boxed_below HX0.out hB).alloc _).alloc _
  have n2:Boxed ((V.alloc (.cells #[.int .i64 0] 3)).alloc (.cells #[overV now] 155)) bn 3 (.int .i64 (norm T.length f:Nat)):=(r7.alloc _).alloc _
  have bb:Below w.heap.size w ((V.alloc (.cells #[.int .i64 0] 3)).alloc (.cells #[overV now] 155)):=((HB1.out.trans (hB.mono HB1.out.size)).alloc (by omega) _).alloc (by simp; omega) _
  have hst:St w w.heap.size bc bn V.heap.size (V.heap.size+1) (rowV a cap T) (rowV av cv T) now (norm T.length f) 0 T ((V.alloc (.cells #[.int .i64 0] 3)).alloc (.cells #[overV now] 155)):=
   ⟨⟨⟨⟨t2,(r6.alloc _).alloc _⟩,n2,k0⟩,k1⟩,(hO2.kept ((Below.refl _ V).alloc (Nat.le_refl _) _)).kept ((Below.refl _ _).alloc (Nat.le_refl _) _),bb⟩
  have HST:=Lib.hid hst
  have HAP:=Lib.hid (show Ap w.heap.size w.heap.size bc bn V.heap.size (V.heap.size+1) from⟨by have:=HS1.out; omega,by omega,by have:=HS1.out; omega,hne,by omega,by omega,by omega,by omega,by omega⟩)
  have HBC:=Lib.hid (show w.heap.size≤bc∧bc<V.heap.size from⟨by have:=HS1.out; omega,hlc⟩)
  have t3:=t2.cell
  have n3:=n2.cell
  have hW2:=World.size_alloc (V.alloc (.cells #[.int .i64 0] 3)) (.cells #[overV now] 155)
  have hW2':V.heap.size+1<((V.alloc (.cells #[.int .i64 0] 3)).alloc (.cells #[overV now] 155)).heap.size:=by rw[hW2]; simp
  have hbn2:bn<((V.alloc (.cells #[.int .i64 0] 3)).alloc (.cells #[overV now] 155)).heap.size:=n2.lt
  have HNO:=Lib.hid (norm_next' T.length f)
  clear t2 n2 bb hst hne l6 l7 k0 k1 r6 r7 hO2 hB hlc hln' hVs hW2
  gi_wp2_with fail
  generalize hbd:V.heap.size=bd at *
  generalize hbo:bd+1=bo at *
  generalize (V.alloc (.cells #[.int .i64 0] 3)).alloc (.cells #[overV now] 155)=W2 at *
  clear hbd V t3 n3 hV0
  generalize hno:norm T.length f=h at *
  have HNOR:=Lib.hid hno
  clear hno
  refine⟨trivial,?_⟩
  gi_at_call 116
  refine (callsIn_wide.2 (places_told _ _ _ rfl rfl rfl _)).mono ?_
  rintro e w' ⟨rfl,rfl⟩
  gi_wp2
  have k1:=((Boxed.new W2 3 (.int .i64 (h:Nat))).alloc (.cells #[.int .i64 q] 3)).alloc (.cells #[.int .i64 (T.length:Nat)] 3)
  have k2:=(Boxed.new (W2.alloc (.cells #[.int .i64 (h:Nat)] 3)) 3 (.int .i64 q)).alloc (.cells #[.int .i64 (T.length:Nat)] 3)
  have k3:=Boxed.new ((W2.alloc (.cells #[.int .i64 (h:Nat)] 3)).alloc (.cells #[.int .i64 q] 3)) 3 (.int .i64 (T.length:Nat))
  simp only[World.size_alloc] at k2 k3
  have b3:Below W2.heap.size W2 (((W2.alloc (.cells #[.int .i64 (h:Nat)] 3)).alloc (.cells #[.int .i64 q] 3)).alloc (.cells #[.int .i64 (T.length:Nat)] 3)):=(((Below.refl _ W2).alloc (Nat.le_refl _) _).alloc (by simp) _).alloc (by simp; omega) _
  have hst3:=HST.out.kept b3
  have hgl:=Lib.hid (fun k e=>(World.ownsRow.lt HST.out.2.1 k e).2)
  generalize hW3:((W2.alloc (.cells #[.int .i64 (h:Nat)] 3)).alloc (.cells #[.int .i64 q] 3)).alloc (.cells #[.int .i64 (T.length:Nat)] 3)=W3 at *
  have hs3:W3.heap.size=W2.heap.size+3:=by rw[← hW3]; simp
  have HS3:=Lib.hid hs3
  have hwl:=HST.out.2.2.size
  clear hW3 HST b3
  generalize W2.heap.size=B1 at *
  refine wpIn_rangeFunc_ownH rfl h1 (gf:=156) (lb:=#[.pointer (some ⟨B1,0,none⟩),.pointer (some ⟨B1+1,0,none⟩),.pointer (some ⟨B1+2,0,none⟩)]) rfl trivial (enters_of Tryz.func156 (by kernel_rfl) rfl)
   (places_stops (m - 1) (by omega) B1 (B1+1) (B1+2) T.length h q (by omega) HNO.out W3 (by omega) (by omega) (by omega) k1.cell k2.cell k3.cell) keepsIn_t keepsIn_b (Below.refl _ _) (fun _=>rfl)
   (fun pre W=>St w w.heap.size bc bn bd bo (rowV a cap T) (rowV av cv T) now ((nxS T.length h pre:Nat):Int) (((swS now T pre).2:Nat):Int) (swS now T pre).1 W)
   (fun _ _ _=>False)
   (st_own (by omega) (fun pre=>((nxS T.length h pre:Nat):Int)) (fun pre=>(((swS now T pre).2:Nat):Int)) (fun pre=>(swS now T pre).1))
   (fun c s A B row h _ _=>h)
   hst3
   (fun x a' W=>a'= { tmps:=#[rowV a cap T,.int .i64 f,.int .i64 q,.int .i64 now,.pointer (some ⟨w.heap.size,0,none⟩),undef,undef,undef,.slice none 0 0,.int .i64 0,.int .i64 0,.pointer (some ⟨bc,0,none⟩),.pointer (some ⟨bn,0,none⟩),.pointer (some ⟨bd,0,none⟩),.pointer (some ⟨bo,0,none⟩),.int .i64 (x.1:Nat),rowV a cap T,rowV av cv T,.int .i64 f,rowV a cap T,.int .i64 (T.length:Nat),.int .i64 (h:Nat),.int .i64 now,overV now,.int .i64 (h:Nat),.int .i64 q,rowV a cap T,.int .i64 (T.length:Nat),.func (.func 156) #[] #[.pointer (some ⟨B1,0,none⟩),.pointer (some ⟨B1+1,0,none⟩),.pointer (some ⟨B1+2,0,none⟩)],.int .i64 (x.1:Nat),undef,undef,undef,undef,undef,undef,undef,undef,undef,undef,undef,undef,undef,undef,undef,undef,undef,undef,undef,undef,undef,undef,undef,undef,undef,undef,undef,undef,undef,undef,undef],defers:=[] })
   (fun x a'=>Own.from (fun s A B row hs hg hr=>hs) _) ?assign ?body ?done ?stop
  case assign=>
   rintro l pre x W K hSt hK
   have HSt:=Lib.hid hSt
   simp only[placeV]
   clear hst3 k1 k2 k3 hSt
   gi_wp2
   exact hK _ _ (KeepsFrom.refl _ _) (fun _ _ _ hv=>hv) HSt.out rfl
  case body=>
   rintro l pre x a' W _ _ hSt rfl hpre
   have HSt:=Lib.hid hSt
   have hUl:=swS_length now T pre
   have hdn:=swS_le now T pre
   have hsp:=span_le q T.length
   have hx2:=x.2
   have hxl:x.1<(swS now T pre).1.length:=by rw[hUl]; exact x.2
   have hxm:=nxS_snoc T.length h pre x
   have HXM:=Lib.hid hxm
   obtain⟨g,cg,hv,hg,R⟩:=hSt.2.1.row (fun e=>by rw[e] at hxl; exact absurd hxl (by simp))
   obtain⟨c,hc⟩:∃ c:Bool,Due (ent (swS now T pre).1 x.1) now↔c=true:=⟨decide (Due (ent (swS now T pre).1 x.1) now),by simp⟩
   have HSW:=Lib.hid (show swS now T (pre ++ [x])=if c=true then ((swS now T pre).1.set x.1 tomb,(swS now T pre).2+1) else swS now T pre by
    cases c with
    | true=>rw[if_pos rfl]; exact swS_yes (hc.2 rfl)
    | false=>rw[if_neg (by simp)]; exact swS_no (fun hh=>by cases hc.1 hh))
   simp only[rowV] at hv
   rw[hUl] at hv
   simp only[Value.slice.injEq,true_and] at hv
   obtain⟨rfl,rfl⟩:=hv
   obtain⟨z0,z1,z2,z3⟩:=R.ent hxl
   rw[← ent_at hxl] at z0 z1 z2 z3
   have hgl':=hgl.out g rfl
   have HR:=Lib.hid R
   have C:=Lib.hid (fun V=>over_told (ent (swS now T pre).1 x.1) now c hc V)
   have HZ:=Lib.hid (show ∀ V,Below W.heap.size W V→V.cell? ⟨g,x.1 * 4,none⟩=some (.int .i64 (ent (swS now T pre).1 x.1).st)∧V.cell? ⟨g,x.1 * 4+1,none⟩=some (.string (ent (swS now T pre).1 x.1).key)∧V.cell? ⟨g,x.1 * 4+2,none⟩=some (.int .i64 (ent (swS now T pre).1 x.1).be)∧V.cell? ⟨g,x.1 * 4+3,none⟩=some (.int .i64 (ent (swS now T pre).1 x.1).dl) from fun V hb=>
    ⟨(hb.cell (World.block_lt_of_cell? W _ z0)).trans z0,(hb.cell (World.block_lt_of_cell? W _ z1)).trans z1,(hb.cell (World.block_lt_of_cell? W _ z2)).trans z2,(hb.cell (World.block_lt_of_cell? W _ z3)).trans z3⟩)
   have CB:=Lib.hid (fun V=>behind_told x.1 T.length x.2 (by omega) V)
   rw[← hxm] at CB
   clear hst3 k1 k2 k3 hSt hc R z0 z1 z2 z3 hxm
   generalize hnx:nxS T.length h (pre ++ [x])=nx' at *
   have HNX:=Lib.hid hnx
   clear hnx
   generalize nxS T.length h pre=nx at *
   generalize swS now T pre=SS at *
   generalize ent SS.1 x.1=y at *
   gi_wp2_with fail
   refine wpIn_region_inv (fun d A V=>∃ z:Nat→Value,A=frB a cap T f q now w.heap.size bc bn bd bo B1 (rowV (some ⟨g,0,none⟩) cv T) h x.1 z∧InvJ 6 (valB now (rowV (some ⟨g,0,none⟩) cv T) g x.1 y c) (fun _ V=>Below W.heap.size W V) d z V) (by kernel_rfl) (by kernel_rfl) ?bstep ?bdone ?bstart
   case bstart=>exact⟨fun _=>undef,rfl,InvJ.start _ (Below.refl _ W).drew⟩
   case bstep=>
    rintro d A V i hi hd hall ⟨z,rfl,hI⟩
    replace hi:i<6:=hi
    have hb:=hI.st
    obtain⟨⟨⟨⟨_,s2⟩,_,_⟩,s5⟩,_,_⟩:=HSt.out.kept hb
    have e2:=s2.cell
    have e5:=s5.cell
    obtain⟨z0,z1,z2,z3⟩:=HZ.out V hb
    have HB:=Lib.hid hb
    clear s2 s5 hb
    obtain rfl | rfl | rfl | rfl | rfl | rfl:i=0∨i=1∨i=2∨i=3∨i=4∨i=5:=by omega
    ·clear hall
     refine wpOpIn_free rfl rfl (fun K hK=>?_)
     simp only[List.getElem_toArray,List.getElem_cons_zero]
     go_simp
     exact hK _ _ ⟨_,by simp[upv,valB],hI.yields 0 HB.out⟩
    ·clear hall
     refine wpOpIn_free rfl rfl (fun K hK=>?_)
     simp only[List.getElem_toArray,List.getElem_cons_zero,List.getElem_cons_succ]
     go_simp
     exact hK _ _ ⟨_,by simp[upv,valB],hI.yields 1 HB.out⟩
    ·clear hall
     refine wpOpIn_free rfl rfl (fun K hK=>?_)
     simp only[List.getElem_toArray,List.getElem_cons_zero,List.getElem_cons_succ]
     go_simp
     exact hK _ _ ⟨_,by simp[upv,valB],hI.yields 2 HB.out⟩
    ·have h1':z 1=rowV (some ⟨g,0,none⟩) cv T:=hI.pure 1 (by omega) (hall 1 (by kernel_rfl))
     have h2':z 2=.int .i64 (x.1:Nat):=hI.pure 2 (by omega) (hall 2 (by kernel_rfl))
     clear hall
     refine wpOpIn_free rfl rfl (fun K hK=>?_)
     simp only[List.getElem_toArray,List.getElem_cons_zero,List.getElem_cons_succ]
     go_simp
     exact hK _ _ ⟨_,by simp[upv,valB,h1',h2'],hI.yields 3 HB.out⟩
    ·have h3':z 3=.pointer (some ⟨g,x.1 * 4,none⟩):=hI.pure 3 (by omega) (hall 3 (by kernel_rfl))
     clear hall
     refine wpOpIn_free rfl rfl (fun K hK=>?_)
     simp only[List.getElem_toArray,List.getElem_cons_zero,List.getElem_cons_succ]
     go_simp
     exact hK _ _ ⟨_,by simp[upv,valB,h3'],hI.yields 4 HB.out⟩
    ·have h0':z 0=overV now:=hI.pure 0 (by omega) (hall 0 (by kernel_rfl))
     have h4':z 4=entV y:=hI.pure 4 (by omega) (hall 4 (by kernel_rfl))
     clear hall
     refine wpOpIn_free rfl rfl (fun K hK=>?_)
     simp only[List.getElem_toArray,List.getElem_cons_zero,List.getElem_cons_succ]
     go_simp
     refine⟨trivial,fun _=>by omega,?_⟩
     refine (CallsIn.inRound l (callsIn_wide.2 (C.out V))).mono ?_
     rintro e w3 ⟨rfl,hb3⟩
     exact hK _ _ ⟨_,by simp[upv,valB,h0',h4'],hI.yields 5 (below2 HB.out hb3)⟩
   case bdone=>
    rintro d A V hall ⟨z,rfl,hI⟩
    replace hall:∀ i,i<6→d i=true:=hall
    have y0:z 0=overV now:=hI.pure 0 (by omega) (hall 0 (by omega))
    have y1:z 1=rowV (some ⟨g,0,none⟩) cv T:=hI.pure 1 (by omega) (hall 1 (by omega))
    have y2:z 2=.int .i64 (x.1:Nat):=hI.pure 2 (by omega) (hall 2 (by omega))
    have y3:z 3=.pointer (some ⟨g,x.1 * 4,none⟩):=hI.pure 3 (by omega) (hall 3 (by omega))
    have y4:z 4=entV y:=hI.pure 4 (by omega) (hall 4 (by omega))
    have y5:z 5=.bool c:=hI.pure 5 (by omega) (hall 5 (by omega))
    have hb:=hI.st
    simp only[frB,y0,y1,y2,y3,y4,y5]
    clear y0 y1 y2 y3 y4 y5 hI hall z d C HZ
    have GV:=Lib.hid (grown_none hb)
    have SV:=HSt.out.kept hb
    have HSV:=Lib.hid SV
    clear HSt
    cases c with
    | true=>
      have S6:=SV.bury hUl hx2 tomb
      have S7:=S6.due HAP.out ((SS.2:Int)+1)
      have HS8:=Lib.hid (S7.next HAP.out ((nx':Nat):Int))
      obtain⟨⟨⟨⟨_,s2⟩,_,_⟩,_⟩,_,_⟩:=SV
      obtain⟨⟨⟨_,_,s4⟩,_⟩,_,_⟩:=S6
      obtain⟨⟨⟨⟨s1,_⟩,s3,_⟩,_⟩,_,_⟩:=S7
      have e2:=s2.cell
      have e4:((((V.setCell ⟨g,x.1 * 4,none⟩ (.int .i64 2)).setCell ⟨g,x.1 * 4+1,none⟩ (.string ⟨#[]⟩)).setCell ⟨g,x.1 * 4+2,none⟩ (.int .i64 0)).setCell ⟨g,x.1 * 4+3,none⟩ (.int .i64 0)).cell? ⟨bd,0,none⟩=some (.int .i64 ((SS.2:Nat):Int)):=s4.cell
      have e4f:((((V.setCell ⟨g,x.1 * 4,none⟩ (.int .i64 2)).setCell ⟨g,x.1 * 4+1,none⟩ (.string ⟨#[]⟩)).setCell ⟨g,x.1 * 4+2,none⟩ (.int .i64 0)).setCell ⟨g,x.1 * 4+3,none⟩ (.int .i64 0)).frozen? ⟨bd,0,none⟩=false:=s4.frozen
      have e1:(((((V.setCell ⟨g,x.1 * 4,none⟩ (.int .i64 2)).setCell ⟨g,x.1 * 4+1,none⟩ (.string ⟨#[]⟩)).setCell ⟨g,x.1 * 4+2,none⟩ (.int .i64 0)).setCell ⟨g,x.1 * 4+3,none⟩ (.int .i64 0)).setCell ⟨bd,0,none⟩ (.int .i64 ((SS.2:Int)+1))).cell? ⟨w.heap.size,0,none⟩=some (rowV a cap T):=s1.cell
      have e3:(((((V.setCell ⟨g,x.1 * 4,none⟩ (.int .i64 2)).setCell ⟨g,x.1 * 4+1,none⟩ (.string ⟨#[]⟩)).setCell ⟨g,x.1 * 4+2,none⟩ (.int .i64 0)).setCell ⟨g,x.1 * 4+3,none⟩ (.int .i64 0)).setCell ⟨bd,0,none⟩ (.int .i64 ((SS.2:Int)+1))).cell? ⟨bn,0,none⟩=some (.int .i64 (nx:Nat)):=s3.cell
      have e3f:(((((V.setCell ⟨g,x.1 * 4,none⟩ (.int .i64 2)).setCell ⟨g,x.1 * 4+1,none⟩ (.string ⟨#[]⟩)).setCell ⟨g,x.1 * 4+2,none⟩ (.int .i64 0)).setCell ⟨g,x.1 * 4+3,none⟩ (.int .i64 0)).setCell ⟨bd,0,none⟩ (.int .i64 ((SS.2:Int)+1))).frozen? ⟨bn,0,none⟩=false:=s3.frozen
      have RV:=HR.out.kept hb
      obtain⟨z0,z1,z2,z3⟩:=RV.ent hxl
      have f0:=RV.free (x.1 * 4)
      have f1:=RV.free (x.1 * 4+1)
      have f2:=RV.free (x.1 * 4+2)
      have f3:=RV.free (x.1 * 4+3)
      have KO:=Lib.hid (show KeepsOthers W ((((((V.setCell ⟨g,x.1 * 4,none⟩ (.int .i64 2)).setCell ⟨g,x.1 * 4+1,none⟩ (.string ⟨#[]⟩)).setCell ⟨g,x.1 * 4+2,none⟩ (.int .i64 0)).setCell ⟨g,x.1 * 4+3,none⟩ (.int .i64 0)).setCell ⟨bd,0,none⟩ (.int .i64 ((SS.2:Int)+1))).setCell ⟨bn,0,none⟩ (.int .i64 (nx':Nat))) from (KeepsOthers.of_grownBy GV.out (fun j o e=>by cases e)).trans ((((((KeepsOthers.setCell _ _ _).trans (KeepsOthers.setCell _ _ _)).trans (KeepsOthers.setCell _ _ _)).trans (KeepsOthers.setCell _ _ _)).trans (KeepsOthers.setCell _ _ _)).trans (KeepsOthers.setCell _ _ _)))
      have KI:=Lib.hid (show KeepsIn (fun b=>b=B1+2) W ((((((V.setCell ⟨g,x.1 * 4,none⟩ (.int .i64 2)).setCell ⟨g,x.1 * 4+1,none⟩ (.string ⟨#[]⟩)).setCell ⟨g,x.1 * 4+2,none⟩ (.int .i64 0)).setCell ⟨g,x.1 * 4+3,none⟩ (.int .i64 0)).setCell ⟨bd,0,none⟩ (.int .i64 ((SS.2:Int)+1))).setCell ⟨bn,0,none⟩ (.int .i64 (nx':Nat))) from fun p u hp hu=>by
       have hp':p.block=B1+2:=hp
       have u1:=GV.out.cell hu (by simp)
       have u2:=(put4_grown V g x.1 tomb).cell u1 (fun e=>by cases e; omega)
       have u3:=(grownBy_setCell' ((((V.setCell ⟨g,x.1 * 4,none⟩ (.int .i64 2)).setCell ⟨g,x.1 * 4+1,none⟩ (.string ⟨#[]⟩)).setCell ⟨g,x.1 * 4+2,none⟩ (.int .i64 0)).setCell ⟨g,x.1 * 4+3,none⟩ (.int .i64 0)) bd (.int .i64 ((SS.2:Int)+1))).cell u2 (fun e=>by cases e; omega)
       exact (grownBy_setCell' (((((V.setCell ⟨g,x.1 * 4,none⟩ (.int .i64 2)).setCell ⟨g,x.1 * 4+1,none⟩ (.string ⟨#[]⟩)).setCell ⟨g,x.1 * 4+2,none⟩ (.int .i64 0)).setCell ⟨g,x.1 * 4+3,none⟩ (.int .i64 0)).setCell ⟨bd,0,none⟩ (.int .i64 ((SS.2:Int)+1))) bn (.int .i64 (nx':Nat))).cell u3 (fun e=>by cases e; omega))
      clear s1 s2 s3 s4 RV HSV GV HR hb
      generalize SS.1[x.1]=y' at *
      gi_wp2_with fail
      refine⟨trivial,fun _=>by omega,?_⟩
      refine (CallsIn.inRound l (callsIn_wide.2 (CB.out _))).mono ?_
      rintro e w8 ⟨rfl,rfl⟩
      gi_wp2
      exact⟨KO.out.from _,KI.out,by dsimp only; rw[HNX.out,HSW.out,if_pos trivial]; exact HS8.out⟩
    | false=>
      have HS8:=Lib.hid (SV.next HAP.out ((nx':Nat):Int))
      obtain⟨⟨⟨⟨s1,_⟩,s3,_⟩,_⟩,_,_⟩:=SV
      have e1:=s1.cell
      have e3:=s3.cell
      have e3f:=s3.frozen
      have KO:=Lib.hid (show KeepsOthers W (V.setCell ⟨bn,0,none⟩ (.int .i64 (nx':Nat))) from (KeepsOthers.of_grownBy GV.out (fun j o e=>by cases e)).trans (KeepsOthers.setCell _ _ _))
      have KI:=Lib.hid (show KeepsIn (fun b=>b=B1+2) W (V.setCell ⟨bn,0,none⟩ (.int .i64 (nx':Nat))) from fun p u hp hu=>by
       have hp':p.block=B1+2:=hp
       have u1:=GV.out.cell hu (by simp)
       exact (grownBy_setCell' V bn (.int .i64 (nx':Nat))).cell u1 (fun e=>by cases e; omega))
      clear s1 s3 HSV GV HR hb
      gi_wp2_with fail
      refine⟨trivial,fun _=>by omega,?_⟩
      refine (CallsIn.inRound l (callsIn_wide.2 (CB.out _))).mono ?_
      rintro e w8 ⟨rfl,rfl⟩
      gi_wp2
      exact⟨KO.out.from _,KI.out,by dsimp only; rw[HNX.out,HSW.out,if_neg (by simp)]; exact HS8.out⟩
  case done=>
   rintro D ys W hD rfl hSt hK
   have eS:swS now T (placesF T.length h (span q T.length))=Tab.sweep now (places T.length h (span q T.length)) T:=by unfold swS; rw[placesF_places (span_le _ _)]
   have hUl:=swS_length now T (placesF T.length h (span q T.length))
   have hdn:=swS_le now T (placesF T.length h (span q T.length))
   have hsp:=span_le q T.length
   rw[placesF_length h (span_le _ _)] at hdn
   rw[nxS_all (span_le q T.length) HNO.out,eS] at hSt
   rw[eS] at hUl hdn
   have hkU:=sweep_keys (now:=now) (places T.length h (span q T.length)) T hk
   have HSC:=Lib.hid (show stepC now (places T.length h (span q T.length)) T=if 0<(Tab.sweep now (places T.length h (span q T.length)) T).2 then (if (Tab.sweep now (places T.length h (span q T.length)) T).1.length<2 * count 2 (Tab.sweep now (places T.length h (span q T.length)) T).1 then tidyC (Tab.sweep now (places T.length h (span q T.length)) T).1 else (Tab.sweep now (places T.length h (span q T.length)) T).1) else T from rfl)
   have HZ:=Lib.hid (sweep_zero now (places T.length h (span q T.length)) T)
   have HDN:=Lib.hid (show dueN now (places T.length h (span q T.length)) T=(Tab.sweep now (places T.length h (span q T.length)) T).2 from rfl)
   generalize hdu:dueN now (places T.length h (span q T.length)) T=du at *
   generalize hst':stepC now (places T.length h (span q T.length)) T=sc at *
   generalize Tab.sweep now (places T.length h (span q T.length)) T=SS at *
   generalize hnp:nextP T.length h (span q T.length)=np at *
   have HDU:=Lib.hid hdu
   have HST':=Lib.hid hst'
   have HNP:=Lib.hid hnp
   obtain⟨a5,c5,hv5,hl5⟩:=hSt.2.1.lies
   simp only[rowV] at hv5
   rw[hUl] at hv5
   simp only[Value.slice.injEq,true_and] at hv5
   obtain⟨rfl,rfl⟩:=hv5
   have hcl:=count_le 2 SS.1
   have CC:=Lib.hid (fun V (hb:Below W.heap.size W V)=>Count_told av cv SS.1 2 V (hl5.kept hb))
   have CT:=Lib.hid (fun V (hb:Below W.heap.size W V)=>Tidy_told av cv SS.1 V (hl5.kept hb) hkU)
   have HLI:=Lib.hid hl5
   have HSt:=Lib.hid hSt
   simp only[rowV,hUl] at CC CT
   rw[hUl] at hcl HSC
   generalize count 2 SS.1=cnt at *
   have HC0:=Lib.hid (show ∃ c0:Bool,decide (0<(SS.2:Int))=c0 from⟨_,rfl⟩)
   have HC1:=Lib.hid (show ∃ c1:Bool,decide ((T.length:Int)<2 * (cnt:Int))=c1 from⟨_,rfl⟩)
   obtain⟨c0,hc0⟩:=HC0.out
   obtain⟨c1,hc1⟩:=HC1.out
   have hc0n:decide (0<SS.2)=c0:=by rw[← hc0]; exact decide_eq_decide.2 (by omega)
   have E5:=Lib.hid (show IntKind.i64.wrap (2 * (cnt:Int))=2 * (cnt:Int) from IntWalk.i64_in _ (by omega))
   have HK:=Lib.hid hK
   clear hst3 k1 k2 k3 hSt eS hdu hst' hnp hl5 hkU HC0 HC1 hK
   gi_wp2_with fail
   refine wpIn_region_inv (fun d A V=>∃ z:Nat→Value,A=frC a cap T f q now w.heap.size bc bn bd bo B1 D (rowV av cv T) h z∧InvJ 10 (valC c0 c1 (rowV av cv T) SS.2 cnt T.length) (fun _ V=>Below W.heap.size W V) d z V) (by kernel_rfl) (by kernel_rfl) ?cstep ?cdone ?cstart
   case cstart=>exact⟨fun _=>undef,rfl,InvJ.start _ (Below.refl _ W).drew⟩
   case cstep=>
    rintro d A V i hi hd hall ⟨z,rfl,hI⟩
    replace hi:i<10:=hi
    have hb:=hI.st
    obtain⟨⟨⟨⟨_,s2⟩,_,s4⟩,_⟩,_,_⟩:=HSt.out.kept hb
    have e2:=s2.cell
    have e4:=s4.cell
    have HB:=Lib.hid hb
    have CV:=Lib.hid (CC.out V hb)
    clear s2 s4 hb
    obtain rfl | rfl | rfl | rfl | rfl | rfl | rfl | rfl | rfl | rfl:i=0∨i=1∨i=2∨i=3∨i=4∨i=5∨i=6∨i=7∨i=8∨i=9:=by omega
    ·clear hall
     refine wpOpIn_free rfl rfl (fun K hK=>?_)
     simp only[List.getElem_toArray,List.getElem_cons_zero]
     go_simp
     exact hK _ _ ⟨_,by simp[upv,valC],hI.yields 0 HB.out⟩
    ·have h0:z 0=.int .i64 (SS.2:Nat):=hI.pure 0 (by omega) (hall 0 (by kernel_rfl))
     clear hall
     refine wpOpIn_free rfl rfl (fun K hK=>?_)
     simp only[List.getElem_toArray,List.getElem_cons_zero,List.getElem_cons_succ]
     go_simp
     exact hK _ _ ⟨_,by simp[upv,valC,h0],hI.yields 1 HB.out⟩
    ·have h1:z 1=.bool c0:=hI.pure 1 (by omega) (hall 1 (by kernel_rfl))
     clear hall
     refine wpOpIn_free rfl rfl (fun K hK=>?_)
     simp only[List.getElem_toArray,List.getElem_cons_zero,List.getElem_cons_succ]
     go_simp
     exact hK _ _ ⟨_,by simp[upv,valC,h1],hI.yields 2 HB.out⟩
    ·have h2:z 2=.bool c0:=hI.pure 2 (by omega) (hall 2 (by kernel_rfl))
     cases c0 with
     | false=>
       refine wpOpIn_left rfl ((wanted_if (s:=48) (b:=false) (want:=true) rfl rfl (by simp[h2])).trans rfl) (fun K hK=>?_)
       exact hK _ _ ⟨_,by simp[valC]; rfl,hI.yields 3 HB.out⟩
     | true=>
       refine wpOpIn_done rfl ((wanted_if (s:=48) (b:=true) (want:=true) rfl rfl (by simp[h2])).trans rfl) (fun K hK=>?_)
       clear hall
       simp only[List.getElem_toArray,List.getElem_cons_zero,List.getElem_cons_succ]
       go_simp
       exact hK _ _ ⟨_,by simp[upv,valC,h2],hI.yields 3 HB.out⟩
    ·have h2:z 2=.bool c0:=hI.pure 2 (by omega) (hall 2 (by kernel_rfl))
     cases c0 with
     | false=>
       refine wpOpIn_left rfl ((wanted_if (s:=48) (b:=false) (want:=true) rfl rfl (by simp[h2])).trans rfl) (fun K hK=>?_)
       exact hK _ _ ⟨_,by simp[valC]; rfl,hI.yields 4 HB.out⟩
     | true=>
       have h3:z 3=rowV av cv T:=by simpa [valC] using hI.pure 3 (by omega) (hall 3 (by kernel_rfl))
       refine wpOpIn_done rfl ((wanted_if (s:=48) (b:=true) (want:=true) rfl rfl (by simp[h2])).trans rfl) (fun K hK=>?_)
       clear hall
       simp only[List.getElem_toArray,List.getElem_cons_zero,List.getElem_cons_succ]
       go_simp
       refine⟨trivial,(callsIn_wide.2 CV.out).mono ?_⟩
       rintro e w3 ⟨rfl,hb3⟩
       exact hK _ _ ⟨_,by simp[upv,valC,h2,h3],hI.yields 4 (below2 HB.out hb3)⟩
    ·have h2:z 2=.bool c0:=hI.pure 2 (by omega) (hall 2 (by kernel_rfl))
     cases c0 with
     | false=>
       refine wpOpIn_left rfl ((wanted_if (s:=48) (b:=false) (want:=true) rfl rfl (by simp[h2])).trans rfl) (fun K hK=>?_)
       exact hK _ _ ⟨_,by simp[valC]; rfl,hI.yields 5 HB.out⟩
     | true=>
       have h4:z 4=.int .i64 (cnt:Nat):=by simpa [valC] using hI.pure 4 (by omega) (hall 4 (by kernel_rfl))
       refine wpOpIn_done rfl ((wanted_if (s:=48) (b:=true) (want:=true) rfl rfl (by simp[h2])).trans rfl) (fun K hK=>?_)
       clear hall
       simp only[List.getElem_toArray,List.getElem_cons_zero,List.getElem_cons_succ]
       go_simp
       exact hK _ _ ⟨_,by simp[upv,valC,h2,h4,E5.out],hI.yields 5 HB.out⟩
    ·have h2:z 2=.bool c0:=hI.pure 2 (by omega) (hall 2 (by kernel_rfl))
     cases c0 with
     | false=>
       refine wpOpIn_left rfl ((wanted_if (s:=48) (b:=false) (want:=true) rfl rfl (by simp[h2])).trans rfl) (fun K hK=>?_)
       exact hK _ _ ⟨_,by simp[valC]; rfl,hI.yields 6 HB.out⟩
     | true=>
       refine wpOpIn_done rfl ((wanted_if (s:=48) (b:=true) (want:=true) rfl rfl (by simp[h2])).trans rfl) (fun K hK=>?_)
       clear hall
       simp only[List.getElem_toArray,List.getElem_cons_zero,List.getElem_cons_succ]
       go_simp
       exact hK _ _ ⟨_,by simp[upv,valC,h2],hI.yields 6 HB.out⟩
    ·have h2:z 2=.bool c0:=hI.pure 2 (by omega) (hall 2 (by kernel_rfl))
     cases c0 with
     | false=>
       refine wpOpIn_left rfl ((wanted_if (s:=48) (b:=false) (want:=true) rfl rfl (by simp[h2])).trans rfl) (fun K hK=>?_)
       exact hK _ _ ⟨_,by simp[valC]; rfl,hI.yields 7 HB.out⟩
     | true=>
       have h6:z 6=rowV av cv T:=by simpa [valC] using hI.pure 6 (by omega) (hall 6 (by kernel_rfl))
       refine wpOpIn_done rfl ((wanted_if (s:=48) (b:=true) (want:=true) rfl rfl (by simp[h2])).trans rfl) (fun K hK=>?_)
       clear hall
       simp only[List.getElem_toArray,List.getElem_cons_zero,List.getElem_cons_succ]
       go_simp
       exact hK _ _ ⟨_,by simp[upv,valC,h2,h6],hI.yields 7 HB.out⟩
    ·have h2:z 2=.bool c0:=hI.pure 2 (by omega) (hall 2 (by kernel_rfl))
     cases c0 with
     | false=>
       refine wpOpIn_left rfl ((wanted_if (s:=48) (b:=false) (want:=true) rfl rfl (by simp[h2])).trans rfl) (fun K hK=>?_)
       exact hK _ _ ⟨_,by simp[valC]; rfl,hI.yields 8 HB.out⟩
     | true=>
       have h5:z 5=.int .i64 (2 * (cnt:Int)):=by simpa [valC] using hI.pure 5 (by omega) (hall 5 (by kernel_rfl))
       have h7:z 7=.int .i64 (T.length:Nat):=by simpa [valC] using hI.pure 7 (by omega) (hall 7 (by kernel_rfl))
       refine wpOpIn_done rfl ((wanted_if (s:=48) (b:=true) (want:=true) rfl rfl (by simp[h2])).trans rfl) (fun K hK=>?_)
       clear hall
       simp only[List.getElem_toArray,List.getElem_cons_zero,List.getElem_cons_succ]
       go_simp
       exact hK _ _ ⟨_,by simp[upv,valC,h2,h5,h7],hI.yields 8 HB.out⟩
    ·have h2:z 2=.bool c0:=hI.pure 2 (by omega) (hall 2 (by kernel_rfl))
     have h8:=hI.pure 8 (by omega) (hall 8 (by kernel_rfl))
     clear hall
     refine wpOpIn_free rfl rfl (fun K hK=>?_)
     simp only[List.getElem_toArray,List.getElem_cons_zero,List.getElem_cons_succ]
     cases c0 with
     | false=>
       have h8':z 8=undef:=by simpa [valC] using h8
       go_simp
       exact hK _ _ ⟨_,by simp[upv,valC,h2,h8'],hI.yields 9 HB.out⟩
     | true=>
       have h8':z 8=.bool c1:=by simpa [valC] using h8
       go_simp
       exact hK _ _ ⟨_,by simp[upv,valC,h2,h8'],hI.yields 9 HB.out⟩
   case cdone=>
    rintro d A V hall ⟨z,rfl,hI⟩
    replace hall:∀ i,i<10→d i=true:=hall
    have y9:z 9=.bool (c0 && c1):=hI.pure 9 (by omega) (hall 9 (by omega))
    have hb:=hI.st
    have SV:=HSt.out.kept hb
    have HSV:=Lib.hid SV
    have CV:=Lib.hid (CT.out V hb)
    have HLV:=Lib.hid (HLI.out.kept hb)
    have hDW:D<W.heap.size:=(Array.getElem?_eq_some_iff.1 HK.out).1
    have HKV:=Lib.hid ((hb.block D hDW).trans HK.out)
    simp only[frC,y9]
    generalize z 0=z0
    generalize z 1=z1
    generalize z 2=z2
    generalize z 3=z3
    generalize z 4=z4
    generalize z 5=z5
    generalize z 6=z6
    generalize z 7=z7
    generalize z 8=z8
    clear y9 hI hall z d CC CT HLI HK HSt hb
    obtain⟨⟨⟨⟨_,s2⟩,s3,s4⟩,_⟩,_,_⟩:=SV
    by_cases hcc:(c0 && c1)=true
    ·rw[hcc]
     have e2:=s2.cell
     have e2f:=s2.frozen
     have HSC2:=Lib.hid (show sc=tidyC SS.1 by
      rw[Bool.and_eq_true] at hcc
      obtain⟨rfl,rfl⟩:=hcc
      rw[HSC.out,if_pos (of_decide_eq_true hc0n),if_pos (by have:=of_decide_eq_true hc1; omega)])
     gi_wp2_with fail
     refine⟨trivial,?_⟩
     gi_at_call 96
     refine (callsIn_wide.2 CV.out).mono ?_
     rintro e W4 ⟨v4,rfl,⟨a4,c4,rfl,hl4⟩,hb4⟩
     have p2:=boxed_below s2 hb4
     have p3:=(boxed_below s3 hb4).other HAP.out.nc.symm (rowV a4 c4 (tidyC SS.1))
     have p4:=(boxed_below s4 hb4).other HAP.out.dc.symm (rowV a4 c4 (tidyC SS.1))
     have p5:=p2.set (rowV a4 c4 (tidyC SS.1))
     have q2:=p2.cell
     have q2f:=p2.frozen
     have q3:=p3.cell
     have q4:=p4.cell
     have q5:=p5.cell
     have hL5:=lies_set hl4 p2 (rowV a4 c4 (tidyC SS.1))
     have hbc:w.heap.size≤bc:=HBC.out.1
     have hB5:Below w.heap.size w (W4.setCell ⟨bc,0,none⟩ (rowV a4 c4 (tidyC SS.1))):=(HSV.out.2.2.trans (hb4.mono HSV.out.2.2.size)).setCell (p:=⟨bc,0,none⟩) hbc _
     have hDV:D<V.heap.size:=(Array.getElem?_eq_some_iff.1 HKV.out).1
     have hK5:(W4.setCell ⟨bc,0,none⟩ (rowV a4 c4 (tidyC SS.1))).heap[D]? =some (.deferred (some [])):=(heap_setCell_other _ _ _ _ (by have:=HBC.out.2; simp; omega)).trans ((hb4.block D hDV).trans HKV.out)
     have HL5:=Lib.hid hL5
     have HB5:=Lib.hid hB5
     have HK5:=Lib.hid hK5
     clear p2 p3 p4 p5 s2 s3 s4 e2 e2f hL5 hB5 hK5
     gi_wp2_with fail
     refine wpIn_wide.2 ?_
     go_quiet (fail)
     have hK5:=HK5.out
     have hB5:=HB5.out
     have hL5:=HL5.out
     change Exit.then _ _ _ _ ((W4.setCell ⟨bc,0,none⟩ (rowV a4 c4 (tidyC SS.1))).drewN nq)
     generalize W4.setCell ⟨bc,0,none⟩ (rowV a4 c4 (tidyC SS.1))=W5 at *
     have bq:=below_drewN (Below.refl W5.heap.size W5) nq
     have hKq:(W5.drewN nq).heap[D]? =some (.deferred (some [])):=(bq.block D (Array.getElem?_eq_some_iff.1 hK5).1).trans hK5
     have hLq:=lies_in (S:=fun _=>True) (hL5.kept bq) (keepsIn_b (w:=w) (W5.drewN nq) D _ (.deferred none) (by omega) hKq rfl rfl) (fun _ _ _ _=>trivial)
     have hBq:=(hB5.trans (bq.mono hB5.size)).trans (belowK_b (w:=w) (Nat.le_refl _) _ D _ (.deferred none) (by omega) hKq rfl rfl)
     gi_wp2
     refine⟨by simp,.inl ⟨_,_,rfl,run_takeDeferred hKq,?_⟩⟩
     refine⟨.tuple #[rowV a4 c4 (tidyC SS.1),.int .i64 (np:Nat),.int .i64 (SS.2:Nat)],by simp[results,Tryz.results78,go_sem],rowV a4 c4 (tidyC SS.1),?_,?_,?_⟩
     ·rw[HNOR.out,HNP.out,HDU.out,HDN.out]
     ·rw[HNOR.out,HST'.out,HSC2.out]; exact⟨_,_,rfl,hLq⟩
     ·exact hBq
    ·rw[Bool.not_eq_true] at hcc
     rw[hcc]
     have e2:=s2.cell
     have e3:=s3.cell
     have e4:=s4.cell
     have HSC2:=Lib.hid (show sc=SS.1 by
      rw[HSC.out]
      cases c0 with
      | false=>rw[if_neg (of_decide_eq_false hc0n)]; exact (HZ.out (by have:=of_decide_eq_false hc0n; omega)).symm
      | true=>
        have hc1f:c1=false:=by simpa using hcc
        subst hc1f
        rw[if_pos (of_decide_eq_true hc0n),if_neg (by have:=of_decide_eq_false hc1; omega)])
     clear s2 s3 s4
     gi_wp2_with fail
     refine wpIn_wide.2 ?_
     go_quiet (fail)
     have hK5:=HKV.out
     have hB5:=HSV.out.2.2
     have hL5:=HLV.out
     have hrw:rowV av cv T=rowV av cv SS.1:=by simp[rowV,hUl]
     have bq:=below_drewN (Below.refl V.heap.size V) nq
     have hKq:(V.drewN nq).heap[D]? =some (.deferred (some [])):=(bq.block D (Array.getElem?_eq_some_iff.1 hK5).1).trans hK5
     have hLq:=lies_in (S:=fun _=>True) (hL5.kept bq) (keepsIn_b (w:=w) (V.drewN nq) D _ (.deferred none) (by omega) hKq rfl rfl) (fun _ _ _ _=>trivial)
     have hBq:=(hB5.trans (bq.mono hB5.size)).trans (belowK_b (w:=w) (Nat.le_refl _) _ D _ (.deferred none) (by omega) hKq rfl rfl)
     gi_wp2
     refine⟨by simp,.inl ⟨_,_,rfl,run_takeDeferred hKq,?_⟩⟩
     refine⟨.tuple #[rowV av cv T,.int .i64 (np:Nat),.int .i64 (SS.2:Nat)],by simp[results,Tryz.results78,go_sem],rowV av cv T,?_,?_,?_⟩
     ·rw[HNOR.out,HNP.out,HDU.out,HDN.out]
     ·rw[HNOR.out,HST'.out,HSC2.out]; exact⟨_,_,hrw,hLq⟩
     ·exact hBq
  case stop=>
   rintro D c pre W hD hpre h hK
   exact h.elim
theorem Step_told (a:Option Addr) (cap:Nat) (T:List Ent) (f q now:Int) (w:World) (hT:Lies entK w a cap T) (hk:∀ x ∈ T,x.key.size≤4611686018427387904) (hl:T.length≤3518437208883):
 Calls Tryz.prog 78 #[rowV a cap T,.int .i64 f,.int .i64 q,.int .i64 now] w fun e W'=>∃ v,e=.returned (.tuple #[v,.int .i64 (nextP T.length (norm T.length f) (span q T.length):Nat),.int .i64 (dueN now (places T.length (norm T.length f) (span q T.length)) T:Nat)])∧Gives W' v (stepC now (places T.length (norm T.length f) (span q T.length)) T)∧Below w.heap.size w W':=
 callsIn_wide.1 (Step_in 5 (Nat.le_refl _) a cap T f q now w hT hk hl)
end Go.Proofs.YtbamodkgagcmnaaGreat.Swp
