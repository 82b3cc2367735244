/-
  Package packet: what Parse tells, all ways together, beside the document's answer (without the document's Put).
-/
import Derived.Test.YtbamodkgagcmnaaGreatBPklE
import Derived.Test.YtbamodkgagcmnaaGreatBPkrE
import Derived.Test.YtbamodkgagcmnaaGreatBRfsE
set_option maxRecDepth 100000
namespace Go.Proofs.YtbamodkgagcmnaaGreat.Pkt
open Go.RowKit Go.Shelf Txt Rgn
theorem hd4_spec (s:ByteArray) (hs:s.size≤1099511627776):∃ (x y:ByteArray) (p:Int) (r:ByteArray) (e:Int),
 Tells 164 #[.string s] (hdV x y p r e)∧Tells 170 #[.string s] (hdV x y p r e)∧(e≠0∨e=0∧x.size=4∧y.size=4∧0≤p∧p≤255∧20+r.size≤s.size):=by
 obtain⟨c,hc,hno,hyes⟩:=Ip4.first_fault s
 by_cases h6:c<6
 ·have e:Ip4.parseV s c=hdV ⟨#[]⟩ ⟨#[]⟩ 0 ⟨#[]⟩ (Ip4.code c):=if_pos h6
  refine⟨⟨#[]⟩,⟨#[]⟩,0,⟨#[]⟩,Ip4.code c,fun w=>?_,fun w=>?_,.inl (bne_iff_ne.1 (Ip4.code_ne c))⟩
  ·rw[← e]; exact Ip4.Parse_any s hs c hc hno hyes w
  ·rw[← e]; exact Ip4.refParse_any s hs c hc hno hyes w
 ·obtain rfl:c=6:=by omega
  have e:Ip4.parseV s 6=hdV (s.extract 12 16) (s.extract 16 20) (Ip4.gv s 9 1:Nat) (s.extract (Ip4.siz s) (Ip4.len s)) 0:=if_neg h6
  obtain⟨f0,f1,f2,f3,_,_⟩:=Ip4.none_so hno
  refine⟨s.extract 12 16,s.extract 16 20,(Ip4.gv s 9 1:Nat),s.extract (Ip4.siz s) (Ip4.len s),0,fun w=>?_,fun w=>?_,.inr ⟨rfl,?_,?_,?_,?_,?_⟩⟩
  ·have:=Ip4.Parse_any s hs 6 hc hno hyes w
   rw[e] at this; exact this
  ·have:=Ip4.refParse_any s hs 6 hc hno hyes w
   rw[e] at this; exact this
  ·rw[ext_size _ _ _ (by omega)]
  ·rw[ext_size _ _ _ (by omega)]
  ·omega
  ·have:=Ip4.gv_of s 9 1 (by omega)
   have h9:Ip4.gv s 9 1<256:=by
    rw[show Ip4.gv s 9 1=_ from this]
    exact num_one _ (by rw[List.length_take]; omega)
   omega
  ·rw[ext_size _ _ _ (by omega)]; omega
theorem hd6_spec (s:ByteArray) (hs:s.size≤1099511627776):∃ (x y:ByteArray) (p:Int) (r:ByteArray) (e:Int),
 Tells 166 #[.string s] (hdV x y p r e)∧Tells 171 #[.string s] (hdV x y p r e)∧(e≠0∨e=0∧x.size=16∧y.size=16∧0≤p∧p≤255∧40+r.size≤s.size):=by
 by_cases h40:s.size<40
 ·exact⟨_,_,_,_,2,fun w=>Ip6.Parse_short s h40 w,fun w=>Ip6.refParse_short s h40 w,.inl (by omega)⟩
 ·by_cases hv:Ip6.ver s=6
  ·by_cases hl:s.size<40+Ip6.len s
   ·refine⟨⟨#[]⟩,⟨#[]⟩,0,⟨#[]⟩,4,fun w=>?_,fun w=>?_,.inl (by omega)⟩
    ·have:=Ip6.Parse_long s (by omega) hs w
     rw[Ip6.longV_length hv hl] at this; exact this
    ·have:=Ip6.refParse_long s (by omega) hs w
     rw[Ip6.longV_length hv hl] at this; exact this
   ·refine⟨s.extract 8 24,s.extract 24 40,(gv s 6 1:Nat),s.extract 40 (40+Ip6.len s),0,fun w=>?_,fun w=>?_,.inr ⟨rfl,?_,?_,?_,?_,?_⟩⟩
    ·have:=Ip6.Parse_long s (by omega) hs w
     rw[Ip6.longV_ok hv hl] at this; exact this
    ·have:=Ip6.refParse_long s (by omega) hs w
     rw[Ip6.longV_ok hv hl] at this; exact this
    ·rw[ext_size _ _ _ (by omega)]
    ·rw[ext_size _ _ _ (by omega)]
    ·omega
    ·have:=gv_lt s 6 1 (by omega)
     omega
    ·rw[ext_size _ _ _ (by omega)]; omega
  ·refine⟨⟨#[]⟩,⟨#[]⟩,0,⟨#[]⟩,3,fun w=>?_,fun w=>?_,.inl (by omega)⟩
   ·have:=Ip6.Parse_long s (by omega) hs w
    rw[Ip6.longV_version hv] at this; exact this
   ·have:=Ip6.refParse_long s (by omega) hs w
    rw[Ip6.longV_version hv] at this; exact this
theorem pt_spec (p:Int) (h0:0≤p) (h1:p≤255) (r:ByteArray) (hr:r.size≤1099511627776):∃ F T f e:Int,
 Tells 185 #[.int .i64 p,.string r] (ptV F T f e)∧Tells 137 #[.int .i64 p,.string r] (ptV F T f e)∧(e≠0∨e=0∧Prt.fit p F T f∧Prt.most p≤r.size):=by
 by_cases hg:Prt.good p r
 ·refine⟨_,_,_,0,fun w=>Prt.Parse_good p r hr hg w,fun w=>Prt.refParse_good p r hr hg w,.inr ⟨rfl,Prt.good_fit p r hg,?_⟩⟩
  unfold Prt.most
  rcases hg with⟨e,h,_⟩ | ⟨e,h,_⟩
  ·rw[if_pos e]; exact h
  ·rw[if_neg (by omega)]; exact h
 ·exact⟨_,_,_,Prt.errOf p r,fun w=>Prt.Parse_bad p (wf_small p h0 h1) r hr hg w,fun w=>Prt.refParse_bad p r hr hg w,.inl (Prt.errOf_ne p r)⟩
theorem Parse_spec (s:ByteArray) (hs:s.size≤1099511627776):∃ (V:Int) (x y:ByteArray) (F T p f e:Int),
 Tells 128 #[.string s] (outV V x y F T p f e)∧Tells 87 #[.string s] (outV V x y F T p f e)∧
 ((e≠0∧V=0∧x=⟨#[]⟩∧y=⟨#[]⟩∧F=0∧T=0∧p=0∧f=0)∨(e=0∧okP V x y F T p f∧hl V+Prt.most p≤s.size)):=by
 by_cases h0:s.size=0
 ·exact⟨0,_,_,0,0,0,0,2,Parse_empty s h0,refParse_empty s h0,.inl ⟨by omega,rfl,rfl,rfl,rfl,rfl,rfl,rfl⟩⟩
 ·have h1:0<s.size:=by omega
  by_cases h4:top s=4
  ·obtain⟨x,y,p,r,e,a1,a2,ha⟩:=hd4_spec s hs
   rcases ha with he | ⟨rfl,hx,hy,p0,p1,hr⟩
   ·exact⟨0,_,_,0,0,0,0,e,Parse_four s h1 hs h4 _ _ _ _ _ _ _ _ (parse4_bad 4 s x y p r e a1 he),refParse_bad s h1 x y r p e (refHead_four s h1 h4 x y p r e a2) he,.inl ⟨he,rfl,rfl,rfl,rfl,rfl,rfl,rfl⟩⟩
   ·obtain⟨F,T,f,e,b1,b2,hb⟩:=pt_spec p p0 p1 r (by omega)
    rcases hb with he | ⟨rfl,hf,hm⟩
    ·exact⟨0,_,_,0,0,0,0,e,Parse_four s h1 hs h4 _ _ _ _ _ _ _ _ (parse4_port 4 s x y p r F T f e a1 b1 he),refParse_port s h1 x y r p F T f e (refHead_four s h1 h4 x y p r 0 a2) b2 he,.inl ⟨he,rfl,rfl,rfl,rfl,rfl,rfl,rfl⟩⟩
    ·refine⟨4,x,y,F,T,p,f,0,Parse_four s h1 hs h4 _ _ _ _ _ _ _ _ (parse4_good 4 s x y p r F T f a1 b1),?_,.inr ⟨rfl,⟨.inl ⟨rfl,hx,hy⟩,hf⟩,?_⟩⟩
     ·have:=refParse_good s h1 x y r p F T f (refHead_four s h1 h4 x y p r 0 a2) b2
      rw[h4] at this; exact this
     ·rw[show hl 4=20 from rfl]; omega
  ·by_cases h6:top s=6
   ·obtain⟨x,y,p,r,e,a1,a2,ha⟩:=hd6_spec s hs
    rcases ha with he | ⟨rfl,hx,hy,p0,p1,hr⟩
    ·exact⟨0,_,_,0,0,0,0,e,Parse_six s h1 hs h6 _ _ _ _ _ _ _ _ (parse6_bad 6 s x y p r e a1 he),refParse_bad s h1 x y r p e (refHead_six s h1 h6 x y p r e a2) he,.inl ⟨he,rfl,rfl,rfl,rfl,rfl,rfl,rfl⟩⟩
    ·obtain⟨F,T,f,e,b1,b2,hb⟩:=pt_spec p p0 p1 r (by omega)
     rcases hb with he | ⟨rfl,hf,hm⟩
     ·exact⟨0,_,_,0,0,0,0,e,Parse_six s h1 hs h6 _ _ _ _ _ _ _ _ (parse6_port 6 s x y p r F T f e a1 b1 he),refParse_port s h1 x y r p F T f e (refHead_six s h1 h6 x y p r 0 a2) b2 he,.inl ⟨he,rfl,rfl,rfl,rfl,rfl,rfl,rfl⟩⟩
     ·refine⟨6,x,y,F,T,p,f,0,Parse_six s h1 hs h6 _ _ _ _ _ _ _ _ (parse6_good 6 s x y p r F T f a1 b1),?_,.inr ⟨rfl,⟨.inr ⟨rfl,hx,hy⟩,hf⟩,?_⟩⟩
      ·have:=refParse_good s h1 x y r p F T f (refHead_six s h1 h6 x y p r 0 a2) b2
       rw[h6] at this; exact this
      ·rw[show hl 6=40 from rfl]; omega
   ·exact⟨0,_,_,0,0,0,0,3,Parse_other s h1 hs ⟨h4,h6⟩,refParse_bad s h1 _ _ _ _ 3 (refHead_other s h1 ⟨h4,h6⟩) (by omega),.inl ⟨by omega,rfl,rfl,rfl,rfl,rfl,rfl,rfl⟩⟩
end Go.Proofs.YtbamodkgagcmnaaGreat.Pkt
