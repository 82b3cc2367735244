/-
  Package ip4: first.
-/
import Derived.Test.YtbamodkgagcmnaaGreatBOctGE
import Derived.Test.YtbamodkgagcmnaaGreatBSumE
import Derived.OpenShut
import Derived.WalkMore
import Derived.Laws.EntriesVeiled
import Derived.Test.YtbamodkgagcmnaaGreatBRgnE
import Derived.Deep.RegionHeld3
set_option maxRecDepth 100000
namespace Go.Proofs.YtbamodkgagcmnaaGreat.Ip4
open Go.RowKit Go.Shelf
theorem below2 {a b c:World} (h:Below a.heap.size a b) (k:Below b.heap.size b c):Below a.heap.size a c:=h.trans (k.mono h.size)
set_option maxRecDepth 100000 in
set_option maxHeartbeats 800000 in
theorem first_any (b n c:Nat) (hn:n≤1000) (hc:c≤n) (err:Nat→Int) (k:Nat→Nat) (cap:Nat→Array Value) (w:World) (hb:b<w.heap.size)
 (he:∀ i,i<n→w.cell? ⟨b,i * 2,none⟩=some (.int .i64 (err i))∧w.cell? ⟨b,i * 2+1,none⟩=some (.func (.func (k i)) #[] (cap i)))
 (hen:∀ i,i<n→Enters Tryz.prog (k i))
 (hf:∀ i,i<c→∀ W,Below w.heap.size w W→Calls Tryz.prog (k i) (cap i) W fun e W'=>e=.returned (.bool false)∧Below W.heap.size W W')
 (ht:c<n→∀ W,Below w.heap.size w W→Calls Tryz.prog (k c) (cap c) W fun e W'=>e=.returned (.bool true)∧Below W.heap.size W W'):
 Calls Tryz.prog 119 #[.slice (some ⟨b,0,none⟩) n n] w fun e W'=>e=.returned (.int .i64 (if c<n then err c else 0))∧Below w.heap.size w W':=by
 go_enter Tryz.func119,Tryz.ntmps119
 go_wp2
 go_step3
 go_wp2
 go_step3
 go_wp2
 go_loopw [3,8] (fun v i wr=>∃ j:Nat,j≤c∧i=.int .i64 (j:Int)∧v=.int .i64 0∧Below w.heap.size w wr) (fun _ i _=>n - (intOf i).toNat)
 case atStart=>exact⟨0,Nat.zero_le _,rfl,rfl,Below.refl _ _⟩
 case round=>
  obtain⟨j,hj,rfl,rfl,hB⟩:=hrel
  by_cases hlt:j<n
  ·obtain⟨e1,e2⟩:=he j hlt
   have c1:=(hB.cell (p:=⟨b,j * 2,none⟩) hb).trans e1
   have c2:=(hB.cell (p:=⟨b,j * 2+1,none⟩) hb).trans e2
   have en:∀ (args:Array Value) (w:World),(callFunc (k j) args).run Tryz.prog w=.ok (.enter (k j) args) w:=hen j hlt
   have hB1:Below w.heap.size w (wr.alloc (.cells #[.int .i64 (err j),.func (.func (k j)) #[] (cap j)] 181)):=hB.alloc hB.size _
   clear he e1 e2 hen
   by_cases hjc:j<c
   ·have hq:=Lib.hid (hf j hjc)
    clear hf ht
    go_wp2_with fail
    refine (hq.out _ hB1).mono ?_
    rintro e w2 ⟨rfl,hb2⟩
    go_wp2_with fail
    go_roundw
    case rel=>exact⟨j+1,by omega,by simp,rfl,hB1.trans (hb2.mono hB1.size)⟩
    case measure=>simp[intOf]; omega
   ·obtain rfl:j=c:=by omega
    have hq:=Lib.hid (ht hlt)
    have c3:(wr.alloc (.cells #[.int .i64 (err j),.func (.func (k j)) #[] (cap j)] 181)).cell? ⟨wr.heap.size,0,none⟩=some (.int .i64 (err j)):=by go_simp
    clear hf ht
    go_wp2_with fail
    refine (hq.out _ hB1).mono ?_
    rintro e w2 ⟨rfl,hb2⟩
    have c4:=(hb2.cell (p:=⟨wr.heap.size,0,none⟩) (by simp)).trans c3
    go_wp2
    rw[Exit.noGoto_ret]
    go_ret
    exact⟨by rw[if_pos hlt]; rfl,hB1.trans (hb2.mono hB1.size)⟩
  ·obtain rfl:j=c:=by omega
   obtain rfl:j=n:=by omega
   clear he hen hf ht
   go_wp2
   rw[Exit.noGoto_ret]
   go_ret
   exact⟨by rw[if_neg hlt]; rfl,hB⟩
def gv (s:ByteArray) (a n:Int):Nat:=if a+n≤s.size then Oct.getV s a n else 0
theorem gv_le (s:ByteArray) (a n:Int) (h:n≤2):gv s a n≤65535:=by
 unfold gv Oct.getV
 split
 ·have h1:=Oct.num_lt ((s.data.toList.drop a.toNat).take n.toNat)
  have h2:256 ^ ((s.data.toList.drop a.toNat).take n.toNat).length≤256 ^ 2:=Nat.pow_le_pow_right (by omega) (by rw[List.length_take]; omega)
  omega
 ·omega
set_option maxHeartbeats 800000 in
theorem numbers_any (s:ByteArray) (w:World):
 Calls Tryz.prog 186 #[.string s] w fun e W'=>e=.returned (.func (.func 213) #[] #[.pointer (some ⟨w.heap.size,0,none⟩)])∧W'=w.alloc (.cells #[.string s] 9):=by
 go_enter Tryz.func186,Tryz.ntmps186
 go_wp2
 go_ret
 exact⟨rfl,rfl⟩
set_option maxRecDepth 100000 in
set_option maxHeartbeats 800000 in
theorem number_any (s:ByteArray) (hs:s.size≤1099511627776) (B:Nat) (a n:Int) (ha:0≤a∧a≤100) (hn:1≤n∧n≤2) (w:World) (hc:w.cell? ⟨B,0,none⟩=some (.string s)):
 Calls Tryz.prog 213 #[.int .i64 a,.int .i64 n,.pointer (some ⟨B,0,none⟩)] w fun e W'=>e=.returned (.int .i64 (gv s a n:Nat))∧Below w.heap.size w W':=by
 have hl:=gv_le s a n hn.2
 by_cases h:a+n≤s.size
 ·have e1:gv s a n=Oct.getV s a n:=if_pos h
  rw[e1] at hl ⊢
  go_enter Tryz.func213,Tryz.ntmps213
  go_wp2_with fail
  refine (Oct.Get_yes s a n w (by omega) (by omega)).mono ?_
  rintro e w1 ⟨rfl,hb1⟩
  go_wp2_with fail
  go_ret
  exact⟨rfl,hb1⟩
 ·have e1:gv s a n=0:=if_neg h
  rw[e1] at hl ⊢
  go_enter Tryz.func213,Tryz.ntmps213
  go_wp2_with fail
  refine (Oct.Get_no s a n w (by omega) (by omega) (by omega)).mono ?_
  rintro e w1 ⟨rfl,hb1⟩
  go_wp2_with fail
  go_ret
  exact⟨rfl,hb1⟩
theorem and_low (n:Int) (m:Nat) (M:Int) (hm:m≤62) (hM:(BitVec.ofInt 64 M).toNat=2 ^ m - 1):bits .and .i64 n M=n % ((2 ^ m:Nat):Int):=by
 have k:(BitVec.ofInt 64 n &&& BitVec.ofInt 64 M).toNat=(n % ((2 ^ 64:Nat):Int)).toNat % 2 ^ m:=by
  rw[BitVec.toNat_and,BitVec.toNat_ofInt,hM,Nat.and_two_pow_sub_one_eq_mod]
 show IntKind.i64.wrap ((BitVec.ofInt 64 n &&& BitVec.ofInt 64 M).toNat:Nat)=_
 rw[k]
 have hp:2 ^ m≤2 ^ 62:=Nat.pow_le_pow_right (by omega) hm
 have hd:2 ^ m ∣ 2 ^ 64:=Nat.pow_dvd_pow 2 (by omega)
 have h0:0<2 ^ m:=Nat.two_pow_pos m
 have e:((n % ((2 ^ 64:Nat):Int)).toNat % 2 ^ m:Nat)=(n % ((2 ^ m:Nat):Int)).toNat:=by
  apply Int.ofNat.inj
  show (((n % ((2 ^ 64:Nat):Int)).toNat % 2 ^ m:Nat):Int)=((n % ((2 ^ m:Nat):Int)).toNat:Int)
  rw[Int.natCast_emod,Int.toNat_of_nonneg (Int.emod_nonneg _ (by omega)),Int.toNat_of_nonneg (Int.emod_nonneg _ (by omega))]
  exact Int.emod_emod_of_dvd _ (Int.natCast_dvd_natCast.2 hd)
 have h1:=Int.emod_nonneg n (show ((2 ^ m:Nat):Int)≠0 by omega)
 have h2:=Int.emod_lt_of_pos n (show (0:Int)<((2 ^ m:Nat):Int) by omega)
 rw[e,Int.toNat_of_nonneg h1,IntKind.wrap_i64]
 omega
theorem and_15 (n:Int):bits .and .i64 n 15=n % 16:=and_low n 4 15 (by omega) (by decide)
theorem and_16383 (n:Int):bits .and .i64 n 16383=n % 16384:=and_low n 14 16383 (by omega) (by decide)
theorem dec_true {p:Prop} [Decidable p] (h:p):decide p=true:=decide_eq_true h
theorem dec_false {p:Prop} [Decidable p] (h:¬ p):decide p=false:=decide_eq_false h
set_option maxHeartbeats 800000 in
theorem parse1 (s:ByteArray) (B:Nat) (w:World) (hc:w.cell? ⟨B,0,none⟩=some (.string s)):
 Calls Tryz.prog 187 #[.pointer (some ⟨B,0,none⟩)] w fun e W'=>e=.returned (.bool (decide (s.size<20)))∧w=W':=by
 by_cases h:s.size<20
 ·rw[dec_true h]
  have d1:decide ((s.size:Int)<20)=true:=decide_eq_true (by omega)
  go_enter Tryz.func187,Tryz.ntmps187
  go_wp2
  go_ret
  exact⟨rfl,rfl⟩
 ·rw[dec_false h]
  have d1:decide ((s.size:Int)<20)=false:=decide_eq_false (by omega)
  go_enter Tryz.func187,Tryz.ntmps187
  go_wp2
  go_ret
  exact⟨rfl,rfl⟩
set_option maxHeartbeats 800000 in
theorem parse2 (v:Nat) (B:Nat) (w:World) (hc:w.cell? ⟨B,0,none⟩=some (.int .i64 (v:Int))):
 Calls Tryz.prog 188 #[.pointer (some ⟨B,0,none⟩)] w fun e W'=>e=.returned (.bool (decide (v≠4)))∧w=W':=by
 by_cases h:v=4
 ·subst h
  go_enter Tryz.func188,Tryz.ntmps188
  go_wp2
  go_ret
  exact⟨rfl,rfl⟩
 ·rw[dec_true h]
  have N:((v:Int) != 4)=true:=bne_iff_ne.2 (by omega)
  go_enter Tryz.func188,Tryz.ntmps188
  go_wp2
  go_ret
  exact⟨rfl,rfl⟩
set_option maxHeartbeats 800000 in
theorem parse3 (s:ByteArray) (v:Nat) (B C:Nat) (w:World) (hcv:w.cell? ⟨B,0,none⟩=some (.int .i64 (v:Int))) (hc:w.cell? ⟨C,0,none⟩=some (.string s)):
 Calls Tryz.prog 189 #[.pointer (some ⟨B,0,none⟩),.pointer (some ⟨C,0,none⟩)] w fun e W'=>e=.returned (.bool (decide (v<20∨s.size<v)))∧w=W':=by
 by_cases h:v<20
 ·rw[dec_true (Or.inl h)]
  have d1:decide ((v:Int)<20)=true:=decide_eq_true (by omega)
  go_enter Tryz.func189,Tryz.ntmps189
  go_wp2
  go_ret
  exact⟨rfl,rfl⟩
 ·by_cases h2:s.size<v
  ·rw[dec_true (Or.inr h2)]
   have d1:decide ((v:Int)<20)=false:=decide_eq_false (by omega)
   have d2:decide ((s.size:Int)<(v:Int))=true:=decide_eq_true (by omega)
   go_enter Tryz.func189,Tryz.ntmps189
   go_wp2
   go_ret
   exact⟨rfl,rfl⟩
  ·rw[dec_false (by omega)]
   have d1:decide ((v:Int)<20)=false:=decide_eq_false (by omega)
   have d2:decide ((s.size:Int)<(v:Int))=false:=decide_eq_false (by omega)
   go_enter Tryz.func189,Tryz.ntmps189
   go_wp2
   go_ret
   exact⟨rfl,rfl⟩
set_option maxHeartbeats 800000 in
theorem parse4 (s:ByteArray) (u v:Nat) (A B C:Nat) (w:World) (hcu:w.cell? ⟨A,0,none⟩=some (.int .i64 (u:Int))) (hcv:w.cell? ⟨B,0,none⟩=some (.int .i64 (v:Int))) (hc:w.cell? ⟨C,0,none⟩=some (.string s)):
 Calls Tryz.prog 190 #[.pointer (some ⟨A,0,none⟩),.pointer (some ⟨B,0,none⟩),.pointer (some ⟨C,0,none⟩)] w fun e W'=>e=.returned (.bool (decide (u<v∨s.size<u)))∧w=W':=by
 by_cases h:u<v
 ·rw[dec_true (Or.inl h)]
  have d1:decide ((u:Int)<(v:Int))=true:=decide_eq_true (by omega)
  go_enter Tryz.func190,Tryz.ntmps190
  go_wp2
  go_ret
  exact⟨rfl,rfl⟩
 ·by_cases h2:s.size<u
  ·rw[dec_true (Or.inr h2)]
   have d1:decide ((u:Int)<(v:Int))=false:=decide_eq_false (by omega)
   have d2:decide ((s.size:Int)<(u:Int))=true:=decide_eq_true (by omega)
   go_enter Tryz.func190,Tryz.ntmps190
   go_wp2
   go_ret
   exact⟨rfl,rfl⟩
  ·rw[dec_false (by omega)]
   have d1:decide ((u:Int)<(v:Int))=false:=decide_eq_false (by omega)
   have d2:decide ((s.size:Int)<(u:Int))=false:=decide_eq_false (by omega)
   go_enter Tryz.func190,Tryz.ntmps190
   go_wp2
   go_ret
   exact⟨rfl,rfl⟩
set_option maxHeartbeats 800000 in
theorem parse5 (s:ByteArray) (hs:s.size≤1099511627776) (v:Nat) (hv:v≤s.size) (B C:Nat) (w:World) (hc:w.cell? ⟨B,0,none⟩=some (.string s)) (hcv:w.cell? ⟨C,0,none⟩=some (.int .i64 (v:Int))):
 Calls Tryz.prog 191 #[.pointer (some ⟨B,0,none⟩),.pointer (some ⟨C,0,none⟩)] w fun e W'=>e=.returned (.bool (decide (Cks.fc (Cks.tot (s.extract 0 v).data.toList)≠65535)))∧Below w.heap.size w W':=by
 have z:=Lib.hid (show (s.extract 0 v).size≤1099511627776 by rw[ByteArray.size_extract]; omega)
 by_cases h:Cks.fc (Cks.tot (s.extract 0 v).data.toList)=65535
 ·rw[dec_false (fun e=>e h)]
  go_enter Tryz.func191,Tryz.ntmps191
  go_wp2_with fail
  refine (Cks.Good_any _ z.out _).mono ?_
  rintro e w1 ⟨rfl,hb1⟩
  rw[dec_true h]
  go_wp2_with fail
  go_ret
  exact⟨rfl,hb1⟩
 ·rw[dec_true h]
  go_enter Tryz.func191,Tryz.ntmps191
  go_wp2_with fail
  refine (Cks.Good_any _ z.out _).mono ?_
  rintro e w1 ⟨rfl,hb1⟩
  rw[dec_false h]
  go_wp2_with fail
  go_ret
  exact⟨rfl,hb1⟩
set_option maxRecDepth 100000 in
set_option maxHeartbeats 800000 in
theorem parse6 (s:ByteArray) (hs:s.size≤1099511627776) (B C:Nat) (w:World) (hc:w.cell? ⟨B,0,none⟩=some (.func (.func 213) #[] #[.pointer (some ⟨C,0,none⟩)])) (hcs:w.cell? ⟨C,0,none⟩=some (.string s)):
 Calls Tryz.prog 193 #[.pointer (some ⟨B,0,none⟩)] w fun e W'=>e=.returned (.bool (decide (gv s 6 2 % 16384≠0)))∧Below w.heap.size w W':=by
 have hl:=gv_le s 6 2 (by omega)
 have H:=Lib.hid hcs
 clear hcs
 have a1:=and_16383 (gv s 6 2:Nat)
 by_cases h:gv s 6 2 % 16384=0
 ·rw[dec_false (fun e=>e h)]
  have a2:((gv s 6 2:Nat):Int) % 16384=0:=by omega
  go_enter Tryz.func193,Tryz.ntmps193
  go_wp2_with fail
  refine (number_any s hs C 6 2 (by omega) (by omega) w H.out).mono ?_
  rintro e w1 ⟨rfl,hb1⟩
  go_wp2_with fail
  go_ret
  exact⟨rfl,hb1⟩
 ·rw[dec_true h]
  have a2:(((gv s 6 2:Nat):Int) % 16384 != 0)=true:=bne_iff_ne.2 (by omega)
  go_enter Tryz.func193,Tryz.ntmps193
  go_wp2_with fail
  refine (number_any s hs C 6 2 (by omega) (by omega) w H.out).mono ?_
  rintro e w1 ⟨rfl,hb1⟩
  go_wp2_with fail
  go_ret
  exact⟨rfl,hb1⟩
set_option maxHeartbeats 800000 in
theorem put1 (x y:ByteArray) (B:Nat) (w:World) (hx:w.cell? ⟨B,0,none⟩=some (.string x)) (hy:w.cell? ⟨B,1,none⟩=some (.string y)):
 Calls Tryz.prog 120 #[.pointer (some ⟨B,0,none⟩)] w fun e W'=>e=.returned (.bool (decide (x.size≠4∨y.size≠4)))∧w=W':=by
 by_cases h:x.size=4
 ·have n1:((x.size:Int) != 4)=false:=by rw[h]; rfl
  by_cases h2:y.size=4
  ·rw[dec_false (by omega)]
   have n2:((y.size:Int) != 4)=false:=by rw[h2]; rfl
   go_enter Tryz.func120,Tryz.ntmps120
   go_wp2
   go_ret
   exact⟨rfl,rfl⟩
  ·rw[dec_true (Or.inr h2)]
   have n2:((y.size:Int) != 4)=true:=bne_iff_ne.2 (by omega)
   go_enter Tryz.func120,Tryz.ntmps120
   go_wp2
   go_ret
   exact⟨rfl,rfl⟩
 ·rw[dec_true (Or.inl h)]
  have n1:((x.size:Int) != 4)=true:=bne_iff_ne.2 (by omega)
  go_enter Tryz.func120,Tryz.ntmps120
  go_wp2
  go_ret
  exact⟨rfl,rfl⟩
set_option maxHeartbeats 800000 in
theorem put2 (p:Int) (B:Nat) (w:World) (hp:w.cell? ⟨B,2,none⟩=some (.int .i64 p)):
 Calls Tryz.prog 121 #[.pointer (some ⟨B,0,none⟩)] w fun e W'=>e=.returned (.bool (decide (p<0∨255<p)))∧w=W':=by
 by_cases h:p<0
 ·rw[dec_true (Or.inl h)]
  have d1:decide (p<0)=true:=decide_eq_true h
  go_enter Tryz.func121,Tryz.ntmps121
  go_wp2
  go_ret
  exact⟨rfl,rfl⟩
 ·have d1:decide (p<0)=false:=decide_eq_false h
  by_cases h2:255<p
  ·rw[dec_true (Or.inr h2)]
   have d2:decide (255<p)=true:=decide_eq_true h2
   go_enter Tryz.func121,Tryz.ntmps121
   go_wp2
   go_ret
   exact⟨rfl,rfl⟩
  ·rw[dec_false (by omega)]
   have d2:decide (255<p)=false:=decide_eq_false h2
   go_enter Tryz.func121,Tryz.ntmps121
   go_wp2
   go_ret
   exact⟨rfl,rfl⟩
set_option maxHeartbeats 800000 in
theorem put3 (s:ByteArray) (B:Nat) (w:World) (hc:w.cell? ⟨B,0,none⟩=some (.string s)):
 Calls Tryz.prog 122 #[.pointer (some ⟨B,0,none⟩)] w fun e W'=>e=.returned (.bool (decide (65515<s.size)))∧w=W':=by
 by_cases h:65515<s.size
 ·rw[dec_true h]
  have d1:decide ((65515:Int)<(s.size:Int))=true:=decide_eq_true (by omega)
  go_enter Tryz.func122,Tryz.ntmps122
  go_wp2
  go_ret
  exact⟨rfl,rfl⟩
 ·rw[dec_false h]
  have d1:decide ((65515:Int)<(s.size:Int))=false:=decide_eq_false (by omega)
  go_enter Tryz.func122,Tryz.ntmps122
  go_wp2
  go_ret
  exact⟨rfl,rfl⟩
end Go.Proofs.YtbamodkgagcmnaaGreat.Ip4
namespace Go.Proofs.YtbamodkgagcmnaaGreat.Ip4
open Go.RowKit Go.Shelf Rgn
def ver (s:ByteArray):Nat:=gv s 0 1 / 16
def siz (s:ByteArray):Nat:=gv s 0 1 % 16 * 4
def len (s:ByteArray):Nat:=gv s 2 2
abbrev numF (B:Nat):Value:=.func (.func 213) #[] #[.pointer (some ⟨B,0,none⟩)]
def so (s:ByteArray):Nat→Bool
 | 0=>decide (s.size<20)
 | 1=>decide (ver s≠4)
 | 2=>decide (siz s<20∨s.size<siz s)
 | 3=>decide (len s<siz s∨s.size<len s)
 | 4=>decide (Cks.fc (Cks.tot (s.extract 0 (siz s)).data.toList)≠65535)
 | _=>decide (gv s 6 2 % 16384≠0)
def code:Nat→Int
 | 0=>2
 | 1=>3
 | 2=>4
 | 3=>4
 | 4=>5
 | _=>6
def kno:Nat→Nat
 | 0=>187
 | 1=>188
 | 2=>189
 | 3=>190
 | 4=>191
 | _=>193
abbrev ptr (b:Nat):Value:=.pointer (some ⟨b,0,none⟩)
def caps (h B6 B7 B8:Nat):Nat→Array Value
 | 0=>#[ptr h]
 | 1=>#[ptr B6]
 | 2=>#[ptr B7,ptr h]
 | 3=>#[ptr B8,ptr B7,ptr h]
 | 4=>#[ptr h,ptr B7]
 | _=>#[ptr (h+1+1+1)]
theorem same_below {P:Program} {f:FuncId} {args:Array Value} {w:World} {v:Value} (h:Calls P f args w fun e W'=>e=.returned v∧w=W'):
 Calls P f args w fun e W'=>e=.returned v∧Below w.heap.size w W':=h.mono fun _ _ ⟨he,hw⟩=>⟨he,hw ▸ Below.refl _ _⟩
theorem fault_any (s:ByteArray) (hs:s.size≤1099511627776) (h B6 B7 B8:Nat) (w:World) (b0:Boxed w h 9 (.string s)) (b2:Boxed w (h+1+1) 9 (.string s)) (b3:Boxed w (h+1+1+1) 171 (numF (h+1+1)))
 (r9:Boxed w B6 3 (.int .i64 (ver s:Nat))) (r10:Boxed w B7 3 (.int .i64 (siz s:Nat))) (r11:Boxed w B8 3 (.int .i64 (len s:Nat)))
 (i:Nat) (hi:i<6) (h2:i=4→so s 2=false):Calls Tryz.prog (kno i) (caps h B6 B7 B8 i) w fun e W'=>e=.returned (.bool (so s i))∧Below w.heap.size w W':=by
 obtain rfl | rfl | rfl | rfl | rfl | rfl:i=0∨i=1∨i=2∨i=3∨i=4∨i=5:=by omega
 ·exact same_below (parse1 s h w b0.cell)
 ·exact same_below (parse2 (ver s) B6 w r9.cell)
 ·exact same_below (parse3 s (siz s) B7 h w r10.cell b0.cell)
 ·exact same_below (parse4 s (len s) (siz s) B8 B7 h w r11.cell r10.cell b0.cell)
 ·have h3:=of_decide_eq_false (h2 rfl)
  exact parse5 s hs (siz s) (by omega) h B7 w b0.cell r10.cell
 ·exact parse6 s hs (h+1+1+1) (h+1+1) w b3.cell b2.cell
theorem first_parse (s:ByteArray) (hs:s.size≤1099511627776) (h B6 B7 B8:Nat) (w:World) (b0:Boxed w h 9 (.string s)) (b2:Boxed w (h+1+1) 9 (.string s)) (b3:Boxed w (h+1+1+1) 171 (numF (h+1+1)))
 (r9:Boxed w B6 3 (.int .i64 (ver s:Nat))) (r10:Boxed w B7 3 (.int .i64 (siz s:Nat))) (r11:Boxed w B8 3 (.int .i64 (len s:Nat)))
 (c:Nat) (hc:c≤6) (hno:∀ i,i<c→so s i=false) (hyes:c<6→so s c=true):
 Calls Tryz.prog 119 #[.slice (some ⟨w.heap.size,0,none⟩) 6 6] (w.alloc (.cells #[.int .i64 2,.func (.func 187) #[] #[ptr h],.int .i64 3,.func (.func 188) #[] #[ptr B6],.int .i64 4,.func (.func 189) #[] #[ptr B7,ptr h],.int .i64 4,.func (.func 190) #[] #[ptr B8,ptr B7,ptr h],.int .i64 5,.func (.func 191) #[] #[ptr h,ptr B7],.int .i64 6,.func (.func 193) #[] #[ptr (h+1+1+1)]] 181)) fun e W'=>
  e=.returned (.int .i64 (if c<6 then code c else 0))∧Below w.heap.size w W':=by
 have hb:Below w.heap.size w (w.alloc (.cells #[.int .i64 2,.func (.func 187) #[] #[ptr h],.int .i64 3,.func (.func 188) #[] #[ptr B6],.int .i64 4,.func (.func 189) #[] #[ptr B7,ptr h],.int .i64 4,.func (.func 190) #[] #[ptr B8,ptr B7,ptr h],.int .i64 5,.func (.func 191) #[] #[ptr h,ptr B7],.int .i64 6,.func (.func 193) #[] #[ptr (h+1+1+1)]] 181)):=(Below.refl _ w).alloc (Nat.le_refl _) _
 have hall:∀ i,i≤c→i<6→∀ W,Below (w.alloc (.cells #[.int .i64 2,.func (.func 187) #[] #[ptr h],.int .i64 3,.func (.func 188) #[] #[ptr B6],.int .i64 4,.func (.func 189) #[] #[ptr B7,ptr h],.int .i64 4,.func (.func 190) #[] #[ptr B8,ptr B7,ptr h],.int .i64 5,.func (.func 191) #[] #[ptr h,ptr B7],.int .i64 6,.func (.func 193) #[] #[ptr (h+1+1+1)]] 181)).heap.size (w.alloc (.cells #[.int .i64 2,.func (.func 187) #[] #[ptr h],.int .i64 3,.func (.func 188) #[] #[ptr B6],.int .i64 4,.func (.func 189) #[] #[ptr B7,ptr h],.int .i64 4,.func (.func 190) #[] #[ptr B8,ptr B7,ptr h],.int .i64 5,.func (.func 191) #[] #[ptr h,ptr B7],.int .i64 6,.func (.func 193) #[] #[ptr (h+1+1+1)]] 181)) W→
  Calls Tryz.prog (kno i) (caps h B6 B7 B8 i) W fun e W'=>e=.returned (.bool (so s i))∧Below W.heap.size W W':=fun i hic hi W hW=>by
  have hW2:=below2 hb hW
  exact fault_any s hs h B6 B7 B8 W (boxed_below b0 hW2) (boxed_below b2 hW2) (boxed_below b3 hW2) (boxed_below r9 hW2) (boxed_below r10 hW2) (boxed_below r11 hW2) i hi (fun e=>hno 2 (by omega))
 refine (first_any w.heap.size 6 c (by omega) hc code kno (caps h B6 B7 B8) _ (by simp) (fun i hi=>?_) (fun i hi=>?_) (fun i hi W hW=>?_) (fun hc6 W hW=>?_)).mono fun _ _ ⟨he,hB⟩=>⟨he,below2 hb hB⟩
 ·obtain rfl | rfl | rfl | rfl | rfl | rfl:i=0∨i=1∨i=2∨i=3∨i=4∨i=5:=by omega
  all_goals exact⟨by go_simp <;> rfl,by go_simp <;> exact⟨rfl,rfl⟩⟩
 ·obtain rfl | rfl | rfl | rfl | rfl | rfl:i=0∨i=1∨i=2∨i=3∨i=4∨i=5:=by omega
  ·exact enters_of Tryz.func187 (by kernel_rfl) rfl
  ·exact enters_of Tryz.func188 (by kernel_rfl) rfl
  ·exact enters_of Tryz.func189 (by kernel_rfl) rfl
  ·exact enters_of Tryz.func190 (by kernel_rfl) rfl
  ·exact enters_of Tryz.func191 (by kernel_rfl) rfl
  ·exact enters_of Tryz.func193 (by kernel_rfl) rfl
 ·have h1:=hall i (by omega) (by omega) W hW
  rw[hno i hi] at h1
  exact h1
 ·have h1:=hall c (by omega) hc6 W hW
  rw[hyes hc6] at h1
  exact h1
theorem head_cell0 {W:World} {b t:Nat} {x y z:Value} (h:W.heap[b]? =some (.cells #[x,y,z] t (0,0))):W.cell? ⟨b,0,none⟩=some x:=by simp[World.cell?,h]
theorem head_cell1 {W:World} {b t:Nat} {x y z:Value} (h:W.heap[b]? =some (.cells #[x,y,z] t (0,0))):W.cell? ⟨b,1,none⟩=some y:=by simp[World.cell?,h]
theorem head_cell2 {W:World} {b t:Nat} {x y z:Value} (h:W.heap[b]? =some (.cells #[x,y,z] t (0,0))):W.cell? ⟨b,2,none⟩=some z:=by simp[World.cell?,h]
theorem head_free {W:World} {b t:Nat} {x y z:Value} (h:W.heap[b]? =some (.cells #[x,y,z] t (0,0))) (i:Nat):W.frozen? ⟨b,i,none⟩=false:=by simp[World.frozen?,h]
def soP (x y:ByteArray) (p:Int) (r:ByteArray):Nat→Bool
 | 0=>decide (x.size≠4∨y.size≠4)
 | 1=>decide (p<0∨255<p)
 | _=>decide (65515<r.size)
def codeP:Nat→Int
 | 0=>1
 | 1=>1
 | _=>4
def knoP:Nat→Nat
 | 0=>120
 | 1=>121
 | _=>122
def capsP (h:Nat):Nat→Array Value
 | 0=>#[ptr h]
 | 1=>#[ptr h]
 | _=>#[ptr (h+1)]
theorem first_put (x y:ByteArray) (p:Int) (r:ByteArray) (h:Nat) (w:World) (bh:w.heap[h]? =some (.cells #[.string x,.string y,.int .i64 p] 139 (0,0))) (b1:Boxed w (h+1) 9 (.string r))
 (c:Nat) (hc:c≤3) (hno:∀ i,i<c→soP x y p r i=false) (hyes:c<3→soP x y p r c=true):
 Calls Tryz.prog 119 #[.slice (some ⟨w.heap.size,0,none⟩) 3 3] (w.alloc (.cells #[.int .i64 1,.func (.func 120) #[] #[ptr h],.int .i64 1,.func (.func 121) #[] #[ptr h],.int .i64 4,.func (.func 122) #[] #[ptr (h+1)]] 181)) fun e W'=>
  e=.returned (.int .i64 (if c<3 then codeP c else 0))∧Below w.heap.size w W':=by
 have hb:Below w.heap.size w (w.alloc (.cells #[.int .i64 1,.func (.func 120) #[] #[ptr h],.int .i64 1,.func (.func 121) #[] #[ptr h],.int .i64 4,.func (.func 122) #[] #[ptr (h+1)]] 181)):=(Below.refl _ w).alloc (Nat.le_refl _) _
 have hlt:h<w.heap.size:=(Array.getElem?_eq_some_iff.1 bh).1
 have hall:∀ i,i<3→∀ W,Below (w.alloc (.cells #[.int .i64 1,.func (.func 120) #[] #[ptr h],.int .i64 1,.func (.func 121) #[] #[ptr h],.int .i64 4,.func (.func 122) #[] #[ptr (h+1)]] 181)).heap.size (w.alloc (.cells #[.int .i64 1,.func (.func 120) #[] #[ptr h],.int .i64 1,.func (.func 121) #[] #[ptr h],.int .i64 4,.func (.func 122) #[] #[ptr (h+1)]] 181)) W→
  Calls Tryz.prog (knoP i) (capsP h i) W fun e W'=>e=.returned (.bool (soP x y p r i))∧Below W.heap.size W W':=fun i hi W hW=>by
  have hW2:=below2 hb hW
  have bW:=(hW2.block h hlt).trans bh
  obtain rfl | rfl | rfl:i=0∨i=1∨i=2:=by omega
  ·exact same_below (put1 x y h W (head_cell0 bW) (head_cell1 bW))
  ·exact same_below (put2 p h W (head_cell2 bW))
  ·exact same_below (put3 r (h+1) W (boxed_below b1 hW2).cell)
 refine (first_any w.heap.size 3 c (by omega) hc codeP knoP (capsP h) _ (by simp) (fun i hi=>?_) (fun i hi=>?_) (fun i hi W hW=>?_) (fun hc3 W hW=>?_)).mono fun _ _ ⟨he,hB⟩=>⟨he,below2 hb hB⟩
 ·obtain rfl | rfl | rfl:i=0∨i=1∨i=2:=by omega
  all_goals exact⟨by go_simp <;> rfl,by go_simp <;> exact⟨rfl,rfl⟩⟩
 ·obtain rfl | rfl | rfl:i=0∨i=1∨i=2:=by omega
  ·exact enters_of Tryz.func120 (by kernel_rfl) rfl
  ·exact enters_of Tryz.func121 (by kernel_rfl) rfl
  ·exact enters_of Tryz.func122 (by kernel_rfl) rfl
 ·have h1:=hall i (by omega) W hW
  rw[hno i hi] at h1
  exact h1
 ·have h1:=hall c hc3 W hW
  rw[hyes hc3] at h1
  exact h1
end Go.Proofs.YtbamodkgagcmnaaGreat.Ip4
namespace Go.Proofs.YtbamodkgagcmnaaGreat.Ip4
open Go.RowKit Go.Shelf Rgn
def vals (s:ByteArray) (B:Nat):Nat→Value
 | 0=>numF B
 | 1=>.int .i64 (gv s 0 1:Nat)
 | 2=>.int .i64 (ver s:Nat)
 | 3=>numF B
 | 4=>.int .i64 (gv s 0 1:Nat)
 | 5=>.int .i64 (gv s 0 1 % 16:Nat)
 | 6=>.int .i64 (siz s:Nat)
 | 7=>numF B
 | _=>.int .i64 (len s:Nat)
def val3 (s:ByteArray):Nat→Value
 | 9=>.int .i64 (ver s:Nat)
 | 10=>.int .i64 (siz s:Nat)
 | _=>.int .i64 (len s:Nat)
def parseV (s:ByteArray) (c:Nat):Value:=
 if c<6 then .tuple #[.agg #[.string ⟨#[]⟩,.string ⟨#[]⟩,.int .i64 0],.string ⟨#[]⟩,.int .i64 (code c)]
 else .tuple #[.agg #[.string (s.extract 12 16),.string (s.extract 16 20),.int .i64 (gv s 9 1:Nat)],.string (s.extract (siz s) (len s)),.int .i64 0]
theorem code_ne (c:Nat):(code c != 0)=true:=by
 unfold code; split <;> rfl
abbrev fr (s:ByteArray) (h:Nat) (x:Nat→Value):Act:= { tmps:=#[.string s,.pointer (some ⟨h,0,none⟩),.pointer (some ⟨h+1,0,none⟩),.string ⟨#[]⟩,.int .i64 0,.pointer (some ⟨h+1+1+1,0,none⟩),x 9,x 10,x 11,undef,.string s,numF (h+1+1),x 0,x 1,x 2,x 3,x 4,x 5,x 6,x 7,x 8,undef,undef,undef,undef,undef,undef,undef,undef,undef,undef,undef,undef,undef,undef,undef,undef,undef,undef,undef,undef,undef,undef,undef,undef,undef,undef,undef,undef,undef],defers:=[] }
set_option maxRecDepth 100000 in
set_option maxHeartbeats 2000000 in
theorem Parse_any (s:ByteArray) (hs:s.size≤1099511627776) (c:Nat) (hc:c≤6) (hno:∀ i,i<c→so s i=false) (hyes:c<6→so s c=true) (w:World):
 Calls Tryz.prog 164 #[.string s] w fun e W'=>e=.returned (parseV s c)∧Below w.heap.size w W':=by
 go_enter Tryz.func164,Tryz.ntmps164
 go_wp2_with fail
 refine (numbers_any s _).mono ?_
 rintro e w1 ⟨rfl,rfl⟩
 go_wp2_with fail
 have b0:=((Boxed.new w 9 (.string s)).alloc (.cells #[.string ⟨#[]⟩,.string ⟨#[]⟩,.int .i64 0] 139)).alloc (.cells #[.string s] 9) |>.alloc (.cells #[numF (w.heap.size+1+1)] 171)
 have b2:=(Boxed.new ((w.alloc (.cells #[.string s] 9)).alloc (.cells #[.string ⟨#[]⟩,.string ⟨#[]⟩,.int .i64 0] 139)) 9 (.string s)).alloc (.cells #[numF (w.heap.size+1+1)] 171)
 have b3:=Boxed.new (((w.alloc (.cells #[.string s] 9)).alloc (.cells #[.string ⟨#[]⟩,.string ⟨#[]⟩,.int .i64 0] 139)).alloc (.cells #[.string s] 9)) 171 (numF (w.heap.size+1+1))
 have bh:((((w.alloc (.cells #[.string s] 9)).alloc (.cells #[.string ⟨#[]⟩,.string ⟨#[]⟩,.int .i64 0] 139)).alloc (.cells #[.string s] 9)).alloc (.cells #[numF (w.heap.size+1+1)] 171)).heap[w.heap.size+1]? =some (.cells #[.string ⟨#[]⟩,.string ⟨#[]⟩,.int .i64 0] 139 (0,0)):=by
  have h1:=World.alloc_heap_new (w.alloc (.cells #[.string s] 9)) (.cells #[.string ⟨#[]⟩,.string ⟨#[]⟩,.int .i64 0] 139)
  simp only[World.size_alloc] at h1
  rw[Below.heap_alloc _ _ _ (by simp),Below.heap_alloc _ _ _ (by simp)]
  exact h1
 simp only[World.size_alloc] at b0 b2 b3
 have hB0:Below w.heap.size w ((((w.alloc (.cells #[.string s] 9)).alloc (.cells #[.string ⟨#[]⟩,.string ⟨#[]⟩,.int .i64 0] 139)).alloc (.cells #[.string s] 9)).alloc (.cells #[numF (w.heap.size+1+1)] 171)):=
  ((((Below.refl _ w).alloc (Nat.le_refl _) _).alloc (by simp) _).alloc (by simp; omega) _).alloc (by simp; omega) _
 generalize hW0:((((w.alloc (.cells #[.string s] 9)).alloc (.cells #[.string ⟨#[]⟩,.string ⟨#[]⟩,.int .i64 0] 139)).alloc (.cells #[.string s] 9)).alloc (.cells #[numF (w.heap.size+1+1)] 171))=W0 at *
 have hsz:W0.heap.size=w.heap.size+4:=by rw[← hW0]; simp
 have HS:=Lib.hid hsz
 have HW:=Lib.hid hW0
 have hl0:=gv_le s 0 1 (by omega)
 have hl2:=gv_le s 2 2 (by omega)
 have E2:=Lib.hid (show ((ver s:Nat):Int)=((gv s 0 1:Nat):Int) / 16 by unfold ver; omega)
 have E5:=Lib.hid (and_15 (gv s 0 1:Nat))
 have E6:=Lib.hid (show IntKind.i64.wrap (((gv s 0 1:Nat):Int) % 16 * 4)=(siz s:Nat) by rw[IntWalk.i64_in _ (by omega)]; unfold siz; omega)
 clear hW0
 refine wp_region_inv (fun d a w'=>∃ (x:Nat→Value) (b:Nat→Nat),a=fr s w.heap.size x∧Inv 9 3 W0 (fun _=>3) (fun _=>.int .i64 0) (val3 s) (vals s (w.heap.size+1+1)) d x b w')
  (by kernel_rfl) (by kernel_rfl) ?step ?done ?start
 case start=>exact⟨fun _=>undef,fun _=>0,rfl,Inv.start _ _ _ (Below.refl _ W0).drew⟩
 case step=>
  rintro d a w' i hi hd hall ⟨x,b,rfl,hI⟩
  replace hi:i<15:=hi
  obtain rfl | rfl | rfl | rfl | rfl | rfl | rfl | rfl | rfl | rfl | rfl | rfl | rfl | rfl | rfl:i=0∨i=1∨i=2∨i=3∨i=4∨i=5∨i=6∨i=7∨i=8∨i=9∨i=10∨i=11∨i=12∨i=13∨i=14:=by omega
  ·have c3:=(hI.below.cell (p:=⟨w.heap.size+1+1+1,0,none⟩) (by simp; omega)).trans b3.cell
   clear hall
   refine wpOp_step rfl (fun K hK=>?_)
   simp only[List.getElem_toArray,List.getElem_cons_zero]
   go_simp
   exact hK _ _ ⟨_,_,rfl,hI.yields (i:=0) (by omega) (Below.refl _ _)⟩
  ·have h0:x 0=numF (w.heap.size+1+1):=hI.pure 0 (by omega) (hall 0 (by kernel_rfl))
   have H2:=Lib.hid ((hI.below.cell (p:=⟨w.heap.size+1+1,0,none⟩) (by simp; omega)).trans b2.cell)
   clear hall
   refine wpOp_step rfl (fun K hK=>?_)
   simp only[List.getElem_toArray,List.getElem_cons_zero,List.getElem_cons_succ]
   go_simp
   refine (number_any s hs _ 0 1 (by omega) (by omega) w' H2.out).mono ?_
   rintro e w2 ⟨rfl,hb2⟩
   exact hK _ _ ⟨_,_,by simp[upv,vals,h0],hI.yields (i:=1) (by omega) hb2⟩
  ·have h0:x 1=.int .i64 (gv s 0 1:Nat):=hI.pure 1 (by omega) (hall 1 (by kernel_rfl))
   clear hall
   refine wpOp_step rfl (fun K hK=>?_)
   simp only[List.getElem_toArray,List.getElem_cons_zero,List.getElem_cons_succ]
   go_simp
   exact hK _ _ ⟨_,_,by simp[upv,vals,h0,E2.out],hI.yields (i:=2) (by omega) (Below.refl _ _)⟩
  ·have c3:=(hI.below.cell (p:=⟨w.heap.size+1+1+1,0,none⟩) (by simp; omega)).trans b3.cell
   clear hall
   refine wpOp_step rfl (fun K hK=>?_)
   simp only[List.getElem_toArray,List.getElem_cons_zero,List.getElem_cons_succ]
   go_simp
   exact hK _ _ ⟨_,_,rfl,hI.yields (i:=3) (by omega) (Below.refl _ _)⟩
  ·have h0:x 3=numF (w.heap.size+1+1):=hI.pure 3 (by omega) (hall 3 (by kernel_rfl))
   have H2:=Lib.hid ((hI.below.cell (p:=⟨w.heap.size+1+1,0,none⟩) (by simp; omega)).trans b2.cell)
   clear hall
   refine wpOp_step rfl (fun K hK=>?_)
   simp only[List.getElem_toArray,List.getElem_cons_zero,List.getElem_cons_succ]
   go_simp
   refine (number_any s hs _ 0 1 (by omega) (by omega) w' H2.out).mono ?_
   rintro e w2 ⟨rfl,hb2⟩
   exact hK _ _ ⟨_,_,by simp[upv,vals,h0],hI.yields (i:=4) (by omega) hb2⟩
  ·have h0:x 4=.int .i64 (gv s 0 1:Nat):=hI.pure 4 (by omega) (hall 4 (by kernel_rfl))
   clear hall
   refine wpOp_step rfl (fun K hK=>?_)
   simp only[List.getElem_toArray,List.getElem_cons_zero,List.getElem_cons_succ]
   go_simp
   exact hK _ _ ⟨_,_,by simp[upv,vals,h0,E5.out],hI.yields (i:=5) (by omega) (Below.refl _ _)⟩
  ·have h0:x 5=.int .i64 (gv s 0 1 % 16:Nat):=hI.pure 5 (by omega) (hall 5 (by kernel_rfl))
   clear hall
   refine wpOp_step rfl (fun K hK=>?_)
   simp only[List.getElem_toArray,List.getElem_cons_zero,List.getElem_cons_succ]
   go_simp
   exact hK _ _ ⟨_,_,by simp[upv,vals,h0,E6.out],hI.yields (i:=6) (by omega) (Below.refl _ _)⟩
  ·have c3:=(hI.below.cell (p:=⟨w.heap.size+1+1+1,0,none⟩) (by simp; omega)).trans b3.cell
   clear hall
   refine wpOp_step rfl (fun K hK=>?_)
   simp only[List.getElem_toArray,List.getElem_cons_zero,List.getElem_cons_succ]
   go_simp
   exact hK _ _ ⟨_,_,rfl,hI.yields (i:=7) (by omega) (Below.refl _ _)⟩
  ·have h0:x 7=numF (w.heap.size+1+1):=hI.pure 7 (by omega) (hall 7 (by kernel_rfl))
   have H2:=Lib.hid ((hI.below.cell (p:=⟨w.heap.size+1+1,0,none⟩) (by simp; omega)).trans b2.cell)
   clear hall
   refine wpOp_step rfl (fun K hK=>?_)
   simp only[List.getElem_toArray,List.getElem_cons_zero,List.getElem_cons_succ]
   go_simp
   refine (number_any s hs _ 2 2 (by omega) (by omega) w' H2.out).mono ?_
   rintro e w2 ⟨rfl,hb2⟩
   exact hK _ _ ⟨_,_,by simp[upv,vals,h0,len],hI.yields (i:=8) (by omega) hb2⟩
  ·clear hall
   refine wpOp_step rfl (fun K hK=>?_)
   simp only[List.getElem_toArray,List.getElem_cons_zero,List.getElem_cons_succ]
   go_simp
   exact hK _ _ ⟨_,_,rfl,hI.makes (i:=9) (by omega) (by omega) hd⟩
  ·clear hall
   refine wpOp_step rfl (fun K hK=>?_)
   simp only[List.getElem_toArray,List.getElem_cons_zero,List.getElem_cons_succ]
   go_simp
   exact hK _ _ ⟨_,_,rfl,hI.makes (i:=10) (by omega) (by omega) hd⟩
  ·clear hall
   refine wpOp_step rfl (fun K hK=>?_)
   simp only[List.getElem_toArray,List.getElem_cons_zero,List.getElem_cons_succ]
   go_simp
   exact hK _ _ ⟨_,_,rfl,hI.makes (i:=11) (by omega) (by omega) hd⟩
  ·have h0:x 2=.int .i64 (ver s:Nat):=hI.pure 2 (by omega) (hall 2 (by kernel_rfl))
   have hdl:=hall 9 (by kernel_rfl)
   obtain⟨h1,_,h2⟩:=hI.cell 9 (by omega) (by omega) hdl
   have c2:=h2.cell
   have f2:=h2.frozen
   clear hall
   refine wpOp_step rfl (fun K hK=>?_)
   simp only[List.getElem_toArray,List.getElem_cons_zero,List.getElem_cons_succ]
   go_simp
   exact hK _ _ ⟨_,_,rfl,hI.lays (i:=9) (by omega) (by omega) hdl⟩
  ·have h0:x 6=.int .i64 (siz s:Nat):=hI.pure 6 (by omega) (hall 6 (by kernel_rfl))
   have hdl:=hall 10 (by kernel_rfl)
   obtain⟨h1,_,h2⟩:=hI.cell 10 (by omega) (by omega) hdl
   have c2:=h2.cell
   have f2:=h2.frozen
   clear hall
   refine wpOp_step rfl (fun K hK=>?_)
   simp only[List.getElem_toArray,List.getElem_cons_zero,List.getElem_cons_succ]
   go_simp
   exact hK _ _ ⟨_,_,rfl,hI.lays (i:=10) (by omega) (by omega) hdl⟩
  ·have h0:x 8=.int .i64 (len s:Nat):=hI.pure 8 (by omega) (hall 8 (by kernel_rfl))
   have hdl:=hall 11 (by kernel_rfl)
   obtain⟨h1,_,h2⟩:=hI.cell 11 (by omega) (by omega) hdl
   have c2:=h2.cell
   have f2:=h2.frozen
   clear hall
   refine wpOp_step rfl (fun K hK=>?_)
   simp only[List.getElem_toArray,List.getElem_cons_zero,List.getElem_cons_succ]
   go_simp
   exact hK _ _ ⟨_,_,rfl,hI.lays (i:=11) (by omega) (by omega) hdl⟩
 case done=>
  rintro d a w' hall ⟨x,b,rfl,hI⟩
  replace hall:∀ i,i<15→d i=true:=hall
  have x0:x 0=numF (w.heap.size+1+1):=hI.pure 0 (by omega) (hall 0 (by omega))
  have x1:x 1=.int .i64 (gv s 0 1:Nat):=hI.pure 1 (by omega) (hall 1 (by omega))
  have x2:x 2=.int .i64 (ver s:Nat):=hI.pure 2 (by omega) (hall 2 (by omega))
  have x3:x 3=numF (w.heap.size+1+1):=hI.pure 3 (by omega) (hall 3 (by omega))
  have x4:x 4=.int .i64 (gv s 0 1:Nat):=hI.pure 4 (by omega) (hall 4 (by omega))
  have x5:x 5=.int .i64 (gv s 0 1 % 16:Nat):=hI.pure 5 (by omega) (hall 5 (by omega))
  have x6:x 6=.int .i64 (siz s:Nat):=hI.pure 6 (by omega) (hall 6 (by omega))
  have x7:x 7=numF (w.heap.size+1+1):=hI.pure 7 (by omega) (hall 7 (by omega))
  have x8:x 8=.int .i64 (len s:Nat):=hI.pure 8 (by omega) (hall 8 (by omega))
  obtain⟨x9,l9,r9⟩:=hI.cell 9 (by omega) (by omega) (hall 9 (by omega))
  obtain⟨x10,l10,r10⟩:=hI.cell 10 (by omega) (by omega) (hall 10 (by omega))
  obtain⟨x11,l11,r11⟩:=hI.cell 11 (by omega) (by omega) (hall 11 (by omega))
  rw[if_pos (hall (9+3) (by omega))] at r9
  rw[if_pos (hall (10+3) (by omega))] at r10
  rw[if_pos (hall (11+3) (by omega))] at r11
  have hB:=hI.below
  rw[show fr s w.heap.size x=fr s w.heap.size (fun i=>if i=9 then .pointer (some ⟨b 9,0,none⟩) else if i=10 then .pointer (some ⟨b 10,0,none⟩) else if i=11 then .pointer (some ⟨b 11,0,none⟩) else vals s (w.heap.size+1+1) i) by simp[fr,vals,x0,x1,x2,x3,x4,x5,x6,x7,x8,x9,x10,x11]]
  clear x0 x1 x2 x3 x4 x5 x6 x7 x8 x9 x10 x11 hI hall
  generalize b 9=B6 at *
  generalize b 10=B7 at *
  generalize b 11=B8 at *
  clear b x d E2 E5 E6
  simp only[fr,vals,reduceIte,Nat.reduceEqDiff]
  have hBw:Below w.heap.size w w':=hB0.trans (hB.mono hB0.size)
  go_wp2_with fail
  refine (first_parse s hs w.heap.size B6 B7 B8 w' (boxed_below b0 hB) (boxed_below b2 hB) (boxed_below b3 hB) r9 r10 r11 c hc hno hyes).mono ?_
  rintro e w2 ⟨rfl,hb2⟩
  have hBw2:Below w.heap.size w w2:=hBw.trans (hb2.mono hBw.size)
  have hB2:Below W0.heap.size W0 w2:=hB.trans (hb2.mono hB.size)
  have bh2:w2.heap[w.heap.size+1]? =some (.cells #[.string ⟨#[]⟩,.string ⟨#[]⟩,.int .i64 0] 139 (0,0)):=(hB2.block (w.heap.size+1) (by omega)).trans bh
  have t0:=head_cell0 bh2
  have t1:=head_cell1 bh2
  have t2:=head_cell2 bh2
  have u0:=head_free bh2 0
  have u1:=head_free bh2 1
  have u2:=head_free bh2 2
  by_cases hc6:c<6
  ·rw[if_pos hc6]
   have hn:(code c != 0)=true:=code_ne c
   have PV:=Lib.hid (show parseV s c=.tuple #[.agg #[.string ⟨#[]⟩,.string ⟨#[]⟩,.int .i64 0],.string ⟨#[]⟩,.int .i64 (code c)] from if_pos hc6)
   clear hno hyes b0 b2 b3 r9 r10 r11 HW bh bh2 hB hB2
   go_wp2_with fail
   refine bodyPost_ret (v:=.tuple #[.agg #[.string ⟨#[]⟩,.string ⟨#[]⟩,.int .i64 0],.string ⟨#[]⟩,.int .i64 (code c)]) (by simp[results,Tryz.results164,go_sem,t0,t1,t2]) rfl ⟨by rw[PV.out],?_⟩
   exact ((hBw2.setCell (p:=⟨w.heap.size+1,0,none⟩) (by simp) _).setCell (p:=⟨w.heap.size+1,1,none⟩) (by simp) _).setCell (p:=⟨w.heap.size+1,2,none⟩) (by simp) _
  ·obtain rfl:c=6:=by omega
   rw[if_neg hc6]
   have PV:=Lib.hid (show parseV s 6=.tuple #[.agg #[.string (s.extract 12 16),.string (s.extract 16 20),.int .i64 (gv s 9 1:Nat)],.string (s.extract (siz s) (len s)),.int .i64 0] from if_neg hc6)
   have n0:=of_decide_eq_false (hno 0 (by omega))
   have n2:=of_decide_eq_false (hno 2 (by omega))
   have n3:=of_decide_eq_false (hno 3 (by omega))
   have z0:=(boxed_below (boxed_below b0 hB) hb2).cell
   have z2:=(boxed_below (boxed_below b2 hB) hb2).cell
   have z3:=(boxed_below (boxed_below b3 hB) hb2).cell
   have z7:w2.cell? ⟨B7,0,none⟩=some (.int .i64 (siz s:Nat)):=(boxed_below r10 hb2).cell
   have z8:w2.cell? ⟨B8,0,none⟩=some (.int .i64 (len s:Nat)):=(boxed_below r11 hb2).cell
   have HB:=Lib.hid bh2
   have i1:(20:Int)≤(s.size:Int):=by omega
   have i16:(16:Int)≤(s.size:Int):=by omega
   have i2:((siz s:Nat):Int)≤((len s:Nat):Int):=by omega
   have i3:((len s:Nat):Int)≤(s.size:Int):=by omega
   have m7:¬ (w.heap.size+1=B7):=by omega
   have m8:¬ (w.heap.size+1=B8):=by omega
   clear hno hyes b0 b2 b3 r9 r10 r11 HW bh bh2 hB hB2 t0 t1 t2 u0 u1 u2
   go_wp2_with fail
   go_region_held3 (fun W=>Below w.heap.size w W∧W.cell? ⟨w.heap.size,0,none⟩=some (.string s)∧W.cell? ⟨w.heap.size+1+1,0,none⟩=some (.string s)∧W.cell? ⟨w.heap.size+1+1+1,0,none⟩=some (numF (w.heap.size+1+1))∧W.cell? ⟨B7,0,none⟩=some (.int .i64 (siz s:Nat))∧W.cell? ⟨B8,0,none⟩=some (.int .i64 (len s:Nat)))
    (first | exact⟨hBw2.drew,z0,z2,z3,z7,z8⟩ | exact⟨g0,g1,g2,g3,g7,g8⟩ | (refine⟨((g0.setCell (p:=⟨w.heap.size+1,0,none⟩) (by simp) _).setCell (p:=⟨w.heap.size+1,1,none⟩) (by simp) _).setCell (p:=⟨w.heap.size+1,2,none⟩) (by simp) _,?_⟩; go_keep))
    ((go_at_call 213; refine (number_any s hs _ 9 1 (by omega) (by omega) w2.drew z2).mono ?_; rintro e w3 ⟨rfl,hb3⟩; have g0:Below w.heap.size w w3:=hBw2.drew.trans (hb3.mono hBw2.size); have g1:w3.cell? _=_:=(hb3.cell (World.block_lt_of_cell? w2 _ z0)).trans z0; have g2:w3.cell? _=_:=(hb3.cell (World.block_lt_of_cell? w2 _ z2)).trans z2; have g3:w3.cell? _=_:=(hb3.cell (World.block_lt_of_cell? w2 _ z3)).trans z3; have g7:w3.cell? _=_:=(hb3.cell (World.block_lt_of_cell? w2 _ z7)).trans z7; have g8:w3.cell? _=_:=(hb3.cell (World.block_lt_of_cell? w2 _ z8)).trans z8; have hq:w3.heap[w.heap.size+1]? =some (.cells #[.string ⟨#[]⟩,.string ⟨#[]⟩,.int .i64 0] 139 (0,0)):=(hb3.block _ (Array.getElem?_eq_some_iff.1 HB.out).1).trans HB.out; have t0:=head_cell0 hq; have t1:=head_cell1 hq; have t2:=head_cell2 hq; have u0:=head_free hq 0; have u1:=head_free hq 1; have u2:=head_free hq 2; clear hq))
   go_wp2
   refine bodyPost_ret (v:=.tuple #[.agg #[.string (s.extract 12 16),.string (s.extract 16 20),.int .i64 (gv s 9 1:Nat)],.string (s.extract (siz s) (len s)),.int .i64 0]) (by simp[results,Tryz.results164,go_sem,t0,t1,t2]) rfl ⟨by rw[PV.out],?_⟩
   exact ((g0.setCell (p:=⟨w.heap.size+1,0,none⟩) (by simp) _).setCell (p:=⟨w.heap.size+1,1,none⟩) (by simp) _).setCell (p:=⟨w.heap.size+1,2,none⟩) (by simp) _
end Go.Proofs.YtbamodkgagcmnaaGreat.Ip4
namespace Go.Proofs.YtbamodkgagcmnaaGreat.Ip4
open Go.RowKit Go.Shelf Rgn
def front (n p:Nat):ByteArray:=⟨#[69,0]⟩ ++ Oct.str (Oct.bytes (20+n) 2) ++ ⟨#[0,0,64,0,64]⟩ ++ Oct.str (Oct.bytes p 1)
def own (x y:ByteArray) (n p:Nat):Nat:=65535 - Cks.fc (Cks.tot (front n p ++ ⟨#[0,0]⟩ ++ (x ++ y)).data.toList)
def putS (x y:ByteArray) (p:Nat) (r:ByteArray):ByteArray:=front r.size p ++ Oct.str (Oct.bytes (own x y r.size p) 2) ++ (x ++ y) ++ r
def putV (x y:ByteArray) (p:Int) (r:ByteArray) (c:Nat):Value:=
 if c<3 then .tuple #[.string ⟨#[]⟩,.int .i64 (codeP c)] else .tuple #[.string (putS x y p.toNat r),.int .i64 0]
theorem codeP_ne (c:Nat):(codeP c != 0)=true:=by
 unfold codeP; split <;> rfl
theorem str_size (l:List UInt8):(Oct.str l).size=l.length:=by simp[ByteArray.size]
theorem Put_some (v n:Int) (w:World) (hv0:0≤v) (hv:v≤18446744073709551615) (h:1≤n∧n≤2):
 Calls Tryz.prog 123 #[.int .u64 v,.int .i64 n] w fun e W'=>∃ S:ByteArray,e=.returned (.string S)∧S.size≤2∧Hid (S=Oct.str (Oct.bytes v.toNat n.toNat))∧Below w.heap.size w W':=
 (Oct.Put_yes v n w hv0 hv (by omega)).mono fun _ _ ⟨he,hb⟩=>⟨_,he,by rw[str_size,Oct.bytes_length]; omega,Lib.hid rfl,hb⟩
theorem st_keep {w W W':World} {h:Nat} {x y r:ByteArray} {p:Int} (hS:Below w.heap.size w W∧W.cell? ⟨h+1,0,none⟩=some (.string r)∧W.cell? ⟨h,0,none⟩=some (.string x)∧W.cell? ⟨h,1,none⟩=some (.string y)∧W.cell? ⟨h,2,none⟩=some (.int .i64 p)) (hb:Below W.heap.size W W'):
 Below w.heap.size w W'∧W'.cell? ⟨h+1,0,none⟩=some (.string r)∧W'.cell? ⟨h,0,none⟩=some (.string x)∧W'.cell? ⟨h,1,none⟩=some (.string y)∧W'.cell? ⟨h,2,none⟩=some (.int .i64 p):=
 ⟨below2 hS.1 hb,(hb.cell (World.block_lt_of_cell? W _ hS.2.1)).trans hS.2.1,(hb.cell (World.block_lt_of_cell? W _ hS.2.2.1)).trans hS.2.2.1,(hb.cell (World.block_lt_of_cell? W _ hS.2.2.2.1)).trans hS.2.2.2.1,(hb.cell (World.block_lt_of_cell? W _ hS.2.2.2.2)).trans hS.2.2.2.2⟩
set_option maxRecDepth 100000 in
set_option maxHeartbeats 2000000 in
theorem Put_any (x y:ByteArray) (p:Int) (r:ByteArray) (hr:r.size≤1099511627776) (c:Nat) (hc:c≤3) (hno:∀ i,i<c→soP x y p r i=false) (hyes:c<3→soP x y p r c=true) (w:World):
 Calls Tryz.prog 80 #[.agg #[.string x,.string y,.int .i64 p],.string r] w fun e W'=>e=.returned (putV x y p r c)∧Below w.heap.size w W':=by
 have bh:((w.alloc (.cells #[.string x,.string y,.int .i64 p] 139)).alloc (.cells #[.string r] 9)).heap[w.heap.size]? =some (.cells #[.string x,.string y,.int .i64 p] 139 (0,0)):=by
  rw[Below.heap_alloc _ _ _ (by simp)]
  exact World.alloc_heap_new w _
 have b1:=Boxed.new (w.alloc (.cells #[.string x,.string y,.int .i64 p] 139)) 9 (.string r)
 simp only[World.size_alloc] at b1
 have hB0:Below w.heap.size w ((w.alloc (.cells #[.string x,.string y,.int .i64 p] 139)).alloc (.cells #[.string r] 9)):=((Below.refl _ w).alloc (Nat.le_refl _) _).alloc (by simp) _
 have cF:=first_put x y p r w.heap.size ((w.alloc (.cells #[.string x,.string y,.int .i64 p] 139)).alloc (.cells #[.string r] 9)) bh b1 c hc hno hyes
 simp only[World.size_alloc] at cF
 have CF:=Lib.hid cF
 clear cF
 go_enter Tryz.func80,Tryz.ntmps80
 go_wp2_with fail
 refine CF.out.mono ?_
 clear CF
 rintro e w2 ⟨rfl,hb2⟩
 have hB2:Below w.heap.size w w2:=hB0.trans (hb2.mono (by omega))
 by_cases hc3:c<3
 ·rw[if_pos hc3]
  have PV:=Lib.hid (show putV x y p r c=.tuple #[.string ⟨#[]⟩,.int .i64 (codeP c)] from if_pos hc3)
  have hn:(codeP c != 0)=true:=codeP_ne c
  clear hno hyes bh b1
  go_wp2_with fail
  exact bodyPost_ret (v:=.tuple #[.string ⟨#[]⟩,.int .i64 (codeP c)]) (by simp[results,Tryz.results80,go_sem]) rfl ⟨by rw[PV.out],hB2⟩
 ·obtain rfl:c=3:=by omega
  rw[if_neg hc3]
  have PV:=Lib.hid (show putV x y p r 3=.tuple #[.string (putS x y p.toNat r),.int .i64 0] from if_neg hc3)
  have n0:=of_decide_eq_false (hno 0 (by omega))
  have n1:=of_decide_eq_false (hno 1 (by omega))
  have n2:=of_decide_eq_false (hno 2 (by omega))
  have bW:=(hb2.block w.heap.size (by omega)).trans bh
  have z0:=head_cell0 bW
  have z1:=head_cell1 bW
  have z2:=head_cell2 bW
  have z3:w2.cell? ⟨w.heap.size+1,0,none⟩=some (.string r):=(hb2.cell (p:=⟨w.heap.size+1,0,none⟩) (by simp)).trans b1.cell
  have hx4:x.size=4:=by omega
  have hy4:y.size=4:=by omega
  have hr5:r.size≤65515:=by omega
  clear hno hyes bh b1 bW hB0 hb2 n0 n2 hr
  have s1:(ByteArray.mk #[69,0]).size=2:=rfl
  have s2:(ByteArray.mk #[0,0,64,0,64]).size=5:=rfl
  have q1:IntKind.i64.wrap (20+(r.size:Int))=20+(r.size:Int):=IntWalk.i64_in _ (by omega)
  have q2:IntKind.u64.wrap (20+(r.size:Int))=20+(r.size:Int):=IntWalk.u64_in _ (by omega)
  have q3:IntKind.u64.wrap p=p:=IntWalk.u64_in _ (by omega)
  have A1:∀ (S:ByteArray) (u:World),S.size≤2→(Op.stringOp .add ⟨#[69,0]⟩ S).run Tryz.prog u=.ok (.string (⟨#[69,0]⟩ ++ S)) u:=fun S u hS=>run_string_add_sum u _ S (by omega)
  have A2:∀ (S:ByteArray) (u:World),S.size≤2→(Op.stringOp .add (⟨#[69,0]⟩ ++ S) ⟨#[0,0,64,0,64]⟩).run Tryz.prog u=.ok (.string (⟨#[69,0]⟩ ++ S ++ ⟨#[0,0,64,0,64]⟩)) u:=fun S u hS=>run_string_add_sum u _ _ (by rw[ByteArray.size_append]; omega)
  have A3:∀ (S T:ByteArray) (u:World),S.size≤2→T.size≤2→(Op.stringOp .add (⟨#[69,0]⟩ ++ S ++ ⟨#[0,0,64,0,64]⟩) T).run Tryz.prog u=.ok (.string (⟨#[69,0]⟩ ++ S ++ ⟨#[0,0,64,0,64]⟩ ++ T)) u:=fun S T u hS hT=>run_string_add_sum u _ _ (by rw[ByteArray.size_append,ByteArray.size_append]; omega)
  go_wp2_with fail
  go_region_held3 (fun W=>Below w.heap.size w W∧W.cell? ⟨w.heap.size+1,0,none⟩=some (.string r)∧W.cell? ⟨w.heap.size,0,none⟩=some (.string x)∧W.cell? ⟨w.heap.size,1,none⟩=some (.string y)∧W.cell? ⟨w.heap.size,2,none⟩=some (.int .i64 p))
   (first | exact⟨hB2.drew,z3,z0,z1,z2⟩ | exact st_keep (by assumption) hb3)
   (first | (go_at_call 123; (with_reducible refine (Put_some _ _ _ ?_ ?_ ?_).mono ?_); omega; omega; omega; rintro e w3 ⟨S,rfl,hS,HS,hb3⟩))
  rename_i u1 S1 hS1 HS1 hc1 hHeld
  obtain⟨hB3,c3,c0,c1,c2⟩:=hHeld
  have hF:(ByteArray.mk #[69,0]) ++ S1 ++ ⟨#[0,0,64,0,64]⟩ ++ S=front r.size p.toNat:=by
   rw[HS1.out,HS.out,show (20+(r.size:Int)).toNat=20+r.size by omega]; rfl
  have hFs:(front r.size p.toNat).size≤11:=by
   rw[← hF,ByteArray.size_append,ByteArray.size_append,ByteArray.size_append]; omega
  rw[hF]
  clear A1 A2 A3 hF HS1 HS hS hS1 s1 s2 q1 q2 q3
  have hO:(65535 - (Cks.fc (Cks.tot (front r.size p.toNat ++ ⟨#[0,0]⟩ ++ (x ++ y)).data.toList):Nat):Int)=(own x y r.size p.toNat:Nat):=by
   unfold own
   have:=Cks.fc_le (Cks.tot (front r.size p.toNat ++ ⟨#[0,0]⟩ ++ (x ++ y)).data.toList)
   omega
  have hOl:own x y r.size p.toNat≤65535:=by unfold own; omega
  have HP:=Lib.hid (show putS x y p.toNat r=front r.size p.toNat ++ Oct.str (Oct.bytes (own x y r.size p.toNat) 2) ++ (x ++ y) ++ r from rfl)
  have HO:=Lib.hid hO
  clear hO
  generalize front r.size p.toNat=F at *
  generalize own x y r.size p.toNat=o at *
  have s0:(ByteArray.mk #[0,0]).size=2:=rfl
  have zS:=Lib.hid (show (F ++ ⟨#[0,0]⟩ ++ (x ++ y)).size≤1099511627776 by rw[ByteArray.size_append,ByteArray.size_append,ByteArray.size_append]; omega)
  go_wp2_with fail
  refine (Cks.Sum_any _ zS.out _).mono ?_
  rintro e w4 ⟨rfl,hb4⟩
  rw[HO.out]
  have T4:=st_keep ⟨hB3,c3,c0,c1,c2⟩ hb4
  obtain⟨hB4,f3,f0,f1,f2⟩:=T4
  clear HO zS c0 c1 c2 c3 hb4 hB3
  have q4:IntKind.u64.wrap (o:Int)=o:=IntWalk.u64_in _ (by omega)
  have A4:∀ (S:ByteArray) (u:World),S.size≤2→(Op.stringOp .add F S).run Tryz.prog u=.ok (.string (F ++ S)) u:=fun S u hS=>run_string_add_sum u _ S (by omega)
  have A5:∀ (S:ByteArray) (u:World),S.size≤2→(Op.stringOp .add (F ++ S) (x ++ y)).run Tryz.prog u=.ok (.string (F ++ S ++ (x ++ y))) u:=fun S u hS=>run_string_add_sum u _ _ (by rw[ByteArray.size_append,ByteArray.size_append]; omega)
  have A6:∀ (S:ByteArray) (u:World),S.size≤2→(Op.stringOp .add (F ++ S ++ (x ++ y)) r).run Tryz.prog u=.ok (.string (F ++ S ++ (x ++ y) ++ r)) u:=fun S u hS=>run_string_add_sum u _ _ (by rw[ByteArray.size_append,ByteArray.size_append,ByteArray.size_append]; omega)
  go_wp2_with fail
  go_region_held3 (fun W=>Below w.heap.size w W∧W.cell? ⟨w.heap.size+1,0,none⟩=some (.string r)∧W.cell? ⟨w.heap.size,0,none⟩=some (.string x)∧W.cell? ⟨w.heap.size,1,none⟩=some (.string y)∧W.cell? ⟨w.heap.size,2,none⟩=some (.int .i64 p))
   (first | exact⟨hB4.drew,f3,f0,f1,f2⟩ | exact st_keep (by assumption) hb5)
   (first | (go_at_call 123; (with_reducible refine (Put_some _ _ _ ?_ ?_ ?_).mono ?_); omega; omega; omega; rintro e w5 ⟨S,rfl,hS,HS,hb5⟩))
  rename_i hHeld
  go_wp2
  exact bodyPost_ret (v:=.tuple #[.string (F ++ S ++ (x ++ y) ++ r),.int .i64 0]) (by simp[results,Tryz.results80,go_sem]) rfl ⟨by rw[PV.out,HP.out,HS.out]; rfl,hHeld.1⟩
end Go.Proofs.YtbamodkgagcmnaaGreat.Ip4
namespace Go.Proofs.YtbamodkgagcmnaaGreat.Ip4
open Go.RowKit Go.Shelf
open Oct (num num_bytes bytes_length str)
open Cks (tot tot_append fc fc_le fc_small fc_add fc_inj tot_nil tot_two)
theorem ba_ext {a b:ByteArray} (h:a.data.toList=b.data.toList):a=b:=by
 cases a; cases b; congr; exact Array.toList_inj.1 h
theorem len_list (a:ByteArray):a.data.toList.length=a.size:=by rw[Array.length_toList]; rfl
theorem ext_list (s:ByteArray) (a b:Nat):(s.extract a b).data.toList=(s.data.toList.drop a).take (b - a):=by
 rw[ByteArray.data_extract,Array.toList_extract,List.extract_eq_take_drop]
theorem app_list (a b:ByteArray):(a ++ b).data.toList=a.data.toList ++ b.data.toList:=by simp only[ByteArray.data_append,Array.toList_append]
theorem gv_of (s:ByteArray) (a n:Nat) (h:a+n≤s.size):gv s (a:Int) (n:Int)=num ((s.data.toList.drop a).take n):=by
 unfold gv Oct.getV
 rw[if_pos (by omega)]; rfl
theorem take_app (l m:List UInt8) (a n:Nat) (h:a+n≤l.length):((l ++ m).drop a).take n=(l.drop a).take n:=by
 rw[List.drop_append_of_le_length (by omega),List.take_append_of_le_length (by rw[List.length_drop]; omega)]
theorem gv_app (s b:ByteArray) (a n:Nat) (h:a+n≤s.size):gv (s ++ b) (a:Int) (n:Int)=gv s (a:Int) (n:Int):=by
 rw[gv_of s a n h,gv_of (s ++ b) a n (by rw[ByteArray.size_append]; omega),app_list,take_app _ _ _ _ (by rw[len_list]; exact h)]
theorem ext_app (s b:ByteArray) (a c:Nat) (h:c≤s.size):(s ++ b).extract a c=s.extract a c:=by
 apply ba_ext
 rw[ext_list,ext_list,app_list]
 by_cases hac:a≤c
 ·exact take_app _ _ _ _ (by rw[len_list]; omega)
 ·rw[show c - a=0 by omega]; rfl
theorem so_0 (s:ByteArray):so s 0=decide (s.size<20):=rfl
theorem so_1 (s:ByteArray):so s 1=decide (ver s≠4):=rfl
theorem so_2 (s:ByteArray):so s 2=decide (siz s<20∨s.size<siz s):=rfl
theorem so_3 (s:ByteArray):so s 3=decide (len s<siz s∨s.size<len s):=rfl
theorem so_4 (s:ByteArray):so s 4=decide (fc (tot (s.extract 0 (siz s)).data.toList)≠65535):=rfl
theorem so_5 (s:ByteArray):so s 5=decide (gv s 6 2 % 16384≠0):=rfl
theorem so_none {s:ByteArray} (h0:¬ s.size<20) (h1:ver s=4) (h2:¬ (siz s<20∨s.size<siz s)) (h3:¬ (len s<siz s∨s.size<len s)) (h4:fc (tot (s.extract 0 (siz s)).data.toList)=65535) (h5:gv s 6 2 % 16384=0):
 ∀ i,i<6→so s i=false:=by
 intro i hi
 obtain rfl | rfl | rfl | rfl | rfl | rfl:i=0∨i=1∨i=2∨i=3∨i=4∨i=5:=by omega
 ·rw[so_0]; exact decide_eq_false h0
 ·rw[so_1]; exact decide_eq_false (fun e=>e h1)
 ·rw[so_2]; exact decide_eq_false h2
 ·rw[so_3]; exact decide_eq_false h3
 ·rw[so_4]; exact decide_eq_false (fun e=>e h4)
 ·rw[so_5]; exact decide_eq_false (fun e=>e h5)
theorem none_so {s:ByteArray} (h:∀ i,i<6→so s i=false):¬ s.size<20∧ver s=4∧¬ (siz s<20∨s.size<siz s)∧¬ (len s<siz s∨s.size<len s)∧fc (tot (s.extract 0 (siz s)).data.toList)=65535∧gv s 6 2 % 16384=0:=by
 have h0:=h 0 (by omega)
 have h1:=h 1 (by omega)
 have h2:=h 2 (by omega)
 have h3:=h 3 (by omega)
 have h4:=h 4 (by omega)
 have h5:=h 5 (by omega)
 rw[so_0] at h0
 rw[so_1] at h1
 rw[so_2] at h2
 rw[so_3] at h3
 rw[so_4] at h4
 rw[so_5] at h5
 exact⟨of_decide_eq_false h0,Decidable.of_not_not (of_decide_eq_false h1),of_decide_eq_false h2,of_decide_eq_false h3,Decidable.of_not_not (of_decide_eq_false h4),Decidable.of_not_not (of_decide_eq_false h5)⟩
theorem so_app (s b:ByteArray) (h:∀ i,i<6→so s i=false):
 (∀ i,i<6→so (s ++ b) i=false)∧parseV (s ++ b) 6=parseV s 6:=by
 obtain⟨h0,h1,h2,h3,h4,h5⟩:=none_so h
 have g0:gv (s ++ b) 0 1=gv s 0 1:=gv_app s b 0 1 (by omega)
 have g2:gv (s ++ b) 2 2=gv s 2 2:=gv_app s b 2 2 (by omega)
 have g6:gv (s ++ b) 6 2=gv s 6 2:=gv_app s b 6 2 (by omega)
 have g9:gv (s ++ b) 9 1=gv s 9 1:=gv_app s b 9 1 (by omega)
 have ev:ver (s ++ b)=ver s:=by unfold ver; rw[g0]
 have es:siz (s ++ b)=siz s:=by unfold siz; rw[g0]
 have el:len (s ++ b)=len s:=g2
 have hz:(s ++ b).size=s.size+b.size:=ByteArray.size_append
 constructor
 ·exact so_none (by omega) (ev.trans h1) (by rw[es]; omega) (by rw[es,el]; omega) (by rw[es,ext_app s b 0 (siz s) (by omega)]; exact h4) (by rw[g6]; exact h5)
 ·unfold parseV
  rw[if_neg (by omega),if_neg (by omega),es,el,g9,ext_app s b 12 16 (by omega),ext_app s b 16 20 (by omega),ext_app s b _ _ (by omega)]
def hdL (n p o:Nat):List UInt8:=[69,0,UInt8.ofNat ((20+n) / 256),UInt8.ofNat (20+n),0,0,64,0,64,UInt8.ofNat p,UInt8.ofNat (o / 256),UInt8.ofNat o]
theorem putS_list (x y:ByteArray) (p:Nat) (r:ByteArray):(putS x y p r).data.toList=hdL r.size p (own x y r.size p) ++ (x.data.toList ++ (y.data.toList ++ r.data.toList)):=by
 unfold putS front
 simp only[app_list,List.append_assoc]
 rfl
theorem own_le (x y:ByteArray) (n p:Nat):own x y n p≤65535:=by unfold own; omega
theorem putS_size (x y:ByteArray) (p:Nat) (r:ByteArray) (hx:x.size=4) (hy:y.size=4):(putS x y p r).size=20+r.size:=by
 rw[← len_list,putS_list]
 simp only[List.length_append,len_list,hx,hy,hdL,List.length_cons,List.length_nil]; omega
theorem tot_bytes (v:Nat) (h:v<65536):tot (Oct.bytes v 2)=v:=by
 have e:Oct.bytes v 2=[UInt8.ofNat (v / 256),UInt8.ofNat v]:=rfl
 rw[e,tot_two,tot_nil,Oct.toNat_ofNat,Oct.toNat_ofNat]; omega
theorem fc_own (T v:Nat) (h:v=65535 - fc T):fc (T+v)=65535:=by
 have h1:=fc_le T
 rw[fc_add,fc_small v (by omega)]; split <;> omega
theorem putS_good (x y:ByteArray) (p:Nat) (r:ByteArray) (hx:x.size=4) (hy:y.size=4):fc (tot ((putS x y p r).extract 0 20).data.toList)=65535:=by
 have e1:((putS x y p r).extract 0 20).data.toList=(front r.size p).data.toList ++ (Oct.bytes (own x y r.size p) 2 ++ (x ++ y).data.toList):=by
  rw[ext_list,putS_list,app_list]
  rw[← List.append_assoc x.data.toList,← List.append_assoc,List.drop_zero,List.take_append_of_le_length (by simp[hdL,hx,hy]),List.take_of_length_le (by simp[hdL,hx,hy])]
  rfl
 have e2:(front r.size p ++ ⟨#[0,0]⟩ ++ (x ++ y)).data.toList=(front r.size p).data.toList ++ ([0,0] ++ (x ++ y).data.toList):=by
  rw[app_list,app_list,List.append_assoc]
 have hf:(front r.size p).data.toList.length % 2=0:=by simp[front,bytes_length]
 have e3:tot [0,0]=0:=by decide
 rw[e1,tot_append _ _ hf,tot_append _ _ (by rw[bytes_length]),tot_bytes _ (Nat.lt_succ_of_le (own_le x y r.size p))]
 have h1:own x y r.size p=65535 - fc (tot (front r.size p).data.toList+tot (x ++ y).data.toList):=by
  unfold own
  rw[e2,tot_append _ _ hf,tot_append _ _ (by decide),e3,Nat.zero_add]
 rw[show tot (front r.size p).data.toList+(own x y r.size p+tot (x ++ y).data.toList)=tot (front r.size p).data.toList+tot (x ++ y).data.toList+own x y r.size p by omega]
 exact fc_own _ _ h1
theorem putS_fields (x y:ByteArray) (p:Nat) (r:ByteArray) (hx:x.size=4) (hy:y.size=4) (hp:p≤255) (hr:r.size≤65515):
 gv (putS x y p r) 0 1=69∧gv (putS x y p r) 2 2=20+r.size∧gv (putS x y p r) 6 2=16384∧gv (putS x y p r) 9 1=p∧
 (putS x y p r).extract 12 16=x∧(putS x y p r).extract 16 20=y∧(putS x y p r).extract 20 (20+r.size)=r:=by
 have hz:=putS_size x y p r hx hy
 have hl:=putS_list x y p r
 have lx:=len_list x
 have ly:=len_list y
 have lr:=len_list r
 refine⟨?_,?_,?_,?_,?_,?_,?_⟩
 ·refine (gv_of _ 0 1 (by omega)).trans ?_
  rw[hl]; rfl
 ·refine (gv_of _ 2 2 (by omega)).trans ?_
  rw[hl]
  show num (Oct.bytes (20+r.size) 2)=_
  rw[num_bytes]; omega
 ·refine (gv_of _ 6 2 (by omega)).trans ?_
  rw[hl]; rfl
 ·refine (gv_of _ 9 1 (by omega)).trans ?_
  rw[hl]
  show num (Oct.bytes p 1)=_
  rw[num_bytes]; omega
 ·apply ba_ext
  rw[ext_list,hl,List.drop_append_of_le_length (by simp[hdL])]
  show ([] ++ (x.data.toList ++ (y.data.toList ++ r.data.toList))).take 4=_
  rw[List.nil_append,List.take_append_of_le_length (by omega),List.take_of_length_le (by omega)]
 ·apply ba_ext
  rw[ext_list,hl,← List.append_assoc,List.drop_append_of_le_length (by simp[hdL,lx,hx]),List.drop_of_length_le (by simp[hdL,lx,hx]),List.nil_append,List.take_append_of_le_length (by omega),List.take_of_length_le (by omega)]
 ·apply ba_ext
  rw[ext_list,hl,← List.append_assoc,← List.append_assoc,List.drop_append_of_le_length (by simp[hdL,lx,hx,ly,hy]),List.drop_of_length_le (by simp[hdL,lx,hx,ly,hy]),List.nil_append,List.take_of_length_le (by omega)]
theorem putS_parsed (x y:ByteArray) (p:Nat) (r:ByteArray) (hx:x.size=4) (hy:y.size=4) (hp:p≤255) (hr:r.size≤65515):
 (∀ i,i<6→so (putS x y p r) i=false)∧parseV (putS x y p r) 6=.tuple #[.agg #[.string x,.string y,.int .i64 (p:Nat)],.string r,.int .i64 0]:=by
 have hz:=putS_size x y p r hx hy
 obtain⟨g0,g2,g6,g9,ex,ey,er⟩:=putS_fields x y p r hx hy hp hr
 have ev:ver (putS x y p r)=4:=by unfold ver; rw[g0]
 have es:siz (putS x y p r)=20:=by unfold siz; rw[g0]
 have el:len (putS x y p r)=20+r.size:=g2
 constructor
 ·exact so_none (by omega) ev (by rw[es]; omega) (by rw[es,el]; omega) (by rw[es]; exact putS_good x y p r hx hy) (by rw[g6])
 ·unfold parseV
  rw[if_neg (by omega),es,el,g9,ex,ey,er]
end Go.Proofs.YtbamodkgagcmnaaGreat.Ip4
namespace Go.Proofs.YtbamodkgagcmnaaGreat.Ip4
open Go.RowKit Go.Shelf
theorem first_fault (s:ByteArray):∃ c,c≤6∧(∀ i,i<c→so s i=false)∧(c<6→so s c=true):=by
 have step:∀ n,n≤6→(∀ i,i<n→so s i=false)∨∃ c,c≤6∧(∀ i,i<c→so s i=false)∧(c<6→so s c=true):=by
  intro n
  induction n with
  | zero=>exact fun _=>.inl (fun i hi=>absurd hi (by omega))
  | succ n ih=>
    intro hn
    rcases ih (by omega) with h | h
    ·cases hb:so s n with
     | true=>exact .inr ⟨n,by omega,h,fun _=>hb⟩
     | false=>
       refine .inl fun i hi=>?_
       by_cases e:i=n
       ·rw[e]; exact hb
       ·exact h i (by omega)
    ·exact .inr h
 rcases step 6 (by omega) with h | h
 ·exact⟨6,by omega,h,fun h=>absurd h (by omega)⟩
 ·exact h
abbrev badV (e:Int):Value:=.tuple #[.agg #[.string ⟨#[]⟩,.string ⟨#[]⟩,.int .i64 0],.string ⟨#[]⟩,.int .i64 e]
theorem Parse_bad (s:ByteArray) (hs:s.size≤1099511627776) (c:Nat) (hc:c<6) (hno:∀ i,i<c→so s i=false) (hyes:so s c=true) (w:World):
 Calls Tryz.prog 164 #[.string s] w fun e W'=>e=.returned (badV (code c))∧Below w.heap.size w W':=by
 have h:=Parse_any s hs c (by omega) hno (fun _=>hyes) w
 rwa [show parseV s c=badV (code c) from if_pos hc] at h
theorem Parse_good (s:ByteArray) (hs:s.size≤1099511627776) (hno:∀ i,i<6→so s i=false) (w:World):
 Calls Tryz.prog 164 #[.string s] w fun e W'=>e=.returned (parseV s 6)∧Below w.heap.size w W':=
 Parse_any s hs 6 (by omega) hno (fun h=>absurd h (by omega)) w
theorem Parse_put (S b x y:ByteArray) (p:Int) (r:ByteArray) (hx:x.size=4) (hy:y.size=4) (hp:0≤p∧p≤255) (hr:r.size≤65515) (hb:b.size≤1000000) (hS:Hid (S=putS x y p.toNat r)) (w:World):
 Calls Tryz.prog 164 #[.string (S ++ b)] w fun e W'=>e=.returned (.tuple #[.agg #[.string x,.string y,.int .i64 p],.string r,.int .i64 0])∧Below w.heap.size w W':=by
 obtain⟨P,rfl⟩:=Int.eq_ofNat_of_zero_le hp.1
 rw[hS.out]
 have hz:=putS_size x y P r hx hy
 have h1:=putS_parsed x y P r hx hy (by omega) hr
 have h2:=so_app (putS x y P r) b h1.1
 have h:=Parse_good (putS x y P r ++ b) (by rw[ByteArray.size_append,hz]; omega) h2.1 w
 rw[h2.2,h1.2] at h
 exact h
theorem app_nil (S:ByteArray):S ++ (⟨#[]⟩:ByteArray)=S:=ba_ext (by rw[app_list]; exact List.append_nil _)
theorem Parse_put0 (S x y:ByteArray) (p:Int) (r:ByteArray) (hx:x.size=4) (hy:y.size=4) (hp:0≤p∧p≤255) (hr:r.size≤65515) (hS:Hid (S=putS x y p.toNat r)) (w:World):
 Calls Tryz.prog 164 #[.string S] w fun e W'=>e=.returned (.tuple #[.agg #[.string x,.string y,.int .i64 p],.string r,.int .i64 0])∧Below w.heap.size w W':=by
 have h:=Parse_put S ⟨#[]⟩ x y p r hx hy hp hr (by decide) hS w
 rwa [app_nil] at h
theorem Put_named (x y:ByteArray) (p:Int) (r:ByteArray) (hx:x.size=4) (hy:y.size=4) (hp:0≤p∧p≤255) (hr:r.size≤65515) (w:World):
 Calls Tryz.prog 80 #[.agg #[.string x,.string y,.int .i64 p],.string r] w fun e W'=>∃ S:ByteArray,e=.returned (.tuple #[.string S,.int .i64 0])∧S.size=20+r.size∧Hid (S=putS x y p.toNat r)∧Below w.heap.size w W':=by
 have h:=Put_any x y p r (by omega) 3 (by omega) (fun i hi=>by
  obtain rfl | rfl | rfl:i=0∨i=1∨i=2:=by omega
  ·exact decide_eq_false (by omega)
  ·exact decide_eq_false (by omega)
  ·exact decide_eq_false (by omega)) (fun h=>absurd h (by omega)) w
 exact h.mono fun _ _ ⟨he,hb⟩=>⟨_,he.trans (congrArg _ (if_neg (by omega))),putS_size x y p.toNat r hx hy,Lib.hid rfl,hb⟩
def Headed (W:World) (b:Nat) (x y:ByteArray) (p:Int):Prop:=W.heap[b]? =some (.cells #[.string x,.string y,.int .i64 p] 139 (0,0))
theorem headed_new (W:World) (x y:ByteArray) (p:Int):Headed (W.alloc (.cells #[.string x,.string y,.int .i64 p] 139)) W.heap.size x y p:=World.alloc_heap_new W _
theorem Headed.kept {W W':World} {b:Nat} {x y:ByteArray} {p:Int} (h:Headed W b x y p) (hb:Below W.heap.size W W'):Headed W' b x y p:=(hb.block b (Array.getElem?_eq_some_iff.1 h).1).trans h
theorem below_alloc (W:World) (o:Obj):Below W.heap.size W (W.alloc o):=(Below.refl _ W).alloc (Nat.le_refl _) o
theorem Headed.alloc {W:World} {b:Nat} {x y:ByteArray} {p:Int} (h:Headed W b x y p) (o:Obj):Headed (W.alloc o) b x y p:=h.kept (below_alloc W o)
theorem Headed.cells {W:World} {b:Nat} {x y:ByteArray} {p:Int} (h:Headed W b x y p):W.cell? ⟨b,0,none⟩=some (.string x)∧W.cell? ⟨b,1,none⟩=some (.string y)∧W.cell? ⟨b,2,none⟩=some (.int .i64 p):=⟨head_cell0 h,head_cell1 h,head_cell2 h⟩
end Go.Proofs.YtbamodkgagcmnaaGreat.Ip4
