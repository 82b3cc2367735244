/-
  Package packet: what Put and Parse tell, all ways together, beside the document's answer.
-/
import Derived.Test.YtcdgcjpdlhknoaaPktQ
import Derived.Test.YtcdgcjpdlhknoaaPktR
import Derived.Test.YtcdgcjpdlhknoaaPktU
import Derived.Test.YtcdgcjpdlhknoaaPktX
import Derived.Test.YtcdgcjpdlhknoaaIp4K
import Derived.Test.YtcdgcjpdlhknoaaIp4F
import Derived.Test.YtcdgcjpdlhknoaaIp4G
import Derived.Test.YtcdgcjpdlhknoaaIp6F
import Derived.Test.YtcdgcjpdlhknoaaIp6G
import Derived.Test.YtcdgcjpdlhknoaaPrtG
namespace Go.Proofs.Ytcdgcjpdlhknoaa.Pkt
open Go.RowKit Go.Shelf Txt Rgn

/-- A packet that is put. -/
def okP (V : Int) (x y : ByteArray) (F T p f : Int) : Prop := (V = 4 ∧ x.size = 4 ∧ y.size = 4 ∨ V = 6 ∧ x.size = 16 ∧ y.size = 16) ∧ Prt.fit p F T f
theorem okP_right {V : Int} {x y : ByteArray} {F T p f : Int} (h : okP V x y F T p f) : right V x y F T p := ⟨h.1, h.2.1, h.2.2.1, h.2.2.2.1⟩
/-- How long a head of its version is. -/
def hl (V : Int) : Nat := if V = 4 then 20 else 40
/-- What is put. -/
def putW (V : Int) (x y : ByteArray) (F T p f : Int) : ByteArray := if V = 4 then Ip4.putS x y p.toNat (Prt.putS p F T f) else Ip6.putS x y p.toNat (Prt.putS p F T f)
/-- The error of one that is not. -/
noncomputable def errW (V : Int) (F T p f : Int) : Int := open Classical in if V ≠ 4 ∧ V ≠ 6 then 3 else if Prt.fit p F T f then 1 else Prt.errP p
theorem errW_ne (V F T p f : Int) : errW V F T p f ≠ 0 := by
  unfold errW
  split
  · omega
  · split
    · omega
    · exact Prt.errP_ne p
theorem most_le (p : Int) : Prt.most p ≤ 20 := by unfold Prt.most; split <;> omega
theorem fit_proto {p F T f : Int} (h : Prt.fit p F T f) : 0 ≤ p ∧ p ≤ 255 := by rcases h.1 with e | e <;> omega

theorem port_good (p F T f : Int) (h : Prt.fit p F T f) : Tells 58 #[.int .i64 p, .agg #[.int .i64 F, .int .i64 T, .int .i64 f]] (txV (Prt.putS p F T f) 0) := fun w =>
  (Prt.Put_named p F T f h w).mono fun _ _ ⟨_, he, _, hS, hb⟩ => ⟨by rw [he, hS.out], hb⟩
theorem port_bad (p : Int) (hp : (Lit.int .i64 p).wf = true) (F T f : Int) (h : ¬ Prt.fit p F T f) : Tells 58 #[.int .i64 p, .agg #[.int .i64 F, .int .i64 T, .int .i64 f]] (txV ⟨#[]⟩ (Prt.errP p)) := fun w => Prt.Put_bad p hp F T f h w
theorem refPort_good (p F T f : Int) (h : Prt.fit p F T f) : Tells 33 #[.int .i64 p, .agg #[.int .i64 F, .int .i64 T, .int .i64 f]] (txV (Prt.putS p F T f) 0) := fun w => Prt.refPut_good p F T f h w
theorem refPort_bad (p F T f : Int) (h : ¬ Prt.fit p F T f) : Tells 33 #[.int .i64 p, .agg #[.int .i64 F, .int .i64 T, .int .i64 f]] (txV ⟨#[]⟩ (Prt.errP p)) := fun w => Prt.refPut_bad p F T f h w

/-- Put of a packet that can be put, and the document's. -/
theorem Put_ok (V : Int) (x y : ByteArray) (F T p f : Int) (h : okP V x y F T p f) :
    Tells 14 #[pktV V x y F T p f] (txV (putW V x y F T p f) 0) ∧ Tells 15 #[pktV V x y F T p f] (txV (putW V x y F T p f) 0) := by
  obtain ⟨h1, hf⟩ := h
  have hp := fit_proto hf
  have hm := most_le p
  have hz := Prt.putS_size p F T f
  rcases h1 with ⟨rfl, hx, hy⟩ | ⟨rfl, hx, hy⟩
  · rw [show putW 4 x y F T p f = Ip4.putS x y p.toNat (Prt.putS p F T f) from if_pos rfl]
    refine ⟨Put_four _ _ _ _ _ _ _ _ (put4_head _ _ _ _ _ _ _ _ _ _ (port_good p F T f hf) fun w => ?_), refPut_four _ _ _ _ _ _ _ _ _ (refPort_good p F T f hf) fun w => Ip4.refPut_good x y p _ hx hy hp (by omega) w⟩
    exact (Ip4.Put_named x y p _ hx hy hp (by omega) w).mono fun _ _ ⟨_, he, _, hS, hb⟩ => ⟨by rw [he, hS.out], hb⟩
  · rw [show putW 6 x y F T p f = Ip6.putS x y p.toNat (Prt.putS p F T f) from if_neg (by omega)]
    refine ⟨Put_six _ _ _ _ _ _ _ _ (put6_head _ _ _ _ _ _ _ _ _ _ (port_good p F T f hf) fun w => ?_), refPut_six _ _ _ _ _ _ _ _ _ (refPort_good p F T f hf) fun w => Ip6.refPut_good x y p _ hx hy hp (by omega) w⟩
    exact (Ip6.Put_named x y p _ hx hy hp (by omega) w).mono fun _ _ ⟨_, he, _, hS, hb⟩ => ⟨by rw [he, hS.out], hb⟩
/-- Put of one that can't. -/
theorem Put_not (V : Int) (x y : ByteArray) (F T p f : Int) (hw : (Lit.int .i64 p).wf = true) (h : ¬ okP V x y F T p f) :
    Tells 14 #[pktV V x y F T p f] (txV ⟨#[]⟩ (errW V F T p f)) ∧ Tells 15 #[pktV V x y F T p f] (txV ⟨#[]⟩ (errW V F T p f)) := by
  have hm := most_le p
  have hz := Prt.putS_size p F T f
  by_cases hv : V ≠ 4 ∧ V ≠ 6
  · rw [show errW V F T p f = 3 from if_pos hv]
    exact ⟨Put_other _ _ _ _ _ _ _ hv.1 hv.2, refPut_other _ _ _ _ _ _ _ hv.1 hv.2⟩
  · by_cases hf : Prt.fit p F T f
    · rw [show errW V F T p f = 1 by unfold errW; rw [if_neg hv, if_pos hf]]
      have hs : ¬ (V = 4 ∧ x.size = 4 ∧ y.size = 4 ∨ V = 6 ∧ x.size = 16 ∧ y.size = 16) := fun e => h ⟨e, hf⟩
      rcases (show V = 4 ∨ V = 6 by omega) with rfl | rfl
      · have hb : x.size ≠ 4 ∨ y.size ≠ 4 ∨ p < 0 ∨ 255 < p := by omega
        exact ⟨Put_four _ _ _ _ _ _ _ _ (put4_head _ _ _ _ _ _ _ _ _ _ (port_good p F T f hf) fun w => Ip4.Put_arg x y p _ hb (by omega) w), refPut_four _ _ _ _ _ _ _ _ _ (refPort_good p F T f hf) fun w => Ip4.refPut_arg x y p _ hb w⟩
      · have hb : x.size ≠ 16 ∨ y.size ≠ 16 ∨ p < 0 ∨ 255 < p := by omega
        exact ⟨Put_six _ _ _ _ _ _ _ _ (put6_head _ _ _ _ _ _ _ _ _ _ (port_good p F T f hf) fun w => Ip6.Put_arg x y p _ hb w), refPut_six _ _ _ _ _ _ _ _ _ (refPort_good p F T f hf) fun w => Ip6.refPut_arg x y p _ hb w⟩
    · rw [show errW V F T p f = Prt.errP p by unfold errW; rw [if_neg hv, if_neg hf]]
      rcases (show V = 4 ∨ V = 6 by omega) with rfl | rfl
      · exact ⟨Put_four _ _ _ _ _ _ _ _ (put4_port _ _ _ _ _ _ _ _ (port_bad p hw F T f hf) (Prt.errP_ne p)), refPut_four_port _ _ _ _ _ _ _ (refPort_bad p F T f hf) (Prt.errP_ne p)⟩
      · exact ⟨Put_six _ _ _ _ _ _ _ _ (put6_port _ _ _ _ _ _ _ _ (port_bad p hw F T f hf) (Prt.errP_ne p)), refPut_six_port _ _ _ _ _ _ _ (refPort_bad p F T f hf) (Prt.errP_ne p)⟩
theorem putW_size (V : Int) (x y : ByteArray) (F T p f : Int) (h : okP V x y F T p f) : (putW V x y F T p f).size = hl V + Prt.most p := by
  have hz := Prt.putS_size p F T f
  rcases h.1 with ⟨rfl, hx, hy⟩ | ⟨rfl, hx, hy⟩
  · rw [show putW 4 x y F T p f = Ip4.putS x y p.toNat (Prt.putS p F T f) from if_pos rfl, Ip4.putS_size _ _ _ _ hx hy, hz]; rfl
  · rw [show putW 6 x y F T p f = Ip6.putS x y p.toNat (Prt.putS p F T f) from if_neg (by omega), Ip6.putS_size _ _ _ _ hx hy, hz]; rfl
end Go.Proofs.Ytcdgcjpdlhknoaa.Pkt
