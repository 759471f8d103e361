/- The reference's question whether an interval holds a quotient. -/
import Derived.Test.YtgfppdboogldlaaGreatZs31
import Derived.Test.YtgfppdboogldlaaGreatZs12
import Derived.Test.YtgfppdboogldlaaGreatZs44
import Derived.Test.YtgfppdboogldlaaGreatZs42
import Derived.Test.YtgfppdboogldlaaGreatZs17
namespace Go.Proofs.YtgfppdboogldlaaGreat
open Go.ChangeShapes Go.WideShapes Go.ChangeAt Go.RowKit
structure HqS (w wx:World) (lo hi:Nat) (a b:Nv) (m K:Nat) (c d:Int):Prop where
 x:Has2 wx w.heap.size (.float .f64 lo) (.float .f64 hi)
 ab:Has3 wx (w.heap.size+1) (.bool a.g) (.slice a.a a.l a.c) (.int .i64 a.e)
 bx:Has3 wx (w.heap.size+1+1) (.bool b.g) (.slice b.a b.l b.c) (.int .i64 b.e)
 ba:Boxed wx (w.heap.size+1)
 bb:Boxed wx (w.heap.size+1+1)
 na:NumZ (-1074*(m:Int)) (971*(m:Int)) K wx a.val c
 nb:NumZ (-1074*(m:Int)-1074) (971*(m:Int)+971) K wx b.val d
 hb:Below w.heap.size w wx
theorem has2_far3 {w:World} {b c:Nat} {x y:Value} (h:Has2 w b x y) (hne:b≠c) (u0 u1 u2:Value):Has2 (set3 w c u0 u1 u2) b x y:=by
 have hk:(set3 w c u0 u1 u2).heap[b]?=w.heap[b]?:=by
   show (((w.setCell ⟨c,0,none⟩ u0).setCell ⟨c,1,none⟩ u1).setCell ⟨c,2,none⟩ u2).heap[b]?=_
   rw [Below.heap_setCell _ _ _ _ hne,Below.heap_setCell _ _ _ _ hne,Below.heap_setCell _ _ _ _ hne]
 exact⟨(World.cell?_of_block hk).trans h.1,(World.cell?_of_block hk).trans h.2.1,(World.frozen?_of_block hk).trans h.2.2.1,(World.frozen?_of_block hk).trans h.2.2.2.1,by simp only [World.size_setCell];exact h.2.2.2.2⟩
theorem HqS.keep {w wx w2:World} {lo hi:Nat} {a b:Nv} {m K:Nat} {c d:Int} (h:HqS w wx lo hi a b m K c d) (hb:Below wx.heap.size wx w2):HqS w w2 lo hi a b m K c d:=⟨h.x.keep hb,h.ab.keep hb,h.bx.keep hb,h.ba.keep hb,h.bb.keep hb,h.na.keep hb,h.nb.keep hb,later h.hb hb⟩
theorem HqS.putA {w wx:World} {lo hi:Nat} {a b:Nv} {m K:Nat} {c d:Int} (h:HqS w wx lo hi a b m K c d) (n:Nv) {c':Int} (hn:NumZ (-1074*(m:Int)) (971*(m:Int)) K wx n.val c'):HqS w (set3 wx (w.heap.size+1) (.bool n.g) (.slice n.a n.l n.c) (.int .i64 n.e)) lo hi n b m K c' d :=
 ⟨has2_far3 h.x (by omega) _ _ _,h.ab.set3 _ _ _,h.bx.far4 (by omega) _ _ _,h.ba.set3 _ _ _ _,h.bb.set3 _ _ _ _,hn.put3 h.ba _ _ _,h.nb.put3 h.ba _ _ _,below_set3 h.hb (by omega) _ _ _⟩
theorem HqS.putB {w wx:World} {lo hi:Nat} {a b:Nv} {m K:Nat} {c d:Int} (h:HqS w wx lo hi a b m K c d) (n:Nv) {d':Int} (hn:NumZ (-1074*(m:Int)-1074) (971*(m:Int)+971) K wx n.val d'):HqS w (set3 wx (w.heap.size+1+1) (.bool n.g) (.slice n.a n.l n.c) (.int .i64 n.e)) lo hi a n m K c d' :=
 ⟨has2_far3 h.x (by omega) _ _ _,h.ab.far4 (by omega) _ _ _,h.bx.set3 _ _ _,h.ba.set3 _ _ _ _,h.bb.set3 _ _ _ _,h.na.put3 h.bb _ _ _,hn.put3 h.bb _ _ _,below_set3 h.hb (by omega) _ _ _⟩
theorem end_low {k:Int} {q:Rat} {c d:Int} (hd:0<d) (hr:q*(d:Rat)=(c:Rat)*((unitN:Int):Rat)) (h:vq k≤q):V k*d≤c*((2^(expN+expN):Nat):Int):=by
 have e:((2^(expN+expN):Nat):Int)=(unitN:Int)*(unitN:Int):=by
   unfold unitN
   rw [Nat.pow_add,Int.natCast_mul]
 rw [e]
 have up:=unitQ_pos
 have io:=iuQ_one
 have dp:(0:Rat)<(d:Rat):=by
   have:=Rat.intCast_lt_intCast.2 hd
   simpa using this
 refine Rat.intCast_le_intCast.1 ?_
 rw [Rat.intCast_mul,Rat.intCast_mul,Rat.intCast_mul]
 unfold vq at h
 generalize ((unitN:Int):Rat)=u at *
 generalize iuQ=z at *
 generalize (d:Rat)=D at *
 generalize (c:Rat)=E at *
 generalize ((V k:Int):Rat)=v at *
 have h1:v≤q*u:=by
   have:=Rat.mul_le_mul_of_nonneg_right h (Rat.le_of_lt up)
   have e2:v*z*u=v:=by
     have:v*z*u=v*(u*z):=by grind
     rw [this,io];grind
   rw [e2] at this
   exact this
 have h2:=Rat.mul_le_mul_of_nonneg_right h1 (Rat.le_of_lt dp)
 have e3:q*u*D=E*(u*u):=by
   have:q*u*D=(q*D)*u:=by grind
   rw [this,hr];grind
 rw [e3] at h2
 exact h2
theorem end_high {k:Int} {q:Rat} {c d:Int} (hd:0<d) (hr:q*(d:Rat)=(c:Rat)*((unitN:Int):Rat)) (h:q≤vq k):c*((2^(expN+expN):Nat):Int)≤V k*d:=by
 have h1:=end_low (k:=-k) (q:=-q) (c:=-c) hd (by rw [Rat.intCast_neg];grind) (by rw [vq_neg];grind)
 rw [V_neg] at h1
 generalize ((2^(expN+expN):Nat):Int)=P at *
 rw [Int.neg_mul,Int.neg_mul] at h1
 omega
theorem cmpZ_leD {a b:Int} (h:a≤b):decide (cmpZ a b≤0)=true:=by
 unfold cmpZ
 rw [decide_eq_true_eq]
 by_cases c:a<b
 · rw [if_pos c];omega
 · rw [if_neg c,if_neg (by omega)];omega
theorem cmpZ_geD {a b:Int} (h:b≤a):decide (cmpZ a b≥0)=true:=by
 unfold cmpZ
 rw [decide_eq_true_eq,if_neg (by omega)]
 split <;> omega
theorem fin_lo {k:Nat} {q:Rat} (hk:k<18446744073709551616) (f:finB k=true) (h:LoQ (key k) q):vq (key k)≤q:=by
 rcases h with h | h
 · have:=fin_key hk f
   omega
 · exact h
theorem fin_hi {k:Nat} {q:Rat} (hk:k<18446744073709551616) (f:finB k=true) (h:LoQ (-key k) (-q)):q≤vq (key k):=by
 rcases h with h | h
 · have:=fin_key hk f
   omega
 · rw [vq_neg] at h
   grind
end Go.Proofs.YtgfppdboogldlaaGreat
