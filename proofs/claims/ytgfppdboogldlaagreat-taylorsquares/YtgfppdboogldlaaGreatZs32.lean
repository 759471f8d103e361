/- Systems of linear equations over the rational numbers: fewer equations than unknowns have a solution that is not nought; a matrix with a near inverse has none. Quotients by a number above nought hold; the series of x' = x x and of x' = x, as intervals: what they hold, and that they are bounded. -/
import Derived.Test.YtgfppdboogldlaaGreatZs31
import Derived.Test.YtgfppdboogldlaaGreatZs22
namespace Go.Proofs.YtgfppdboogldlaaGreat
open Go.ChangeShapes Go.WideShapes Go.ChangeAt Go.RowKit
def absQ (x:Rat):Rat:=if x<0 then -x else x
theorem greatest (v:Nat→Rat):∀n,0<n→∃i,i<n∧∀j,j<n→absQ (v j)≤absQ (v i):=by
 intro n
 induction n with
 | zero=>intro h;omega
 | succ n ih =>
   intro _
   by_cases c:n=0
   · subst c
     exact⟨0,by omega,fun j hj=>by rw [show j=0 by omega];exact Rat.le_refl⟩
   · obtain⟨i,hi,h⟩:=ih (by omega)
     by_cases d:absQ (v n)≤absQ (v i)
     · refine⟨i,by omega,fun j hj=>?_⟩
       by_cases e:j=n
       · rw [e];exact d
       · exact h j (by omega)
     · refine⟨n,by omega,fun j hj=>?_⟩
       by_cases e:j=n
       · rw [e];exact Rat.le_refl
       · have:=h j (by omega)
         grind
theorem vq_pos {k:Int} (h:0<k):0<vq k:=Rat.mul_pos (Rat.intCast_pos.2 (V_pos h)) iuQ_pos
theorem div_loF {a d:Nat} (ha:a<18446744073709551616) (hd:d<18446744073709551616) (fa:finB a=true) (fd:finB d=true) (kd:0<key d):LoQ (key (divF a d (-1))) (vq (key a)*(vq (key d))⁻¹):=by
 obtain⟨u,hu⟩:∃u:Nat,u=1075:=⟨_,rfl⟩
 have zb:=isZ_pos hd (show key d≠0 by omega)
 have kv:=key_val hd
 have vp:=V_pos kd
 have sg:splitG d=false:=by
   cases g:splitG d
   · rfl
   · rw [g,if_pos rfl] at kv
     omega
 rw [sg,if_neg (by simp)] at kv
 have hD:=divF_down hu ha fa fd zb
 rw [sg,if_neg (by simp)] at hD
 rcases down_le hD with h | h
 · exact Or.inl h
 · refine Or.inr ?_
   rw [←kv] at h
   have e:(2^u:Nat)=2*unitN:=by unfold unitN;rw [show u=expN+1 by rw [hu];rfl,Nat.pow_succ']
   rw [e] at h
   have h1:V (key (divF a d (-1)))*V (key d)≤V (key a)*(unitN:Int):=by
     have e1:2*V (key (divF a d (-1)))*V (key d)=2*(V (key (divF a d (-1)))*V (key d)):=Int.mul_assoc _ _ _
     have e2:V (key a)*((2*unitN:Nat):Int)=2*(V (key a)*(unitN:Int)):=by
       rw [show ((2*unitN:Nat):Int)=2*(unitN:Int) by simp,←Int.mul_assoc,Int.mul_comm (V (key a)) 2,Int.mul_assoc]
     rw [e1,e2] at h
     omega
   clear h hD e kv
   have i0:=iuQ_pos
   have i1:=iuQ_one
   have dp:=vq_pos kd
   have h2:=Rat.mul_le_mul_of_nonneg_right (Rat.intCast_le_intCast.2 h1) (Rat.mul_nonneg (Rat.le_of_lt i0) (Rat.le_of_lt i0))
   rw [Rat.intCast_mul,Rat.intCast_mul] at h2
   have h3:vq (key (divF a d (-1)))*vq (key d)≤vq (key a):=by
     unfold vq
     generalize (V (key (divF a d (-1))):Rat)=R at *
     generalize (V (key a):Rat)=A at *
     generalize (V (key d):Rat)=B at *
     generalize ((unitN:Int):Rat)=U at *
     generalize iuQ=i at *
     have e3:R*B*(i*i)=R*i*(B*i):=by grind
     have e4:A*U*(i*i)=A*i:=by grind
     rw [e3,e4] at h2
     exact h2
   have iv:=Rat.inv_pos.2 dp
   have i2:=Rat.mul_inv_cancel _ (show vq (key d)≠0 by grind)
   have h4:=Rat.mul_le_mul_of_nonneg_right h3 (Rat.le_of_lt iv)
   generalize vq (key (divF a d (-1)))=R at *
   generalize vq (key a)=A at *
   generalize vq (key d)=B at *
   generalize B⁻¹=J at *
   have e5:R*B*J=R:=by grind
   rw [e5] at h4
   exact h4
theorem lq_point {a d:Nat} {x:Rat} (ha:a<18446744073709551616) (hd:d<18446744073709551616) (na:nanB a=false) (fd:finB d=true) (kd:0<key d) (ka:key a<9218868437227405312) (X:LoQ (key a) x):LoQ (key (lqP a d d)) (x*(vq (key d))⁻¹):=by
 have nd:=fin_not_nan fd
 have kr:=fin_key hd fd
 by_cases c1:key a=-9218868437227405312
 · exact Or.inl (lq_bot ha hd na nd (by omega) (by omega) c1)
 have fa:=fin_two ha na (by omega) c1
 have zb:=isZ_pos hd (show key d≠0 by omega)
 have e:lqP a d d=divF a d (-1):=by
   unfold lqP divD
   rw [divR_fin (-1) fa fd zb,Option.getD_some]
   by_cases h:leB 0 a=true
   · rw [if_pos h]
   · rw [if_neg h,eq00 nd,decide_eq_false (by omega),if_neg (by simp)]
 rw [e]
 rcases X with X | X
 · exact absurd X c1
 exact (div_loF ha hd fa fd kd).less (Rat.mul_le_mul_of_nonneg_right X (Rat.le_of_lt (Rat.inv_pos.2 (vq_pos kd))))
theorem hq_divp {p:Nat×Nat} {d:Nat} {x:Rat} (X:Hq p x) (hd:d<18446744073709551616) (fd:finB d=true) (kd:0<key d):Hq (divQ p (d,d)) (x*(vq (key d))⁻¹):=by
 have nd:=fin_not_nan fd
 have kr:=fin_key hd fd
 have D:Some2 d d:=⟨nd,nd,Int.le_refl _,by omega,by omega,by rintro rfl;revert kd;decide,by rintro rfl;revert kd;decide⟩
 have w:=divQ_W2 (p:=p) (q:=(d,d)) ⟨X.l1,X.l2⟩ ⟨hd,hd⟩
 have xn:=X.S.nh
 have xg:=X.S.gt
 suffices h:Some2 (divQ p (d,d)).1 (divQ p (d,d)).2∧LoQ (key (divQ p (d,d)).1) (x*(vq (key d))⁻¹)∧LoQ (-key (divQ p (d,d)).2) (-(x*(vq (key d))⁻¹)) from ⟨w.1,w.2,h.1,h.2.1,h.2.2⟩
 clear w
 unfold divQ divP
 dsimp only
 rw [hs_iff.2 X.S,hs_iff.2 D,Bool.and_self,if_neg (by simp),if_neg (by omega)]
 by_cases c:key p.1=0∧key p.2=0
 · rw [if_pos c]
   have h0:(0:Rat)≤x:=by
     rcases X.lo with h | h
     · rw [c.1] at h;omega
     · rw [c.1,vq_zero] at h;exact h
   have h1:x≤0:=by
     rcases X.hi with h | h
     · rw [c.2] at h;omega
     · rw [c.2] at h
       rw [show (-0:Int)=0 by rfl,vq_zero] at h
       grind
   have hx:x=0:=rat_anti h0 h1
   rw [hx,Rat.zero_mul]
   have k0:key 0=0:=by decide
   refine⟨zero_some,Or.inr (by show vq (key 0)≤0;rw [k0,vq_zero];exact Rat.le_refl),Or.inr (by show vq (-key 0)≤-0;rw [k0,show (-0:Int)=0 by rfl,vq_zero];grind)⟩
 · rw [if_neg c,if_pos (by omega)]
   obtain⟨S,k1,k2⟩:=shrink_some X.l1 X.l2 hd hd X.S D (by omega) kd
   refine⟨S, ?_, ?_⟩
   · rw [k1]
     exact lq_point X.l1 hd X.S.nl fd kd X.S.lt X.lo
   · rw [k2,Int.neg_neg,show -(x*(vq (key d))⁻¹)=-x*(vq (key d))⁻¹ by grind]
     exact lq_point (negB_lt X.l2) hd (by rw [nanB_negB X.l2];exact xn) fd kd (by rw [key_negB X.l2];omega) (by rw [key_negB X.l2];exact X.hi)
theorem whole_words:∀n:Fin 13,finB (floatOfInt .f64 ((n.1:Int)+1))=true∧wholeQ ((n.1:Int)+1)=(floatOfInt .f64 ((n.1:Int)+1),floatOfInt .f64 ((n.1:Int)+1))∧0<key (floatOfInt .f64 ((n.1:Int)+1))∧V (key (floatOfInt .f64 ((n.1:Int)+1)))=((n.1:Int)+1)*(unitN:Int):=by decide +kernel
theorem hq_divw {p:Nat×Nat} {x:Rat} (X:Hq p x) {n:Nat} (hn:n<13):Hq (divQ p (wholeQ ((n:Int)+1))) (x*(((n:Int)+1:Int):Rat)⁻¹):=by
 obtain⟨f,e,k,v⟩:=whole_words ⟨n,hn⟩
 have f':finB (floatOfInt .f64 ((n:Int)+1))=true:=f
 have e':wholeQ ((n:Int)+1)=(floatOfInt .f64 ((n:Int)+1),floatOfInt .f64 ((n:Int)+1)):=e
 have k':0<key (floatOfInt .f64 ((n:Int)+1)):=k
 have v':V (key (floatOfInt .f64 ((n:Int)+1)))=((n:Int)+1)*(unitN:Int):=v
 have:=hq_divp X (foi_lt _) f' k'
 rw [e']
 have q:vq (key (floatOfInt .f64 ((n:Int)+1)))=(((n:Int)+1:Int):Rat):=by
   unfold vq
   rw [v',Rat.intCast_mul]
   have i1:=iuQ_one
   grind
 rw [q] at this
 exact this
end Go.Proofs.YtgfppdboogldlaaGreat
