/- Quotients of whole numbers in their form: what is told is the quotient, and the only one; sums and products are undone; the order. -/
import Derived.Test.YtdnpoacjamkhkaaJt26
import Derived.Test.YtdnpoacjamkhkaaJt24
import Derived.Test.YtdnpoacjamkhkaaJt23
namespace Go.Proofs.Ytdnpoacjamkhkaa
open Go.ChangeShapes Go.WideShapes Go.ChangeAt Go.RowKit
theorem rightR_G {N D:Int} (h:rightR N D=true):Nat.gcd N.natAbs D.natAbs=1:=by
 unfold rightR at h
 simp only [Bool.and_eq_true,decide_eq_true_eq] at h
 exact h.2.2
theorem ofV_ok {g:Bool} {n d:Nat} {N D:Int} (hd:d≠0) (h:ofV g n d=(N,D,0)):rightR N D=true∧N*(d:Int)=sgnd g n*D∧(I64 N∧I64 D):=by
 unfold ofV at h
 by_cases c:n=0
 · rw [if_pos c] at h
   obtain⟨rfl,rfl⟩:(0:Int)=N∧(1:Int)=D:=by
     injection h with h1 h2
     injection h2 with h3 h4
     exact⟨h1,h3⟩
   refine⟨by decide, ?_,⟨by decide,by decide⟩,⟨by decide,by decide⟩⟩
   rw [c]
   unfold sgnd
   split <;> simp
 · rw [if_neg c] at h
   have g0:0<Nat.gcd n d:=Nat.gcd_pos_of_pos_right _ (by omega)
   have cop:Nat.gcd (n/Nat.gcd n d) (d/Nat.gcd n d)=1:=Nat.coprime_div_gcd_div_gcd g0
   have e1:n/Nat.gcd n d*Nat.gcd n d=n:=Nat.div_mul_cancel (Nat.gcd_dvd_left _ _)
   have e2:d/Nat.gcd n d*Nat.gcd n d=d:=Nat.div_mul_cancel (Nat.gcd_dvd_right _ _)
   generalize Nat.gcd n d=G at *
   generalize n/G=x at *
   generalize d/G=y at *
   by_cases b:bitsN x≤63∧bitsN y≤63
   · rw [if_pos b] at h
     have hx:=bitsN_lt b.1
     have hy:=bitsN_lt b.2
     obtain⟨rfl,rfl⟩:sgnd g x=N∧(y:Int)=D:=by
       injection h with h1 h2
       injection h2 with h3 h4
       exact⟨h1,h3⟩
     have hy0:y≠0:=by rintro rfl;rw [Nat.zero_mul] at e2;omega
     have ha:(sgnd g x).natAbs=x:=by unfold sgnd;split <;> omega
     refine⟨?_, ?_,⟨?_, ?_⟩,⟨by omega,by omega⟩⟩
     · unfold rightR
       rw [ha,show ((y:Int)).natAbs=y by omega,decide_eq_true cop,decide_eq_true (show 1≤(y:Int) by omega),decide_eq_true]
       · rfl
       · intro q
         rw [q] at ha
         omega
     · rw [←e1,←e2]
       unfold sgnd
       split <;> simp only [Int.natCast_mul,Int.neg_mul] <;> grind
     · unfold sgnd;split <;> omega
     · unfold sgnd;split <;> omega
   · rw [if_neg b] at h
     injection h with h1 h2
     injection h2 with h3 h4
     omega
theorem sgn_abs (z:Int):sgnd (decide (z<0)) z.natAbs=z:=by
 unfold sgnd
 by_cases c:z<0
 · rw [decide_eq_true c,if_pos rfl];omega
 · rw [decide_eq_false c,if_neg (by simp)];omega
theorem zmul_sign {a b:Int}:(a*b)≠0→(!(decide (a<0)==decide (b<0)))=decide (a*b<0):=fun h=>by
 have ha:a≠0:=fun z=>h (by rw [z,Int.zero_mul])
 have hb:b≠0:=fun z=>h (by rw [z,Int.mul_zero])
 rcases Int.lt_or_gt_of_ne ha with x | x <;> rcases Int.lt_or_gt_of_ne hb with y | y
 · rw [decide_eq_true x,decide_eq_true y,decide_eq_false (by have:=Int.mul_pos_of_neg_of_neg x y;omega)];rfl
 · rw [decide_eq_true x,decide_eq_false (by omega),decide_eq_true (Int.mul_neg_of_neg_of_pos x y)];rfl
 · rw [decide_eq_false (by omega),decide_eq_true y,decide_eq_true (Int.mul_neg_of_pos_of_neg x y)];rfl
 · rw [decide_eq_false (by omega),decide_eq_false (by omega),decide_eq_false (by have:=Int.mul_pos x y;omega)];rfl
theorem mulV11_is {aN aD bN bD:Int} (ha:rightR aN aD=true) (hb:rightR bN bD=true):mulV11 aN aD bN bD=ofV (decide (aN*bN<0)) (aN*bN).natAbs (aD*bD).natAbs:=by
 unfold mulV11
 rw [ha,hb,Bool.and_self,if_pos rfl,Int.natAbs_mul aD bD]
 exact ofV_sign (by rw [Int.natAbs_mul]) zmul_sign
theorem mulV11_ok {aN aD bN bD xN xD:Int} (ha:rightR aN aD=true) (hb:rightR bN bD=true) (h:mulV11 aN aD bN bD=(xN,xD,0)):rightR xN xD=true∧xN*(aD*bD)=(aN*bN)*xD∧(I64 xN∧I64 xD):=by
 rw [mulV11_is ha hb] at h
 have p1:=rightR_D ha
 have p2:=rightR_D hb
 have p3:=Int.mul_pos (show 0<aD by omega) (show 0<bD by omega)
 obtain⟨h1,h2,h3⟩:=ofV_ok (by omega) h
 rw [sgn_abs,show (((aD*bD).natAbs:Nat):Int)=aD*bD by omega] at h2
 exact⟨h1,h2,h3⟩
end Go.Proofs.Ytdnpoacjamkhkaa
