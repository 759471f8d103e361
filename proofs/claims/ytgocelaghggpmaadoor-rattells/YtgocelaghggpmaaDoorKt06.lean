/- Plain facts: the parts that the program rounds, of sums, products, quotients and roots, stand for the exact ones. Plain facts: quotients and roots, rounded down, are the exact ones' places. Plain facts: sums, products, quotients and roots, rounded to a side, rise with the exact ones; infinite ends too. -/
import Derived.Test.YtgocelaghggpmaaDoorKt04
import Derived.Test.YtgocelaghggpmaaDoorKt02
import Derived.Test.YtgocelaghggpmaaDoorKt03
import Derived.WalkKit
import Derived.Deep.CutBlock
import Derived.Deep.CutRange
import Derived.Deep.LoopGhost
namespace Go.Proofs.YtgocelaghggpmaaDoor
theorem mark_near (T D:Nat) (hD:0<D) {M:Nat} (hM:M=markN (T/D) (decide (T%D≠0))) :
   (T%D=0∧M*D=T)∨(T%D≠0∧M%2=1∧(M-1)*D<T∧T<(M+1)*D∧T/D≤M):=by
 have hm:=Nat.div_add_mod T D
 have hl:=Nat.mod_lt T hD
 rw [Nat.mul_comm] at hm
 by_cases h:T%D=0
 · left
   refine⟨h, ?_⟩
   rw [hM,h]
   show T/D*D=T
   omega
 · right
   have e:M=T/D/2*2+1:=by rw [hM];simp [h,markN]
   generalize T/D=q at *
   have h1:(M-1)*D≤q*D:=Nat.mul_le_mul_right D (by omega)
   have h2:(q+1)*D≤(M+1)*D:=Nat.mul_le_mul_right D (by omega)
   have h3:(q+1)*D=q*D+D:=Nat.succ_mul q D
   refine⟨h,by omega,by omega,by omega,by omega⟩
theorem near_of {C:Cut} {T D a b M:Nat} {E:Int} (hD:0<D) (hab:(b:Int)-a=E+1075) (hle:∀h,C.le h↔h*2^a*D≤T*2^b) (heq:∀h,C.eq h↔h*2^a*D=T*2^b)
   (hM:M=markN (T/D) (decide (T%D≠0))) (big:T%D≠0→36028797018963968≤T/D):Near M E C:=by
 refine⟨a,b,hab, ?_⟩
 rcases mark_near T D hD hM with ⟨-,e⟩ | ⟨hr,odd,lo,hi,le⟩
 · left
   intro h
   have e2:T*2^b=M*2^b*D:=by rw [←e,Nat.mul_right_comm]
   rw [hle h,heq h,e2]
   exact⟨Nat.mul_le_mul_right_iff hD,Nat.mul_left_inj (by omega)⟩
 · right
   refine⟨odd,by have:=big hr;omega,fun h=>?_⟩
   have p:=Nat.two_pow_pos b
   have l1:(M-1)*2^b*D<T*2^b:=by rw [Nat.mul_right_comm];exact Nat.mul_lt_mul_of_pos_right lo p
   have l2:T*2^b<(M+1)*2^b*D:=by rw [Nat.mul_right_comm];exact Nat.mul_lt_mul_of_pos_right hi p
   rw [hle h,heq h]
   constructor
   · intro c
     have:=Nat.mul_le_mul_right D c
     exact⟨by omega,by omega⟩
   · intro c
     have:=Nat.mul_le_mul_right D c
     exact⟨by omega,by omega⟩
theorem split_val {x:Nat} (hf:finB x=true):val (x%9223372036854775808)=splitM x*2^(splitE x+1074).toNat:=by
 have hr:x%9223372036854775808<9218868437227405312:=by simpa [finB] using hf
 have hm:x%4503599627370496=x%9223372036854775808%4503599627370496:=by omega
 unfold splitM splitE val
 rw [hm]
 generalize x%9223372036854775808=r at *
 by_cases h0:r=0
 · subst h0
   rw [if_pos (by omega),if_pos (by omega),Nat.zero_mul]
 · rw [if_neg h0]
   have e:(-1074+((r/4503599627370496-1:Nat):Int)+1074).toNat=r/4503599627370496-1:=by omega
   rw [e]
   by_cases h1:r<4503599627370496
   · have:r/4503599627370496-1=0:=by omega
     rw [if_pos h1,if_pos h1,this];simp
   · rw [if_neg h1,if_neg h1]
theorem key_val {x:Nat} (hx:x<18446744073709551616):V (key x)=if splitG x then -(val (x%9223372036854775808):Int) else (val (x%9223372036854775808):Int):=by
 unfold key splitG
 by_cases h:x<9223372036854775808
 · have h2:¬9223372036854775808<x:=by omega
   have h3:x%9223372036854775808=x:=by omega
   rw [if_pos h,h3,V_nat];simp [h2]
 · rw [if_neg h]
   have e:9223372036854775808-(x:Int)=-((x%9223372036854775808:Nat):Int):=by omega
   rw [e,V_negnat]
   by_cases h2:9223372036854775808<x
   · simp [h2]
   · have:x%9223372036854775808=0:=by omega
     rw [this,val_zero];simp [h2]
def exQ (N:Int) (D:Nat):Ex:=⟨fun h=>h*D≤N,fun h=>N≤h*D⟩
theorem exQ_ok (N:Int) {D:Nat} (hD:0<D):(exQ N D).Ok where
 down:=fun {h k} c d=>Int.le_trans (Int.mul_le_mul_of_nonneg_right c (by omega)) d
 total:=fun h=>Int.le_total _ _
 sep:=fun {h k} c d=>by
   have:k*(D:Int)≤h*D:=Int.le_trans d c
   exact Int.le_of_mul_le_mul_right this (by omega)
theorem amt_Q {N:Int} {D:Nat} {g:Bool} (hg:if g then N≤0 else 0≤N) (h:Nat):(((exQ N D).amt g).le h↔h*D≤N.natAbs)∧(((exQ N D).amt g).eq h↔h*D=N.natAbs):=by
 have e1:((h*D:Nat):Int)=(h:Int)*(D:Int):=by simp
 cases g
 · simp only [Bool.false_eq_true,if_false] at hg
   have l:((exQ N D).amt false).le h↔(h:Int)*D≤N:=Iff.rfl
   have q:((exQ N D).amt false).eq h↔((h:Int)*D≤N∧N≤(h:Int)*D):=Iff.rfl
   rw [l,q,←e1]
   omega
 · simp only [if_true] at hg
   have l:((exQ N D).amt true).le h↔N≤-(h:Int)*D:=Iff.rfl
   have q:((exQ N D).amt true).eq h↔(-(h:Int)*D≤N∧N≤-(h:Int)*D):=Iff.rfl
   rw [l,q,Int.neg_mul,←e1]
   omega
theorem signed_val {x:Nat} (hx:x<18446744073709551616) (hf:finB x=true):V (key x)=if splitG x then -((splitM x*2^(splitE x+1074).toNat:Nat):Int) else ((splitM x*2^(splitE x+1074).toNat:Nat):Int):=by
 rw [key_val hx,split_val hf]
end Go.Proofs.YtgocelaghggpmaaDoor
namespace Go.Proofs.YtgocelaghggpmaaDoor
end Go.Proofs.YtgocelaghggpmaaDoor
namespace Go.Proofs.YtgocelaghggpmaaDoor
end Go.Proofs.YtgocelaghggpmaaDoor
