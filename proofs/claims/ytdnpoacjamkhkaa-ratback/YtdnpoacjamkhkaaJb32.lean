/- Middles and widths: the program's and the reference's are the same; IvalSizes' walk. The greater the intervals are, the greater are sums and products: plain facts, end by end. -/
import Derived.Test.YtdnpoacjamkhkaaJb31
namespace Go.Proofs.Ytdnpoacjamkhkaa
open Go.ChangeShapes Go.WideShapes Go.ChangeAt Go.RowKit
theorem addR_bot {a b r:Nat} {d:Int} (ha:a<18446744073709551616) (na:nanB a=false) (k:key a=-9218868437227405312) (h:addR a b d=some r):r=a:=by
 have fa:=(key_inf ha na).2 (Or.inr k)
 unfold addR at h
 rw [fa] at h
 split at h
 · cases h
 · simp only [Bool.false_and,Bool.false_eq_true,if_false] at h
   split at h
   · cases h
   · exact (Option.some.inj h).symm
theorem addR_bot2 {a b r:Nat} {d:Int} (ha:a<18446744073709551616) (hb:b<18446744073709551616) (na:nanB a=false) (nb:nanB b=false) (k:key b=-9218868437227405312) (h:addR a b d=some r):key r=-9218868437227405312:=by
 have fb:=(key_inf hb nb).2 (Or.inr k)
 have zb:isZ b=false:=isZ_pos hb (by omega)
 have sb:=sign_key hb zb
 unfold addR at h
 rw [fb,na,nb] at h
 simp only [Bool.or_self,Bool.and_false,Bool.false_eq_true,if_false,Bool.not_false,Bool.and_true] at h
 cases fa:finB a
 · rw [fa] at h
   have za:isZ a=false:=by
     cases z:isZ a
     · rfl
     · have:=(key_zero ha).1 z
       rcases (key_inf ha na).1 fa with c | c <;> omega
   have sa:=sign_key ha za
   simp only [Bool.not_false,Bool.true_and,Bool.false_eq_true,if_false] at h
   split at h
   · cases h
   · rename_i hc
     have e:=(Option.some.inj h).symm
     rw [e]
     rcases (key_inf ha na).1 fa with c | c
     · rw [sa,sb,decide_eq_false (by omega),decide_eq_true (by omega)] at hc
       exact absurd rfl hc
     · exact c
 · rw [fa] at h
   simp only [Bool.not_true,Bool.false_and,Bool.false_eq_true,if_false,if_true] at h
   rw [←Option.some.inj h]
   exact k
theorem mul_keys {xl xh yl yh:Nat} (h1:xl<18446744073709551616) (h2:xh<18446744073709551616) (h3:yl<18446744073709551616) (h4:yh<18446744073709551616) (S:Some2 xl xh) (T:Some2 yl yh) :
   Some2 (mulP xl xh yl yh).1 (mulP xl xh yl yh).2∧key (mulP xl xh yl yh).1=lowK xl xh yl yh∧key (mulP xl xh yl yh).2=topK xl xh yl yh:=by
 obtain⟨a,X⟩:=held_some h1 h2 S
 obtain⟨b,Y⟩:=held_some h3 h4 T
 obtain⟨m1,m2, -,Z,l1,l2,k1,k2⟩:=mul_ends X Y
 have e:mulP xl xh yl yh=(m1,m2):=by unfold mulP;rw [hs_iff.2 S,hs_iff.2 T,←rmul_is S.nl S.nh T.nl T.nh Z k1 k2];rfl
 rw [e]
 exact⟨Z,k1,k2⟩
end Go.Proofs.Ytdnpoacjamkhkaa
