/- The walks of the reference's small functions on intervals: what may be, what holds nothing. The walks of the reference's Right, None, Make, Has, Inside, Strict, Same: they answer as the program's. The walks of the reference's Same, Has, Inside and Strict: they answer as the program's. The walks of counted, Hull and Meet. The walks of Meet, of the laws' hull, and of Add and Mul with an interval that holds nothing. Plain facts: hulls hold both, meets lie in both and hold just what both hold. What is taken off itself holds nought, what is divided by itself one; negatives twice; the least amount is not above the greatest. A region that draws its order, whose callees make memory of their own but change none: one walk, in the text's order, over all worlds that are as the first one was below its end. The walk of the statement IvalLattice: its two variables. IvalLattice: for every two intervals and every float64 the statement's answer is true. The reference's Add and Sub: the exact sum, rounded; the walk of the statement UlpSums. -/
import Derived.Lib.Strings
import Derived.Lib.Slices
import Derived.Lib.Small
import Derived.Lib.Walk
import Derived.Lib.BitFns
import Derived.KernelRfl
import Derived.WalkKit
import Derived.Laws.Cover2
import Derived.Laws.FloatArith
import Derived.Laws.BitsAllLaws
import Derived.ProofKit
import Derived.OpenShut
import Derived.WalkSpells
import Derived.WalkLawsBesides
import Derived.Laws.Externs
import Derived.Laws.Bits64b
import Derived.Handy
import Derived.Deep.RegionWith
import Derived.Deep.QuietTactic
import Derived.BigQuiet
import Derived.Deep.RegionHeld3
import Derived.Deep.CutRange
import Derived.Deep.CutBlock
import Derived.Deep.LoopGhost
import Derived.WalkSmall
import Derived.ChangeSame
import Derived.JoinedOf
import Derived.JoinedAt
import Derived.RowKit3
import Derived.Deep.Slices
import Derived.WideKeyArgs
import Derived.Deep.Quiet
import Derived.StillTail
import Derived.Deep.SlicePairs
import Derived.Deep.AppendLies
import Derived.Deep.RegionLaw
import Derived.Lib.SliceRun
import Derived.Test.YtnnfafilgiajoaaGreatZ01
import Derived.Test.YtnnfafilgiajoaaGreatZ02
import Derived.Test.YtnnfafilgiajoaaGreatZ03
import Derived.Test.YtnnfafilgiajoaaGreatZ04
import Derived.Test.YtnnfafilgiajoaaGreatZ05
import Derived.Test.YtnnfafilgiajoaaGreatZ06
import Derived.Test.YtnnfafilgiajoaaGreatZ07
import Derived.Test.YtnnfafilgiajoaaGreatZ08
import Derived.Test.YtnnfafilgiajoaaGreatZ09
import Derived.Test.YtnnfafilgiajoaaGreatZ10
import Derived.Test.YtnnfafilgiajoaaGreatZ11
import Derived.Test.YtnnfafilgiajoaaGreatZ12
import Derived.Test.YtnnfafilgiajoaaGreatZ13
import Derived.Test.YtnnfafilgiajoaaGreatZ14
import Derived.Test.YtnnfafilgiajoaaGreatZ15
import Derived.Test.YtnnfafilgiajoaaGreatZ16
import Derived.Test.YtnnfafilgiajoaaGreatZ17
import Derived.Test.YtnnfafilgiajoaaGreatZ18
import Derived.Test.YtnnfafilgiajoaaGreatZ19
import Derived.Test.YtnnfafilgiajoaaGreatZ20
import Derived.Test.YtnnfafilgiajoaaGreatZ21
import Derived.Test.YtnnfafilgiajoaaGreatZ22
import Derived.Test.YtnnfafilgiajoaaGreatZ23
import Derived.Test.YtnnfafilgiajoaaGreatZ24
import Derived.Test.YtnnfafilgiajoaaGreatZ25
import Derived.Test.YtnnfafilgiajoaaGreatZ26
import Derived.Test.YtnnfafilgiajoaaGreatZ27
import Derived.Test.YtnnfafilgiajoaaGreatZ28
import Derived.Test.YtnnfafilgiajoaaGreatZ29
import Derived.Test.YtnnfafilgiajoaaGreatZ30
import Derived.Test.YtnnfafilgiajoaaGreatZ31
import Derived.Test.YtnnfafilgiajoaaGreatZ32
import Derived.Test.YtnnfafilgiajoaaGreatZ33
import Derived.Test.YtnnfafilgiajoaaGreatZ34
import Derived.Test.YtnnfafilgiajoaaGreatZ35
import Derived.Test.YtnnfafilgiajoaaGreatZ36
import Derived.Test.YtnnfafilgiajoaaGreatZ37
import Derived.Test.YtnnfafilgiajoaaGreatZ38
import Derived.Test.YtnnfafilgiajoaaGreatZ39
import Derived.Test.YtnnfafilgiajoaaGreatZ40
import Derived.Test.YtnnfafilgiajoaaGreatZ41
import Derived.Test.YtnnfafilgiajoaaGreatZ42
import Derived.Test.YtnnfafilgiajoaaGreatZ43
import Derived.Test.YtnnfafilgiajoaaGreatZ44
import Derived.Test.YtnnfafilgiajoaaGreatZ45
import Derived.Test.YtnnfafilgiajoaaGreatZ46
import Derived.Test.YtnnfafilgiajoaaGreatZ47
import Derived.Test.YtnnfafilgiajoaaGreatZ48
import Derived.Test.YtnnfafilgiajoaaGreatZ49
namespace Go.Proofs.YtnnfafilgiajoaaGreat
open Go.ChangeShapes Go.WideShapes Go.ChangeAt Go.RowKit
theorem rsame_w (a b c d:Nat) (ha:a<18446744073709551616) (hb:b<18446744073709551616) (hc:c<18446744073709551616) (hd:d<18446744073709551616) (w:World) :
   Calls Tryz.prog 32 #[.agg #[.float .f64 a,.float .f64 b],.agg #[.float .f64 c,.float .f64 d]] w fun e w'=>e=.returned (.bool (sameB a c&&sameB b d))∧Below w.heap.size w w':=by
 have s1:=fun w=>same_w a c ha hc w
 have s2:=fun w=>same_w b d hb hd w
 generalize sameB a c=b1 at *
 generalize sameB b d=b2 at *
 cases b1
 all_goals
   go_enter Tryz.func32,Tryz.ntmps32
   go_wp2_with (first
     | (go_at_call_of 55 (Value.float .f64 a);refine (s1 _).mono ?_;rintro _ _ ⟨rfl,rfl⟩)
     | (go_at_call_of 55 (Value.float .f64 b);refine (s2 _).mono ?_;rintro _ _ ⟨rfl,rfl⟩))
   go_ret
   exact⟨rfl,by go_grown⟩
instance (w0:World):Nonempty (Behind w0):=⟨⟨w0,Below.refl _ _⟩⟩
theorem log2_mul_pow {m k:Nat} (h:m≠0):(m*2^k).log2=m.log2+k:=by
 have hp:=Nat.two_pow_pos k
 have h0:m*2^k≠0:=by
   intro c
   rcases Nat.mul_eq_zero.1 c with c | c
   · exact h c
   · omega
 have a:=Nat.log2_self_le h
 have b:=@Nat.lt_log2_self m
 have l1:m.log2+k≤(m*2^k).log2:=by
   rw [Nat.le_log2 h0,Nat.pow_add]
   exact Nat.mul_le_mul_right _ a
 have l2:(m*2^k).log2<m.log2+1+k:=by
   rw [Nat.log2_lt h0,Nat.pow_add]
   exact Nat.mul_lt_mul_of_pos_right b hp
 omega
theorem cut_pow (neg:Bool) (m k:Nat) (h:m≠0):Ieee.Toward.even.cut neg (m*2^k) k=m:=by
 unfold Ieee.Toward.cut
 have hl:=log2_mul_pow (k:=k) h
 have hp:=Nat.two_pow_pos k
 have e:min k ((m*2^k).log2+2)=k:=by omega
 simp only [e,Nat.one_shiftLeft]
 have e1:m*2^k/2^k=m:=Nat.mul_div_cancel _ hp
 have e2:m*2^k%2^k=0:=Nat.mul_mod_left _ _
 rw [e1,e2]
 have e3:(2^k<2*0 || (2^k==2*0&&m%2==1))=false:=by
   simp
 rw [e3]
 rfl
theorem nearest_parts {m k:Nat} (h:m≠0) (hm:m<9007199254740992) (hk:k≤2045) (hn:k=0∨4503599627370496≤m) (neg:Bool) :
   Ieee.double.nearest neg (m*2^k) (-1074)=if neg then 9223372036854775808+(k*4503599627370496+m) else k*4503599627370496+m:=by
 have hp:=Nat.two_pow_pos k
 have h0:m*2^k≠0:=by
   intro c
   rcases Nat.mul_eq_zero.1 c with c | c
   · exact h c
   · omega
 have hb:Ieee.double.binade=4503599627370496:=by decide
 have hi:Ieee.double.infRung=9218868437227405312:=by decide
 have hpl:Ieee.double.leastPlace=-1074:=by decide
 have hf:Ieee.double.fractionBits=52:=rfl
 have hs:Ieee.double.signWeight=9223372036854775808:=by decide
 have hl:=log2_mul_pow (k:=k) h
 have ll:m.log2<53:=(Nat.log2_lt h).2 hm
 have lk:k=0∨m.log2=52:=by
   rcases hn with c | c
   · exact Or.inl c
   · right
     have:=(Nat.le_log2 h).2 (show 2^52≤m from c)
     omega
 unfold Ieee.Format.nearest
 rw [if_neg h0]
 simp only [hb,hi,hpl,hf,hl]
 have l1:max ((-1074:Int)+((m.log2+k:Nat):Int)-((52:Nat):Int)) (-1074)=-1074+(k:Int):=by omega
 rw [l1]
 have l2:((-1074:Int)-(-1074+(k:Int))).toNat=0:=by omega
 have l3:((-1074:Int)+(k:Int) - -1074).toNat=k:=by omega
 rw [l2,l3,Nat.shiftLeft_zero,cut_pow neg m k h,Nat.min_eq_left (by omega)]
 unfold Ieee.Format.word
 rw [hs]
theorem read_zero:Ieee.double.read 0=.number false 0 (-1074):=by decide
theorem sub_bits_fin {b:Nat} (hb:b<18446744073709551616) (fb:finB b=true):floatBits .sub .f64 0 b=some (zminus b):=by
 show ((Ieee.double.read 0).sum (Ieee.double.read b).opposite).map Ieee.double.write=_
 have hr:b%9223372036854775808<9218868437227405312:=by simpa [finB] using fb
 have em:b%4503599627370496=b%9223372036854775808%4503599627370496:=by omega
 rw [read_zero,read_eq b hb,if_pos hr,em]
 unfold zminus isZ
 have hneg:negB b=if b<9223372036854775808 then 9223372036854775808+b%9223372036854775808 else b%9223372036854775808:=by unfold negB;split <;> omega
 have hs:(!decide (9223372036854775808≤b))=decide (b<9223372036854775808):=by
   by_cases h:b<9223372036854775808
   · simp [h]
   · simp [h]
     omega
 have hsp:∃m k:Nat,(if b%9223372036854775808<4503599627370496 then b%9223372036854775808 else 4503599627370496+b%9223372036854775808%4503599627370496)=m∧b%9223372036854775808/4503599627370496-1=k∧(m=0↔b%9223372036854775808=0)∧m<9007199254740992∧k≤2045∧(k=0∨4503599627370496≤m)∧k*4503599627370496+m=b%9223372036854775808:=by
   refine⟨_,_,rfl,rfl, ?_⟩
   split <;> omega
 obtain⟨m,k,h1,h2,h3,h4,h5,h6,h7⟩:=hsp
 rw [h1,h2]
 simp only [Ieee.Datum.opposite,Ieee.Datum.sum,hs,Option.map]
 have hbase:min (-1074:Int) (-1074+(k:Int))=-1074:=by omega
 rw [hbase]
 have hk:((-1074:Int)+(k:Int) - -1074).toNat=k:=by omega
 have h0:Ieee.signed false 0 ((-1074:Int) - -1074).toNat=0:=by decide
 rw [hk,h0,Int.zero_add]
 have hab:(Ieee.signed (decide (b<9223372036854775808)) m k).natAbs=m*2^k:=by
   unfold Ieee.signed
   rw [Nat.shiftLeft_eq]
   generalize m*2^k=M
   split <;> omega
 have hp:=Nat.two_pow_pos k
 rw [hab]
 by_cases hz:b%9223372036854775808=0
 · have m0:=h3.2 hz
   subst m0
   have e0:Ieee.signed (decide (b<9223372036854775808)) 0 k=0:=by unfold Ieee.signed;simp
   rw [e0,Nat.zero_mul]
   simp only [hz,decide_true,if_true,Bool.false_and]
   rfl
 · have m0:m≠0:=fun c=>hz (h3.1 c)
   have mp:0<m*2^k:=Nat.mul_pos (by omega) hp
   have et:Ieee.signed (decide (b<9223372036854775808)) m k≠0:=by
     intro c;rw [c] at hab;simp at hab;omega
   have es:decide (Ieee.signed (decide (b<9223372036854775808)) m k<0)=decide (b<9223372036854775808):=by
     unfold Ieee.signed
     rw [Nat.shiftLeft_eq]
     generalize m*2^k=M at *
     by_cases h:b<9223372036854775808
     · simp [h];omega
     · simp [h]
   rw [if_neg et,es]
   show some (Ieee.double.nearest _ (m*2^k) (-1074))=_
   rw [nearest_parts m0 h4 h5 h6,h7,hneg]
   simp only [hz,decide_false,Bool.false_eq_true,if_false,decide_eq_true_eq]
theorem sub_bits_inf {b:Nat} (hb:b<18446744073709551616) (nb:nanB b=false) (fb:finB b=false):floatBits .sub .f64 0 b=some (zminus b):=by
 show ((Ieee.double.read 0).sum (Ieee.double.read b).opposite).map Ieee.double.write=_
 rw [read_zero,read_inf hb nb fb]
 have eb:=inf_word hb nb fb
 have hz:isZ b=false:=by unfold finB at fb;unfold isZ;simp at fb ⊢;omega
 unfold zminus
 rw [hz]
 simp only [Ieee.Datum.opposite,Ieee.Datum.sum,Option.map,Bool.false_eq_true,if_false]
 show some (Ieee.double.write (.infinity _))=_
 rw [write_inf]
 generalize decide (9223372036854775808≤b)=s at *
 cases s
 · simp only [Bool.false_eq_true,if_false] at eb
   subst eb
   rfl
 · simp only [if_true] at eb
   subst eb
   rfl
end Go.Proofs.YtnnfafilgiajoaaGreat
