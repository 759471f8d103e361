/- The walks of counted, Hull and Meet. The walks of Meet, of the laws' hull, and of Add and Mul with an interval that holds nothing. Plain facts: hulls hold both, meets lie in both and hold just what both hold. What is taken off itself holds nought, what is divided by itself one; negatives twice; the least amount is not above the greatest. A region that draws its order, whose callees make memory of their own but change none: one walk, in the text's order, over all worlds that are as the first one was below its end. The walk of the statement IvalLattice: its two variables. IvalLattice: for every two intervals and every float64 the statement's answer is true. The reference's Add and Sub: the exact sum, rounded; the walk of the statement UlpSums. Sin and Cos as functions of words. -/
import Derived.Lib.Strings
import Derived.Lib.Slices
import Derived.Lib.Small
import Derived.Lib.Walk
import Derived.Lib.BitFns
import Derived.KernelRfl
import Derived.WalkKit
import Derived.Laws.Cover2
import Derived.Laws.FloatArith
import Derived.Laws.BitsAllLaws
import Derived.ProofKit
import Derived.OpenShut
import Derived.WalkSpells
import Derived.WalkLawsBesides
import Derived.Laws.Externs
import Derived.Laws.Bits64b
import Derived.Handy
import Derived.Deep.RegionWith
import Derived.Deep.QuietTactic
import Derived.BigQuiet
import Derived.Deep.RegionHeld3
import Derived.Deep.CutRange
import Derived.Deep.CutBlock
import Derived.Deep.LoopGhost
import Derived.WalkSmall
import Derived.ChangeSame
import Derived.JoinedOf
import Derived.JoinedAt
import Derived.RowKit3
import Derived.Deep.Slices
import Derived.WideKeyArgs
import Derived.Deep.Quiet
import Derived.StillTail
import Derived.Deep.SlicePairs
import Derived.Deep.AppendLies
import Derived.Deep.RegionLaw
import Derived.Lib.SliceRun
import Derived.Test.YtnnfafilgiajoaaGreatZ01
import Derived.Test.YtnnfafilgiajoaaGreatZ02
import Derived.Test.YtnnfafilgiajoaaGreatZ03
import Derived.Test.YtnnfafilgiajoaaGreatZ04
import Derived.Test.YtnnfafilgiajoaaGreatZ05
import Derived.Test.YtnnfafilgiajoaaGreatZ06
import Derived.Test.YtnnfafilgiajoaaGreatZ07
import Derived.Test.YtnnfafilgiajoaaGreatZ08
import Derived.Test.YtnnfafilgiajoaaGreatZ09
import Derived.Test.YtnnfafilgiajoaaGreatZ10
import Derived.Test.YtnnfafilgiajoaaGreatZ11
import Derived.Test.YtnnfafilgiajoaaGreatZ12
import Derived.Test.YtnnfafilgiajoaaGreatZ13
import Derived.Test.YtnnfafilgiajoaaGreatZ14
import Derived.Test.YtnnfafilgiajoaaGreatZ15
import Derived.Test.YtnnfafilgiajoaaGreatZ16
import Derived.Test.YtnnfafilgiajoaaGreatZ17
import Derived.Test.YtnnfafilgiajoaaGreatZ18
import Derived.Test.YtnnfafilgiajoaaGreatZ19
import Derived.Test.YtnnfafilgiajoaaGreatZ20
import Derived.Test.YtnnfafilgiajoaaGreatZ21
import Derived.Test.YtnnfafilgiajoaaGreatZ22
import Derived.Test.YtnnfafilgiajoaaGreatZ23
import Derived.Test.YtnnfafilgiajoaaGreatZ24
import Derived.Test.YtnnfafilgiajoaaGreatZ25
import Derived.Test.YtnnfafilgiajoaaGreatZ26
import Derived.Test.YtnnfafilgiajoaaGreatZ27
import Derived.Test.YtnnfafilgiajoaaGreatZ28
import Derived.Test.YtnnfafilgiajoaaGreatZ29
import Derived.Test.YtnnfafilgiajoaaGreatZ30
import Derived.Test.YtnnfafilgiajoaaGreatZ31
import Derived.Test.YtnnfafilgiajoaaGreatZ32
import Derived.Test.YtnnfafilgiajoaaGreatZ33
import Derived.Test.YtnnfafilgiajoaaGreatZ34
import Derived.Test.YtnnfafilgiajoaaGreatZ35
import Derived.Test.YtnnfafilgiajoaaGreatZ36
import Derived.Test.YtnnfafilgiajoaaGreatZ37
import Derived.Test.YtnnfafilgiajoaaGreatZ38
import Derived.Test.YtnnfafilgiajoaaGreatZ39
import Derived.Test.YtnnfafilgiajoaaGreatZ40
import Derived.Test.YtnnfafilgiajoaaGreatZ41
import Derived.Test.YtnnfafilgiajoaaGreatZ42
import Derived.Test.YtnnfafilgiajoaaGreatZ43
import Derived.Test.YtnnfafilgiajoaaGreatZ44
import Derived.Test.YtnnfafilgiajoaaGreatZ45
import Derived.Test.YtnnfafilgiajoaaGreatZ46
import Derived.Test.YtnnfafilgiajoaaGreatZ47
import Derived.Test.YtnnfafilgiajoaaGreatZ48
import Derived.Test.YtnnfafilgiajoaaGreatZ49
namespace Go.Proofs.YtnnfafilgiajoaaGreat
open Go.ChangeShapes Go.WideShapes Go.ChangeAt Go.RowKit
instance (w0:World):Nonempty (Behind w0):=⟨⟨w0,Below.refl _ _⟩⟩
theorem log2_mul_pow {m k:Nat} (h:m≠0):(m*2^k).log2=m.log2+k:=by
 have hp:=Nat.two_pow_pos k
 have h0:m*2^k≠0:=by
   intro c
   rcases Nat.mul_eq_zero.1 c with c | c
   · exact h c
   · omega
 have a:=Nat.log2_self_le h
 have b:=@Nat.lt_log2_self m
 have l1:m.log2+k≤(m*2^k).log2:=by
   rw [Nat.le_log2 h0,Nat.pow_add]
   exact Nat.mul_le_mul_right _ a
 have l2:(m*2^k).log2<m.log2+1+k:=by
   rw [Nat.log2_lt h0,Nat.pow_add]
   exact Nat.mul_lt_mul_of_pos_right b hp
 omega
instance (p:Nat×Nat):Decidable (W2 p):=inferInstanceAs (Decidable (_∧_))
end Go.Proofs.YtnnfafilgiajoaaGreat
