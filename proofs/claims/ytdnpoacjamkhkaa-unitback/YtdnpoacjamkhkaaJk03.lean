/- The least interval of a quotient holds it, and lies in every interval that does. -/
import Derived.Lib.Strings
import Derived.Lib.Slices
import Derived.Lib.Small
import Derived.Lib.Walk
import Derived.Lib.BitFns
import Derived.KernelRfl
import Derived.WalkKit
import Derived.Laws.Cover2
import Derived.Laws.FloatArith
import Derived.Laws.BitsAllLaws
import Derived.ProofKit
import Derived.OpenShut
import Derived.WalkSpells
import Derived.WalkLawsBesides
import Derived.Laws.Externs
import Derived.Laws.Bits64b
import Derived.Handy
import Derived.Deep.RegionWith
import Derived.Deep.QuietTactic
import Derived.BigQuiet
import Derived.Deep.RegionHeld3
import Derived.Deep.CutRange
import Derived.Deep.CutBlock
import Derived.Deep.LoopGhost
import Derived.WalkSmall
import Derived.Deep.Quiet
import Derived.StillTail
import Derived.Defers
import Derived.Recover
import Derived.Laws.Pointers
import Derived.Laws.StructEq
import Derived.ChangeSame
import Derived.JoinedOf
import Derived.JoinedAt
import Derived.RowKit3
import Derived.Test.YtdnpoacjamkhkaaJt01
import Derived.Test.YtdnpoacjamkhkaaJt02
import Derived.Test.YtdnpoacjamkhkaaJt03
import Derived.Test.YtdnpoacjamkhkaaJt04
import Derived.Test.YtdnpoacjamkhkaaJt05
import Derived.Test.YtdnpoacjamkhkaaJt06
import Derived.Test.YtdnpoacjamkhkaaJt07
import Derived.Test.YtdnpoacjamkhkaaJt08
import Derived.Test.YtdnpoacjamkhkaaJt09
import Derived.Test.YtdnpoacjamkhkaaJt10
import Derived.Test.YtdnpoacjamkhkaaJt11
import Derived.Test.YtdnpoacjamkhkaaJt12
import Derived.Test.YtdnpoacjamkhkaaJt13
import Derived.Test.YtdnpoacjamkhkaaJt14
import Derived.Test.YtdnpoacjamkhkaaJt15
import Derived.Test.YtdnpoacjamkhkaaJt16
import Derived.Test.YtdnpoacjamkhkaaJt17
import Derived.Test.YtdnpoacjamkhkaaJt18
import Derived.Test.YtdnpoacjamkhkaaJt19
import Derived.Test.YtdnpoacjamkhkaaJt20
import Derived.Test.YtdnpoacjamkhkaaJt21
import Derived.Test.YtdnpoacjamkhkaaJt22
import Derived.Test.YtdnpoacjamkhkaaJt23
import Derived.Test.YtdnpoacjamkhkaaJt24
import Derived.Test.YtdnpoacjamkhkaaJt25
import Derived.Test.YtdnpoacjamkhkaaJt26
import Derived.Test.YtdnpoacjamkhkaaJt27
import Derived.Test.YtdnpoacjamkhkaaJt28
import Derived.Test.YtdnpoacjamkhkaaJt29
import Derived.Test.YtdnpoacjamkhkaaJt30
import Derived.Test.YtdnpoacjamkhkaaJt31
import Derived.Test.YtdnpoacjamkhkaaJt32
import Derived.Test.YtdnpoacjamkhkaaJt33
import Derived.Test.YtdnpoacjamkhkaaJt34
import Derived.Test.YtdnpoacjamkhkaaJt35
import Derived.Test.YtdnpoacjamkhkaaJt36
import Derived.Test.YtdnpoacjamkhkaaJt37
import Derived.Test.YtdnpoacjamkhkaaJt38
import Derived.Test.YtdnpoacjamkhkaaJt39
import Derived.Test.YtdnpoacjamkhkaaJk02
namespace Go.Proofs.Ytdnpoacjamkhkaa
open Go.ChangeShapes Go.WideShapes Go.ChangeAt Go.RowKit
def qR (N D:Int):Rat:=(N:Rat)*(D:Rat)⁻¹
theorem qR_inv {D:Int} (h:1≤D):0<((D:Rat)⁻¹)∧(D:Rat)*(D:Rat)⁻¹=1:=by
 have p:(0:Rat)<(D:Rat):=Rat.intCast_pos.2 (by omega)
 exact⟨Rat.inv_pos.2 p,Rat.mul_inv_cancel _ (by grind)⟩
theorem qR_neg (N D:Int):-qR N D=qR (-N) D:=by
 unfold qR
 rw [Rat.intCast_neg]
 grind
theorem qR_add {aN aD bN bD xN xD:Int} (ha:1≤aD) (hb:1≤bD) (hx:1≤xD) (h:xN*(aD*bD)=(aN*bD+bN*aD)*xD):qR xN xD=qR aN aD+qR bN bD:=by
 obtain⟨a1,a2⟩:=qR_inv ha
 obtain⟨b1,b2⟩:=qR_inv hb
 obtain⟨x1,x2⟩:=qR_inv hx
 have h':(xN:Rat)*((aD:Rat)*(bD:Rat))=((aN:Rat)*(bD:Rat)+(bN:Rat)*(aD:Rat))*(xD:Rat):=by
   have:=congrArg (fun z:Int=>(z:Rat)) h
   simp only [Rat.intCast_mul,Rat.intCast_add] at this
   exact this
 unfold qR
 generalize (aD:Rat)⁻¹=s at *
 generalize (bD:Rat)⁻¹=t at *
 generalize (xD:Rat)⁻¹=r at *
 grind
theorem qR_mul {aN aD bN bD xN xD:Int} (ha:1≤aD) (hb:1≤bD) (hx:1≤xD) (h:xN*(aD*bD)=(aN*bN)*xD):qR xN xD=qR aN aD*qR bN bD:=by
 obtain⟨a1,a2⟩:=qR_inv ha
 obtain⟨b1,b2⟩:=qR_inv hb
 obtain⟨x1,x2⟩:=qR_inv hx
 have h':(xN:Rat)*((aD:Rat)*(bD:Rat))=((aN:Rat)*(bN:Rat))*(xD:Rat):=by
   have:=congrArg (fun z:Int=>(z:Rat)) h
   simp only [Rat.intCast_mul] at this
   exact this
 unfold qR
 generalize (aD:Rat)⁻¹=s at *
 generalize (bD:Rat)⁻¹=t at *
 generalize (xD:Rat)⁻¹=r at *
 grind
end Go.Proofs.Ytdnpoacjamkhkaa
