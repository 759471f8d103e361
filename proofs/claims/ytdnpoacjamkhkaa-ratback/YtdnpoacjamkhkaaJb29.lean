/- The walks of the reference's Hull, Meet, Neg, ends, Add and Sub: they answer as the program's; IvalSums' walk. -/
import Derived.Test.YtdnpoacjamkhkaaJb28
import Derived.Test.YtdnpoacjamkhkaaJb04
import Derived.Test.YtdnpoacjamkhkaaJb06
import Derived.Test.YtdnpoacjamkhkaaJb13
import Derived.Test.YtdnpoacjamkhkaaJb02
namespace Go.Proofs.Ytdnpoacjamkhkaa
open Go.ChangeShapes Go.WideShapes Go.ChangeAt Go.RowKit
def addP (xl xh yl yh:Nat):Nat×Nat:=if hsB xl xh&&hsB yl yh then ((addR xl yl (-1)).getD 0,(addR xh yh 1).getD 0) else (infI 1,infI (-1))
theorem Add_w (xl xh yl yh:Nat) (h1:xl<18446744073709551616) (h2:xh<18446744073709551616) (h3:yl<18446744073709551616) (h4:yh<18446744073709551616) (w:World) :
   Calls Try.prog 28 #[.agg #[.float .f64 xl,.float .f64 xh],.agg #[.float .f64 yl,.float .f64 yh]] w fun e w'=>e=.returned (.agg #[.float .f64 (addP xl xh yl yh).1,.float .f64 (addP xl xh yl yh).2])∧Below w.heap.size w w':=by
 unfold addP
 cases hs:hsB xl xh&&hsB yl yh
 · exact add_none xl xh yl yh h1 h2 h3 h4 hs w
 · obtain⟨hx,hy⟩:=Bool.and_eq_true_iff.1 hs
   obtain⟨l,u,e1,e2, -,e3,e4⟩:=add_some h1 h2 h3 h4 (hs_iff.1 hx) (hs_iff.1 hy)
   refine (add_i xl xh yl yh h1 h2 h3 h4 _ _ (fun w=>add_w xl yl (-1) h1 h3 w) (fun w=>add_w xh yh 1 h2 h4 w) hs w).mono ?_
   rintro _ _ ⟨⟨r1,r2,rfl,t1,t2⟩,hb⟩
   rw [e1] at t1
   rw [e2] at t2
   rw [e1,e2]
   obtain rfl:r1=l:=t1.2
   obtain rfl:r2=u:=t2.2
   exact⟨rfl,hb⟩
end Go.Proofs.Ytdnpoacjamkhkaa
