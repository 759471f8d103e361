/- The walks of Mag, Mig, Sqr and Sqrt, of intervals that hold some number. The walks of Sqr and Sqrt, of intervals that hold some number. -/
import Derived.Test.YtmbjgicemblaaaaZb09
namespace Go.Proofs.Ytmbjgicemblaaaa
open Go.ChangeShapes Go.WideShapes Go.ChangeAt Go.RowKit
def mulV (a b:Nat) (d:Int):Nat:=(mulR a b d).getD 0
theorem mulV_is {a b:Nat} (d:Int) (na:nanB a=false) (nb:nanB b=false):mulR a b d=some (mulV a b d):=by
 obtain⟨r,h⟩:=mulR_num d na nb
 unfold mulV
 rw [h];rfl
theorem mulV_w (a b:Nat) (d:Int) (ha:a<18446744073709551616) (hb:b<18446744073709551616) (na:nanB a=false) (nb:nanB b=false) (w:World) :
   Calls Try.prog 58 #[.float .f64 a,.float .f64 b,.int .i64 d] w fun e w'=>e=.returned (.float .f64 (mulV a b d))∧Below w.heap.size w w':=by
 have h:=mul_w a b d ha hb w
 rw [mulV_is d na nb] at h
 refine h.mono ?_
 rintro _ _ ⟨⟨r,rfl, -,e⟩,hb⟩
 have e:r=mulV a b d:=e
 rw [e]
 exact⟨rfl,hb⟩
end Go.Proofs.Ytmbjgicemblaaaa
