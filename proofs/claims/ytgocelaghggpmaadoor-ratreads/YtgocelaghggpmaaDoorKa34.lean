/- RatReads: the law's walk; what the card's listed variables give it. -/
import Derived.LaidMore
import Derived.Stop.LaidErr
import Derived.Lib.SmallJoins
import Derived.Test.YtgocelaghggpmaaDoorKa14
import Derived.Test.YtgocelaghggpmaaDoorKa18
import Derived.Deep.Cut
import Derived.Deep.CutRange
import Derived.Test.YtgocelaghggpmaaDoorKa06
import Derived.Deep.RegionHeld3
namespace Go.Proofs.YtgocelaghggpmaaDoor
open Go.ChangeShapes Go.WideShapes Go.ChangeAt Go.RowKit
theorem star_err: "*"++ "errors.errorString"= "*errors.errorString":=by decide
theorem row_err (u:TypeId) (h:Tryd.prog.typeName? 3 u=some "*errors.errorString"):u=175 :=
 typeName_ptr_named (nm:= "errors.errorString") (by rw [star_err];kernel_rfl) (by kernel_rfl) (by decide) u (by rw [star_err];exact h)
theorem errR_laid {text:List UInt8} {r:List (String×DataW Unit)} {W:World} (h:laidMet Tryd.prog (("strconv.ErrRange",.iface "*errors.errorString" (.ptr (.agg [.lit (.string text)]))) :: r) W):ErrR W:=by
 obtain⟨a,s,hv, -⟩:=laid_sentinel h (g:=2) (by kernel_rfl) (by kernel_rfl) Tryd.underlying54 row_err Tryd.underlying175 Tryd.underlying177 rfl rfl Tryd.underlying9 (by kernel_rfl) (by kernel_rfl)
 intro W' hb
 exact⟨_,_,Joins.var_stays (g:=2) (by kernel_rfl) hv hb (Nat.le_refl _)⟩
end Go.Proofs.YtgocelaghggpmaaDoor
