/- RatReads: the law's walk; what the card's listed variables give it. -/
import Derived.Test.YtgocelaghggpmaaGreatDoorKo40
import Derived.LaidMore
import Derived.Stop.LaidErr
import Derived.Lib.SmallJoins
namespace Go.Proofs.YtgocelaghggpmaaGreatDoor
open Go.ChangeShapes Go.WideShapes Go.ChangeAt Go.RowKit
theorem star_err: "*"++ "errors.errorString"= "*errors.errorString":=by decide
theorem row_err (u:TypeId) (h:Tryz.prog.typeName? 3 u=some "*errors.errorString"):u=125 :=
 typeName_ptr_named (nm:= "errors.errorString") (by rw [star_err];kernel_rfl) (by kernel_rfl) (by decide) u (by rw [star_err];exact h)
theorem errR_laid {text:List UInt8} {r:List (String×DataW Unit)} {W:World} (h:laidMet Tryz.prog (("strconv.ErrRange",.iface "*errors.errorString" (.ptr (.agg [.lit (.string text)]))) :: r) W):ErrR W:=by
 obtain⟨a,s,hv, -⟩:=laid_sentinel h (g:=3) (by kernel_rfl) (by kernel_rfl) Tryz.underlying49 row_err Tryz.underlying125 Tryz.underlying127 rfl rfl Tryz.underlying9 (by kernel_rfl) (by kernel_rfl)
 intro W' hb
 exact⟨_,_,Joins.var_stays (g:=3) (by kernel_rfl) hv hb (Nat.le_refl _)⟩
end Go.Proofs.YtgocelaghggpmaaGreatDoor
