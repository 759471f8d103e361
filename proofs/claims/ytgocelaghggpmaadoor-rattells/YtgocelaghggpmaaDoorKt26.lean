/- The reference's numbers of stage 11: sums and differences. -/
import Derived.Test.YtgocelaghggpmaaDoorKt25
namespace Go.Proofs.YtgocelaghggpmaaDoor
open Go.ChangeShapes Go.WideShapes Go.ChangeAt Go.RowKit
theorem T1 {w:World} {b:Nat} {x y z:Value} (h:Has3 w b x y z):w.cell? ⟨b,1,none⟩=some y:=h.2.1
end Go.Proofs.YtgocelaghggpmaaDoor
