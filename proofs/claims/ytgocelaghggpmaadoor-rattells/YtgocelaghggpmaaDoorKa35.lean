/- What the card's listed tables give lex. -/
import Derived.Test.YtgocelaghggpmaaDoorKa16
import Derived.Test.YtgocelaghggpmaaDoorKa34
namespace Go.Proofs.YtgocelaghggpmaaDoor
open Go.ChangeShapes Go.WideShapes Go.ChangeAt Go.RowKit
theorem space_laid {W:World} (h:laidMet Tryd.prog (("strings.asciiSpace",Lib.tabData .u8 Lib.asciiSpaceTab) :: []) W):SpT W :=
 Lib.tabBelow_of_tabIs (Lib.tabIs_of_head (g:=4) (t:=170) (e:=5) (n:=256) (by kernel_rfl) (by kernel_rfl) Tryd.underlying170 Tryd.underlying5 (by kernel_rfl) (by kernel_rfl) h)
end Go.Proofs.YtgocelaghggpmaaDoor
