/- What the card's listed tables give lex. -/
import Derived.Test.YtgocelaghggpmaaGreatDoorKo26
import Derived.Test.YtgocelaghggpmaaGreatDoorKo43
namespace Go.Proofs.YtgocelaghggpmaaGreatDoor
open Go.ChangeShapes Go.WideShapes Go.ChangeAt Go.RowKit
theorem space_laid {W:World} (h:laidMet Tryz.prog (("strings.asciiSpace",Lib.tabData .u8 Lib.asciiSpaceTab) :: []) W):SpT W :=
 Lib.tabBelow_of_tabIs (Lib.tabIs_of_head (g:=0) (t:=74) (e:=5) (n:=256) (by kernel_rfl) (by kernel_rfl) Tryz.underlying74 Tryz.underlying5 (by kernel_rfl) (by kernel_rfl) h)
end Go.Proofs.YtgocelaghggpmaaGreatDoor
