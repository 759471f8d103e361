/- What the card's listed tables give lex. -/
import Derived.Test.YtpiffjpokmhmpaaDoorZb29
import Derived.Test.YtpiffjpokmhmpaaDoorZb48
namespace Go.Proofs.YtpiffjpokmhmpaaDoor
open Go.ChangeShapes Go.WideShapes Go.ChangeAt Go.RowKit
theorem space_laid {W:World} (h:laidMet Tryd.prog (("strings.asciiSpace",Lib.tabData .u8 Lib.asciiSpaceTab) :: []) W):SpT W :=
 Lib.tabBelow_of_tabIs (Lib.tabIs_of_head (g:=3) (t:=114) (e:=5) (n:=256) (by kernel_rfl) (by kernel_rfl) Tryd.underlying114 Tryd.underlying5 (by kernel_rfl) (by kernel_rfl) h)
end Go.Proofs.YtpiffjpokmhmpaaDoor
