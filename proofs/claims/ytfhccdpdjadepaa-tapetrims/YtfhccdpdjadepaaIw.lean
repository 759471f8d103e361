/- What Mul of intervals that hold numbers answers: ends with the product between them. -/
import Derived.Test.YtfhccdpdjadepaaRr
import Derived.Test.YtfhccdpdjadepaaIp
namespace Go.Proofs.Ytfhccdpdjadepaa
open Go.ChangeShapes Go.WideShapes Go.ChangeAt Go.RowKit

theorem ge0 {x : Nat} (hx : x < 18446744073709551616) (hn : nanB x = false) : (FloatKind.f64.format.order x 0 == some .gt || FloatKind.f64.format.order x 0 == some .eq) = decide (0 ≤ key x) := by
  rw [o_ge hx (by omega)]
  unfold leB
  have h0 : nanB 0 = false := by decide
  have k0 : key 0 = 0 := rfl
  rw [hn, h0, k0]; simp
theorem le0 {x : Nat} (hx : x < 18446744073709551616) (hn : nanB x = false) : (FloatKind.f64.format.order x 0 == some .lt || FloatKind.f64.format.order x 0 == some .eq) = decide (key x ≤ 0) := by
  rw [o_le hx (by omega)]
  unfold leB
  have h0 : nanB 0 = false := by decide
  have k0 : key 0 = 0 := rfl
  rw [hn, h0, k0]; simp

theorem lpP_lt {t fl fh : Nat} (nt : nanB t = false) (n1 : nanB fl = false) (n2 : nanB fh = false) : lpP t fl fh < 18446744073709551616 := by
  unfold lpP
  split
  · exact (mulV_facts (-1) nt n2).2
  · exact (mulV_facts (-1) nt n1).2

end Go.Proofs.Ytfhccdpdjadepaa
