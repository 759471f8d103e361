/- The reference's numbers of stage 11: a number's low part, a quotient in its form. -/
import Derived.Test.YtpiffjpokmhmpaaDoorZb02
namespace Go.Proofs.YtpiffjpokmhmpaaDoor
open Go.ChangeShapes Go.WideShapes Go.ChangeAt Go.RowKit
theorem bitsN_lt {m t:Nat} (h:bitsN m≤t):m<2^t:=by
 by_cases h0:m=0
 · rw [h0];exact Nat.two_pow_pos t
 · obtain⟨b,e, -,h2⟩:=bitsN_low h0
   exact Nat.lt_of_lt_of_le h2 (Nat.pow_le_pow_right (by omega) (by omega))
def ofV (neg:Bool) (n d:Nat):Int×Int×Int:=if n=0 then (0,1,0) else if bitsN (n/Nat.gcd n d)≤63∧bitsN (d/Nat.gcd n d)≤63 then (sgnd neg (n/Nat.gcd n d),((d/Nat.gcd n d:Nat):Int),0) else (0,0,3)
end Go.Proofs.YtpiffjpokmhmpaaDoor
