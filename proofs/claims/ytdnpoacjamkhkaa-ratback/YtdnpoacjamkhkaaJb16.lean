/- The reference's numbers of stage 11: a number's low part, a quotient in its form. -/
import Derived.Test.YtdnpoacjamkhkaaJb15
import Derived.Test.YtdnpoacjamkhkaaJb13
namespace Go.Proofs.Ytdnpoacjamkhkaa
open Go.ChangeShapes Go.WideShapes Go.ChangeAt Go.RowKit
theorem bitsN_lt {m t:Nat} (h:bitsN m≤t):m<2^t:=by
 by_cases h0:m=0
 · rw [h0];exact Nat.two_pow_pos t
 · obtain⟨b,e, -,h2⟩:=bitsN_low h0
   exact Nat.lt_of_lt_of_le h2 (Nat.pow_le_pow_right (by omega) (by omega))
def ofV (neg:Bool) (n d:Nat):Int×Int×Int:=if n=0 then (0,1,0) else if bitsN (n/Nat.gcd n d)≤63∧bitsN (d/Nat.gcd n d)≤63 then (sgnd neg (n/Nat.gcd n d),((d/Nat.gcd n d:Nat):Int),0) else (0,0,3)
def Rt2 (w:World) (b:Nat) (x y:Value):Prop:=w.cell? ⟨b,0,none⟩=some x∧w.cell? ⟨b,1,none⟩=some y∧w.frozen? ⟨b,0,none⟩=false∧w.frozen? ⟨b,1,none⟩=false∧b<w.heap.size
theorem Rt2.keep {w W:World} {b:Nat} {x y:Value} (h:Rt2 w b x y) (k:Below w.heap.size w W):Rt2 W b x y:=⟨keepsC k h.1 h.2.2.2.2,keepsC k h.2.1 h.2.2.2.2,keepsF k h.2.2.1 h.2.2.2.2,keepsF k h.2.2.2.1 h.2.2.2.2,Nat.lt_of_lt_of_le h.2.2.2.2 k.size⟩
theorem rat_new (w:World) (a b:Value) (T:TypeId):Rt2 (w.alloc (.cells #[a,b] T)) w.heap.size a b:=⟨by go_simp,by go_simp,by go_simp,by go_simp,by go_size⟩
end Go.Proofs.Ytdnpoacjamkhkaa
