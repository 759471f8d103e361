/- Regions that draw their order and make a pair of words beside quiet operations. The product of two quotients (rat.times): walked over letters. The sum of two quotients (rat.sum): walked over letters. Products and sums of quotients (rat.times, rat.sum): what they answer is the exact one in its form. -/
import Derived.Test.YtpiffjpokmhmpaaGreatDoorZt09
import Derived.Test.YtpiffjpokmhmpaaGreatDoorZt05
import Derived.Deep.Quiet
import Derived.StillTail
namespace Go.Proofs.YtpiffjpokmhmpaaGreatDoor
open Go.ChangeShapes Go.WideShapes Go.ChangeAt Go.RowKit
theorem grewW (w:World) (o:Obj):Below w.heap.size w (w.alloc o):=by go_grown
theorem ofV_low {g:Bool} {n d G:Nat} (hG:0<G) (hd:0<d) (h:Nat.gcd n d=1):ofV g (n*G) (d*G)=if n<9223372036854775808∧d<9223372036854775808 then (sgnd g n,(d:Int),0) else (0,0,3):=by
 have e63:(2:Nat)^63=9223372036854775808:=by decide
 unfold ofV
 by_cases c:n=0
 · subst c
   rw [Nat.gcd_zero_left] at h
   subst h
   rw [Nat.zero_mul,if_pos rfl,if_pos ⟨by decide,by decide⟩]
   cases g <;> rfl
 · rw [if_neg (Nat.mul_ne_zero c (by omega)),Nat.gcd_mul_right,h,Nat.one_mul,Nat.mul_div_cancel _ hG,Nat.mul_div_cancel _ hG]
   by_cases b:n<9223372036854775808∧d<9223372036854775808
   · rw [if_pos b,if_pos ⟨bitsN_le (by rw [e63];exact b.1),bitsN_le (by rw [e63];exact b.2)⟩]
   · rw [if_neg b,if_neg fun q=>b ⟨by rw [←e63];exact bitsN_lt q.1,by rw [←e63];exact bitsN_lt q.2⟩]
theorem mdV_is {g:Bool} {nh nl dh dl n d:Nat} (S1:Sg nh nl (n:Int)) (S2:Sg dh dl (d:Int)) (h1:n<340282366920938463463374607431768211456) (h2:d<340282366920938463463374607431768211456):mdV g nh nl dh dl=if n<9223372036854775808∧d<9223372036854775808 then (sgnd g n,(d:Int),0) else (0,0,3):=by
 obtain⟨r1,r2⟩:=sg_room S1 h1
 obtain⟨r3,r4⟩:=sg_room S2 h2
 unfold mdV
 rw [r1,r3]
 by_cases c:n<9223372036854775808∧d<9223372036854775808
 · rw [if_pos c,decide_eq_true c.1,decide_eq_true c.2,if_pos (by rfl),(r2 c.1).2,(r4 c.2).2]
 · rw [if_neg c,if_neg]
   intro q
   rw [Bool.and_eq_true,decide_eq_true_eq,decide_eq_true_eq] at q
   exact c q
end Go.Proofs.YtpiffjpokmhmpaaGreatDoor
