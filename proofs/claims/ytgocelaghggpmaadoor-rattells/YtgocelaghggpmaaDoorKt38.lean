/- The ends of the least interval of a quotient. -/
import Derived.Test.YtgocelaghggpmaaDoorKt29
namespace Go.Proofs.YtgocelaghggpmaaDoor
open Go.ChangeShapes Go.WideShapes Go.ChangeAt Go.RowKit
theorem amt_zero {N:Int} {D:Nat} (h:N=0):(exQ N D).le 0∧(exQ N D).ge 0:=by
 subst h
 exact⟨by show (0:Int)*D≤0;omega,by show (0:Int)≤0*D;omega⟩
theorem hold_near {u:Nat} (hu:u=1075) {N D:Int} (g:Bool) (hg:if g then N≤0 else 0≤N) (hN0:N≠0) (hn:N.natAbs<9223372036854775808) (hD:1≤D) (hd:D.natAbs<9223372036854775808):Near (parM N.natAbs D.natAbs) (parE N.natAbs D.natAbs) ((exQ (N*((2^u:Nat):Int)) D.natAbs).amt g):=by
 have p:=Nat.two_pow_pos u
 have hg':if g then N*((2^u:Nat):Int)≤0 else 0≤N*((2^u:Nat):Int):=by
   cases g
   · simp only [Bool.false_eq_true,if_false] at hg ⊢
     exact Int.mul_nonneg hg (by omega)
   · simp only [if_true] at hg ⊢
     exact Int.mul_nonpos_of_nonpos_of_nonneg hg (by omega)
 have am:=fun h=>amt_Q (D:=D.natAbs) hg' h
 have e:(N*((2^u:Nat):Int)).natAbs=N.natAbs*2^u:=by rw [Int.natAbs_mul,Int.natAbs_natCast]
 rw [e] at am
 have bg:=par_big (n:=N.natAbs) (d:=D.natAbs) (by omega) hn (by omega) hd
 refine near_of (T:=topN N.natAbs*2^parS N.natAbs D.natAbs) (D:=D.natAbs) (a:=shiftN N.natAbs+parS N.natAbs D.natAbs) (b:=u) (by omega) (by unfold parE;rw [hu];omega) (fun h=>?_) (fun h=>?_) rfl (fun _=>by omega)
 · rw [(am h).1]
   have pa:=Nat.two_pow_pos (shiftN N.natAbs+parS N.natAbs D.natAbs)
   have e2:topN N.natAbs*2^parS N.natAbs D.natAbs*2^u=N.natAbs*2^u*2^(shiftN N.natAbs+parS N.natAbs D.natAbs):=by unfold topN;rw [Nat.pow_add];grind
   rw [e2,Nat.mul_right_comm]
   exact (Nat.mul_le_mul_right_iff pa).symm
 · rw [(am h).2]
   have pa:=Nat.two_pow_pos (shiftN N.natAbs+parS N.natAbs D.natAbs)
   have e2:topN N.natAbs*2^parS N.natAbs D.natAbs*2^u=N.natAbs*2^u*2^(shiftN N.natAbs+parS N.natAbs D.natAbs):=by unfold topN;rw [Nat.pow_add];grind
   rw [e2,Nat.mul_right_comm]
   exact (Nat.mul_left_inj (by omega)).symm
end Go.Proofs.YtgocelaghggpmaaDoor
