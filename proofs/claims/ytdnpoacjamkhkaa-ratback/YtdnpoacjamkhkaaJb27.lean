/- The ends of the least interval of a quotient. -/
import Derived.Test.YtdnpoacjamkhkaaJb26
namespace Go.Proofs.Ytdnpoacjamkhkaa
open Go.ChangeShapes Go.WideShapes Go.ChangeAt Go.RowKit
theorem amt_zero {N:Int} {D:Nat} (h:N=0):(exQ N D).le 0∧(exQ N D).ge 0:=by
 subst h
 exact⟨by show (0:Int)*D≤0;omega,by show (0:Int)≤0*D;omega⟩
theorem hold_near {u:Nat} (hu:u=1075) {N D:Int} (g:Bool) (hg:if g then N≤0 else 0≤N) (hN0:N≠0) (hn:N.natAbs<9223372036854775808) (hD:1≤D) (hd:D.natAbs<9223372036854775808):Near (parM N.natAbs D.natAbs) (parE N.natAbs D.natAbs) ((exQ (N*((2^u:Nat):Int)) D.natAbs).amt g):=by
 have p:=Nat.two_pow_pos u
 have hg':if g then N*((2^u:Nat):Int)≤0 else 0≤N*((2^u:Nat):Int):=by
   cases g
   · simp only [Bool.false_eq_true,if_false] at hg ⊢
     exact Int.mul_nonneg hg (by omega)
   · simp only [if_true] at hg ⊢
     exact Int.mul_nonpos_of_nonpos_of_nonneg hg (by omega)
 have am:=fun h=>amt_Q (D:=D.natAbs) hg' h
 have e:(N*((2^u:Nat):Int)).natAbs=N.natAbs*2^u:=by rw [Int.natAbs_mul,Int.natAbs_natCast]
 rw [e] at am
 have bg:=par_big (n:=N.natAbs) (d:=D.natAbs) (by omega) hn (by omega) hd
 refine near_of (T:=topN N.natAbs*2^parS N.natAbs D.natAbs) (D:=D.natAbs) (a:=shiftN N.natAbs+parS N.natAbs D.natAbs) (b:=u) (by omega) (by unfold parE;rw [hu];omega) (fun h=>?_) (fun h=>?_) rfl (fun _=>by omega)
 · rw [(am h).1]
   have pa:=Nat.two_pow_pos (shiftN N.natAbs+parS N.natAbs D.natAbs)
   have e2:topN N.natAbs*2^parS N.natAbs D.natAbs*2^u=N.natAbs*2^u*2^(shiftN N.natAbs+parS N.natAbs D.natAbs):=by unfold topN;rw [Nat.pow_add];grind
   rw [e2,Nat.mul_right_comm]
   exact (Nat.mul_le_mul_right_iff pa).symm
 · rw [(am h).2]
   have pa:=Nat.two_pow_pos (shiftN N.natAbs+parS N.natAbs D.natAbs)
   have e2:topN N.natAbs*2^parS N.natAbs D.natAbs*2^u=N.natAbs*2^u*2^(shiftN N.natAbs+parS N.natAbs D.natAbs):=by unfold topN;rw [Nat.pow_add];grind
   rw [e2,Nat.mul_right_comm]
   exact (Nat.mul_left_inj (by omega)).symm
theorem hold_kdown {u:Nat} (hu:u=1075) {N D:Int} (g:Bool) (hg:if g then N≤0 else 0≤N) (hn:N.natAbs<9223372036854775808) (hD:1≤D) (hd:D.natAbs<9223372036854775808):KDown (exQ (N*((2^u:Nat):Int)) D.natAbs) (key (roundN g (holdM N D) (holdE N D) (-1))):=by
 have p:=Nat.two_pow_pos u
 have ok:=exQ_ok (N*((2^u:Nat):Int)) (D:=D.natAbs) (by omega)
 have hg2:if g then (exQ (N*((2^u:Nat):Int)) D.natAbs).ge 0 else (exQ (N*((2^u:Nat):Int)) D.natAbs).le 0:=by
   cases g
   · simp only [Bool.false_eq_true,if_false] at hg ⊢
     have:=Int.mul_nonneg hg (show 0≤((2^u:Nat):Int) by omega)
     show (0:Int)*D.natAbs≤N*((2^u:Nat):Int)
     rw [Int.zero_mul];exact this
   · simp only [if_true] at hg ⊢
     have:=Int.mul_nonpos_of_nonpos_of_nonneg hg (show 0≤((2^u:Nat):Int) by omega)
     show N*((2^u:Nat):Int)≤(0:Int)*D.natAbs
     rw [Int.zero_mul];exact this
 by_cases c:N=0
 · have e1:holdM N D=0:=by unfold holdM;rw [if_pos c]
   have e2:holdE N D=0:=by unfold holdE;rw [if_pos c]
   rw [e1,e2]
   exact round_down ok (by decide) (by decide) (fun _=>amt_zero (by rw [c,Int.zero_mul])) hg2 (fun q=>absurd rfl q)
 · have e1:holdM N D=parM N.natAbs D.natAbs:=by unfold holdM;rw [if_neg c]
   have e2:holdE N D=parE N.natAbs D.natAbs:=by unfold holdE;rw [if_neg c]
   rw [e1,e2]
   have bg:=par_big (n:=N.natAbs) (d:=D.natAbs) (by omega) hn (by omega) hd
   have s1:=shift_63 N.natAbs
   have s2:parS N.natAbs D.natAbs≤63:=shift_63 _
   refine round_down ok (par_lt (by omega) hn (by omega) hd) ⟨by unfold parE;omega,by unfold parE;omega⟩ (fun q=>?_) hg2 (fun _=>hold_near hu g hg c hn hD hd)
   exfalso
   unfold parM markN at q
   split at q <;> omega
theorem hold_ends {u:Nat} (hu:u=1075) {N D:Int} (h:rightR N D=true) (hN:I64 N) (hD:I64 D):KDown (exQ (N*((2^u:Nat):Int)) D.natAbs) (key (roundN (decide (N<0)) (holdM N D) (holdE N D) (-1)))∧KDown (exQ (-N*((2^u:Nat):Int)) D.natAbs) (-key (roundN (decide (N<0)) (holdM N D) (holdE N D) 1)):=by
 have d1:=rightR_D h
 have n1:=rightR_N h
 have lt:=holdM_lt h hN hD
 obtain⟨a1,a2⟩:=hN
 obtain⟨b1,b2⟩:=hD
 refine⟨hold_kdown hu _ (by by_cases c:N<0 <;> simp [c] <;> omega) (by omega) d1 (by omega), ?_⟩
 have m:=round_mirror (!(decide (N<0))) (holdM N D) (holdE N D) lt
 rw [Bool.not_not] at m
 rw [m,Int.neg_neg]
 have e1:holdM N D=holdM (-N) D:=by
   unfold holdM
   by_cases c:N=0
   · rw [if_pos c,if_pos (by omega)]
   · rw [if_neg c,if_neg (by omega),Int.natAbs_neg]
 have e2:holdE N D=holdE (-N) D:=by
   unfold holdE
   by_cases c:N=0
   · rw [if_pos c,if_pos (by omega)]
   · rw [if_neg c,if_neg (by omega),Int.natAbs_neg]
 rw [e1,e2]
 exact hold_kdown hu _ (by by_cases c:N<0 <;> simp [c] <;> omega) (by omega) d1 (by omega)
end Go.Proofs.Ytdnpoacjamkhkaa
