/- A quotient as an argument, opened and shut; what the listed table gives; RatTells for every quotient in memory. -/
import Derived.Test.YtgocelaghggpmaaDoorKt37
import Derived.Test.YtgocelaghggpmaaDoorKt38
import Derived.Test.YtgocelaghggpmaaDoorKt39
import Derived.ChangeSame
import Derived.JoinedOf
import Derived.JoinedAt
import Derived.RowKit3
import Derived.Lib.LaidTab
import Derived.Stop.LaidErr
import Derived.MakeChecks
namespace Go.Proofs.YtgocelaghggpmaaDoor
open Go.ChangeShapes Go.WideShapes Go.ChangeAt Go.RowKit
theorem num_sl (n:Int) (hn:I64 n) (W:World) :
   Calls Tryd.prog 41 #[.int .i64 n] W fun r w'=>(∃o k u,r=.returned (.agg #[.bool (decide (n<0)),.slice o k u,.int .i64 0])∧BigIs w' (.slice o k u) n.natAbs)∧Below W.heap.size W w' :=
 (num11_w n hn W).mono fun _ w' ⟨⟨v,e,A⟩,hb⟩=>by
   obtain⟨o,k,u,h1, -,h2⟩:=A.shape
   exact⟨⟨o,k,u,by rw [e,h1];rfl,h2⟩,hb⟩
theorem hold_rnd {u:Nat} (hu:u=1075) {N D:Int} (h:rightR N D=true) (hN:I64 N) (hD:I64 D) (dir:Int):IsRnd (exQ (N*((2^u:Nat):Int)) D.natAbs) dir (key (roundN (decide (N<0)) (holdM N D) (holdE N D) dir)):=by
 have d1:=rightR_D h
 have n1:=rightR_N h
 have lt:=holdM_lt h hN hD
 obtain⟨a1,a2⟩:=hN
 obtain⟨b1,b2⟩:=hD
 have p:=Nat.two_pow_pos u
 have ok:=exQ_ok (N*((2^u:Nat):Int)) (D:=D.natAbs) (by omega)
 have hg:if decide (N<0) then N≤0 else 0≤N:=by by_cases c:N<0 <;> simp [c] <;> omega
 have hg2:if decide (N<0) then (exQ (N*((2^u:Nat):Int)) D.natAbs).ge 0 else (exQ (N*((2^u:Nat):Int)) D.natAbs).le 0:=by
   by_cases c:N<0
   · rw [decide_eq_true c,if_pos rfl]
     have:=Int.mul_nonpos_of_nonpos_of_nonneg (show N≤0 by omega) (show 0≤((2^u:Nat):Int) by omega)
     show N*((2^u:Nat):Int)≤(0:Int)*D.natAbs
     rw [Int.zero_mul];exact this
   · rw [decide_eq_false c,if_neg (by simp)]
     have:=Int.mul_nonneg (show 0≤N by omega) (show 0≤((2^u:Nat):Int) by omega)
     show (0:Int)*D.natAbs≤N*((2^u:Nat):Int)
     rw [Int.zero_mul];exact this
 by_cases c:N=0
 · have e1:holdM N D=0:=by unfold holdM;rw [if_pos c]
   have e2:holdE N D=0:=by unfold holdE;rw [if_pos c]
   rw [e1,e2]
   exact round_is ok dir (by decide) (by decide) (fun _=>amt_zero (by rw [c,Int.zero_mul])) hg2 (fun q=>absurd rfl q)
 · have e1:holdM N D=parM N.natAbs D.natAbs:=by unfold holdM;rw [if_neg c]
   have e2:holdE N D=parE N.natAbs D.natAbs:=by unfold holdE;rw [if_neg c]
   rw [e1] at lt
   rw [e1,e2]
   have bg:=par_big (n:=N.natAbs) (d:=D.natAbs) (by omega) (by omega) (by omega) (by omega)
   have s1:=shift_63 N.natAbs
   have s2:parS N.natAbs D.natAbs≤63:=shift_63 _
   refine round_is ok dir lt ⟨by unfold parE;omega,by unfold parE;omega⟩ (fun q=>?_) hg2 (fun _=>hold_near hu _ hg c (by omega) d1 (by omega))
   exfalso
   unfold parM markN at q
   split at q <;> omega
theorem exD_is {u:Nat} {N D:Int} (hD:1≤D):exQ (N*((2^u:Nat):Int)) D.natAbs=exD (N*((2^u:Nat):Int)) D:=by
 unfold exQ exD
 have e:((D.natAbs:Nat):Int)=D:=by omega
 have nb:¬D<0:=by omega
 simp only [e,if_neg nb]
theorem rounded_q {N D:Int} (h:rightR N D=true) (hN:I64 N) (hD:I64 D) (dir:Int) (W:World) (o:Option Addr) (k c:Nat) (o':Option Addr) (k' c':Nat) (A:BigIs W (.slice o k c) N.natAbs) (B:BigIs W (.slice o' k' c') D.natAbs) :
   Calls Tryd.prog 43 #[.agg #[.bool (decide (N<0)),.slice o k c,.int .i64 0,.bool (decide (D<0)),.slice o' k' c',.int .i64 0,.bool false],.int .i64 dir] W fun r w'=>r=.returned (.float .f64 (roundN (decide (N<0)) (holdM N D) (holdE N D) dir))∧Below W.heap.size W w':=by
 obtain⟨u,hu⟩:∃u:Nat,u=1075:=⟨_,rfl⟩
 have d1:=rightR_D h
 have n1:=rightR_N h
 have lt:=holdM_lt h hN hD
 have rk:=hold_rnd hu h hN hD dir
 obtain⟨f1,f2,f3⟩:=roundN_facts (decide (N<0)) (holdM N D) (holdE N D) dir lt
 have ok:=exQ_ok (N*((2^u:Nat):Int)) (D:=D.natAbs) (by omega)
 obtain⟨a1,a2⟩:=hN
 obtain⟨b1,b2⟩:=hD
 have NA:NumZ (0-1075) 0 63 W (.agg #[.bool (decide (N<0)),.slice o k c,.int .i64 0]) (N*((2^u:Nat):Int)):=⟨_,_,N.natAbs,0,rfl,A,by omega,by omega,by omega,by
     rw [show ((0:Int)-(0-1075)).toNat=u by rw [hu];rfl]
     unfold sgnd
     by_cases q:N<0
     · rw [decide_eq_true q,if_pos rfl,Int.natCast_mul,←Int.neg_mul,show -((N.natAbs:Nat):Int)=N by omega]
     · rw [decide_eq_false q,if_neg (by simp),Int.natCast_mul,show ((N.natAbs:Nat):Int)=N by omega]⟩
 have NB:NumZ 0 0 63 W (.agg #[.bool (decide (D<0)),.slice o' k' c',.int .i64 0]) D:=⟨_,_,D.natAbs,0,rfl,B,by omega,by omega,by omega,by
     unfold sgnd
     rw [decide_eq_false (show ¬D<0 by omega),if_neg (by simp),show ((0:Int)-0).toNat=0 from rfl,Nat.pow_zero,Nat.mul_one]
     omega⟩
 have R:=rounded_x ok rk (w:=W) (x:=.agg #[.bool (decide (N<0)),.slice o k c,.int .i64 0,.bool (decide (D<0)),.slice o' k' c',.int .i64 0,.bool false]) ⟨_,o,k,c,0,_,o',k',c',0,false,rfl,Or.inl ⟨rfl,0,N*((2^u:Nat):Int),D,by omega,by omega,NA.wide (by omega) (by omega),NB.wide (by omega) (by omega),exD_is d1⟩⟩
 rw [ofKey_key f3 f2] at R
 exact R
theorem holdP_lt {N D:Int} (hN:I64 N) (hD:I64 D):(holdP N D).1<18446744073709551616∧(holdP N D).2<18446744073709551616:=by
 cases h:rightR N D
 · have e:holdP N D=(infI 1,infI (-1)):=by unfold holdP;rw [h];rfl
   rw [e]
   exact⟨by decide,by decide⟩
 · have e:holdP N D=makeP (roundN (decide (N<0)) (holdM N D) (holdE N D) (-1)) (roundN (decide (N<0)) (holdM N D) (holdE N D) 1):=by unfold holdP;rw [h];rfl
   rw [e]
   have lt:=holdM_lt h hN hD
   exact makeP_lt (roundN_facts _ _ _ _ lt).2.2 (roundN_facts _ _ _ _ lt).2.2
theorem rholdRat_w (N D:Int) (hN:I64 N) (hD:I64 D) (w:World) :
   Calls Tryd.prog 14 #[.agg #[.int .i64 N,.int .i64 D]] w fun r w'=>r=.returned (.agg #[.float .f64 (holdP N D).1,.float .f64 (holdP N D).2])∧Below w.heap.size w w':=by
 have r1:=fun W=>right11_w N D hN hD W
 cases h:rightR N D
 · have e:holdP N D=(infI 1,infI (-1)):=by unfold holdP;rw [h];rfl
   rw [e]
   rw [h] at r1
   exact rhold_bad N D r1 w
 · have e:holdP N D=makeP (roundN (decide (N<0)) (holdM N D) (holdE N D) (-1)) (roundN (decide (N<0)) (holdM N D) (holdE N D) 1):=by unfold holdP;rw [h];rfl
   rw [e]
   rw [h] at r1
   have lt:=holdM_lt h hN hD
   exact rhold_core N D _ _ _ _ _ _ _ _ r1 (fun W=>num_sl N hN W) (fun W=>num_sl D hD W) (fun W o k c o' k' c' A B=>rounded_q h hN hD (-1) W o k c o' k' c' A B) (fun W o k c o' k' c' A B=>rounded_q h hN hD 1 W o k c o' k' c' A B)
     (fun W=>rmake_w _ _ (roundN_facts _ _ _ _ lt).2.2 (roundN_facts _ _ _ _ lt).2.2 W) w
end Go.Proofs.YtgocelaghggpmaaDoor
