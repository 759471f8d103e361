/- The reference's numbers of stage 11: products, quotients, powers, the order. The reference's numbers of stage 11: sums and differences. The reference's numbers of stage 11: Add and Sub, whole. Quotients of whole numbers in their form: what is told is the quotient, and the only one; sums and products are undone; the order. The program: Make, Add, Sub, Mul, Div of quotients (rat). The program: powers of quotients (rat.Pow), walked over letters. The program's Add, Sub, Mul, Div, Pow of quotients answer the exact ones in their form (rat). The program: the order of quotients (rat.Cmp). unit's must and times: a number without room gives up by a panic. Middles and widths: the program's and the reference's are the same; IvalSizes' walk. The greater the intervals are, the greater are sums and products: plain facts, end by end. Intervals hold rational numbers: sums, negatives, differences, products. -/
import Derived.Test.YtbejmklkicoibaaKd03
import Derived.Test.YtbejmklkicoibaaKd02
import Derived.Test.YtbejmklkicoibaaKd01
import Derived.WalkKit
import Derived.Deep.CutBlock
import Derived.Deep.CutRange
import Derived.Deep.LoopGhost
namespace Go.Proofs.Ytbejmklkicoibaa
open Go.ChangeShapes Go.WideShapes Go.ChangeAt Go.RowKit
def mulV11 (aN aD bN bD:Int):Int×Int×Int:=if rightR aN aD&&rightR bN bD then ofV (!(decide (aN<0)==decide (bN<0))) (aN.natAbs*bN.natAbs) (aD.natAbs*bD.natAbs) else (0,0,1)
theorem rightR_D {N D:Int} (h:rightR N D=true):1≤D:=by
 unfold rightR at h
 simp only [Bool.and_eq_true,decide_eq_true_eq] at h
 exact h.1
def divV11 (aN aD bN bD:Int):Int×Int×Int:=if rightR aN aD&&rightR bN bD then (if bN=0 then (0,0,6) else ofV (!(decide (aN<0)==decide (bN<0))) (aN.natAbs*bD.natAbs) (aD.natAbs*bN.natAbs)) else (0,0,1)
theorem T0 {w:World} {b:Nat} {x y z:Value} (h:Has3 w b x y z):w.cell? ⟨b,0,none⟩=some x:=h.1
theorem T1 {w:World} {b:Nat} {x y z:Value} (h:Has3 w b x y z):w.cell? ⟨b,1,none⟩=some y:=h.2.1
def addV11 (aN aD bN bD:Int):Int×Int×Int:=if rightR aN aD&&rightR bN bD then ofV (decide (aN*bD+bN*aD<0)) (aN*bD+bN*aD).natAbs (aD.natAbs*bD.natAbs) else (0,0,1)
theorem ofV_sign {g:Bool} {n d:Nat} {z:Int} (hn:n=z.natAbs) (hg:z≠0→g=decide (z<0)):ofV g n d=ofV (decide (z<0)) z.natAbs d:=by
 subst hn
 by_cases c:z=0
 · unfold ofV
   rw [if_pos (by omega),if_pos (by omega)]
 · rw [hg c]
def subV11 (aN aD bN bD:Int):Int×Int×Int:=if rightR bN bD then addV11 aN aD (-bN) bD else (0,0,1)
theorem rightR_N {N D:Int} (h:rightR N D=true):N≠-9223372036854775808:=by
 unfold rightR at h
 simp only [Bool.and_eq_true,decide_eq_true_eq] at h
 exact h.2.1
theorem rightR_G {N D:Int} (h:rightR N D=true):Nat.gcd N.natAbs D.natAbs=1:=by
 unfold rightR at h
 simp only [Bool.and_eq_true,decide_eq_true_eq] at h
 exact h.2.2
theorem ofV_ok {g:Bool} {n d:Nat} {N D:Int} (hd:d≠0) (h:ofV g n d=(N,D,0)):rightR N D=true∧N*(d:Int)=sgnd g n*D∧(I64 N∧I64 D):=by
 unfold ofV at h
 by_cases c:n=0
 · rw [if_pos c] at h
   obtain⟨rfl,rfl⟩:(0:Int)=N∧(1:Int)=D:=by
     injection h with h1 h2
     injection h2 with h3 h4
     exact⟨h1,h3⟩
   refine⟨by decide, ?_,⟨by decide,by decide⟩,⟨by decide,by decide⟩⟩
   rw [c]
   unfold sgnd
   split <;> simp
 · rw [if_neg c] at h
   have g0:0<Nat.gcd n d:=Nat.gcd_pos_of_pos_right _ (by omega)
   have cop:Nat.gcd (n/Nat.gcd n d) (d/Nat.gcd n d)=1:=Nat.coprime_div_gcd_div_gcd g0
   have e1:n/Nat.gcd n d*Nat.gcd n d=n:=Nat.div_mul_cancel (Nat.gcd_dvd_left _ _)
   have e2:d/Nat.gcd n d*Nat.gcd n d=d:=Nat.div_mul_cancel (Nat.gcd_dvd_right _ _)
   generalize Nat.gcd n d=G at *
   generalize n/G=x at *
   generalize d/G=y at *
   by_cases b:bitsN x≤63∧bitsN y≤63
   · rw [if_pos b] at h
     have hx:=bitsN_lt b.1
     have hy:=bitsN_lt b.2
     obtain⟨rfl,rfl⟩:sgnd g x=N∧(y:Int)=D:=by
       injection h with h1 h2
       injection h2 with h3 h4
       exact⟨h1,h3⟩
     have hy0:y≠0:=by rintro rfl;rw [Nat.zero_mul] at e2;omega
     have ha:(sgnd g x).natAbs=x:=by unfold sgnd;split <;> omega
     refine⟨?_, ?_,⟨?_, ?_⟩,⟨by omega,by omega⟩⟩
     · unfold rightR
       rw [ha,show ((y:Int)).natAbs=y by omega,decide_eq_true cop,decide_eq_true (show 1≤(y:Int) by omega),decide_eq_true]
       · rfl
       · intro q
         rw [q] at ha
         omega
     · rw [←e1,←e2]
       unfold sgnd
       split <;> simp only [Int.natCast_mul,Int.neg_mul] <;> grind
     · unfold sgnd;split <;> omega
     · unfold sgnd;split <;> omega
   · rw [if_neg b] at h
     injection h with h1 h2
     injection h2 with h3 h4
     omega
theorem ofV_of {N D p q:Int} (hr:rightR N D=true) (hN:I64 N) (hD:I64 D) (hq:0<q) (h:N*q=p*D):ofV (decide (p<0)) p.natAbs q.natAbs=(N,D,0):=by
 have hD0:=rightR_D hr
 have hG:=rightR_G hr
 have hn:=rightR_N hr
 have hab:N.natAbs*q.natAbs=p.natAbs*D.natAbs:=by rw [←Int.natAbs_mul,h,Int.natAbs_mul]
 have hdv:D.natAbs ∣ q.natAbs:=by
   have:D.natAbs ∣ N.natAbs*q.natAbs:=⟨p.natAbs,by rw [hab,Nat.mul_comm]⟩
   exact Nat.Coprime.dvd_of_dvd_mul_left (by rw [Nat.Coprime,Nat.gcd_comm];exact hG) this
 obtain⟨t,ht⟩:=hdv
 have hp:p.natAbs=N.natAbs*t:=by
   rw [ht,Nat.mul_comm D.natAbs t,←Nat.mul_assoc] at hab
   exact (Nat.eq_of_mul_eq_mul_right (by omega) hab).symm
 have ht0:0<t:=by
   rcases Nat.eq_zero_or_pos t with z | z
   · rw [z,Nat.mul_zero] at ht;omega
   · exact z
 unfold ofV
 by_cases c:p.natAbs=0
 · rw [if_pos c]
   have hN0:N.natAbs=0:=by
     rcases Nat.mul_eq_zero.1 (hp ▸ c) with z | z
     · exact z
     · omega
   have e1:N=0:=by omega
   have e2:D=1:=by
     rw [hN0,Nat.gcd_zero_left] at hG
     omega
   rw [e1,e2]
 · rw [if_neg c]
   have hg:Nat.gcd p.natAbs q.natAbs=t:=by
     rw [hp,ht,Nat.mul_comm D.natAbs t,Nat.mul_comm N.natAbs t,Nat.gcd_mul_left,hG,Nat.mul_one]
   rw [hg,hp,ht,Nat.mul_div_cancel _ ht0,Nat.mul_div_cancel _ ht0]
   have b1:bitsN N.natAbs≤63:=bitsN_le (by have:=hN.1;have:=hN.2;omega)
   have b2:bitsN D.natAbs≤63:=bitsN_le (by have:=hD.2;omega)
   rw [if_pos ⟨b1,b2⟩]
   have s:sgnd (decide (p<0)) N.natAbs=N:=by
     have hs:(p<0↔N<0):=by
       constructor
       · intro z
         rcases Int.lt_or_le N 0 with k | k
         · exact k
         · have:=Int.mul_nonneg k (Int.le_of_lt hq)
           have:=Int.mul_neg_of_neg_of_pos z (show 0<D by omega)
           omega
       · intro z
         rcases Int.lt_or_le p 0 with k | k
         · exact k
         · have:=Int.mul_neg_of_neg_of_pos z hq
           have:=Int.mul_nonneg k (show 0≤D by omega)
           omega
     unfold sgnd
     by_cases z:p<0
     · rw [decide_eq_true z,if_pos rfl];have:=hs.1 z;omega
     · rw [decide_eq_false z,if_neg (by simp)];have:¬N<0:=fun k=>z (hs.2 k);omega
   rw [s,show ((D.natAbs:Nat):Int)=D by omega]
theorem sgn_abs (z:Int):sgnd (decide (z<0)) z.natAbs=z:=by
 unfold sgnd
 by_cases c:z<0
 · rw [decide_eq_true c,if_pos rfl];omega
 · rw [decide_eq_false c,if_neg (by simp)];omega
theorem addV11_ok {aN aD bN bD xN xD:Int} (ha:rightR aN aD=true) (hb:rightR bN bD=true) (h:addV11 aN aD bN bD=(xN,xD,0)):rightR xN xD=true∧xN*(aD*bD)=(aN*bD+bN*aD)*xD∧(I64 xN∧I64 xD):=by
 unfold addV11 at h
 rw [ha,hb,Bool.and_self,if_pos rfl] at h
 have p1:=rightR_D ha
 have p2:=rightR_D hb
 obtain⟨h1,h2,h3⟩:=ofV_ok (Nat.mul_ne_zero (by omega) (by omega)) h
 rw [sgn_abs,Int.natCast_mul,show ((aD.natAbs:Nat):Int)=aD by omega,show ((bD.natAbs:Nat):Int)=bD by omega] at h2
 exact⟨h1,h2,h3⟩
theorem addV11_of {aN aD bN bD xN xD:Int} (ha:rightR aN aD=true) (hb:rightR bN bD=true) (hx:rightR xN xD=true) (hI:I64 xN∧I64 xD) (h:xN*(aD*bD)=(aN*bD+bN*aD)*xD):addV11 aN aD bN bD=(xN,xD,0):=by
 unfold addV11
 rw [ha,hb,Bool.and_self,if_pos rfl,←Int.natAbs_mul]
 exact ofV_of hx hI.1 hI.2 (Int.mul_pos (by have:=rightR_D ha;omega) (by have:=rightR_D hb;omega)) h
theorem rightR_neg {N D:Int} (h:rightR N D=true) (hI:I64 N):rightR (-N) D=true:=by
 have h1:=rightR_D h
 have h2:=rightR_N h
 have h3:=rightR_G h
 unfold rightR
 rw [Int.natAbs_neg,decide_eq_true h1,decide_eq_true (show -N≠-9223372036854775808 by have:=hI.2;omega),decide_eq_true h3]
 rfl
theorem zmul_sign {a b:Int}:(a*b)≠0→(!(decide (a<0)==decide (b<0)))=decide (a*b<0):=fun h=>by
 have ha:a≠0:=fun z=>h (by rw [z,Int.zero_mul])
 have hb:b≠0:=fun z=>h (by rw [z,Int.mul_zero])
 rcases Int.lt_or_gt_of_ne ha with x | x <;> rcases Int.lt_or_gt_of_ne hb with y | y
 · rw [decide_eq_true x,decide_eq_true y,decide_eq_false (by have:=Int.mul_pos_of_neg_of_neg x y;omega)];rfl
 · rw [decide_eq_true x,decide_eq_false (by omega),decide_eq_true (Int.mul_neg_of_neg_of_pos x y)];rfl
 · rw [decide_eq_false (by omega),decide_eq_true y,decide_eq_true (Int.mul_neg_of_pos_of_neg x y)];rfl
 · rw [decide_eq_false (by omega),decide_eq_false (by omega),decide_eq_false (by have:=Int.mul_pos x y;omega)];rfl
theorem mulV11_is {aN aD bN bD:Int} (ha:rightR aN aD=true) (hb:rightR bN bD=true):mulV11 aN aD bN bD=ofV (decide (aN*bN<0)) (aN*bN).natAbs (aD*bD).natAbs:=by
 unfold mulV11
 rw [ha,hb,Bool.and_self,if_pos rfl,Int.natAbs_mul aD bD]
 exact ofV_sign (by rw [Int.natAbs_mul]) zmul_sign
theorem mulV11_ok {aN aD bN bD xN xD:Int} (ha:rightR aN aD=true) (hb:rightR bN bD=true) (h:mulV11 aN aD bN bD=(xN,xD,0)):rightR xN xD=true∧xN*(aD*bD)=(aN*bN)*xD∧(I64 xN∧I64 xD):=by
 rw [mulV11_is ha hb] at h
 have p1:=rightR_D ha
 have p2:=rightR_D hb
 have p3:=Int.mul_pos (show 0<aD by omega) (show 0<bD by omega)
 obtain⟨h1,h2,h3⟩:=ofV_ok (by omega) h
 rw [sgn_abs,show (((aD*bD).natAbs:Nat):Int)=aD*bD by omega] at h2
 exact⟨h1,h2,h3⟩
theorem rat_same {aN aD bN bD:Int} (ha:rightR aN aD=true) (hb:rightR bN bD=true) (hA:I64 aN∧I64 aD) (hB:I64 bN∧I64 bD) (h:aN*bD=bN*aD):aN=bN∧aD=bD:=by
 have p1:=rightR_D ha
 have p2:=rightR_D hb
 have e1:=ofV_of ha hA.1 hA.2 (show 0<bD by omega) h
 have e2:=ofV_of hb hB.1 hB.2 (show 0<bD by omega) rfl
 rw [e1] at e2
 injection e2 with h1 h2
 injection h2 with h3 h4
 exact⟨h1,h3⟩
set_option maxHeartbeats 2000000 in
theorem rAdd_bad (aN aD bN bD:Int) (b1 b2:Bool) (h:(b1&&b2)=false)
   (r1:∀W,Calls Try.prog 28 #[.agg #[.int .i64 aN,.int .i64 aD]] W fun r w'=>r=.returned (.bool b1)∧Below W.heap.size W w')
   (r2:∀W,Calls Try.prog 28 #[.agg #[.int .i64 bN,.int .i64 bD]] W fun r w'=>r=.returned (.bool b2)∧Below W.heap.size W w') (w:World) :
   Calls Try.prog 80 #[.agg #[.int .i64 aN,.int .i64 aD],.agg #[.int .i64 bN,.int .i64 bD]] w fun r w'=>r=.returned (.tuple #[.agg #[.int .i64 0,.int .i64 0],.int .i64 1])∧Below w.heap.size w w':=by
 have HB:Below w.heap.size w (((w.alloc (.cells #[.int .i64 aN,.int .i64 aD] 27)).alloc (.cells #[.int .i64 bN,.int .i64 bD] 27)).alloc (.cells #[.int .i64 0,.int .i64 0] 27)):=by go_grown
 have X:Has2 (((w.alloc (.cells #[.int .i64 aN,.int .i64 aD] 27)).alloc (.cells #[.int .i64 bN,.int .i64 bD] 27)).alloc (.cells #[.int .i64 0,.int .i64 0] 27)) w.heap.size (.int .i64 aN) (.int .i64 aD):=⟨by go_simp,by go_simp,by go_simp,by go_simp,by go_size⟩
 have Y:Has2 (((w.alloc (.cells #[.int .i64 aN,.int .i64 aD] 27)).alloc (.cells #[.int .i64 bN,.int .i64 bD] 27)).alloc (.cells #[.int .i64 0,.int .i64 0] 27)) (w.heap.size+1) (.int .i64 bN) (.int .i64 bD):=⟨by go_simp,by go_simp,by go_simp,by go_simp,by go_size⟩
 have Z:Has2 (((w.alloc (.cells #[.int .i64 aN,.int .i64 aD] 27)).alloc (.cells #[.int .i64 bN,.int .i64 bD] 27)).alloc (.cells #[.int .i64 0,.int .i64 0] 27)) (w.heap.size+1+1) (.int .i64 0) (.int .i64 0):=⟨by go_simp,by go_simp,by go_simp,by go_simp,by go_size⟩
 go_enter Try.func80,Try.ntmps80
 go_upto_region 1 with fail
 generalize (((w.alloc (.cells #[.int .i64 aN,.int .i64 aD] 27)).alloc (.cells #[.int .i64 bN,.int .i64 bD] 27)).alloc (.cells #[.int .i64 0,.int .i64 0] 27))=V1 at *
 obtain⟨px0,px1,px2,px3,px4⟩:=id X;obtain⟨py0,py1,py2,py3,py4⟩:=id Y;obtain⟨pz0,pz1,pz2,pz3,pz4⟩:=id Z
 cases b1
 · go_wp2_with (go_at_call_of 28 (Value.agg #[.int .i64 aN,.int .i64 aD]);(with_reducible refine (r1 _).mono ?_);rintro _ W1 ⟨rfl,hb1⟩;replace X:=X.keep hb1;replace Y:=Y.keep hb1;replace Z:=Z.keep hb1;replace HB:=later HB hb1;clear hb1;obtain⟨p1x0,p1x1,p1x2,p1x3,p1x4⟩:=id X;obtain⟨p1y0,p1y1,p1y2,p1y3,p1y4⟩:=id Y;obtain⟨p1z0,p1z1,p1z2,p1z3,p1z4⟩:=id Z)
   refine bodyPost_ret (v:=.tuple #[.agg #[.int .i64 0,.int .i64 0],.int .i64 1]) (by simp [results,Try.results80,go_sem, *]) rfl ⟨rfl, ?_⟩;repeat' (first | (with_reducible exact HB) | (with_reducible refine Below.setCell ?_ ?_ _) | go_size)
 · cases b2
   · go_wp2_with (first | (go_at_call_of 28 (Value.agg #[.int .i64 aN,.int .i64 aD]);(with_reducible refine (r1 _).mono ?_);rintro _ W1 ⟨rfl,hb1⟩;replace X:=X.keep hb1;replace Y:=Y.keep hb1;replace Z:=Z.keep hb1;replace HB:=later HB hb1;clear hb1;obtain⟨p1x0,p1x1,p1x2,p1x3,p1x4⟩:=id X;obtain⟨p1y0,p1y1,p1y2,p1y3,p1y4⟩:=id Y;obtain⟨p1z0,p1z1,p1z2,p1z3,p1z4⟩:=id Z) | (go_at_call_of 28 (Value.agg #[.int .i64 bN,.int .i64 bD]);(with_reducible refine (r2 _).mono ?_);rintro _ W2 ⟨rfl,hb1⟩;replace X:=X.keep hb1;replace Y:=Y.keep hb1;replace Z:=Z.keep hb1;replace HB:=later HB hb1;clear hb1;obtain⟨p2x0,p2x1,p2x2,p2x3,p2x4⟩:=id X;obtain⟨p2y0,p2y1,p2y2,p2y3,p2y4⟩:=id Y;obtain⟨p2z0,p2z1,p2z2,p2z3,p2z4⟩:=id Z))
     refine bodyPost_ret (v:=.tuple #[.agg #[.int .i64 0,.int .i64 0],.int .i64 1]) (by simp [results,Try.results80,go_sem, *]) rfl ⟨rfl, ?_⟩;repeat' (first | (with_reducible exact HB) | (with_reducible refine Below.setCell ?_ ?_ _) | go_size)
   · cases h
set_option maxHeartbeats 2000000 in
theorem rAdd_good (aN aD bN bD x y e:Int)
   (r1:∀W,Calls Try.prog 28 #[.agg #[.int .i64 aN,.int .i64 aD]] W fun r w'=>r=.returned (.bool true)∧Below W.heap.size W w')
   (r2:∀W,Calls Try.prog 28 #[.agg #[.int .i64 bN,.int .i64 bD]] W fun r w'=>r=.returned (.bool true)∧Below W.heap.size W w')
   (c:∀W,Calls Try.prog 77 #[.agg #[.int .i64 aN,.int .i64 aD],.agg #[.int .i64 bN,.int .i64 bD]] W fun r w'=>r=.returned (.tuple #[.agg #[.int .i64 x,.int .i64 y],.int .i64 e])∧Below W.heap.size W w') (w:World) :
   Calls Try.prog 80 #[.agg #[.int .i64 aN,.int .i64 aD],.agg #[.int .i64 bN,.int .i64 bD]] w fun r w'=>r=.returned (.tuple #[.agg #[.int .i64 x,.int .i64 y],.int .i64 e])∧Below w.heap.size w w':=by
 have HB:Below w.heap.size w (((w.alloc (.cells #[.int .i64 aN,.int .i64 aD] 27)).alloc (.cells #[.int .i64 bN,.int .i64 bD] 27)).alloc (.cells #[.int .i64 0,.int .i64 0] 27)):=by go_grown
 have X:Has2 (((w.alloc (.cells #[.int .i64 aN,.int .i64 aD] 27)).alloc (.cells #[.int .i64 bN,.int .i64 bD] 27)).alloc (.cells #[.int .i64 0,.int .i64 0] 27)) w.heap.size (.int .i64 aN) (.int .i64 aD):=⟨by go_simp,by go_simp,by go_simp,by go_simp,by go_size⟩
 have Y:Has2 (((w.alloc (.cells #[.int .i64 aN,.int .i64 aD] 27)).alloc (.cells #[.int .i64 bN,.int .i64 bD] 27)).alloc (.cells #[.int .i64 0,.int .i64 0] 27)) (w.heap.size+1) (.int .i64 bN) (.int .i64 bD):=⟨by go_simp,by go_simp,by go_simp,by go_simp,by go_size⟩
 have Z:Has2 (((w.alloc (.cells #[.int .i64 aN,.int .i64 aD] 27)).alloc (.cells #[.int .i64 bN,.int .i64 bD] 27)).alloc (.cells #[.int .i64 0,.int .i64 0] 27)) (w.heap.size+1+1) (.int .i64 0) (.int .i64 0):=⟨by go_simp,by go_simp,by go_simp,by go_simp,by go_size⟩
 go_enter Try.func80,Try.ntmps80
 go_upto_region 1 with fail
 generalize (((w.alloc (.cells #[.int .i64 aN,.int .i64 aD] 27)).alloc (.cells #[.int .i64 bN,.int .i64 bD] 27)).alloc (.cells #[.int .i64 0,.int .i64 0] 27))=V1 at *
 obtain⟨px0,px1,px2,px3,px4⟩:=id X;obtain⟨py0,py1,py2,py3,py4⟩:=id Y;obtain⟨pz0,pz1,pz2,pz3,pz4⟩:=id Z
 go_wp2_with (first | (go_at_call_of 28 (Value.agg #[.int .i64 aN,.int .i64 aD]);(with_reducible refine (r1 _).mono ?_);rintro _ W1 ⟨rfl,hb1⟩;replace X:=X.keep hb1;replace Y:=Y.keep hb1;replace Z:=Z.keep hb1;replace HB:=later HB hb1;clear hb1;obtain⟨p1x0,p1x1,p1x2,p1x3,p1x4⟩:=id X;obtain⟨p1y0,p1y1,p1y2,p1y3,p1y4⟩:=id Y;obtain⟨p1z0,p1z1,p1z2,p1z3,p1z4⟩:=id Z) | (go_at_call_of 28 (Value.agg #[.int .i64 bN,.int .i64 bD]);(with_reducible refine (r2 _).mono ?_);rintro _ W2 ⟨rfl,hb1⟩;replace X:=X.keep hb1;replace Y:=Y.keep hb1;replace Z:=Z.keep hb1;replace HB:=later HB hb1;clear hb1;obtain⟨p2x0,p2x1,p2x2,p2x3,p2x4⟩:=id X;obtain⟨p2y0,p2y1,p2y2,p2y3,p2y4⟩:=id Y;obtain⟨p2z0,p2z1,p2z2,p2z3,p2z4⟩:=id Z) | (go_at_call 77;(with_reducible refine (c _).mono ?_);rintro _ W3 ⟨rfl,hb1⟩;replace X:=X.keep hb1;replace Y:=Y.keep hb1;replace Z:=Z.keep hb1;replace HB:=later HB hb1;clear hb1;obtain⟨p3x0,p3x1,p3x2,p3x3,p3x4⟩:=id X;obtain⟨p3y0,p3y1,p3y2,p3y3,p3y4⟩:=id Y;obtain⟨p3z0,p3z1,p3z2,p3z3,p3z4⟩:=id Z))
 refine bodyPost_ret (v:=.tuple #[.agg #[.int .i64 x,.int .i64 y],.int .i64 e]) (by simp [results,Try.results80,go_sem, *]) rfl ⟨rfl, ?_⟩;repeat' (first | (with_reducible exact HB) | (with_reducible refine Below.setCell ?_ ?_ _) | go_size)
set_option maxHeartbeats 2000000 in
theorem rSub_bad (aN aD bN bD:Int) (b1 b2:Bool) (h:(b1&&b2)=false)
   (r1:∀W,Calls Try.prog 28 #[.agg #[.int .i64 aN,.int .i64 aD]] W fun r w'=>r=.returned (.bool b1)∧Below W.heap.size W w')
   (r2:∀W,Calls Try.prog 28 #[.agg #[.int .i64 bN,.int .i64 bD]] W fun r w'=>r=.returned (.bool b2)∧Below W.heap.size W w') (w:World) :
   Calls Try.prog 59 #[.agg #[.int .i64 aN,.int .i64 aD],.agg #[.int .i64 bN,.int .i64 bD]] w fun r w'=>r=.returned (.tuple #[.agg #[.int .i64 0,.int .i64 0],.int .i64 1])∧Below w.heap.size w w':=by
 have HB:Below w.heap.size w (((w.alloc (.cells #[.int .i64 aN,.int .i64 aD] 27)).alloc (.cells #[.int .i64 bN,.int .i64 bD] 27)).alloc (.cells #[.int .i64 0,.int .i64 0] 27)):=by go_grown
 have X:Has2 (((w.alloc (.cells #[.int .i64 aN,.int .i64 aD] 27)).alloc (.cells #[.int .i64 bN,.int .i64 bD] 27)).alloc (.cells #[.int .i64 0,.int .i64 0] 27)) w.heap.size (.int .i64 aN) (.int .i64 aD):=⟨by go_simp,by go_simp,by go_simp,by go_simp,by go_size⟩
 have Y:Has2 (((w.alloc (.cells #[.int .i64 aN,.int .i64 aD] 27)).alloc (.cells #[.int .i64 bN,.int .i64 bD] 27)).alloc (.cells #[.int .i64 0,.int .i64 0] 27)) (w.heap.size+1) (.int .i64 bN) (.int .i64 bD):=⟨by go_simp,by go_simp,by go_simp,by go_simp,by go_size⟩
 have Z:Has2 (((w.alloc (.cells #[.int .i64 aN,.int .i64 aD] 27)).alloc (.cells #[.int .i64 bN,.int .i64 bD] 27)).alloc (.cells #[.int .i64 0,.int .i64 0] 27)) (w.heap.size+1+1) (.int .i64 0) (.int .i64 0):=⟨by go_simp,by go_simp,by go_simp,by go_simp,by go_size⟩
 go_enter Try.func59,Try.ntmps59
 go_upto_region 1 with fail
 generalize (((w.alloc (.cells #[.int .i64 aN,.int .i64 aD] 27)).alloc (.cells #[.int .i64 bN,.int .i64 bD] 27)).alloc (.cells #[.int .i64 0,.int .i64 0] 27))=V1 at *
 obtain⟨px0,px1,px2,px3,px4⟩:=id X;obtain⟨py0,py1,py2,py3,py4⟩:=id Y;obtain⟨pz0,pz1,pz2,pz3,pz4⟩:=id Z
 cases b1
 · go_wp2_with (go_at_call_of 28 (Value.agg #[.int .i64 aN,.int .i64 aD]);(with_reducible refine (r1 _).mono ?_);rintro _ W1 ⟨rfl,hb1⟩;replace X:=X.keep hb1;replace Y:=Y.keep hb1;replace Z:=Z.keep hb1;replace HB:=later HB hb1;clear hb1;obtain⟨p1x0,p1x1,p1x2,p1x3,p1x4⟩:=id X;obtain⟨p1y0,p1y1,p1y2,p1y3,p1y4⟩:=id Y;obtain⟨p1z0,p1z1,p1z2,p1z3,p1z4⟩:=id Z)
   refine bodyPost_ret (v:=.tuple #[.agg #[.int .i64 0,.int .i64 0],.int .i64 1]) (by simp [results,Try.results59,go_sem, *]) rfl ⟨rfl, ?_⟩;repeat' (first | (with_reducible exact HB) | (with_reducible refine Below.setCell ?_ ?_ _) | go_size)
 · cases b2
   · go_wp2_with (first | (go_at_call_of 28 (Value.agg #[.int .i64 aN,.int .i64 aD]);(with_reducible refine (r1 _).mono ?_);rintro _ W1 ⟨rfl,hb1⟩;replace X:=X.keep hb1;replace Y:=Y.keep hb1;replace Z:=Z.keep hb1;replace HB:=later HB hb1;clear hb1;obtain⟨p1x0,p1x1,p1x2,p1x3,p1x4⟩:=id X;obtain⟨p1y0,p1y1,p1y2,p1y3,p1y4⟩:=id Y;obtain⟨p1z0,p1z1,p1z2,p1z3,p1z4⟩:=id Z) | (go_at_call_of 28 (Value.agg #[.int .i64 bN,.int .i64 bD]);(with_reducible refine (r2 _).mono ?_);rintro _ W2 ⟨rfl,hb1⟩;replace X:=X.keep hb1;replace Y:=Y.keep hb1;replace Z:=Z.keep hb1;replace HB:=later HB hb1;clear hb1;obtain⟨p2x0,p2x1,p2x2,p2x3,p2x4⟩:=id X;obtain⟨p2y0,p2y1,p2y2,p2y3,p2y4⟩:=id Y;obtain⟨p2z0,p2z1,p2z2,p2z3,p2z4⟩:=id Z))
     refine bodyPost_ret (v:=.tuple #[.agg #[.int .i64 0,.int .i64 0],.int .i64 1]) (by simp [results,Try.results59,go_sem, *]) rfl ⟨rfl, ?_⟩;repeat' (first | (with_reducible exact HB) | (with_reducible refine Below.setCell ?_ ?_ _) | go_size)
   · cases h
set_option maxHeartbeats 2000000 in
theorem rSub_good (aN aD bN bD x y e:Int) (nb:Int) (hnb:IntKind.i64.wrap (-bN)=nb)
   (r1:∀W,Calls Try.prog 28 #[.agg #[.int .i64 aN,.int .i64 aD]] W fun r w'=>r=.returned (.bool true)∧Below W.heap.size W w')
   (r2:∀W,Calls Try.prog 28 #[.agg #[.int .i64 bN,.int .i64 bD]] W fun r w'=>r=.returned (.bool true)∧Below W.heap.size W w')
   (c:∀W,Calls Try.prog 77 #[.agg #[.int .i64 aN,.int .i64 aD],.agg #[.int .i64 nb,.int .i64 bD]] W fun r w'=>r=.returned (.tuple #[.agg #[.int .i64 x,.int .i64 y],.int .i64 e])∧Below W.heap.size W w') (w:World) :
   Calls Try.prog 59 #[.agg #[.int .i64 aN,.int .i64 aD],.agg #[.int .i64 bN,.int .i64 bD]] w fun r w'=>r=.returned (.tuple #[.agg #[.int .i64 x,.int .i64 y],.int .i64 e])∧Below w.heap.size w w':=by
 have HB:Below w.heap.size w (((w.alloc (.cells #[.int .i64 aN,.int .i64 aD] 27)).alloc (.cells #[.int .i64 bN,.int .i64 bD] 27)).alloc (.cells #[.int .i64 0,.int .i64 0] 27)):=by go_grown
 have X:Has2 (((w.alloc (.cells #[.int .i64 aN,.int .i64 aD] 27)).alloc (.cells #[.int .i64 bN,.int .i64 bD] 27)).alloc (.cells #[.int .i64 0,.int .i64 0] 27)) w.heap.size (.int .i64 aN) (.int .i64 aD):=⟨by go_simp,by go_simp,by go_simp,by go_simp,by go_size⟩
 have Y:Has2 (((w.alloc (.cells #[.int .i64 aN,.int .i64 aD] 27)).alloc (.cells #[.int .i64 bN,.int .i64 bD] 27)).alloc (.cells #[.int .i64 0,.int .i64 0] 27)) (w.heap.size+1) (.int .i64 bN) (.int .i64 bD):=⟨by go_simp,by go_simp,by go_simp,by go_simp,by go_size⟩
 have Z:Has2 (((w.alloc (.cells #[.int .i64 aN,.int .i64 aD] 27)).alloc (.cells #[.int .i64 bN,.int .i64 bD] 27)).alloc (.cells #[.int .i64 0,.int .i64 0] 27)) (w.heap.size+1+1) (.int .i64 0) (.int .i64 0):=⟨by go_simp,by go_simp,by go_simp,by go_simp,by go_size⟩
 go_enter Try.func59,Try.ntmps59
 go_upto_region 1 with fail
 generalize (((w.alloc (.cells #[.int .i64 aN,.int .i64 aD] 27)).alloc (.cells #[.int .i64 bN,.int .i64 bD] 27)).alloc (.cells #[.int .i64 0,.int .i64 0] 27))=V1 at *
 obtain⟨px0,px1,px2,px3,px4⟩:=id X;obtain⟨py0,py1,py2,py3,py4⟩:=id Y;obtain⟨pz0,pz1,pz2,pz3,pz4⟩:=id Z
 go_wp2_with (first | (go_at_call_of 28 (Value.agg #[.int .i64 aN,.int .i64 aD]);(with_reducible refine (r1 _).mono ?_);rintro _ W1 ⟨rfl,hb1⟩;replace X:=X.keep hb1;replace Y:=Y.keep hb1;replace Z:=Z.keep hb1;replace HB:=later HB hb1;clear hb1;obtain⟨p1x0,p1x1,p1x2,p1x3,p1x4⟩:=id X;obtain⟨p1y0,p1y1,p1y2,p1y3,p1y4⟩:=id Y;obtain⟨p1z0,p1z1,p1z2,p1z3,p1z4⟩:=id Z) | (go_at_call_of 28 (Value.agg #[.int .i64 bN,.int .i64 bD]);(with_reducible refine (r2 _).mono ?_);rintro _ W2 ⟨rfl,hb1⟩;replace X:=X.keep hb1;replace Y:=Y.keep hb1;replace Z:=Z.keep hb1;replace HB:=later HB hb1;clear hb1;obtain⟨p2x0,p2x1,p2x2,p2x3,p2x4⟩:=id X;obtain⟨p2y0,p2y1,p2y2,p2y3,p2y4⟩:=id Y;obtain⟨p2z0,p2z1,p2z2,p2z3,p2z4⟩:=id Z) | (go_at_call 77;(with_reducible refine (c _).mono ?_);rintro _ W3 ⟨rfl,hb1⟩;replace X:=X.keep hb1;replace Y:=Y.keep hb1;replace Z:=Z.keep hb1;replace HB:=later HB hb1;clear hb1;obtain⟨p3x0,p3x1,p3x2,p3x3,p3x4⟩:=id X;obtain⟨p3y0,p3y1,p3y2,p3y3,p3y4⟩:=id Y;obtain⟨p3z0,p3z1,p3z2,p3z3,p3z4⟩:=id Z))
 refine bodyPost_ret (v:=.tuple #[.agg #[.int .i64 x,.int .i64 y],.int .i64 e]) (by simp [results,Try.results59,go_sem, *]) rfl ⟨rfl, ?_⟩;repeat' (first | (with_reducible exact HB) | (with_reducible refine Below.setCell ?_ ?_ _) | go_size)
set_option maxHeartbeats 2000000 in
theorem rMul_bad (aN aD bN bD:Int) (b1 b2:Bool) (h:(b1&&b2)=false)
   (r1:∀W,Calls Try.prog 28 #[.agg #[.int .i64 aN,.int .i64 aD]] W fun r w'=>r=.returned (.bool b1)∧Below W.heap.size W w')
   (r2:∀W,Calls Try.prog 28 #[.agg #[.int .i64 bN,.int .i64 bD]] W fun r w'=>r=.returned (.bool b2)∧Below W.heap.size W w') (w:World) :
   Calls Try.prog 81 #[.agg #[.int .i64 aN,.int .i64 aD],.agg #[.int .i64 bN,.int .i64 bD]] w fun r w'=>r=.returned (.tuple #[.agg #[.int .i64 0,.int .i64 0],.int .i64 1])∧Below w.heap.size w w':=by
 have HB:Below w.heap.size w (((w.alloc (.cells #[.int .i64 aN,.int .i64 aD] 27)).alloc (.cells #[.int .i64 bN,.int .i64 bD] 27)).alloc (.cells #[.int .i64 0,.int .i64 0] 27)):=by go_grown
 have X:Has2 (((w.alloc (.cells #[.int .i64 aN,.int .i64 aD] 27)).alloc (.cells #[.int .i64 bN,.int .i64 bD] 27)).alloc (.cells #[.int .i64 0,.int .i64 0] 27)) w.heap.size (.int .i64 aN) (.int .i64 aD):=⟨by go_simp,by go_simp,by go_simp,by go_simp,by go_size⟩
 have Y:Has2 (((w.alloc (.cells #[.int .i64 aN,.int .i64 aD] 27)).alloc (.cells #[.int .i64 bN,.int .i64 bD] 27)).alloc (.cells #[.int .i64 0,.int .i64 0] 27)) (w.heap.size+1) (.int .i64 bN) (.int .i64 bD):=⟨by go_simp,by go_simp,by go_simp,by go_simp,by go_size⟩
 have Z:Has2 (((w.alloc (.cells #[.int .i64 aN,.int .i64 aD] 27)).alloc (.cells #[.int .i64 bN,.int .i64 bD] 27)).alloc (.cells #[.int .i64 0,.int .i64 0] 27)) (w.heap.size+1+1) (.int .i64 0) (.int .i64 0):=⟨by go_simp,by go_simp,by go_simp,by go_simp,by go_size⟩
 go_enter Try.func81,Try.ntmps81
 go_upto_region 1 with fail
 generalize (((w.alloc (.cells #[.int .i64 aN,.int .i64 aD] 27)).alloc (.cells #[.int .i64 bN,.int .i64 bD] 27)).alloc (.cells #[.int .i64 0,.int .i64 0] 27))=V1 at *
 obtain⟨px0,px1,px2,px3,px4⟩:=id X;obtain⟨py0,py1,py2,py3,py4⟩:=id Y;obtain⟨pz0,pz1,pz2,pz3,pz4⟩:=id Z
 cases b1
 · go_wp2_with (go_at_call_of 28 (Value.agg #[.int .i64 aN,.int .i64 aD]);(with_reducible refine (r1 _).mono ?_);rintro _ W1 ⟨rfl,hb1⟩;replace X:=X.keep hb1;replace Y:=Y.keep hb1;replace Z:=Z.keep hb1;replace HB:=later HB hb1;clear hb1;obtain⟨p1x0,p1x1,p1x2,p1x3,p1x4⟩:=id X;obtain⟨p1y0,p1y1,p1y2,p1y3,p1y4⟩:=id Y;obtain⟨p1z0,p1z1,p1z2,p1z3,p1z4⟩:=id Z)
   refine bodyPost_ret (v:=.tuple #[.agg #[.int .i64 0,.int .i64 0],.int .i64 1]) (by simp [results,Try.results81,go_sem, *]) rfl ⟨rfl, ?_⟩;repeat' (first | (with_reducible exact HB) | (with_reducible refine Below.setCell ?_ ?_ _) | go_size)
 · cases b2
   · go_wp2_with (first | (go_at_call_of 28 (Value.agg #[.int .i64 aN,.int .i64 aD]);(with_reducible refine (r1 _).mono ?_);rintro _ W1 ⟨rfl,hb1⟩;replace X:=X.keep hb1;replace Y:=Y.keep hb1;replace Z:=Z.keep hb1;replace HB:=later HB hb1;clear hb1;obtain⟨p1x0,p1x1,p1x2,p1x3,p1x4⟩:=id X;obtain⟨p1y0,p1y1,p1y2,p1y3,p1y4⟩:=id Y;obtain⟨p1z0,p1z1,p1z2,p1z3,p1z4⟩:=id Z) | (go_at_call_of 28 (Value.agg #[.int .i64 bN,.int .i64 bD]);(with_reducible refine (r2 _).mono ?_);rintro _ W2 ⟨rfl,hb1⟩;replace X:=X.keep hb1;replace Y:=Y.keep hb1;replace Z:=Z.keep hb1;replace HB:=later HB hb1;clear hb1;obtain⟨p2x0,p2x1,p2x2,p2x3,p2x4⟩:=id X;obtain⟨p2y0,p2y1,p2y2,p2y3,p2y4⟩:=id Y;obtain⟨p2z0,p2z1,p2z2,p2z3,p2z4⟩:=id Z))
     refine bodyPost_ret (v:=.tuple #[.agg #[.int .i64 0,.int .i64 0],.int .i64 1]) (by simp [results,Try.results81,go_sem, *]) rfl ⟨rfl, ?_⟩;repeat' (first | (with_reducible exact HB) | (with_reducible refine Below.setCell ?_ ?_ _) | go_size)
   · cases h
set_option maxHeartbeats 2000000 in
theorem rMul_good (aN aD bN bD x y e:Int)
   (r1:∀W,Calls Try.prog 28 #[.agg #[.int .i64 aN,.int .i64 aD]] W fun r w'=>r=.returned (.bool true)∧Below W.heap.size W w')
   (r2:∀W,Calls Try.prog 28 #[.agg #[.int .i64 bN,.int .i64 bD]] W fun r w'=>r=.returned (.bool true)∧Below W.heap.size W w')
   (c:∀W,Calls Try.prog 78 #[.agg #[.int .i64 aN,.int .i64 aD],.agg #[.int .i64 bN,.int .i64 bD]] W fun r w'=>r=.returned (.tuple #[.agg #[.int .i64 x,.int .i64 y],.int .i64 e])∧Below W.heap.size W w') (w:World) :
   Calls Try.prog 81 #[.agg #[.int .i64 aN,.int .i64 aD],.agg #[.int .i64 bN,.int .i64 bD]] w fun r w'=>r=.returned (.tuple #[.agg #[.int .i64 x,.int .i64 y],.int .i64 e])∧Below w.heap.size w w':=by
 have HB:Below w.heap.size w (((w.alloc (.cells #[.int .i64 aN,.int .i64 aD] 27)).alloc (.cells #[.int .i64 bN,.int .i64 bD] 27)).alloc (.cells #[.int .i64 0,.int .i64 0] 27)):=by go_grown
 have X:Has2 (((w.alloc (.cells #[.int .i64 aN,.int .i64 aD] 27)).alloc (.cells #[.int .i64 bN,.int .i64 bD] 27)).alloc (.cells #[.int .i64 0,.int .i64 0] 27)) w.heap.size (.int .i64 aN) (.int .i64 aD):=⟨by go_simp,by go_simp,by go_simp,by go_simp,by go_size⟩
 have Y:Has2 (((w.alloc (.cells #[.int .i64 aN,.int .i64 aD] 27)).alloc (.cells #[.int .i64 bN,.int .i64 bD] 27)).alloc (.cells #[.int .i64 0,.int .i64 0] 27)) (w.heap.size+1) (.int .i64 bN) (.int .i64 bD):=⟨by go_simp,by go_simp,by go_simp,by go_simp,by go_size⟩
 have Z:Has2 (((w.alloc (.cells #[.int .i64 aN,.int .i64 aD] 27)).alloc (.cells #[.int .i64 bN,.int .i64 bD] 27)).alloc (.cells #[.int .i64 0,.int .i64 0] 27)) (w.heap.size+1+1) (.int .i64 0) (.int .i64 0):=⟨by go_simp,by go_simp,by go_simp,by go_simp,by go_size⟩
 go_enter Try.func81,Try.ntmps81
 go_upto_region 1 with fail
 generalize (((w.alloc (.cells #[.int .i64 aN,.int .i64 aD] 27)).alloc (.cells #[.int .i64 bN,.int .i64 bD] 27)).alloc (.cells #[.int .i64 0,.int .i64 0] 27))=V1 at *
 obtain⟨px0,px1,px2,px3,px4⟩:=id X;obtain⟨py0,py1,py2,py3,py4⟩:=id Y;obtain⟨pz0,pz1,pz2,pz3,pz4⟩:=id Z
 go_wp2_with (first | (go_at_call_of 28 (Value.agg #[.int .i64 aN,.int .i64 aD]);(with_reducible refine (r1 _).mono ?_);rintro _ W1 ⟨rfl,hb1⟩;replace X:=X.keep hb1;replace Y:=Y.keep hb1;replace Z:=Z.keep hb1;replace HB:=later HB hb1;clear hb1;obtain⟨p1x0,p1x1,p1x2,p1x3,p1x4⟩:=id X;obtain⟨p1y0,p1y1,p1y2,p1y3,p1y4⟩:=id Y;obtain⟨p1z0,p1z1,p1z2,p1z3,p1z4⟩:=id Z) | (go_at_call_of 28 (Value.agg #[.int .i64 bN,.int .i64 bD]);(with_reducible refine (r2 _).mono ?_);rintro _ W2 ⟨rfl,hb1⟩;replace X:=X.keep hb1;replace Y:=Y.keep hb1;replace Z:=Z.keep hb1;replace HB:=later HB hb1;clear hb1;obtain⟨p2x0,p2x1,p2x2,p2x3,p2x4⟩:=id X;obtain⟨p2y0,p2y1,p2y2,p2y3,p2y4⟩:=id Y;obtain⟨p2z0,p2z1,p2z2,p2z3,p2z4⟩:=id Z) | (go_at_call 78;(with_reducible refine (c _).mono ?_);rintro _ W3 ⟨rfl,hb1⟩;replace X:=X.keep hb1;replace Y:=Y.keep hb1;replace Z:=Z.keep hb1;replace HB:=later HB hb1;clear hb1;obtain⟨p3x0,p3x1,p3x2,p3x3,p3x4⟩:=id X;obtain⟨p3y0,p3y1,p3y2,p3y3,p3y4⟩:=id Y;obtain⟨p3z0,p3z1,p3z2,p3z3,p3z4⟩:=id Z))
 refine bodyPost_ret (v:=.tuple #[.agg #[.int .i64 x,.int .i64 y],.int .i64 e]) (by simp [results,Try.results81,go_sem, *]) rfl ⟨rfl, ?_⟩;repeat' (first | (with_reducible exact HB) | (with_reducible refine Below.setCell ?_ ?_ _) | go_size)
set_option maxHeartbeats 2000000 in
theorem rDiv_bad (aN aD bN bD:Int) (b1 b2:Bool) (h:(b1&&b2)=false)
   (r1:∀W,Calls Try.prog 28 #[.agg #[.int .i64 aN,.int .i64 aD]] W fun r w'=>r=.returned (.bool b1)∧Below W.heap.size W w')
   (r2:∀W,Calls Try.prog 28 #[.agg #[.int .i64 bN,.int .i64 bD]] W fun r w'=>r=.returned (.bool b2)∧Below W.heap.size W w') (w:World) :
   Calls Try.prog 61 #[.agg #[.int .i64 aN,.int .i64 aD],.agg #[.int .i64 bN,.int .i64 bD]] w fun r w'=>r=.returned (.tuple #[.agg #[.int .i64 0,.int .i64 0],.int .i64 1])∧Below w.heap.size w w':=by
 have HB:Below w.heap.size w (((w.alloc (.cells #[.int .i64 aN,.int .i64 aD] 27)).alloc (.cells #[.int .i64 bN,.int .i64 bD] 27)).alloc (.cells #[.int .i64 0,.int .i64 0] 27)):=by go_grown
 have X:Has2 (((w.alloc (.cells #[.int .i64 aN,.int .i64 aD] 27)).alloc (.cells #[.int .i64 bN,.int .i64 bD] 27)).alloc (.cells #[.int .i64 0,.int .i64 0] 27)) w.heap.size (.int .i64 aN) (.int .i64 aD):=⟨by go_simp,by go_simp,by go_simp,by go_simp,by go_size⟩
 have Y:Has2 (((w.alloc (.cells #[.int .i64 aN,.int .i64 aD] 27)).alloc (.cells #[.int .i64 bN,.int .i64 bD] 27)).alloc (.cells #[.int .i64 0,.int .i64 0] 27)) (w.heap.size+1) (.int .i64 bN) (.int .i64 bD):=⟨by go_simp,by go_simp,by go_simp,by go_simp,by go_size⟩
 have Z:Has2 (((w.alloc (.cells #[.int .i64 aN,.int .i64 aD] 27)).alloc (.cells #[.int .i64 bN,.int .i64 bD] 27)).alloc (.cells #[.int .i64 0,.int .i64 0] 27)) (w.heap.size+1+1) (.int .i64 0) (.int .i64 0):=⟨by go_simp,by go_simp,by go_simp,by go_simp,by go_size⟩
 go_enter Try.func61,Try.ntmps61
 go_upto_region 1 with fail
 generalize (((w.alloc (.cells #[.int .i64 aN,.int .i64 aD] 27)).alloc (.cells #[.int .i64 bN,.int .i64 bD] 27)).alloc (.cells #[.int .i64 0,.int .i64 0] 27))=V1 at *
 obtain⟨px0,px1,px2,px3,px4⟩:=id X;obtain⟨py0,py1,py2,py3,py4⟩:=id Y;obtain⟨pz0,pz1,pz2,pz3,pz4⟩:=id Z
 cases b1
 · go_wp2_with (go_at_call_of 28 (Value.agg #[.int .i64 aN,.int .i64 aD]);(with_reducible refine (r1 _).mono ?_);rintro _ W1 ⟨rfl,hb1⟩;replace X:=X.keep hb1;replace Y:=Y.keep hb1;replace Z:=Z.keep hb1;replace HB:=later HB hb1;clear hb1;obtain⟨p1x0,p1x1,p1x2,p1x3,p1x4⟩:=id X;obtain⟨p1y0,p1y1,p1y2,p1y3,p1y4⟩:=id Y;obtain⟨p1z0,p1z1,p1z2,p1z3,p1z4⟩:=id Z)
   refine bodyPost_ret (v:=.tuple #[.agg #[.int .i64 0,.int .i64 0],.int .i64 1]) (by simp [results,Try.results61,go_sem, *]) rfl ⟨rfl, ?_⟩;repeat' (first | (with_reducible exact HB) | (with_reducible refine Below.setCell ?_ ?_ _) | go_size)
 · cases b2
   · go_wp2_with (first | (go_at_call_of 28 (Value.agg #[.int .i64 aN,.int .i64 aD]);(with_reducible refine (r1 _).mono ?_);rintro _ W1 ⟨rfl,hb1⟩;replace X:=X.keep hb1;replace Y:=Y.keep hb1;replace Z:=Z.keep hb1;replace HB:=later HB hb1;clear hb1;obtain⟨p1x0,p1x1,p1x2,p1x3,p1x4⟩:=id X;obtain⟨p1y0,p1y1,p1y2,p1y3,p1y4⟩:=id Y;obtain⟨p1z0,p1z1,p1z2,p1z3,p1z4⟩:=id Z) | (go_at_call_of 28 (Value.agg #[.int .i64 bN,.int .i64 bD]);(with_reducible refine (r2 _).mono ?_);rintro _ W2 ⟨rfl,hb1⟩;replace X:=X.keep hb1;replace Y:=Y.keep hb1;replace Z:=Z.keep hb1;replace HB:=later HB hb1;clear hb1;obtain⟨p2x0,p2x1,p2x2,p2x3,p2x4⟩:=id X;obtain⟨p2y0,p2y1,p2y2,p2y3,p2y4⟩:=id Y;obtain⟨p2z0,p2z1,p2z2,p2z3,p2z4⟩:=id Z))
     refine bodyPost_ret (v:=.tuple #[.agg #[.int .i64 0,.int .i64 0],.int .i64 1]) (by simp [results,Try.results61,go_sem, *]) rfl ⟨rfl, ?_⟩;repeat' (first | (with_reducible exact HB) | (with_reducible refine Below.setCell ?_ ?_ _) | go_size)
   · cases h
set_option maxHeartbeats 2000000 in
theorem rDiv_zero (aN aD bD:Int)
   (r1:∀W,Calls Try.prog 28 #[.agg #[.int .i64 aN,.int .i64 aD]] W fun r w'=>r=.returned (.bool true)∧Below W.heap.size W w')
   (r2:∀W,Calls Try.prog 28 #[.agg #[.int .i64 0,.int .i64 bD]] W fun r w'=>r=.returned (.bool true)∧Below W.heap.size W w') (w:World) :
   Calls Try.prog 61 #[.agg #[.int .i64 aN,.int .i64 aD],.agg #[.int .i64 0,.int .i64 bD]] w fun r w'=>r=.returned (.tuple #[.agg #[.int .i64 0,.int .i64 0],.int .i64 6])∧Below w.heap.size w w':=by
 have HB:Below w.heap.size w (((w.alloc (.cells #[.int .i64 aN,.int .i64 aD] 27)).alloc (.cells #[.int .i64 0,.int .i64 bD] 27)).alloc (.cells #[.int .i64 0,.int .i64 0] 27)):=by go_grown
 have X:Has2 (((w.alloc (.cells #[.int .i64 aN,.int .i64 aD] 27)).alloc (.cells #[.int .i64 0,.int .i64 bD] 27)).alloc (.cells #[.int .i64 0,.int .i64 0] 27)) w.heap.size (.int .i64 aN) (.int .i64 aD):=⟨by go_simp,by go_simp,by go_simp,by go_simp,by go_size⟩
 have Y:Has2 (((w.alloc (.cells #[.int .i64 aN,.int .i64 aD] 27)).alloc (.cells #[.int .i64 0,.int .i64 bD] 27)).alloc (.cells #[.int .i64 0,.int .i64 0] 27)) (w.heap.size+1) (.int .i64 0) (.int .i64 bD):=⟨by go_simp,by go_simp,by go_simp,by go_simp,by go_size⟩
 have Z:Has2 (((w.alloc (.cells #[.int .i64 aN,.int .i64 aD] 27)).alloc (.cells #[.int .i64 0,.int .i64 bD] 27)).alloc (.cells #[.int .i64 0,.int .i64 0] 27)) (w.heap.size+1+1) (.int .i64 0) (.int .i64 0):=⟨by go_simp,by go_simp,by go_simp,by go_simp,by go_size⟩
 go_enter Try.func61,Try.ntmps61
 go_upto_region 1 with fail
 generalize (((w.alloc (.cells #[.int .i64 aN,.int .i64 aD] 27)).alloc (.cells #[.int .i64 0,.int .i64 bD] 27)).alloc (.cells #[.int .i64 0,.int .i64 0] 27))=V1 at *
 obtain⟨px0,px1,px2,px3,px4⟩:=id X;obtain⟨py0,py1,py2,py3,py4⟩:=id Y;obtain⟨pz0,pz1,pz2,pz3,pz4⟩:=id Z
 go_upto_region 3 with (first | (go_at_call_of 28 (Value.agg #[.int .i64 aN,.int .i64 aD]);(with_reducible refine (r1 _).mono ?_);rintro _ W1 ⟨rfl,hb1⟩;replace X:=X.keep hb1;replace Y:=Y.keep hb1;replace Z:=Z.keep hb1;replace HB:=later HB hb1;clear hb1;obtain⟨p1x0,p1x1,p1x2,p1x3,p1x4⟩:=id X;obtain⟨p1y0,p1y1,p1y2,p1y3,p1y4⟩:=id Y;obtain⟨p1z0,p1z1,p1z2,p1z3,p1z4⟩:=id Z) | (go_at_call_of 28 (Value.agg #[.int .i64 0,.int .i64 bD]);(with_reducible refine (r2 _).mono ?_);rintro _ W2 ⟨rfl,hb1⟩;replace X:=X.keep hb1;replace Y:=Y.keep hb1;replace Z:=Z.keep hb1;replace HB:=later HB hb1;clear hb1;obtain⟨p2x0,p2x1,p2x2,p2x3,p2x4⟩:=id X;obtain⟨p2y0,p2y1,p2y2,p2y3,p2y4⟩:=id Y;obtain⟨p2z0,p2z1,p2z2,p2z3,p2z4⟩:=id Z))
 go_wp2_with fail
 refine bodyPost_ret (v:=.tuple #[.agg #[.int .i64 0,.int .i64 0],.int .i64 6]) (by simp [results,Try.results61,go_sem, *]) rfl ⟨rfl, ?_⟩;repeat' (first | (with_reducible exact HB) | (with_reducible refine Below.setCell ?_ ?_ _) | go_size)
set_option maxHeartbeats 2000000 in
theorem rDiv_good (aN aD bN bD x y e tN tD:Int) (hz:(bN==0)=false)
   (r1:∀W,Calls Try.prog 28 #[.agg #[.int .i64 aN,.int .i64 aD]] W fun r w'=>r=.returned (.bool true)∧Below W.heap.size W w')
   (r2:∀W,Calls Try.prog 28 #[.agg #[.int .i64 bN,.int .i64 bD]] W fun r w'=>r=.returned (.bool true)∧Below W.heap.size W w')
   (ct:∀W,Calls Try.prog 79 #[.agg #[.int .i64 bN,.int .i64 bD]] W fun r w'=>r=.returned (.agg #[.int .i64 tN,.int .i64 tD])∧Below W.heap.size W w')
   (c:∀W,Calls Try.prog 78 #[.agg #[.int .i64 aN,.int .i64 aD],.agg #[.int .i64 tN,.int .i64 tD]] W fun r w'=>r=.returned (.tuple #[.agg #[.int .i64 x,.int .i64 y],.int .i64 e])∧Below W.heap.size W w') (w:World) :
   Calls Try.prog 61 #[.agg #[.int .i64 aN,.int .i64 aD],.agg #[.int .i64 bN,.int .i64 bD]] w fun r w'=>r=.returned (.tuple #[.agg #[.int .i64 x,.int .i64 y],.int .i64 e])∧Below w.heap.size w w':=by
 have HB:Below w.heap.size w (((w.alloc (.cells #[.int .i64 aN,.int .i64 aD] 27)).alloc (.cells #[.int .i64 bN,.int .i64 bD] 27)).alloc (.cells #[.int .i64 0,.int .i64 0] 27)):=by go_grown
 have X:Has2 (((w.alloc (.cells #[.int .i64 aN,.int .i64 aD] 27)).alloc (.cells #[.int .i64 bN,.int .i64 bD] 27)).alloc (.cells #[.int .i64 0,.int .i64 0] 27)) w.heap.size (.int .i64 aN) (.int .i64 aD):=⟨by go_simp,by go_simp,by go_simp,by go_simp,by go_size⟩
 have Y:Has2 (((w.alloc (.cells #[.int .i64 aN,.int .i64 aD] 27)).alloc (.cells #[.int .i64 bN,.int .i64 bD] 27)).alloc (.cells #[.int .i64 0,.int .i64 0] 27)) (w.heap.size+1) (.int .i64 bN) (.int .i64 bD):=⟨by go_simp,by go_simp,by go_simp,by go_simp,by go_size⟩
 have Z:Has2 (((w.alloc (.cells #[.int .i64 aN,.int .i64 aD] 27)).alloc (.cells #[.int .i64 bN,.int .i64 bD] 27)).alloc (.cells #[.int .i64 0,.int .i64 0] 27)) (w.heap.size+1+1) (.int .i64 0) (.int .i64 0):=⟨by go_simp,by go_simp,by go_simp,by go_simp,by go_size⟩
 go_enter Try.func61,Try.ntmps61
 go_upto_region 1 with fail
 generalize (((w.alloc (.cells #[.int .i64 aN,.int .i64 aD] 27)).alloc (.cells #[.int .i64 bN,.int .i64 bD] 27)).alloc (.cells #[.int .i64 0,.int .i64 0] 27))=V1 at *
 obtain⟨px0,px1,px2,px3,px4⟩:=id X;obtain⟨py0,py1,py2,py3,py4⟩:=id Y;obtain⟨pz0,pz1,pz2,pz3,pz4⟩:=id Z
 go_upto_region 5 with (first | (go_at_call_of 28 (Value.agg #[.int .i64 aN,.int .i64 aD]);(with_reducible refine (r1 _).mono ?_);rintro _ W1 ⟨rfl,hb1⟩;replace X:=X.keep hb1;replace Y:=Y.keep hb1;replace Z:=Z.keep hb1;replace HB:=later HB hb1;clear hb1;obtain⟨p1x0,p1x1,p1x2,p1x3,p1x4⟩:=id X;obtain⟨p1y0,p1y1,p1y2,p1y3,p1y4⟩:=id Y;obtain⟨p1z0,p1z1,p1z2,p1z3,p1z4⟩:=id Z) | (go_at_call_of 28 (Value.agg #[.int .i64 bN,.int .i64 bD]);(with_reducible refine (r2 _).mono ?_);rintro _ W2 ⟨rfl,hb1⟩;replace X:=X.keep hb1;replace Y:=Y.keep hb1;replace Z:=Z.keep hb1;replace HB:=later HB hb1;clear hb1;obtain⟨p2x0,p2x1,p2x2,p2x3,p2x4⟩:=id X;obtain⟨p2y0,p2y1,p2y2,p2y3,p2y4⟩:=id Y;obtain⟨p2z0,p2z1,p2z2,p2z3,p2z4⟩:=id Z))
 clear px0 px1 px2 px3 px4 py0 py1 py2 py3 py4 pz0 pz1 pz2 pz3 pz4 p1x0 p1x1 p1x2 p1x3 p1x4 p1y0 p1y1 p1y2 p1y3 p1y4 p1z0 p1z1 p1z2 p1z3 p1z4 p2x0 p2x1 p2x2 p2x3 p2x4 p2y0 p2y1 p2y2 p2y3 p2y4 p2z0 p2z1 p2z2 p2z3 p2z4
 have kX0:=fun n:Behind W2=>n.cell X.1 X.2.2.2.2
 have kX1:=fun n:Behind W2=>n.cell X.2.1 X.2.2.2.2
 have kY0:=fun n:Behind W2=>n.cell Y.1 Y.2.2.2.2
 have kY1:=fun n:Behind W2=>n.cell Y.2.1 Y.2.2.2.2
 refine tail_behind 6 (by kernel_rfl) (by kernel_rfl) ?_
 simp only [List.take_succ_cons,List.take_zero,List.drop_succ_cons,List.drop_zero]
 repeat (go_big_quiet_step (first | (go_at_call 79;with_reducible refine Behind.call (ct _)) | (go_at_call 78;with_reducible refine Behind.call (c _))))
 refine wpQuiet_nil ?_
 rintro _ ⟨m',rfl⟩
 obtain⟨V3,hb1⟩:=m'
 dsimp only
 clear kX0 kX1 kY0 kY1
 replace Z:=Z.keep hb1
 replace HB:=later HB hb1
 clear hb1
 obtain⟨z0,z1,z2,z3,z4⟩:=id Z
 go_wp2_with fail
 refine bodyPost_ret (v:=.tuple #[.agg #[.int .i64 x,.int .i64 y],.int .i64 e]) (by simp [results,Try.results61,go_sem, *]) rfl ⟨rfl, ?_⟩;repeat' (first | (with_reducible exact HB) | (with_reducible refine Below.setCell ?_ ?_ _) | go_size)
theorem addRat_w (aN aD bN bD:Int) (ha:I64 aN∧I64 aD) (hb:I64 bN∧I64 bD) (w:World) :
   Calls Try.prog 80 #[.agg #[.int .i64 aN,.int .i64 aD],.agg #[.int .i64 bN,.int .i64 bD]] w fun r w'=>r=.returned (.tuple #[.agg #[.int .i64 (addV11 aN aD bN bD).1,.int .i64 (addV11 aN aD bN bD).2.1],.int .i64 (addV11 aN aD bN bD).2.2])∧Below w.heap.size w w':=by
 have r1:=fun W=>rright_w11 aN aD ha.1 ha.2 W
 have r2:=fun W=>rright_w11 bN bD hb.1 hb.2 W
 by_cases c:(rightR aN aD&&rightR bN bD)=true
 · have e:addV11 aN aD bN bD=ofV (decide (aN*bD+bN*aD<0)) (aN*bD+bN*aD).natAbs (aD.natAbs*bD.natAbs):=by unfold addV11;rw [if_pos c]
   rw [e]
   obtain⟨q1,q2⟩:=Bool.and_eq_true_iff.1 c
   rw [q1] at r1
   rw [q2] at r2
   exact rAdd_good aN aD bN bD _ _ _ r1 r2 (fun W=>rsum_w aN aD bN bD ha hb (rightR_G q1) (rightR_G q2) (rightR_D q1) (rightR_D q2) (rightR_N q1) (rightR_N q2) W) w
 · have e:addV11 aN aD bN bD=(0,0,1):=by unfold addV11;rw [if_neg c]
   rw [e]
   exact rAdd_bad aN aD bN bD _ _ (by simpa using c) r1 r2 w
theorem subRat_w (aN aD bN bD:Int) (ha:I64 aN∧I64 aD) (hb:I64 bN∧I64 bD) (w:World) :
   Calls Try.prog 59 #[.agg #[.int .i64 aN,.int .i64 aD],.agg #[.int .i64 bN,.int .i64 bD]] w fun r w'=>r=.returned (.tuple #[.agg #[.int .i64 (subV11 aN aD bN bD).1,.int .i64 (subV11 aN aD bN bD).2.1],.int .i64 (subV11 aN aD bN bD).2.2])∧Below w.heap.size w w':=by
 have r1:=fun W=>rright_w11 aN aD ha.1 ha.2 W
 have r2:=fun W=>rright_w11 bN bD hb.1 hb.2 W
 by_cases c:(rightR aN aD&&rightR bN bD)=true
 · obtain⟨q1,q2⟩:=Bool.and_eq_true_iff.1 c
   have n2:=rightR_neg q2 hb.1
   have nb:=rightR_N q2
   have hb':I64 (-bN):=⟨by have:=hb.1.2;omega,by have:=hb.1.1;omega⟩
   have e:subV11 aN aD bN bD=ofV (decide (aN*bD+-bN*aD<0)) (aN*bD+-bN*aD).natAbs (aD.natAbs*bD.natAbs):=by unfold subV11;rw [if_pos q2];unfold addV11;rw [q1,n2];rfl
   rw [e]
   rw [q1] at r1
   rw [q2] at r2
   exact rSub_good aN aD bN bD _ _ _ (-bN) (by rw [IntKind.wrap_i64];have:=hb'.1;have:=hb'.2;omega) r1 r2 (fun W=>rsum_w aN aD (-bN) bD ha ⟨hb',hb.2⟩ (rightR_G q1) (rightR_G n2) (rightR_D q1) (rightR_D q2) (rightR_N q1) (rightR_N n2) W) w
 · have e:subV11 aN aD bN bD=(0,0,1):=by
     unfold subV11
     by_cases q2:rightR bN bD=true
     · have q1:rightR aN aD=false:=by
         cases h:rightR aN aD
         · rfl
         · rw [h,q2] at c;exact absurd rfl c
       rw [if_pos q2]
       unfold addV11
       rw [q1]
       rfl
     · rw [if_neg q2]
   rw [e]
   exact rSub_bad aN aD bN bD _ _ (by simpa using c) r1 r2 w
theorem mulRat_w (aN aD bN bD:Int) (ha:I64 aN∧I64 aD) (hb:I64 bN∧I64 bD) (w:World) :
   Calls Try.prog 81 #[.agg #[.int .i64 aN,.int .i64 aD],.agg #[.int .i64 bN,.int .i64 bD]] w fun r w'=>r=.returned (.tuple #[.agg #[.int .i64 (mulV11 aN aD bN bD).1,.int .i64 (mulV11 aN aD bN bD).2.1],.int .i64 (mulV11 aN aD bN bD).2.2])∧Below w.heap.size w w':=by
 have r1:=fun W=>rright_w11 aN aD ha.1 ha.2 W
 have r2:=fun W=>rright_w11 bN bD hb.1 hb.2 W
 by_cases c:(rightR aN aD&&rightR bN bD)=true
 · have e:mulV11 aN aD bN bD=ofV (!(decide (aN<0)==decide (bN<0))) (aN.natAbs*bN.natAbs) (aD.natAbs*bD.natAbs):=by unfold mulV11;rw [if_pos c]
   rw [e]
   obtain⟨q1,q2⟩:=Bool.and_eq_true_iff.1 c
   rw [q1] at r1
   rw [q2] at r2
   exact rMul_good aN aD bN bD _ _ _ r1 r2 (fun W=>times_w aN aD bN bD ha hb (rightR_G q1) (rightR_G q2) (rightR_D q1) (rightR_D q2) (rightR_N q1) (rightR_N q2) W) w
 · have e:mulV11 aN aD bN bD=(0,0,1):=by unfold mulV11;rw [if_neg c]
   rw [e]
   exact rMul_bad aN aD bN bD _ _ (by simpa using c) r1 r2 w
theorem divRat_w (aN aD bN bD:Int) (ha:I64 aN∧I64 aD) (hb:I64 bN∧I64 bD) (w:World) :
   Calls Try.prog 61 #[.agg #[.int .i64 aN,.int .i64 aD],.agg #[.int .i64 bN,.int .i64 bD]] w fun r w'=>r=.returned (.tuple #[.agg #[.int .i64 (divV11 aN aD bN bD).1,.int .i64 (divV11 aN aD bN bD).2.1],.int .i64 (divV11 aN aD bN bD).2.2])∧Below w.heap.size w w':=by
 have r1:=fun W=>rright_w11 aN aD ha.1 ha.2 W
 have r2:=fun W=>rright_w11 bN bD hb.1 hb.2 W
 by_cases c:(rightR aN aD&&rightR bN bD)=true
 · obtain⟨q1,q2⟩:=Bool.and_eq_true_iff.1 c
   have d2:=rightR_D q2
   have n2:=rightR_N q2
   rw [q1] at r1
   rw [q2] at r2
   by_cases z:bN=0
   · subst z
     have e:divV11 aN aD 0 bD=(0,0,6):=by unfold divV11;rw [if_pos c,if_pos rfl]
     rw [e]
     exact rDiv_zero aN aD bD r1 r2 w
   · have e:divV11 aN aD bN bD=ofV (!(decide (aN<0)==decide (bN<0))) (aN.natAbs*bD.natAbs) (aD.natAbs*bN.natAbs):=by unfold divV11;rw [if_pos c,if_neg z]
     rw [e]
     obtain⟨⟨b1,b2⟩,b3,b4⟩:=hb
     have G2:=rightR_G q2
     have t1:(tuR bN bD).1.natAbs=bD.natAbs:=by unfold tuR;split <;> simp
     have t2:(tuR bN bD).2.natAbs=bN.natAbs:=by unfold tuR;split <;> simp
     have t3:decide ((tuR bN bD).1<0)=decide (bN<0):=by
       unfold tuR
       by_cases k:bN<0
       · rw [if_pos k,decide_eq_true k,decide_eq_true]
         show -bD<0
         omega
       · rw [if_neg k,decide_eq_false k,decide_eq_false]
         show ¬bD<0
         omega
     have t4:1≤(tuR bN bD).2:=by unfold tuR;split <;> simp <;> omega
     have t5:I64 (tuR bN bD).1∧I64 (tuR bN bD).2∧(tuR bN bD).1≠-9223372036854775808:=by
       unfold tuR I64
       split <;> simp <;> omega
     have ct:=fun W=>turned_w bN bD ⟨by omega,by omega⟩ ⟨by omega,by omega⟩ W
     rw [←t1,←t2,←t3]
     generalize (tuR bN bD).1=tN at *
     generalize (tuR bN bD).2=tD at *
     exact rDiv_good aN aD bN bD _ _ _ tN tD (by simpa using z) r1 r2 ct (fun W=>times_w aN aD tN tD ha ⟨t5.1,t5.2.1⟩ (rightR_G q1) (by rw [t1,t2,Nat.gcd_comm];exact G2) (rightR_D q1) t4 (rightR_N q1) t5.2.2 W) w
 · have e:divV11 aN aD bN bD=(0,0,1):=by unfold divV11;rw [if_neg c]
   rw [e]
   exact rDiv_bad aN aD bN bD _ _ (by simpa using c) r1 r2 w
def stopP (e:Int):List PanicEntry:=[{ v:=.iface 74 (.agg #[.int .i64 e]),recovered:=false }]
theorem must_ok (n d:Int) (w:World) :
   Calls Try.prog 58 #[.agg #[.int .i64 n,.int .i64 d],.int .i64 0] w fun r w'=>r=.returned (.agg #[.int .i64 n,.int .i64 d])∧Below w.heap.size w w':=by
 go_enter Try.func58,Try.ntmps58
 go_wp2_with fail
 refine bodyPost_ret (v:=.agg #[.int .i64 n,.int .i64 d]) (by simp [results,Try.results58,go_sem, *]) rfl ⟨rfl, ?_⟩
 repeat' (first | go_grown | (with_reducible refine Below.setCell ?_ ?_ _) | go_size)
theorem must_no (n d e:Int) (he:(e != 0)=true) (w:World) :
   Calls Try.prog 58 #[.agg #[.int .i64 n,.int .i64 d],.int .i64 e] w fun r w'=>r=.panicked (stopP e)∧Below w.heap.size w w':=by
 go_enter Try.func58,Try.ntmps58
 go_wp2_with fail
 exact⟨rfl,rfl,by go_grown⟩
def tmE (A B:Nat→Int×Int) (pN pD:Int) (i:Nat):Int×Int×Int :=
 if (mulV11 (B i).1 (B i).2 pN pD).2.2=0 then addV11 (A i).1 (A i).2 (mulV11 (B i).1 (B i).2 pN pD).1 (mulV11 (B i).1 (B i).2 pN pD).2.1 else (0,0,(mulV11 (B i).1 (B i).2 pN pD).2.2)
def tmF (A B:Nat→Int×Int) (pN pD:Int):Nat→Int
 | 0=>0
 | k+1=>if tmF A B pN pD k=0 then (tmE A B pN pD k).2.2 else tmF A B pN pD k
def tmD (A B:Nat→Int×Int) (pN pD:Int) (k:Nat):Nat→Int×Int:=fun i=>if i<k then ((tmE A B pN pD i).1,(tmE A B pN pD i).2.1) else A i
theorem tmF_stays {A B:Nat→Int×Int} {pN pD:Int} {k:Nat} (h:tmF A B pN pD k≠0):∀n,k≤n→tmF A B pN pD n=tmF A B pN pD k
 | 0,hn=>by rw [show k=0 by omega]
 | n+1,hn=>by
   by_cases c:k=n+1
   · rw [c]
   · have:=tmF_stays h n (by omega)
     rw [tmF,if_neg (by rw [this];exact h),this]
theorem tmD_put {A B:Nat→Int×Int} {pN pD:Int} {k:Nat} {x y e:Int} (h:tmE A B pN pD k=(x,y,e)):putE (tmD A B pN pD k) k (x,y)=tmD A B pN pD (k+1):=by
 funext i
 unfold putE tmD
 by_cases c:i=k
 · subst c;rw [if_pos rfl,if_pos (by omega),h]
 · rw [if_neg c]
   by_cases d:i<k
   · rw [if_pos d,if_pos (by omega)]
   · rw [if_neg d,if_neg (by omega)]
set_option maxHeartbeats 4000000 in
set_option maxRecDepth 4000 in
theorem utimes_w (A B:Nat→Int×Int) (pN pD:Int) (hA:Dim64 A) (hB:Dim64 B) (hp:I64 pN∧I64 pD) (rA:drK A 7=true) (rB:drK B 7=true) (rp:rightR pN pD=true) (w:World) :
   Calls Try.prog 62 #[dimV A,dimV B,.agg #[.int .i64 pN,.int .i64 pD]] w fun r w'=>(r=if tmF A B pN pD 7=0 then .returned (dimV (tmD A B pN pD 7)) else .panicked (stopP (tmF A B pN pD 7)))∧Below w.heap.size w w':=by
 obtain⟨R,hR⟩:∃R,Hid ((if tmF A B pN pD 7=0 then Ending.returned (dimV (tmD A B pN pD 7)) else .panicked (stopP (tmF A B pN pD 7)))=R):=⟨_,rfl⟩
 rw [hR.out]
 unfold dimV
 have X0:HasDm (w.alloc (.cells #[.int .i64 (A 0).1,.int .i64 (A 0).2,.int .i64 (A 1).1,.int .i64 (A 1).2,.int .i64 (A 2).1,.int .i64 (A 2).2,.int .i64 (A 3).1,.int .i64 (A 3).2,.int .i64 (A 4).1,.int .i64 (A 4).2,.int .i64 (A 5).1,.int .i64 (A 5).2,.int .i64 (A 6).1,.int .i64 (A 6).2] 30)) w.heap.size A:=dim_new w A 30
 have X:HasDm ((((w.alloc (.cells #[.int .i64 (A 0).1,.int .i64 (A 0).2,.int .i64 (A 1).1,.int .i64 (A 1).2,.int .i64 (A 2).1,.int .i64 (A 2).2,.int .i64 (A 3).1,.int .i64 (A 3).2,.int .i64 (A 4).1,.int .i64 (A 4).2,.int .i64 (A 5).1,.int .i64 (A 5).2,.int .i64 (A 6).1,.int .i64 (A 6).2] 30)).alloc (.cells #[.int .i64 (B 0).1,.int .i64 (B 0).2,.int .i64 (B 1).1,.int .i64 (B 1).2,.int .i64 (B 2).1,.int .i64 (B 2).2,.int .i64 (B 3).1,.int .i64 (B 3).2,.int .i64 (B 4).1,.int .i64 (B 4).2,.int .i64 (B 5).1,.int .i64 (B 5).2,.int .i64 (B 6).1,.int .i64 (B 6).2] 30)).alloc (.cells #[.int .i64 pN,.int .i64 pD] 27)).alloc (.cells #[.int .i64 0,.int .i64 0,.int .i64 0,.int .i64 0,.int .i64 0,.int .i64 0,.int .i64 0,.int .i64 0,.int .i64 0,.int .i64 0,.int .i64 0,.int .i64 0,.int .i64 0,.int .i64 0] 30)) w.heap.size A:=X0.keep (by repeat' (first | (with_reducible exact Below.refl _ _) | (with_reducible refine Below.alloc ?_ ?_ _) | go_size))
 have Y:HasDm ((((w.alloc (.cells #[.int .i64 (A 0).1,.int .i64 (A 0).2,.int .i64 (A 1).1,.int .i64 (A 1).2,.int .i64 (A 2).1,.int .i64 (A 2).2,.int .i64 (A 3).1,.int .i64 (A 3).2,.int .i64 (A 4).1,.int .i64 (A 4).2,.int .i64 (A 5).1,.int .i64 (A 5).2,.int .i64 (A 6).1,.int .i64 (A 6).2] 30)).alloc (.cells #[.int .i64 (B 0).1,.int .i64 (B 0).2,.int .i64 (B 1).1,.int .i64 (B 1).2,.int .i64 (B 2).1,.int .i64 (B 2).2,.int .i64 (B 3).1,.int .i64 (B 3).2,.int .i64 (B 4).1,.int .i64 (B 4).2,.int .i64 (B 5).1,.int .i64 (B 5).2,.int .i64 (B 6).1,.int .i64 (B 6).2] 30)).alloc (.cells #[.int .i64 pN,.int .i64 pD] 27)).alloc (.cells #[.int .i64 0,.int .i64 0,.int .i64 0,.int .i64 0,.int .i64 0,.int .i64 0,.int .i64 0,.int .i64 0,.int .i64 0,.int .i64 0,.int .i64 0,.int .i64 0,.int .i64 0,.int .i64 0] 30)) (w.heap.size+1) B:=by
   have this:HasDm ((w.alloc (.cells #[.int .i64 (A 0).1,.int .i64 (A 0).2,.int .i64 (A 1).1,.int .i64 (A 1).2,.int .i64 (A 2).1,.int .i64 (A 2).2,.int .i64 (A 3).1,.int .i64 (A 3).2,.int .i64 (A 4).1,.int .i64 (A 4).2,.int .i64 (A 5).1,.int .i64 (A 5).2,.int .i64 (A 6).1,.int .i64 (A 6).2] 30)).alloc (.cells #[.int .i64 (B 0).1,.int .i64 (B 0).2,.int .i64 (B 1).1,.int .i64 (B 1).2,.int .i64 (B 2).1,.int .i64 (B 2).2,.int .i64 (B 3).1,.int .i64 (B 3).2,.int .i64 (B 4).1,.int .i64 (B 4).2,.int .i64 (B 5).1,.int .i64 (B 5).2,.int .i64 (B 6).1,.int .i64 (B 6).2] 30)) (w.alloc (.cells #[.int .i64 (A 0).1,.int .i64 (A 0).2,.int .i64 (A 1).1,.int .i64 (A 1).2,.int .i64 (A 2).1,.int .i64 (A 2).2,.int .i64 (A 3).1,.int .i64 (A 3).2,.int .i64 (A 4).1,.int .i64 (A 4).2,.int .i64 (A 5).1,.int .i64 (A 5).2,.int .i64 (A 6).1,.int .i64 (A 6).2] 30)).heap.size B:=dim_new (w.alloc (.cells #[.int .i64 (A 0).1,.int .i64 (A 0).2,.int .i64 (A 1).1,.int .i64 (A 1).2,.int .i64 (A 2).1,.int .i64 (A 2).2,.int .i64 (A 3).1,.int .i64 (A 3).2,.int .i64 (A 4).1,.int .i64 (A 4).2,.int .i64 (A 5).1,.int .i64 (A 5).2,.int .i64 (A 6).1,.int .i64 (A 6).2] 30)) B 30
   rw [World.size_alloc] at this
   exact this.keep (by repeat' (first | (with_reducible exact Below.refl _ _) | (with_reducible refine Below.alloc ?_ ?_ _) | go_size))
 have Z:Has2 ((((w.alloc (.cells #[.int .i64 (A 0).1,.int .i64 (A 0).2,.int .i64 (A 1).1,.int .i64 (A 1).2,.int .i64 (A 2).1,.int .i64 (A 2).2,.int .i64 (A 3).1,.int .i64 (A 3).2,.int .i64 (A 4).1,.int .i64 (A 4).2,.int .i64 (A 5).1,.int .i64 (A 5).2,.int .i64 (A 6).1,.int .i64 (A 6).2] 30)).alloc (.cells #[.int .i64 (B 0).1,.int .i64 (B 0).2,.int .i64 (B 1).1,.int .i64 (B 1).2,.int .i64 (B 2).1,.int .i64 (B 2).2,.int .i64 (B 3).1,.int .i64 (B 3).2,.int .i64 (B 4).1,.int .i64 (B 4).2,.int .i64 (B 5).1,.int .i64 (B 5).2,.int .i64 (B 6).1,.int .i64 (B 6).2] 30)).alloc (.cells #[.int .i64 pN,.int .i64 pD] 27)).alloc (.cells #[.int .i64 0,.int .i64 0,.int .i64 0,.int .i64 0,.int .i64 0,.int .i64 0,.int .i64 0,.int .i64 0,.int .i64 0,.int .i64 0,.int .i64 0,.int .i64 0,.int .i64 0,.int .i64 0] 30)) (w.heap.size+1+1) (.int .i64 pN) (.int .i64 pD):=⟨by go_simp,by go_simp,by go_simp,by go_simp,by go_size⟩
 have O:HasDm ((((w.alloc (.cells #[.int .i64 (A 0).1,.int .i64 (A 0).2,.int .i64 (A 1).1,.int .i64 (A 1).2,.int .i64 (A 2).1,.int .i64 (A 2).2,.int .i64 (A 3).1,.int .i64 (A 3).2,.int .i64 (A 4).1,.int .i64 (A 4).2,.int .i64 (A 5).1,.int .i64 (A 5).2,.int .i64 (A 6).1,.int .i64 (A 6).2] 30)).alloc (.cells #[.int .i64 (B 0).1,.int .i64 (B 0).2,.int .i64 (B 1).1,.int .i64 (B 1).2,.int .i64 (B 2).1,.int .i64 (B 2).2,.int .i64 (B 3).1,.int .i64 (B 3).2,.int .i64 (B 4).1,.int .i64 (B 4).2,.int .i64 (B 5).1,.int .i64 (B 5).2,.int .i64 (B 6).1,.int .i64 (B 6).2] 30)).alloc (.cells #[.int .i64 pN,.int .i64 pD] 27)).alloc (.cells #[.int .i64 0,.int .i64 0,.int .i64 0,.int .i64 0,.int .i64 0,.int .i64 0,.int .i64 0,.int .i64 0,.int .i64 0,.int .i64 0,.int .i64 0,.int .i64 0,.int .i64 0,.int .i64 0] 30)) (w.heap.size+1+1+1) zeE:=by
   have:=dim_new (((w.alloc (.cells #[.int .i64 (A 0).1,.int .i64 (A 0).2,.int .i64 (A 1).1,.int .i64 (A 1).2,.int .i64 (A 2).1,.int .i64 (A 2).2,.int .i64 (A 3).1,.int .i64 (A 3).2,.int .i64 (A 4).1,.int .i64 (A 4).2,.int .i64 (A 5).1,.int .i64 (A 5).2,.int .i64 (A 6).1,.int .i64 (A 6).2] 30)).alloc (.cells #[.int .i64 (B 0).1,.int .i64 (B 0).2,.int .i64 (B 1).1,.int .i64 (B 1).2,.int .i64 (B 2).1,.int .i64 (B 2).2,.int .i64 (B 3).1,.int .i64 (B 3).2,.int .i64 (B 4).1,.int .i64 (B 4).2,.int .i64 (B 5).1,.int .i64 (B 5).2,.int .i64 (B 6).1,.int .i64 (B 6).2] 30)).alloc (.cells #[.int .i64 pN,.int .i64 pD] 27)) zeE 30
   rw [World.size_alloc,World.size_alloc,World.size_alloc] at this
   exact this
 clear X0
 have HB:Below w.heap.size w ((((w.alloc (.cells #[.int .i64 (A 0).1,.int .i64 (A 0).2,.int .i64 (A 1).1,.int .i64 (A 1).2,.int .i64 (A 2).1,.int .i64 (A 2).2,.int .i64 (A 3).1,.int .i64 (A 3).2,.int .i64 (A 4).1,.int .i64 (A 4).2,.int .i64 (A 5).1,.int .i64 (A 5).2,.int .i64 (A 6).1,.int .i64 (A 6).2] 30)).alloc (.cells #[.int .i64 (B 0).1,.int .i64 (B 0).2,.int .i64 (B 1).1,.int .i64 (B 1).2,.int .i64 (B 2).1,.int .i64 (B 2).2,.int .i64 (B 3).1,.int .i64 (B 3).2,.int .i64 (B 4).1,.int .i64 (B 4).2,.int .i64 (B 5).1,.int .i64 (B 5).2,.int .i64 (B 6).1,.int .i64 (B 6).2] 30)).alloc (.cells #[.int .i64 pN,.int .i64 pD] 27)).alloc (.cells #[.int .i64 0,.int .i64 0,.int .i64 0,.int .i64 0,.int .i64 0,.int .i64 0,.int .i64 0,.int .i64 0,.int .i64 0,.int .i64 0,.int .i64 0,.int .i64 0,.int .i64 0,.int .i64 0] 30)):=by go_grown
 have hi:∀k:Nat,k<7→∀W:World,(Instr.index 28 (.agg #[.int .i64 (B 0).1,.int .i64 (B 0).2,.int .i64 (B 1).1,.int .i64 (B 1).2,.int .i64 (B 2).1,.int .i64 (B 2).2,.int .i64 (B 3).1,.int .i64 (B 3).2,.int .i64 (B 4).1,.int .i64 (B 4).2,.int .i64 (B 5).1,.int .i64 (B 5).2,.int .i64 (B 6).1,.int .i64 (B 6).2]) (.int .i64 (k:Int))).run Try.prog W=.ok (.agg #[.int .i64 (B k).1,.int .i64 (B k).2]) W:=fun k hk W=>run_index_dim B k hk W
 obtain⟨y0,y1,y2,y3,y4,y5,y6,y7,y8,y9,y10,y11,y12,y13⟩:=Y.cells
 go_enter Try.func62,Try.ntmps62
 go_upto_region 2 with fail
 generalize ((((w.alloc (.cells #[.int .i64 (A 0).1,.int .i64 (A 0).2,.int .i64 (A 1).1,.int .i64 (A 1).2,.int .i64 (A 2).1,.int .i64 (A 2).2,.int .i64 (A 3).1,.int .i64 (A 3).2,.int .i64 (A 4).1,.int .i64 (A 4).2,.int .i64 (A 5).1,.int .i64 (A 5).2,.int .i64 (A 6).1,.int .i64 (A 6).2] 30)).alloc (.cells #[.int .i64 (B 0).1,.int .i64 (B 0).2,.int .i64 (B 1).1,.int .i64 (B 1).2,.int .i64 (B 2).1,.int .i64 (B 2).2,.int .i64 (B 3).1,.int .i64 (B 3).2,.int .i64 (B 4).1,.int .i64 (B 4).2,.int .i64 (B 5).1,.int .i64 (B 5).2,.int .i64 (B 6).1,.int .i64 (B 6).2] 30)).alloc (.cells #[.int .i64 pN,.int .i64 pD] 27)).alloc (.cells #[.int .i64 0,.int .i64 0,.int .i64 0,.int .i64 0,.int .i64 0,.int .i64 0,.int .i64 0,.int .i64 0,.int .i64 0,.int .i64 0,.int .i64 0,.int .i64 0,.int .i64 0,.int .i64 0] 30))=V1 at *
 clear y0 y1 y2 y3 y4 y5 y6 y7 y8 y9 y10 y11 y12 y13 Y
 go_loopg [11] (7:Nat) (fun G s wx=>∃k:Nat,s=.int .i64 (k:Int)∧k≤7∧7≤k+G∧Below w.heap.size w wx∧HasDm wx w.heap.size (tmD A B pN pD k)∧Has2 wx (w.heap.size+1+1) (.int .i64 pN) (.int .i64 pD)∧HasDm wx (w.heap.size+1+1+1) zeE∧Hid (tmF A B pN pD k=0))
 case atStart=>exact⟨0,rfl,by omega,by omega,HB,X.congr (fun i _=>by unfold tmD;rw [if_neg (by omega)]),Z,O,rfl⟩
 case round =>
   clear X Z O HB
   obtain⟨k,rfl,hk,hG,HB,X,Z,O,HI⟩:=hrel
   by_cases c:k=7
   · subst c
     have e:Hid (Ending.returned (dimV (tmD A B pN pD 7))=R):=by have:=hR.out;rw [if_pos HI.out] at this;exact this
     clear hR HI
     obtain⟨x0,x1,x2,x3,x4,x5,x6,x7,x8,x9,x10,x11,x12,x13⟩:=X.cells
     obtain⟨y0,y1,y2,y3,y4,y5,y6,y7,y8,y9,y10,y11,y12,y13⟩:=O.cells
     obtain⟨f0,f1,f2,f3,f4,f5,f6,f7,f8,f9,f10,f11,f12,f13⟩:=O.froz
     go_wp2_with fail
     refine bodyPost_ret (v:=dimV (tmD A B pN pD 7)) (by simp [results,Try.results62,go_sem, *];rfl) rfl ⟨e.out, ?_⟩
     repeat' (first | (with_reducible exact HB) | (with_reducible refine Below.setCell ?_ ?_ _) | go_size)
   · have kl:(k:Int)<7:=by omega
     have kp:0≤(k:Int):=by omega
     have kn:k<7:=by omega
     have hik:=hi k kn
     have rBk:=drK_yes rB k kn
     have rAk:=drK_yes rA k kn
     have gA:tmD A B pN pD k k=A k:=by unfold tmD;rw [if_neg (by omega)]
     obtain⟨mN,mD,me,hm⟩:∃a b c,mulV11 (B k).1 (B k).2 pN pD=(a,b,c):=⟨_,_,_,rfl⟩
     have cm:=fun W=>mulRat_w (B k).1 (B k).2 pN pD (hB k kn) hp W
     rw [hm] at cm
     have X1:HasDm (wr.alloc (.cells #[.int .i64 (B k).1,.int .i64 (B k).2] 27)) w.heap.size (tmD A B pN pD k):=X.keep (Below.alloc (Below.refl _ _) (Nat.le_refl _) _)
     have Z1:Has2 (wr.alloc (.cells #[.int .i64 (B k).1,.int .i64 (B k).2] 27)) (w.heap.size+1+1) (.int .i64 pN) (.int .i64 pD):=Z.keep (Below.alloc (Below.refl _ _) (Nat.le_refl _) _)
     have O1:HasDm (wr.alloc (.cells #[.int .i64 (B k).1,.int .i64 (B k).2] 27)) (w.heap.size+1+1+1) zeE:=O.keep (Below.alloc (Below.refl _ _) (Nat.le_refl _) _)
     have I1:Has2 (wr.alloc (.cells #[.int .i64 (B k).1,.int .i64 (B k).2] 27)) wr.heap.size (.int .i64 (B k).1) (.int .i64 (B k).2):=has2_new wr _ _ _
     have HB1:Below w.heap.size w (wr.alloc (.cells #[.int .i64 (B k).1,.int .i64 (B k).2] 27)):=Below.alloc HB HB.size _
     go_upto_region 4 with fail
     generalize (wr.alloc (.cells #[.int .i64 (B k).1,.int .i64 (B k).2] 27))=V2 at *
     clear X Z O HB hi hik
     obtain⟨e,he⟩:∃e,e=tmE A B pN pD k:=⟨_,rfl⟩
     have a0:=X1.c0 k kn
     have a1:=X1.c1 k kn
     rw [gA] at a0 a1
     by_cases me0:me=0
     · subst me0
       obtain⟨rm, -,hmI⟩:=mulV11_ok rBk rp hm
       obtain⟨sN,sD,se,hs⟩:∃a b c,addV11 (A k).1 (A k).2 mN mD=(a,b,c):=⟨_,_,_,rfl⟩
       have cs:=fun W=>addRat_w (A k).1 (A k).2 mN mD (hA k kn) hmI W
       rw [hs] at cs
       have cu:=fun W=>must_ok mN mD W
       have eE:tmE A B pN pD k=(sN,sD,se):=by rw [tmE,hm,if_pos rfl];exact hs
       by_cases se0:se=0
       · subst se0
         have cv:=fun W=>must_ok sN sD W
         have HN:Hid (tmF A B pN pD (k+1)=0):=by show tmF A B pN pD (k+1)=0;rw [tmF,if_pos HI.out,eE]
         have hput:=tmD_put eE
         have kx0:=fun n:Behind V2=>n.cell a0 X1.lt
         have kx1:=fun n:Behind V2=>n.cell a1 X1.lt
         have ki0:=fun n:Behind V2=>n.cell I1.1 I1.2.2.2.2
         have ki1:=fun n:Behind V2=>n.cell I1.2.1 I1.2.2.2.2
         have kz0:=fun n:Behind V2=>n.cell Z1.1 Z1.2.2.2.2
         have kz1:=fun n:Behind V2=>n.cell Z1.2.1 Z1.2.2.2.2
         clear hR HI he eE hs hm
         refine tail_behind 16 (by kernel_rfl) (by kernel_rfl) ?_
         simp only [List.take_succ_cons,List.take_zero,List.drop_succ_cons,List.drop_zero]
         repeat (go_big_quiet_step (first | (go_at_call 81;with_reducible refine Behind.call (cm _)) | (go_at_call 80;with_reducible refine Behind.call (cs _)) | (go_at_call 58;with_reducible refine Behind.call (cu _)) | (go_at_call 58;with_reducible refine Behind.call (cv _))))
         refine wpQuiet_nil ?_
         rintro _ ⟨m,rfl⟩
         obtain⟨W,hb1⟩:=m
         dsimp only
         clear kx0 kx1 ki0 ki1 kz0 kz1 a0 a1
         replace HB1:=later HB1 hb1
         replace X1:=X1.keep hb1
         replace Z1:=Z1.keep hb1
         replace O1:=O1.keep hb1
         clear hb1 I1
         have a0:=X1.c0 k kn
         have a1:=X1.c1 k kn
         have b0:=X1.f0 k kn
         have b1:=X1.f1 k kn
         go_wp2_with fail
         have X2:=X1.set kn sN sD
         rw [hput] at X2
         (go_roundg (gk-1)
          case measure=>omega
          case rel=>exact⟨k+1,congrArg (Value.int .i64) (show (k:Int)+1=((k+1:Nat):Int) by omega),by omega,by omega,by (repeat' (first | (with_reducible exact HB1) | (with_reducible refine Below.setCell ?_ ?_ _) | go_size)),X2,Has2.off1 (Has2.off1 Z1 (by omega) _) (by omega) _,(O1.far (by omega) _).far (by omega) _,HN⟩)
       · have e1:tmF A B pN pD (k+1)=se:=by rw [tmF,if_pos HI.out,eE]
         have e2:Hid (Ending.panicked (stopP se)=R):=by
           have:=hR.out
           have e3:=tmF_stays (A:=A) (B:=B) (pN:=pN) (pD:=pD) (k:=k+1) (by rw [e1];exact se0) 7 (by omega)
           rw [e1] at e3
           rw [e3,if_neg se0] at this
           exact this
         have cv:=fun W=>must_no sN sD se (by simpa using se0) W
         clear hR HI e1 he eE hs hm O1
         refine wp_region_held_drew (S:=fun w'=>w'.cell? ⟨w.heap.size,k*2,none⟩=some (.int .i64 (A k).1)∧w'.cell? ⟨w.heap.size,k*2+1,none⟩=some (.int .i64 (A k).2)∧w'.cell? ⟨wr.heap.size,0,none⟩=some (.int .i64 (B k).1)∧w'.cell? ⟨wr.heap.size,1,none⟩=some (.int .i64 (B k).2)∧w'.cell? ⟨w.heap.size+1+1,0,none⟩=some (.int .i64 pN)∧w'.cell? ⟨w.heap.size+1+1,1,none⟩=some (.int .i64 pD)) (by kernel_rfl) ⟨a0,a1,I1.1,I1.2.1,Z1.1,Z1.2.1⟩ (fun hHeld=>?_)
         refine wpAnyH_take (i:=0) (v:=?_) rfl (by kernel_rfl) (by kernel_rfl) (by kernel_rfl) (fun _ _ _ h=>h) (Or.inl ⟨by rfl, ?_⟩) hHeld ?_;rotate_left;(focus ((intro w hSw;(try dsimp only at hSw);go_simp);try with_reducible rfl));simp only [List.getElem_toArray,List.getElem_cons_zero,Act.put,List.setIfInBounds_toArray,List.set_cons_zero,List.set_cons_succ];refine wpAnyH_take (i:=1) (v:=?_) rfl (by kernel_rfl) (by kernel_rfl) (by kernel_rfl) (fun _ _ _ h=>h) (Or.inl ⟨by rfl, ?_⟩) hHeld ?_;rotate_left;(focus ((intro w hSw;(try dsimp only at hSw);go_simp);try with_reducible rfl));simp only [List.getElem_toArray,List.getElem_cons_zero,List.getElem_cons_succ,Act.put,List.setIfInBounds_toArray,List.set_cons_zero,List.set_cons_succ];refine wpAnyH_take (i:=2) (v:=?_) rfl (by kernel_rfl) (by kernel_rfl) (by kernel_rfl) (fun _ _ _ h=>h) (Or.inl ⟨by rfl, ?_⟩) hHeld ?_;rotate_left;(focus ((intro w hSw;(try dsimp only at hSw);go_simp);try with_reducible rfl));simp only [List.getElem_toArray,List.getElem_cons_zero,List.getElem_cons_succ,Act.put,List.setIfInBounds_toArray,List.set_cons_zero,List.set_cons_succ];refine wpAnyH_take (i:=3) (v:=?_) rfl (by kernel_rfl) (by kernel_rfl) (by kernel_rfl) (fun _ _ _ h=>h) (Or.inl ⟨by rfl, ?_⟩) hHeld ?_;rotate_left;(focus ((intro w hSw;(try dsimp only at hSw);go_simp);try with_reducible rfl));simp only [List.getElem_toArray,List.getElem_cons_zero,List.getElem_cons_succ,Act.put,List.setIfInBounds_toArray,List.set_cons_zero,List.set_cons_succ];refine wpAnyH_take (i:=4) (v:=?_) rfl (by kernel_rfl) (by kernel_rfl) (by kernel_rfl) (fun _ _ _ h=>h) (Or.inl ⟨by rfl, ?_⟩) hHeld ?_;rotate_left;(focus ((intro w hSw;(try dsimp only at hSw);go_simp);try with_reducible rfl));simp only [List.getElem_toArray,List.getElem_cons_zero,List.getElem_cons_succ,Act.put,List.setIfInBounds_toArray,List.set_cons_zero,List.set_cons_succ];refine wpAnyH_take (i:=5) (v:=?_) rfl (by kernel_rfl) (by kernel_rfl) (by kernel_rfl) (fun _ _ _ h=>h) (Or.inl ⟨by rfl, ?_⟩) hHeld ?_;rotate_left;(focus ((intro w hSw;(try dsimp only at hSw);go_simp);try with_reducible rfl));simp only [List.getElem_toArray,List.getElem_cons_zero,List.getElem_cons_succ,Act.put,List.setIfInBounds_toArray,List.set_cons_zero,List.set_cons_succ];refine wpAnyH_take (i:=6) (v:=?_) rfl (by kernel_rfl) (by kernel_rfl) (by kernel_rfl) (fun _ _ _ h=>h) (Or.inl ⟨by rfl, ?_⟩) hHeld ?_;rotate_left;(focus ((intro w hSw;(try dsimp only at hSw);go_simp);try with_reducible rfl));simp only [List.getElem_toArray,List.getElem_cons_zero,List.getElem_cons_succ,Act.put,List.setIfInBounds_toArray,List.set_cons_zero,List.set_cons_succ];refine wpAnyH_take (i:=15) (v:=?_) rfl (by kernel_rfl) (by kernel_rfl) (by kernel_rfl) (fun _ _ _ h=>h) (Or.inl ⟨by rfl, ?_⟩) hHeld ?_;rotate_left;(focus ((intro w hSw;(try dsimp only at hSw);go_simp);try with_reducible rfl));simp only [List.getElem_toArray,List.getElem_cons_zero,List.getElem_cons_succ,Act.put,List.setIfInBounds_toArray,List.set_cons_zero,List.set_cons_succ]
         have HD:Below V2.heap.size V2 V2.drew:=(Below.refl _ _).drew
         replace HB1:=later HB1 HD
         replace X1:=X1.keep HD
         replace Z1:=Z1.keep HD
         replace I1:=I1.keep HD
         clear HD a0 a1
         refine wpAnyH_ready (rs:=[7]) (by kernel_rfl) (by simp) ?_;refine AllReadyH.cons rfl (fun K hK=>?_) AllReadyH.nil;simp only [List.getElem_toArray,List.getElem_cons_zero,List.getElem_cons_succ,Act.put,List.setIfInBounds_toArray,List.set_cons_zero,List.set_cons_succ];go_simp
         go_at_call 81
         (with_reducible refine (cm _).mono ?_)
         rintro _ W0 ⟨rfl,hb1⟩
         replace HB1:=later HB1 hb1
         replace X1:=X1.keep hb1
         replace Z1:=Z1.keep hb1
         replace I1:=I1.keep hb1
         have a0:=X1.c0 k kn
         have a1:=X1.c1 k kn
         rw [gA] at a0 a1
         clear hb1
         dsimp only
         refine hK.out _ _ ⟨a0,a1,I1.1,I1.2.1,Z1.1,Z1.2.1⟩ (fun hHeld=>?_)
         clear hK K
         refine wpAnyH_take (i:=8) (v:=?_) rfl (by kernel_rfl) (by kernel_rfl) (by kernel_rfl) (fun _ _ _ h=>h) (Or.inl ⟨by rfl, ?_⟩) hHeld ?_;rotate_left;(focus ((intro w hSw;(try dsimp only at hSw);go_simp);try with_reducible rfl));simp only [List.getElem_toArray,List.getElem_cons_zero,List.getElem_cons_succ,Act.put,List.setIfInBounds_toArray,List.set_cons_zero,List.set_cons_succ];refine wpAnyH_take (i:=9) (v:=?_) rfl (by kernel_rfl) (by kernel_rfl) (by kernel_rfl) (fun _ _ _ h=>h) (Or.inl ⟨by rfl, ?_⟩) hHeld ?_;rotate_left;(focus ((intro w hSw;(try dsimp only at hSw);go_simp);try with_reducible rfl));simp only [List.getElem_toArray,List.getElem_cons_zero,List.getElem_cons_succ,Act.put,List.setIfInBounds_toArray,List.set_cons_zero,List.set_cons_succ]
         refine wpAnyH_ready (rs:=[10]) (by kernel_rfl) (by simp) ?_;refine AllReadyH.cons rfl (fun K hK=>?_) AllReadyH.nil;simp only [List.getElem_toArray,List.getElem_cons_zero,List.getElem_cons_succ,Act.put,List.setIfInBounds_toArray,List.set_cons_zero,List.set_cons_succ];go_simp
         go_at_call 58
         (with_reducible refine (cu _).mono ?_)
         rintro _ W1 ⟨rfl,hb1⟩
         replace HB1:=later HB1 hb1
         replace X1:=X1.keep hb1
         replace Z1:=Z1.keep hb1
         replace I1:=I1.keep hb1
         clear a0 a1
         have a0:=X1.c0 k kn
         have a1:=X1.c1 k kn
         rw [gA] at a0 a1
         clear hb1
         dsimp only
         refine hK.out _ _ ⟨a0,a1,I1.1,I1.2.1,Z1.1,Z1.2.1⟩ (fun hHeld=>?_)
         clear hK K
         refine wpAnyH_ready (rs:=[11]) (by kernel_rfl) (by simp) ?_;refine AllReadyH.cons rfl (fun K hK=>?_) AllReadyH.nil;simp only [List.getElem_toArray,List.getElem_cons_zero,List.getElem_cons_succ,Act.put,List.setIfInBounds_toArray,List.set_cons_zero,List.set_cons_succ];go_simp
         go_at_call 80
         (with_reducible refine (cs _).mono ?_)
         rintro _ W2 ⟨rfl,hb1⟩
         replace HB1:=later HB1 hb1
         replace X1:=X1.keep hb1
         replace Z1:=Z1.keep hb1
         replace I1:=I1.keep hb1
         clear a0 a1
         have a0:=X1.c0 k kn
         have a1:=X1.c1 k kn
         rw [gA] at a0 a1
         clear hb1
         dsimp only
         refine hK.out _ _ ⟨a0,a1,I1.1,I1.2.1,Z1.1,Z1.2.1⟩ (fun hHeld=>?_)
         clear hK K
         refine wpAnyH_take (i:=12) (v:=?_) rfl (by kernel_rfl) (by kernel_rfl) (by kernel_rfl) (fun _ _ _ h=>h) (Or.inl ⟨by rfl, ?_⟩) hHeld ?_;rotate_left;(focus ((intro w hSw;(try dsimp only at hSw);go_simp);try with_reducible rfl));simp only [List.getElem_toArray,List.getElem_cons_zero,List.getElem_cons_succ,Act.put,List.setIfInBounds_toArray,List.set_cons_zero,List.set_cons_succ];refine wpAnyH_take (i:=13) (v:=?_) rfl (by kernel_rfl) (by kernel_rfl) (by kernel_rfl) (fun _ _ _ h=>h) (Or.inl ⟨by rfl, ?_⟩) hHeld ?_;rotate_left;(focus ((intro w hSw;(try dsimp only at hSw);go_simp);try with_reducible rfl));simp only [List.getElem_toArray,List.getElem_cons_zero,List.getElem_cons_succ,Act.put,List.setIfInBounds_toArray,List.set_cons_zero,List.set_cons_succ]
         refine wpAnyH_ready (rs:=[14]) (by kernel_rfl) (by simp) ?_;refine AllReadyH.cons rfl (fun K hK=>?_) AllReadyH.nil;simp only [List.getElem_toArray,List.getElem_cons_zero,List.getElem_cons_succ,Act.put,List.setIfInBounds_toArray,List.set_cons_zero,List.set_cons_succ];go_simp
         go_at_call 58
         (with_reducible refine (cv _).mono ?_)
         rintro _ W3 ⟨rfl,hb1⟩
         exact⟨rfl,e2.out,later HB1 hb1⟩
     · have e1:tmF A B pN pD (k+1)=me:=by rw [tmF,if_pos HI.out,tmE,hm,if_neg me0]
       have e2:Hid (Ending.panicked (stopP me)=R):=by
         have:=hR.out
         have e3:=tmF_stays (A:=A) (B:=B) (pN:=pN) (pD:=pD) (k:=k+1) (by rw [e1];exact me0) 7 (by omega)
         rw [e1] at e3
         rw [e3,if_neg me0] at this
         exact this
       have cu:=fun W=>must_no mN mD me (by simpa using me0) W
       clear hR HI e1 he hm O1
       refine wp_region_held_drew (S:=fun w'=>w'.cell? ⟨w.heap.size,k*2,none⟩=some (.int .i64 (A k).1)∧w'.cell? ⟨w.heap.size,k*2+1,none⟩=some (.int .i64 (A k).2)∧w'.cell? ⟨wr.heap.size,0,none⟩=some (.int .i64 (B k).1)∧w'.cell? ⟨wr.heap.size,1,none⟩=some (.int .i64 (B k).2)∧w'.cell? ⟨w.heap.size+1+1,0,none⟩=some (.int .i64 pN)∧w'.cell? ⟨w.heap.size+1+1,1,none⟩=some (.int .i64 pD)) (by kernel_rfl) ⟨a0,a1,I1.1,I1.2.1,Z1.1,Z1.2.1⟩ (fun hHeld=>?_)
       refine wpAnyH_take (i:=0) (v:=?_) rfl (by kernel_rfl) (by kernel_rfl) (by kernel_rfl) (fun _ _ _ h=>h) (Or.inl ⟨by rfl, ?_⟩) hHeld ?_;rotate_left;(focus ((intro w hSw;(try dsimp only at hSw);go_simp);try with_reducible rfl));simp only [List.getElem_toArray,List.getElem_cons_zero,Act.put,List.setIfInBounds_toArray,List.set_cons_zero,List.set_cons_succ];refine wpAnyH_take (i:=1) (v:=?_) rfl (by kernel_rfl) (by kernel_rfl) (by kernel_rfl) (fun _ _ _ h=>h) (Or.inl ⟨by rfl, ?_⟩) hHeld ?_;rotate_left;(focus ((intro w hSw;(try dsimp only at hSw);go_simp);try with_reducible rfl));simp only [List.getElem_toArray,List.getElem_cons_zero,List.getElem_cons_succ,Act.put,List.setIfInBounds_toArray,List.set_cons_zero,List.set_cons_succ];refine wpAnyH_take (i:=2) (v:=?_) rfl (by kernel_rfl) (by kernel_rfl) (by kernel_rfl) (fun _ _ _ h=>h) (Or.inl ⟨by rfl, ?_⟩) hHeld ?_;rotate_left;(focus ((intro w hSw;(try dsimp only at hSw);go_simp);try with_reducible rfl));simp only [List.getElem_toArray,List.getElem_cons_zero,List.getElem_cons_succ,Act.put,List.setIfInBounds_toArray,List.set_cons_zero,List.set_cons_succ];refine wpAnyH_take (i:=3) (v:=?_) rfl (by kernel_rfl) (by kernel_rfl) (by kernel_rfl) (fun _ _ _ h=>h) (Or.inl ⟨by rfl, ?_⟩) hHeld ?_;rotate_left;(focus ((intro w hSw;(try dsimp only at hSw);go_simp);try with_reducible rfl));simp only [List.getElem_toArray,List.getElem_cons_zero,List.getElem_cons_succ,Act.put,List.setIfInBounds_toArray,List.set_cons_zero,List.set_cons_succ];refine wpAnyH_take (i:=4) (v:=?_) rfl (by kernel_rfl) (by kernel_rfl) (by kernel_rfl) (fun _ _ _ h=>h) (Or.inl ⟨by rfl, ?_⟩) hHeld ?_;rotate_left;(focus ((intro w hSw;(try dsimp only at hSw);go_simp);try with_reducible rfl));simp only [List.getElem_toArray,List.getElem_cons_zero,List.getElem_cons_succ,Act.put,List.setIfInBounds_toArray,List.set_cons_zero,List.set_cons_succ];refine wpAnyH_take (i:=5) (v:=?_) rfl (by kernel_rfl) (by kernel_rfl) (by kernel_rfl) (fun _ _ _ h=>h) (Or.inl ⟨by rfl, ?_⟩) hHeld ?_;rotate_left;(focus ((intro w hSw;(try dsimp only at hSw);go_simp);try with_reducible rfl));simp only [List.getElem_toArray,List.getElem_cons_zero,List.getElem_cons_succ,Act.put,List.setIfInBounds_toArray,List.set_cons_zero,List.set_cons_succ];refine wpAnyH_take (i:=6) (v:=?_) rfl (by kernel_rfl) (by kernel_rfl) (by kernel_rfl) (fun _ _ _ h=>h) (Or.inl ⟨by rfl, ?_⟩) hHeld ?_;rotate_left;(focus ((intro w hSw;(try dsimp only at hSw);go_simp);try with_reducible rfl));simp only [List.getElem_toArray,List.getElem_cons_zero,List.getElem_cons_succ,Act.put,List.setIfInBounds_toArray,List.set_cons_zero,List.set_cons_succ];refine wpAnyH_take (i:=15) (v:=?_) rfl (by kernel_rfl) (by kernel_rfl) (by kernel_rfl) (fun _ _ _ h=>h) (Or.inl ⟨by rfl, ?_⟩) hHeld ?_;rotate_left;(focus ((intro w hSw;(try dsimp only at hSw);go_simp);try with_reducible rfl));simp only [List.getElem_toArray,List.getElem_cons_zero,List.getElem_cons_succ,Act.put,List.setIfInBounds_toArray,List.set_cons_zero,List.set_cons_succ]
       have HD:Below V2.heap.size V2 V2.drew:=(Below.refl _ _).drew
       replace HB1:=later HB1 HD
       replace X1:=X1.keep HD
       replace Z1:=Z1.keep HD
       replace I1:=I1.keep HD
       clear HD a0 a1
       refine wpAnyH_ready (rs:=[7]) (by kernel_rfl) (by simp) ?_;refine AllReadyH.cons rfl (fun K hK=>?_) AllReadyH.nil;simp only [List.getElem_toArray,List.getElem_cons_zero,List.getElem_cons_succ,Act.put,List.setIfInBounds_toArray,List.set_cons_zero,List.set_cons_succ];go_simp
       go_at_call 81
       (with_reducible refine (cm _).mono ?_)
       rintro _ W0 ⟨rfl,hb1⟩
       replace HB1:=later HB1 hb1
       replace X1:=X1.keep hb1
       replace Z1:=Z1.keep hb1
       replace I1:=I1.keep hb1
       have a0:=X1.c0 k kn
       have a1:=X1.c1 k kn
       rw [gA] at a0 a1
       clear hb1
       dsimp only
       refine hK.out _ _ ⟨a0,a1,I1.1,I1.2.1,Z1.1,Z1.2.1⟩ (fun hHeld=>?_)
       clear hK K
       refine wpAnyH_take (i:=8) (v:=?_) rfl (by kernel_rfl) (by kernel_rfl) (by kernel_rfl) (fun _ _ _ h=>h) (Or.inl ⟨by rfl, ?_⟩) hHeld ?_;rotate_left;(focus ((intro w hSw;(try dsimp only at hSw);go_simp);try with_reducible rfl));simp only [List.getElem_toArray,List.getElem_cons_zero,List.getElem_cons_succ,Act.put,List.setIfInBounds_toArray,List.set_cons_zero,List.set_cons_succ];refine wpAnyH_take (i:=9) (v:=?_) rfl (by kernel_rfl) (by kernel_rfl) (by kernel_rfl) (fun _ _ _ h=>h) (Or.inl ⟨by rfl, ?_⟩) hHeld ?_;rotate_left;(focus ((intro w hSw;(try dsimp only at hSw);go_simp);try with_reducible rfl));simp only [List.getElem_toArray,List.getElem_cons_zero,List.getElem_cons_succ,Act.put,List.setIfInBounds_toArray,List.set_cons_zero,List.set_cons_succ]
       refine wpAnyH_ready (rs:=[10]) (by kernel_rfl) (by simp) ?_;refine AllReadyH.cons rfl (fun K hK=>?_) AllReadyH.nil;simp only [List.getElem_toArray,List.getElem_cons_zero,List.getElem_cons_succ,Act.put,List.setIfInBounds_toArray,List.set_cons_zero,List.set_cons_succ];go_simp
       go_at_call 58
       (with_reducible refine (cu _).mono ?_)
       rintro _ W1 ⟨rfl,hb1⟩
       exact⟨rfl,e2.out,later HB1 hb1⟩
structure In (xl xh ul uh:Nat):Prop where
 S:Some2 xl xh
 T:Some2 ul uh
 kl:key ul≤key xl
 kh:key xh≤key uh
 a1:xl<18446744073709551616
 a2:xh<18446744073709551616
 b1:ul<18446744073709551616
 b2:uh<18446744073709551616
def expN:Nat:=1074
def unitN:Nat:=2^expN
def iuQ:Rat:=((unitN:Int):Rat)⁻¹
def vq (k:Int):Rat:=(V k:Rat)*iuQ
def LoQ (k:Int) (x:Rat):Prop:=k=-9218868437227405312∨vq k≤x
structure Hq (p:Nat×Nat) (x:Rat):Prop where
 l1:p.1<18446744073709551616
 l2:p.2<18446744073709551616
 S:Some2 p.1 p.2
 lo:LoQ (key p.1) x
 hi:LoQ (-key p.2) (-x)
end Go.Proofs.Ytbejmklkicoibaa
