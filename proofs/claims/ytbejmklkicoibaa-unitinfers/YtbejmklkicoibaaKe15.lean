/- The reference's numbers of stage 11: Add and Sub, whole. Quotients of whole numbers in their form: what is told is the quotient, and the only one; sums and products are undone; the order. The program: Make, Add, Sub, Mul, Div of quotients (rat). The program: powers of quotients (rat.Pow), walked over letters. The program's Add, Sub, Mul, Div, Pow of quotients answer the exact ones in their form (rat). The program: the order of quotients (rat.Cmp). -/
import Derived.Test.YtbejmklkicoibaaKe14
import Derived.Test.YtbejmklkicoibaaKe13
import Derived.Test.YtbejmklkicoibaaKe12
import Derived.Test.YtbejmklkicoibaaKe11
namespace Go.Proofs.Ytbejmklkicoibaa
open Go.ChangeShapes Go.WideShapes Go.ChangeAt Go.RowKit
theorem add11_w (aN aD bN bD:Int) (ha:I64 aN/\I64 aD) (hb:I64 bN/\I64 bD) (w:World) :
  Calls Try.prog 71 #[.agg #[.int .i64 aN,.int .i64 aD],.agg #[.int .i64 bN,.int .i64 bD]] w fun r w'=>r=.returned (.tuple #[.agg #[.int .i64 (addV11 aN aD bN bD).1,.int .i64 (addV11 aN aD bN bD).2.1],.int .i64 (addV11 aN aD bN bD).2.2])/\Below w.heap.size w w':=by
 cases h:(rightR aN aD&&rightR bN bD)
 ·have e:addV11 aN aD bN bD=(0,0,1):=by unfold addV11;rw [h];rfl
  rw [e]
  exact add11_bad aN aD bN bD ha hb h w
 ·have e:addV11 aN aD bN bD=ofV (decide (aN*bD+bN*aD<0)) (aN*bD+bN*aD).natAbs (aD.natAbs*bD.natAbs):=by unfold addV11;rw [h];rfl
  rw [e]
  obtain⟨h1,h2⟩:=Bool.and_eq_true_iff.1 h
  refine (add11_good aN aD bN bD ha hb h1 h2 w).mono ?_
  rintro _ w' ⟨⟨ov,rfl,rfl⟩,hb1⟩
  exact⟨rfl,hb1⟩
def subV11 (aN aD bN bD:Int):Int×Int×Int:=if rightR bN bD then addV11 aN aD (-bN) bD else (0,0,1)
theorem rightR_N {N D:Int} (h:rightR N D=true):N≠-9223372036854775808:=by
 unfold rightR at h
 simp only [Bool.and_eq_true,decide_eq_true_eq] at h
 exact h.2.1
theorem rightR_G {N D:Int} (h:rightR N D=true):Nat.gcd N.natAbs D.natAbs=1:=by
 unfold rightR at h
 simp only [Bool.and_eq_true,decide_eq_true_eq] at h
 exact h.2.2
theorem ofV_ok {g:Bool} {n d:Nat} {N D:Int} (hd:d≠0) (h:ofV g n d=(N,D,0)):rightR N D=true/\N*(d:Int)=sgnd g n*D/\(I64 N/\I64 D):=by
 unfold ofV at h
 by_cases c:n=0
 ·rw [if_pos c] at h
  obtain⟨rfl,rfl⟩:(0:Int)=N/\(1:Int)=D:=by
   injection h with h1 h2
   injection h2 with h3 h4
   exact⟨h1,h3⟩
  refine⟨by decide, ?_,⟨by decide,by decide⟩,⟨by decide,by decide⟩⟩
  rw [c]
  unfold sgnd
  split <;> simp
 ·rw [if_neg c] at h
  have g0:0<Nat.gcd n d:=Nat.gcd_pos_of_pos_right _ (by omega)
  have cop:Nat.gcd (n/Nat.gcd n d) (d/Nat.gcd n d)=1:=Nat.coprime_div_gcd_div_gcd g0
  have e1:n/Nat.gcd n d*Nat.gcd n d=n:=Nat.div_mul_cancel (Nat.gcd_dvd_left _ _)
  have e2:d/Nat.gcd n d*Nat.gcd n d=d:=Nat.div_mul_cancel (Nat.gcd_dvd_right _ _)
  generalize Nat.gcd n d=G at *
  generalize n/G=x at *
  generalize d/G=y at *
  by_cases b:bitsN x<=63/\bitsN y<=63
  ·rw [if_pos b] at h
   have hx:=bitsN_lt b.1
   have hy:=bitsN_lt b.2
   obtain⟨rfl,rfl⟩:sgnd g x=N/\(y:Int)=D:=by
    injection h with h1 h2
    injection h2 with h3 h4
    exact⟨h1,h3⟩
   have hy0:y≠0:=by rintro rfl;rw [Nat.zero_mul] at e2;omega
   have ha:(sgnd g x).natAbs=x:=by unfold sgnd;split <;> omega
   refine⟨?_, ?_,⟨?_, ?_⟩,⟨by omega,by omega⟩⟩
   ·unfold rightR
    rw [ha,show ((y:Int)).natAbs=y by omega,decide_eq_true cop,decide_eq_true (show 1<=(y:Int) by omega),decide_eq_true]
    ·rfl
    ·intro q
     rw [q] at ha
     omega
   ·rw [<-e1,<-e2]
    unfold sgnd
    split <;> simp only [Int.natCast_mul,Int.neg_mul] <;> grind
   ·unfold sgnd;split <;> omega
   ·unfold sgnd;split <;> omega
  ·rw [if_neg b] at h
   injection h with h1 h2
   injection h2 with h3 h4
   omega
theorem ofV_of {N D p q:Int} (hr:rightR N D=true) (hN:I64 N) (hD:I64 D) (hq:0<q) (h:N*q=p*D):ofV (decide (p<0)) p.natAbs q.natAbs=(N,D,0):=by
 have hD0:=rightR_D hr
 have hG:=rightR_G hr
 have hn:=rightR_N hr
 have hab:N.natAbs*q.natAbs=p.natAbs*D.natAbs:=by rw [<-Int.natAbs_mul,h,Int.natAbs_mul]
 have hdv:D.natAbs ∣ q.natAbs:=by
  have:D.natAbs ∣ N.natAbs*q.natAbs:=⟨p.natAbs,by rw [hab,Nat.mul_comm]⟩
  exact Nat.Coprime.dvd_of_dvd_mul_left (by rw [Nat.Coprime,Nat.gcd_comm];exact hG) this
 obtain⟨t,ht⟩:=hdv
 have hp:p.natAbs=N.natAbs*t:=by
  rw [ht,Nat.mul_comm D.natAbs t,<-Nat.mul_assoc] at hab
  exact (Nat.eq_of_mul_eq_mul_right (by omega) hab).symm
 have ht0:0<t:=by
  rcases Nat.eq_zero_or_pos t with z | z
  ·rw [z,Nat.mul_zero] at ht;omega
  ·exact z
 unfold ofV
 by_cases c:p.natAbs=0
 ·rw [if_pos c]
  have hN0:N.natAbs=0:=by
   rcases Nat.mul_eq_zero.1 (hp ▸ c) with z | z
   ·exact z
   ·omega
  have e1:N=0:=by omega
  have e2:D=1:=by
   rw [hN0,Nat.gcd_zero_left] at hG
   omega
  rw [e1,e2]
 ·rw [if_neg c]
  have hg:Nat.gcd p.natAbs q.natAbs=t:=by
   rw [hp,ht,Nat.mul_comm D.natAbs t,Nat.mul_comm N.natAbs t,Nat.gcd_mul_left,hG,Nat.mul_one]
  rw [hg,hp,ht,Nat.mul_div_cancel _ ht0,Nat.mul_div_cancel _ ht0]
  have b1:bitsN N.natAbs<=63:=bitsN_le (by have:=hN.1;have:=hN.2;omega)
  have b2:bitsN D.natAbs<=63:=bitsN_le (by have:=hD.2;omega)
  rw [if_pos ⟨b1,b2⟩]
  have s:sgnd (decide (p<0)) N.natAbs=N:=by
   have hs:(p<0↔N<0):=by
    constructor
    ·intro z
     rcases Int.lt_or_le N 0 with k | k
     ·exact k
     ·have:=Int.mul_nonneg k (Int.le_of_lt hq)
      have:=Int.mul_neg_of_neg_of_pos z (show 0<D by omega)
      omega
    ·intro z
     rcases Int.lt_or_le p 0 with k | k
     ·exact k
     ·have:=Int.mul_neg_of_neg_of_pos z hq
      have:=Int.mul_nonneg k (show 0<=D by omega)
      omega
   unfold sgnd
   by_cases z:p<0
   ·rw [decide_eq_true z,if_pos rfl];have:=hs.1 z;omega
   ·rw [decide_eq_false z,if_neg (by simp)];have:¬N<0:=fun k=>z (hs.2 k);omega
  rw [s,show ((D.natAbs:Nat):Int)=D by omega]
theorem sgn_abs (z:Int):sgnd (decide (z<0)) z.natAbs=z:=by
 unfold sgnd
 by_cases c:z<0
 ·rw [decide_eq_true c,if_pos rfl];omega
 ·rw [decide_eq_false c,if_neg (by simp)];omega
theorem addV11_ok {aN aD bN bD xN xD:Int} (ha:rightR aN aD=true) (hb:rightR bN bD=true) (h:addV11 aN aD bN bD=(xN,xD,0)):rightR xN xD=true/\xN*(aD*bD)=(aN*bD+bN*aD)*xD/\(I64 xN/\I64 xD):=by
 unfold addV11 at h
 rw [ha,hb,Bool.and_self,if_pos rfl] at h
 have p1:=rightR_D ha
 have p2:=rightR_D hb
 obtain⟨h1,h2,h3⟩:=ofV_ok (Nat.mul_ne_zero (by omega) (by omega)) h
 rw [sgn_abs,Int.natCast_mul,show ((aD.natAbs:Nat):Int)=aD by omega,show ((bD.natAbs:Nat):Int)=bD by omega] at h2
 exact⟨h1,h2,h3⟩
theorem addV11_of {aN aD bN bD xN xD:Int} (ha:rightR aN aD=true) (hb:rightR bN bD=true) (hx:rightR xN xD=true) (hI:I64 xN/\I64 xD) (h:xN*(aD*bD)=(aN*bD+bN*aD)*xD):addV11 aN aD bN bD=(xN,xD,0):=by
 unfold addV11
 rw [ha,hb,Bool.and_self,if_pos rfl,<-Int.natAbs_mul]
 exact ofV_of hx hI.1 hI.2 (Int.mul_pos (by have:=rightR_D ha;omega) (by have:=rightR_D hb;omega)) h
theorem rightR_neg {N D:Int} (h:rightR N D=true) (hI:I64 N):rightR (-N) D=true:=by
 have h1:=rightR_D h
 have h2:=rightR_N h
 have h3:=rightR_G h
 unfold rightR
 rw [Int.natAbs_neg,decide_eq_true h1,decide_eq_true (show -N≠-9223372036854775808 by have:=hI.2;omega),decide_eq_true h3]
 rfl
theorem zmul_sign {a b:Int}:(a*b)≠0->(!(decide (a<0)==decide (b<0)))=decide (a*b<0):=fun h=>by
 have ha:a≠0:=fun z=>h (by rw [z,Int.zero_mul])
 have hb:b≠0:=fun z=>h (by rw [z,Int.mul_zero])
 rcases Int.lt_or_gt_of_ne ha with x | x <;> rcases Int.lt_or_gt_of_ne hb with y | y
 ·rw [decide_eq_true x,decide_eq_true y,decide_eq_false (by have:=Int.mul_pos_of_neg_of_neg x y;omega)];rfl
 ·rw [decide_eq_true x,decide_eq_false (by omega),decide_eq_true (Int.mul_neg_of_neg_of_pos x y)];rfl
 ·rw [decide_eq_false (by omega),decide_eq_true y,decide_eq_true (Int.mul_neg_of_pos_of_neg x y)];rfl
 ·rw [decide_eq_false (by omega),decide_eq_false (by omega),decide_eq_false (by have:=Int.mul_pos x y;omega)];rfl
theorem mulV11_is {aN aD bN bD:Int} (ha:rightR aN aD=true) (hb:rightR bN bD=true):mulV11 aN aD bN bD=ofV (decide (aN*bN<0)) (aN*bN).natAbs (aD*bD).natAbs:=by
 unfold mulV11
 rw [ha,hb,Bool.and_self,if_pos rfl,Int.natAbs_mul aD bD]
 exact ofV_sign (by rw [Int.natAbs_mul]) zmul_sign
theorem mulV11_ok {aN aD bN bD xN xD:Int} (ha:rightR aN aD=true) (hb:rightR bN bD=true) (h:mulV11 aN aD bN bD=(xN,xD,0)):rightR xN xD=true/\xN*(aD*bD)=(aN*bN)*xD/\(I64 xN/\I64 xD):=by
 rw [mulV11_is ha hb] at h
 have p1:=rightR_D ha
 have p2:=rightR_D hb
 have p3:=Int.mul_pos (show 0<aD by omega) (show 0<bD by omega)
 obtain⟨h1,h2,h3⟩:=ofV_ok (by omega) h
 rw [sgn_abs,show (((aD*bD).natAbs:Nat):Int)=aD*bD by omega] at h2
 exact⟨h1,h2,h3⟩
theorem rat_same {aN aD bN bD:Int} (ha:rightR aN aD=true) (hb:rightR bN bD=true) (hA:I64 aN/\I64 aD) (hB:I64 bN/\I64 bD) (h:aN*bD=bN*aD):aN=bN/\aD=bD:=by
 have p1:=rightR_D ha
 have p2:=rightR_D hb
 have e1:=ofV_of ha hA.1 hA.2 (show 0<bD by omega) h
 have e2:=ofV_of hb hB.1 hB.2 (show 0<bD by omega) rfl
 rw [e1] at e2
 injection e2 with h1 h2
 injection h2 with h3 h4
 exact⟨h1,h3⟩
set_option maxHeartbeats 2000000 in
theorem rAdd_bad (aN aD bN bD:Int) (b1 b2:Bool) (h:(b1&&b2)=false)
  (r1:∀W,Calls Try.prog 28 #[.agg #[.int .i64 aN,.int .i64 aD]] W fun r w'=>r=.returned (.bool b1)/\Below W.heap.size W w')
  (r2:∀W,Calls Try.prog 28 #[.agg #[.int .i64 bN,.int .i64 bD]] W fun r w'=>r=.returned (.bool b2)/\Below W.heap.size W w') (w:World) :
  Calls Try.prog 80 #[.agg #[.int .i64 aN,.int .i64 aD],.agg #[.int .i64 bN,.int .i64 bD]] w fun r w'=>r=.returned (.tuple #[.agg #[.int .i64 0,.int .i64 0],.int .i64 1])/\Below w.heap.size w w':=by
 have HB:Below w.heap.size w (((w.alloc (.cells #[.int .i64 aN,.int .i64 aD] 27)).alloc (.cells #[.int .i64 bN,.int .i64 bD] 27)).alloc (.cells #[.int .i64 0,.int .i64 0] 27)):=by go_grown
 have X:Has2 (((w.alloc (.cells #[.int .i64 aN,.int .i64 aD] 27)).alloc (.cells #[.int .i64 bN,.int .i64 bD] 27)).alloc (.cells #[.int .i64 0,.int .i64 0] 27)) w.heap.size (.int .i64 aN) (.int .i64 aD):=⟨by go_simp,by go_simp,by go_simp,by go_simp,by go_size⟩
 have Y:Has2 (((w.alloc (.cells #[.int .i64 aN,.int .i64 aD] 27)).alloc (.cells #[.int .i64 bN,.int .i64 bD] 27)).alloc (.cells #[.int .i64 0,.int .i64 0] 27)) (w.heap.size+1) (.int .i64 bN) (.int .i64 bD):=⟨by go_simp,by go_simp,by go_simp,by go_simp,by go_size⟩
 have Z:Has2 (((w.alloc (.cells #[.int .i64 aN,.int .i64 aD] 27)).alloc (.cells #[.int .i64 bN,.int .i64 bD] 27)).alloc (.cells #[.int .i64 0,.int .i64 0] 27)) (w.heap.size+1+1) (.int .i64 0) (.int .i64 0):=⟨by go_simp,by go_simp,by go_simp,by go_simp,by go_size⟩
 go_enter Try.func80,Try.ntmps80
 go_upto_region 1 with fail
 generalize (((w.alloc (.cells #[.int .i64 aN,.int .i64 aD] 27)).alloc (.cells #[.int .i64 bN,.int .i64 bD] 27)).alloc (.cells #[.int .i64 0,.int .i64 0] 27))=V1 at *
 obtain⟨px0,px1,px2,px3,px4⟩:=id X;obtain⟨py0,py1,py2,py3,py4⟩:=id Y;obtain⟨pz0,pz1,pz2,pz3,pz4⟩:=id Z
 cases b1
 ·go_wp2_with (go_at_call_of 28 (Value.agg #[.int .i64 aN,.int .i64 aD]);(with_reducible refine (r1 _).mono ?_);rintro _ W1 ⟨rfl,hb1⟩;replace X:=X.keep hb1;replace Y:=Y.keep hb1;replace Z:=Z.keep hb1;replace HB:=later HB hb1;clear hb1;obtain⟨p1x0,p1x1,p1x2,p1x3,p1x4⟩:=id X;obtain⟨p1y0,p1y1,p1y2,p1y3,p1y4⟩:=id Y;obtain⟨p1z0,p1z1,p1z2,p1z3,p1z4⟩:=id Z)
  refine bodyPost_ret (v:=.tuple #[.agg #[.int .i64 0,.int .i64 0],.int .i64 1]) (by simp [results,Try.results80,go_sem, *]) rfl ⟨rfl, ?_⟩;repeat' (first | (with_reducible exact HB) | (with_reducible refine Below.setCell ?_ ?_ _) | go_size)
 ·cases b2
  ·go_wp2_with (first | (go_at_call_of 28 (Value.agg #[.int .i64 aN,.int .i64 aD]);(with_reducible refine (r1 _).mono ?_);rintro _ W1 ⟨rfl,hb1⟩;replace X:=X.keep hb1;replace Y:=Y.keep hb1;replace Z:=Z.keep hb1;replace HB:=later HB hb1;clear hb1;obtain⟨p1x0,p1x1,p1x2,p1x3,p1x4⟩:=id X;obtain⟨p1y0,p1y1,p1y2,p1y3,p1y4⟩:=id Y;obtain⟨p1z0,p1z1,p1z2,p1z3,p1z4⟩:=id Z) | (go_at_call_of 28 (Value.agg #[.int .i64 bN,.int .i64 bD]);(with_reducible refine (r2 _).mono ?_);rintro _ W2 ⟨rfl,hb1⟩;replace X:=X.keep hb1;replace Y:=Y.keep hb1;replace Z:=Z.keep hb1;replace HB:=later HB hb1;clear hb1;obtain⟨p2x0,p2x1,p2x2,p2x3,p2x4⟩:=id X;obtain⟨p2y0,p2y1,p2y2,p2y3,p2y4⟩:=id Y;obtain⟨p2z0,p2z1,p2z2,p2z3,p2z4⟩:=id Z))
   refine bodyPost_ret (v:=.tuple #[.agg #[.int .i64 0,.int .i64 0],.int .i64 1]) (by simp [results,Try.results80,go_sem, *]) rfl ⟨rfl, ?_⟩;repeat' (first | (with_reducible exact HB) | (with_reducible refine Below.setCell ?_ ?_ _) | go_size)
  ·cases h
set_option maxHeartbeats 2000000 in
theorem rAdd_good (aN aD bN bD x y e:Int)
  (r1:∀W,Calls Try.prog 28 #[.agg #[.int .i64 aN,.int .i64 aD]] W fun r w'=>r=.returned (.bool true)/\Below W.heap.size W w')
  (r2:∀W,Calls Try.prog 28 #[.agg #[.int .i64 bN,.int .i64 bD]] W fun r w'=>r=.returned (.bool true)/\Below W.heap.size W w')
  (c:∀W,Calls Try.prog 77 #[.agg #[.int .i64 aN,.int .i64 aD],.agg #[.int .i64 bN,.int .i64 bD]] W fun r w'=>r=.returned (.tuple #[.agg #[.int .i64 x,.int .i64 y],.int .i64 e])/\Below W.heap.size W w') (w:World) :
  Calls Try.prog 80 #[.agg #[.int .i64 aN,.int .i64 aD],.agg #[.int .i64 bN,.int .i64 bD]] w fun r w'=>r=.returned (.tuple #[.agg #[.int .i64 x,.int .i64 y],.int .i64 e])/\Below w.heap.size w w':=by
 have HB:Below w.heap.size w (((w.alloc (.cells #[.int .i64 aN,.int .i64 aD] 27)).alloc (.cells #[.int .i64 bN,.int .i64 bD] 27)).alloc (.cells #[.int .i64 0,.int .i64 0] 27)):=by go_grown
 have X:Has2 (((w.alloc (.cells #[.int .i64 aN,.int .i64 aD] 27)).alloc (.cells #[.int .i64 bN,.int .i64 bD] 27)).alloc (.cells #[.int .i64 0,.int .i64 0] 27)) w.heap.size (.int .i64 aN) (.int .i64 aD):=⟨by go_simp,by go_simp,by go_simp,by go_simp,by go_size⟩
 have Y:Has2 (((w.alloc (.cells #[.int .i64 aN,.int .i64 aD] 27)).alloc (.cells #[.int .i64 bN,.int .i64 bD] 27)).alloc (.cells #[.int .i64 0,.int .i64 0] 27)) (w.heap.size+1) (.int .i64 bN) (.int .i64 bD):=⟨by go_simp,by go_simp,by go_simp,by go_simp,by go_size⟩
 have Z:Has2 (((w.alloc (.cells #[.int .i64 aN,.int .i64 aD] 27)).alloc (.cells #[.int .i64 bN,.int .i64 bD] 27)).alloc (.cells #[.int .i64 0,.int .i64 0] 27)) (w.heap.size+1+1) (.int .i64 0) (.int .i64 0):=⟨by go_simp,by go_simp,by go_simp,by go_simp,by go_size⟩
 go_enter Try.func80,Try.ntmps80
 go_upto_region 1 with fail
 generalize (((w.alloc (.cells #[.int .i64 aN,.int .i64 aD] 27)).alloc (.cells #[.int .i64 bN,.int .i64 bD] 27)).alloc (.cells #[.int .i64 0,.int .i64 0] 27))=V1 at *
 obtain⟨px0,px1,px2,px3,px4⟩:=id X;obtain⟨py0,py1,py2,py3,py4⟩:=id Y;obtain⟨pz0,pz1,pz2,pz3,pz4⟩:=id Z
 go_wp2_with (first | (go_at_call_of 28 (Value.agg #[.int .i64 aN,.int .i64 aD]);(with_reducible refine (r1 _).mono ?_);rintro _ W1 ⟨rfl,hb1⟩;replace X:=X.keep hb1;replace Y:=Y.keep hb1;replace Z:=Z.keep hb1;replace HB:=later HB hb1;clear hb1;obtain⟨p1x0,p1x1,p1x2,p1x3,p1x4⟩:=id X;obtain⟨p1y0,p1y1,p1y2,p1y3,p1y4⟩:=id Y;obtain⟨p1z0,p1z1,p1z2,p1z3,p1z4⟩:=id Z) | (go_at_call_of 28 (Value.agg #[.int .i64 bN,.int .i64 bD]);(with_reducible refine (r2 _).mono ?_);rintro _ W2 ⟨rfl,hb1⟩;replace X:=X.keep hb1;replace Y:=Y.keep hb1;replace Z:=Z.keep hb1;replace HB:=later HB hb1;clear hb1;obtain⟨p2x0,p2x1,p2x2,p2x3,p2x4⟩:=id X;obtain⟨p2y0,p2y1,p2y2,p2y3,p2y4⟩:=id Y;obtain⟨p2z0,p2z1,p2z2,p2z3,p2z4⟩:=id Z) | (go_at_call 77;(with_reducible refine (c _).mono ?_);rintro _ W3 ⟨rfl,hb1⟩;replace X:=X.keep hb1;replace Y:=Y.keep hb1;replace Z:=Z.keep hb1;replace HB:=later HB hb1;clear hb1;obtain⟨p3x0,p3x1,p3x2,p3x3,p3x4⟩:=id X;obtain⟨p3y0,p3y1,p3y2,p3y3,p3y4⟩:=id Y;obtain⟨p3z0,p3z1,p3z2,p3z3,p3z4⟩:=id Z))
 refine bodyPost_ret (v:=.tuple #[.agg #[.int .i64 x,.int .i64 y],.int .i64 e]) (by simp [results,Try.results80,go_sem, *]) rfl ⟨rfl, ?_⟩;repeat' (first | (with_reducible exact HB) | (with_reducible refine Below.setCell ?_ ?_ _) | go_size)
set_option maxHeartbeats 2000000 in
theorem rSub_bad (aN aD bN bD:Int) (b1 b2:Bool) (h:(b1&&b2)=false)
  (r1:∀W,Calls Try.prog 28 #[.agg #[.int .i64 aN,.int .i64 aD]] W fun r w'=>r=.returned (.bool b1)/\Below W.heap.size W w')
  (r2:∀W,Calls Try.prog 28 #[.agg #[.int .i64 bN,.int .i64 bD]] W fun r w'=>r=.returned (.bool b2)/\Below W.heap.size W w') (w:World) :
  Calls Try.prog 59 #[.agg #[.int .i64 aN,.int .i64 aD],.agg #[.int .i64 bN,.int .i64 bD]] w fun r w'=>r=.returned (.tuple #[.agg #[.int .i64 0,.int .i64 0],.int .i64 1])/\Below w.heap.size w w':=by
 have HB:Below w.heap.size w (((w.alloc (.cells #[.int .i64 aN,.int .i64 aD] 27)).alloc (.cells #[.int .i64 bN,.int .i64 bD] 27)).alloc (.cells #[.int .i64 0,.int .i64 0] 27)):=by go_grown
 have X:Has2 (((w.alloc (.cells #[.int .i64 aN,.int .i64 aD] 27)).alloc (.cells #[.int .i64 bN,.int .i64 bD] 27)).alloc (.cells #[.int .i64 0,.int .i64 0] 27)) w.heap.size (.int .i64 aN) (.int .i64 aD):=⟨by go_simp,by go_simp,by go_simp,by go_simp,by go_size⟩
 have Y:Has2 (((w.alloc (.cells #[.int .i64 aN,.int .i64 aD] 27)).alloc (.cells #[.int .i64 bN,.int .i64 bD] 27)).alloc (.cells #[.int .i64 0,.int .i64 0] 27)) (w.heap.size+1) (.int .i64 bN) (.int .i64 bD):=⟨by go_simp,by go_simp,by go_simp,by go_simp,by go_size⟩
 have Z:Has2 (((w.alloc (.cells #[.int .i64 aN,.int .i64 aD] 27)).alloc (.cells #[.int .i64 bN,.int .i64 bD] 27)).alloc (.cells #[.int .i64 0,.int .i64 0] 27)) (w.heap.size+1+1) (.int .i64 0) (.int .i64 0):=⟨by go_simp,by go_simp,by go_simp,by go_simp,by go_size⟩
 go_enter Try.func59,Try.ntmps59
 go_upto_region 1 with fail
 generalize (((w.alloc (.cells #[.int .i64 aN,.int .i64 aD] 27)).alloc (.cells #[.int .i64 bN,.int .i64 bD] 27)).alloc (.cells #[.int .i64 0,.int .i64 0] 27))=V1 at *
 obtain⟨px0,px1,px2,px3,px4⟩:=id X;obtain⟨py0,py1,py2,py3,py4⟩:=id Y;obtain⟨pz0,pz1,pz2,pz3,pz4⟩:=id Z
 cases b1
 ·go_wp2_with (go_at_call_of 28 (Value.agg #[.int .i64 aN,.int .i64 aD]);(with_reducible refine (r1 _).mono ?_);rintro _ W1 ⟨rfl,hb1⟩;replace X:=X.keep hb1;replace Y:=Y.keep hb1;replace Z:=Z.keep hb1;replace HB:=later HB hb1;clear hb1;obtain⟨p1x0,p1x1,p1x2,p1x3,p1x4⟩:=id X;obtain⟨p1y0,p1y1,p1y2,p1y3,p1y4⟩:=id Y;obtain⟨p1z0,p1z1,p1z2,p1z3,p1z4⟩:=id Z)
  refine bodyPost_ret (v:=.tuple #[.agg #[.int .i64 0,.int .i64 0],.int .i64 1]) (by simp [results,Try.results59,go_sem, *]) rfl ⟨rfl, ?_⟩;repeat' (first | (with_reducible exact HB) | (with_reducible refine Below.setCell ?_ ?_ _) | go_size)
 ·cases b2
  ·go_wp2_with (first | (go_at_call_of 28 (Value.agg #[.int .i64 aN,.int .i64 aD]);(with_reducible refine (r1 _).mono ?_);rintro _ W1 ⟨rfl,hb1⟩;replace X:=X.keep hb1;replace Y:=Y.keep hb1;replace Z:=Z.keep hb1;replace HB:=later HB hb1;clear hb1;obtain⟨p1x0,p1x1,p1x2,p1x3,p1x4⟩:=id X;obtain⟨p1y0,p1y1,p1y2,p1y3,p1y4⟩:=id Y;obtain⟨p1z0,p1z1,p1z2,p1z3,p1z4⟩:=id Z) | (go_at_call_of 28 (Value.agg #[.int .i64 bN,.int .i64 bD]);(with_reducible refine (r2 _).mono ?_);rintro _ W2 ⟨rfl,hb1⟩;replace X:=X.keep hb1;replace Y:=Y.keep hb1;replace Z:=Z.keep hb1;replace HB:=later HB hb1;clear hb1;obtain⟨p2x0,p2x1,p2x2,p2x3,p2x4⟩:=id X;obtain⟨p2y0,p2y1,p2y2,p2y3,p2y4⟩:=id Y;obtain⟨p2z0,p2z1,p2z2,p2z3,p2z4⟩:=id Z))
   refine bodyPost_ret (v:=.tuple #[.agg #[.int .i64 0,.int .i64 0],.int .i64 1]) (by simp [results,Try.results59,go_sem, *]) rfl ⟨rfl, ?_⟩;repeat' (first | (with_reducible exact HB) | (with_reducible refine Below.setCell ?_ ?_ _) | go_size)
  ·cases h
set_option maxHeartbeats 2000000 in
theorem rSub_good (aN aD bN bD x y e:Int) (nb:Int) (hnb:IntKind.i64.wrap (-bN)=nb)
  (r1:∀W,Calls Try.prog 28 #[.agg #[.int .i64 aN,.int .i64 aD]] W fun r w'=>r=.returned (.bool true)/\Below W.heap.size W w')
  (r2:∀W,Calls Try.prog 28 #[.agg #[.int .i64 bN,.int .i64 bD]] W fun r w'=>r=.returned (.bool true)/\Below W.heap.size W w')
  (c:∀W,Calls Try.prog 77 #[.agg #[.int .i64 aN,.int .i64 aD],.agg #[.int .i64 nb,.int .i64 bD]] W fun r w'=>r=.returned (.tuple #[.agg #[.int .i64 x,.int .i64 y],.int .i64 e])/\Below W.heap.size W w') (w:World) :
  Calls Try.prog 59 #[.agg #[.int .i64 aN,.int .i64 aD],.agg #[.int .i64 bN,.int .i64 bD]] w fun r w'=>r=.returned (.tuple #[.agg #[.int .i64 x,.int .i64 y],.int .i64 e])/\Below w.heap.size w w':=by
 have HB:Below w.heap.size w (((w.alloc (.cells #[.int .i64 aN,.int .i64 aD] 27)).alloc (.cells #[.int .i64 bN,.int .i64 bD] 27)).alloc (.cells #[.int .i64 0,.int .i64 0] 27)):=by go_grown
 have X:Has2 (((w.alloc (.cells #[.int .i64 aN,.int .i64 aD] 27)).alloc (.cells #[.int .i64 bN,.int .i64 bD] 27)).alloc (.cells #[.int .i64 0,.int .i64 0] 27)) w.heap.size (.int .i64 aN) (.int .i64 aD):=⟨by go_simp,by go_simp,by go_simp,by go_simp,by go_size⟩
 have Y:Has2 (((w.alloc (.cells #[.int .i64 aN,.int .i64 aD] 27)).alloc (.cells #[.int .i64 bN,.int .i64 bD] 27)).alloc (.cells #[.int .i64 0,.int .i64 0] 27)) (w.heap.size+1) (.int .i64 bN) (.int .i64 bD):=⟨by go_simp,by go_simp,by go_simp,by go_simp,by go_size⟩
 have Z:Has2 (((w.alloc (.cells #[.int .i64 aN,.int .i64 aD] 27)).alloc (.cells #[.int .i64 bN,.int .i64 bD] 27)).alloc (.cells #[.int .i64 0,.int .i64 0] 27)) (w.heap.size+1+1) (.int .i64 0) (.int .i64 0):=⟨by go_simp,by go_simp,by go_simp,by go_simp,by go_size⟩
 go_enter Try.func59,Try.ntmps59
 go_upto_region 1 with fail
 generalize (((w.alloc (.cells #[.int .i64 aN,.int .i64 aD] 27)).alloc (.cells #[.int .i64 bN,.int .i64 bD] 27)).alloc (.cells #[.int .i64 0,.int .i64 0] 27))=V1 at *
 obtain⟨px0,px1,px2,px3,px4⟩:=id X;obtain⟨py0,py1,py2,py3,py4⟩:=id Y;obtain⟨pz0,pz1,pz2,pz3,pz4⟩:=id Z
 go_wp2_with (first | (go_at_call_of 28 (Value.agg #[.int .i64 aN,.int .i64 aD]);(with_reducible refine (r1 _).mono ?_);rintro _ W1 ⟨rfl,hb1⟩;replace X:=X.keep hb1;replace Y:=Y.keep hb1;replace Z:=Z.keep hb1;replace HB:=later HB hb1;clear hb1;obtain⟨p1x0,p1x1,p1x2,p1x3,p1x4⟩:=id X;obtain⟨p1y0,p1y1,p1y2,p1y3,p1y4⟩:=id Y;obtain⟨p1z0,p1z1,p1z2,p1z3,p1z4⟩:=id Z) | (go_at_call_of 28 (Value.agg #[.int .i64 bN,.int .i64 bD]);(with_reducible refine (r2 _).mono ?_);rintro _ W2 ⟨rfl,hb1⟩;replace X:=X.keep hb1;replace Y:=Y.keep hb1;replace Z:=Z.keep hb1;replace HB:=later HB hb1;clear hb1;obtain⟨p2x0,p2x1,p2x2,p2x3,p2x4⟩:=id X;obtain⟨p2y0,p2y1,p2y2,p2y3,p2y4⟩:=id Y;obtain⟨p2z0,p2z1,p2z2,p2z3,p2z4⟩:=id Z) | (go_at_call 77;(with_reducible refine (c _).mono ?_);rintro _ W3 ⟨rfl,hb1⟩;replace X:=X.keep hb1;replace Y:=Y.keep hb1;replace Z:=Z.keep hb1;replace HB:=later HB hb1;clear hb1;obtain⟨p3x0,p3x1,p3x2,p3x3,p3x4⟩:=id X;obtain⟨p3y0,p3y1,p3y2,p3y3,p3y4⟩:=id Y;obtain⟨p3z0,p3z1,p3z2,p3z3,p3z4⟩:=id Z))
 refine bodyPost_ret (v:=.tuple #[.agg #[.int .i64 x,.int .i64 y],.int .i64 e]) (by simp [results,Try.results59,go_sem, *]) rfl ⟨rfl, ?_⟩;repeat' (first | (with_reducible exact HB) | (with_reducible refine Below.setCell ?_ ?_ _) | go_size)
set_option maxHeartbeats 2000000 in
theorem rMul_bad (aN aD bN bD:Int) (b1 b2:Bool) (h:(b1&&b2)=false)
  (r1:∀W,Calls Try.prog 28 #[.agg #[.int .i64 aN,.int .i64 aD]] W fun r w'=>r=.returned (.bool b1)/\Below W.heap.size W w')
  (r2:∀W,Calls Try.prog 28 #[.agg #[.int .i64 bN,.int .i64 bD]] W fun r w'=>r=.returned (.bool b2)/\Below W.heap.size W w') (w:World) :
  Calls Try.prog 81 #[.agg #[.int .i64 aN,.int .i64 aD],.agg #[.int .i64 bN,.int .i64 bD]] w fun r w'=>r=.returned (.tuple #[.agg #[.int .i64 0,.int .i64 0],.int .i64 1])/\Below w.heap.size w w':=by
 have HB:Below w.heap.size w (((w.alloc (.cells #[.int .i64 aN,.int .i64 aD] 27)).alloc (.cells #[.int .i64 bN,.int .i64 bD] 27)).alloc (.cells #[.int .i64 0,.int .i64 0] 27)):=by go_grown
 have X:Has2 (((w.alloc (.cells #[.int .i64 aN,.int .i64 aD] 27)).alloc (.cells #[.int .i64 bN,.int .i64 bD] 27)).alloc (.cells #[.int .i64 0,.int .i64 0] 27)) w.heap.size (.int .i64 aN) (.int .i64 aD):=⟨by go_simp,by go_simp,by go_simp,by go_simp,by go_size⟩
 have Y:Has2 (((w.alloc (.cells #[.int .i64 aN,.int .i64 aD] 27)).alloc (.cells #[.int .i64 bN,.int .i64 bD] 27)).alloc (.cells #[.int .i64 0,.int .i64 0] 27)) (w.heap.size+1) (.int .i64 bN) (.int .i64 bD):=⟨by go_simp,by go_simp,by go_simp,by go_simp,by go_size⟩
 have Z:Has2 (((w.alloc (.cells #[.int .i64 aN,.int .i64 aD] 27)).alloc (.cells #[.int .i64 bN,.int .i64 bD] 27)).alloc (.cells #[.int .i64 0,.int .i64 0] 27)) (w.heap.size+1+1) (.int .i64 0) (.int .i64 0):=⟨by go_simp,by go_simp,by go_simp,by go_simp,by go_size⟩
 go_enter Try.func81,Try.ntmps81
 go_upto_region 1 with fail
 generalize (((w.alloc (.cells #[.int .i64 aN,.int .i64 aD] 27)).alloc (.cells #[.int .i64 bN,.int .i64 bD] 27)).alloc (.cells #[.int .i64 0,.int .i64 0] 27))=V1 at *
 obtain⟨px0,px1,px2,px3,px4⟩:=id X;obtain⟨py0,py1,py2,py3,py4⟩:=id Y;obtain⟨pz0,pz1,pz2,pz3,pz4⟩:=id Z
 cases b1
 ·go_wp2_with (go_at_call_of 28 (Value.agg #[.int .i64 aN,.int .i64 aD]);(with_reducible refine (r1 _).mono ?_);rintro _ W1 ⟨rfl,hb1⟩;replace X:=X.keep hb1;replace Y:=Y.keep hb1;replace Z:=Z.keep hb1;replace HB:=later HB hb1;clear hb1;obtain⟨p1x0,p1x1,p1x2,p1x3,p1x4⟩:=id X;obtain⟨p1y0,p1y1,p1y2,p1y3,p1y4⟩:=id Y;obtain⟨p1z0,p1z1,p1z2,p1z3,p1z4⟩:=id Z)
  refine bodyPost_ret (v:=.tuple #[.agg #[.int .i64 0,.int .i64 0],.int .i64 1]) (by simp [results,Try.results81,go_sem, *]) rfl ⟨rfl, ?_⟩;repeat' (first | (with_reducible exact HB) | (with_reducible refine Below.setCell ?_ ?_ _) | go_size)
 ·cases b2
  ·go_wp2_with (first | (go_at_call_of 28 (Value.agg #[.int .i64 aN,.int .i64 aD]);(with_reducible refine (r1 _).mono ?_);rintro _ W1 ⟨rfl,hb1⟩;replace X:=X.keep hb1;replace Y:=Y.keep hb1;replace Z:=Z.keep hb1;replace HB:=later HB hb1;clear hb1;obtain⟨p1x0,p1x1,p1x2,p1x3,p1x4⟩:=id X;obtain⟨p1y0,p1y1,p1y2,p1y3,p1y4⟩:=id Y;obtain⟨p1z0,p1z1,p1z2,p1z3,p1z4⟩:=id Z) | (go_at_call_of 28 (Value.agg #[.int .i64 bN,.int .i64 bD]);(with_reducible refine (r2 _).mono ?_);rintro _ W2 ⟨rfl,hb1⟩;replace X:=X.keep hb1;replace Y:=Y.keep hb1;replace Z:=Z.keep hb1;replace HB:=later HB hb1;clear hb1;obtain⟨p2x0,p2x1,p2x2,p2x3,p2x4⟩:=id X;obtain⟨p2y0,p2y1,p2y2,p2y3,p2y4⟩:=id Y;obtain⟨p2z0,p2z1,p2z2,p2z3,p2z4⟩:=id Z))
   refine bodyPost_ret (v:=.tuple #[.agg #[.int .i64 0,.int .i64 0],.int .i64 1]) (by simp [results,Try.results81,go_sem, *]) rfl ⟨rfl, ?_⟩;repeat' (first | (with_reducible exact HB) | (with_reducible refine Below.setCell ?_ ?_ _) | go_size)
  ·cases h
set_option maxHeartbeats 2000000 in
theorem rMul_good (aN aD bN bD x y e:Int)
  (r1:∀W,Calls Try.prog 28 #[.agg #[.int .i64 aN,.int .i64 aD]] W fun r w'=>r=.returned (.bool true)/\Below W.heap.size W w')
  (r2:∀W,Calls Try.prog 28 #[.agg #[.int .i64 bN,.int .i64 bD]] W fun r w'=>r=.returned (.bool true)/\Below W.heap.size W w')
  (c:∀W,Calls Try.prog 78 #[.agg #[.int .i64 aN,.int .i64 aD],.agg #[.int .i64 bN,.int .i64 bD]] W fun r w'=>r=.returned (.tuple #[.agg #[.int .i64 x,.int .i64 y],.int .i64 e])/\Below W.heap.size W w') (w:World) :
  Calls Try.prog 81 #[.agg #[.int .i64 aN,.int .i64 aD],.agg #[.int .i64 bN,.int .i64 bD]] w fun r w'=>r=.returned (.tuple #[.agg #[.int .i64 x,.int .i64 y],.int .i64 e])/\Below w.heap.size w w':=by
 have HB:Below w.heap.size w (((w.alloc (.cells #[.int .i64 aN,.int .i64 aD] 27)).alloc (.cells #[.int .i64 bN,.int .i64 bD] 27)).alloc (.cells #[.int .i64 0,.int .i64 0] 27)):=by go_grown
 have X:Has2 (((w.alloc (.cells #[.int .i64 aN,.int .i64 aD] 27)).alloc (.cells #[.int .i64 bN,.int .i64 bD] 27)).alloc (.cells #[.int .i64 0,.int .i64 0] 27)) w.heap.size (.int .i64 aN) (.int .i64 aD):=⟨by go_simp,by go_simp,by go_simp,by go_simp,by go_size⟩
 have Y:Has2 (((w.alloc (.cells #[.int .i64 aN,.int .i64 aD] 27)).alloc (.cells #[.int .i64 bN,.int .i64 bD] 27)).alloc (.cells #[.int .i64 0,.int .i64 0] 27)) (w.heap.size+1) (.int .i64 bN) (.int .i64 bD):=⟨by go_simp,by go_simp,by go_simp,by go_simp,by go_size⟩
 have Z:Has2 (((w.alloc (.cells #[.int .i64 aN,.int .i64 aD] 27)).alloc (.cells #[.int .i64 bN,.int .i64 bD] 27)).alloc (.cells #[.int .i64 0,.int .i64 0] 27)) (w.heap.size+1+1) (.int .i64 0) (.int .i64 0):=⟨by go_simp,by go_simp,by go_simp,by go_simp,by go_size⟩
 go_enter Try.func81,Try.ntmps81
 go_upto_region 1 with fail
 generalize (((w.alloc (.cells #[.int .i64 aN,.int .i64 aD] 27)).alloc (.cells #[.int .i64 bN,.int .i64 bD] 27)).alloc (.cells #[.int .i64 0,.int .i64 0] 27))=V1 at *
 obtain⟨px0,px1,px2,px3,px4⟩:=id X;obtain⟨py0,py1,py2,py3,py4⟩:=id Y;obtain⟨pz0,pz1,pz2,pz3,pz4⟩:=id Z
 go_wp2_with (first | (go_at_call_of 28 (Value.agg #[.int .i64 aN,.int .i64 aD]);(with_reducible refine (r1 _).mono ?_);rintro _ W1 ⟨rfl,hb1⟩;replace X:=X.keep hb1;replace Y:=Y.keep hb1;replace Z:=Z.keep hb1;replace HB:=later HB hb1;clear hb1;obtain⟨p1x0,p1x1,p1x2,p1x3,p1x4⟩:=id X;obtain⟨p1y0,p1y1,p1y2,p1y3,p1y4⟩:=id Y;obtain⟨p1z0,p1z1,p1z2,p1z3,p1z4⟩:=id Z) | (go_at_call_of 28 (Value.agg #[.int .i64 bN,.int .i64 bD]);(with_reducible refine (r2 _).mono ?_);rintro _ W2 ⟨rfl,hb1⟩;replace X:=X.keep hb1;replace Y:=Y.keep hb1;replace Z:=Z.keep hb1;replace HB:=later HB hb1;clear hb1;obtain⟨p2x0,p2x1,p2x2,p2x3,p2x4⟩:=id X;obtain⟨p2y0,p2y1,p2y2,p2y3,p2y4⟩:=id Y;obtain⟨p2z0,p2z1,p2z2,p2z3,p2z4⟩:=id Z) | (go_at_call 78;(with_reducible refine (c _).mono ?_);rintro _ W3 ⟨rfl,hb1⟩;replace X:=X.keep hb1;replace Y:=Y.keep hb1;replace Z:=Z.keep hb1;replace HB:=later HB hb1;clear hb1;obtain⟨p3x0,p3x1,p3x2,p3x3,p3x4⟩:=id X;obtain⟨p3y0,p3y1,p3y2,p3y3,p3y4⟩:=id Y;obtain⟨p3z0,p3z1,p3z2,p3z3,p3z4⟩:=id Z))
 refine bodyPost_ret (v:=.tuple #[.agg #[.int .i64 x,.int .i64 y],.int .i64 e]) (by simp [results,Try.results81,go_sem, *]) rfl ⟨rfl, ?_⟩;repeat' (first | (with_reducible exact HB) | (with_reducible refine Below.setCell ?_ ?_ _) | go_size)
set_option maxHeartbeats 2000000 in
theorem rDiv_bad (aN aD bN bD:Int) (b1 b2:Bool) (h:(b1&&b2)=false)
  (r1:∀W,Calls Try.prog 28 #[.agg #[.int .i64 aN,.int .i64 aD]] W fun r w'=>r=.returned (.bool b1)/\Below W.heap.size W w')
  (r2:∀W,Calls Try.prog 28 #[.agg #[.int .i64 bN,.int .i64 bD]] W fun r w'=>r=.returned (.bool b2)/\Below W.heap.size W w') (w:World) :
  Calls Try.prog 61 #[.agg #[.int .i64 aN,.int .i64 aD],.agg #[.int .i64 bN,.int .i64 bD]] w fun r w'=>r=.returned (.tuple #[.agg #[.int .i64 0,.int .i64 0],.int .i64 1])/\Below w.heap.size w w':=by
 have HB:Below w.heap.size w (((w.alloc (.cells #[.int .i64 aN,.int .i64 aD] 27)).alloc (.cells #[.int .i64 bN,.int .i64 bD] 27)).alloc (.cells #[.int .i64 0,.int .i64 0] 27)):=by go_grown
 have X:Has2 (((w.alloc (.cells #[.int .i64 aN,.int .i64 aD] 27)).alloc (.cells #[.int .i64 bN,.int .i64 bD] 27)).alloc (.cells #[.int .i64 0,.int .i64 0] 27)) w.heap.size (.int .i64 aN) (.int .i64 aD):=⟨by go_simp,by go_simp,by go_simp,by go_simp,by go_size⟩
 have Y:Has2 (((w.alloc (.cells #[.int .i64 aN,.int .i64 aD] 27)).alloc (.cells #[.int .i64 bN,.int .i64 bD] 27)).alloc (.cells #[.int .i64 0,.int .i64 0] 27)) (w.heap.size+1) (.int .i64 bN) (.int .i64 bD):=⟨by go_simp,by go_simp,by go_simp,by go_simp,by go_size⟩
 have Z:Has2 (((w.alloc (.cells #[.int .i64 aN,.int .i64 aD] 27)).alloc (.cells #[.int .i64 bN,.int .i64 bD] 27)).alloc (.cells #[.int .i64 0,.int .i64 0] 27)) (w.heap.size+1+1) (.int .i64 0) (.int .i64 0):=⟨by go_simp,by go_simp,by go_simp,by go_simp,by go_size⟩
 go_enter Try.func61,Try.ntmps61
 go_upto_region 1 with fail
 generalize (((w.alloc (.cells #[.int .i64 aN,.int .i64 aD] 27)).alloc (.cells #[.int .i64 bN,.int .i64 bD] 27)).alloc (.cells #[.int .i64 0,.int .i64 0] 27))=V1 at *
 obtain⟨px0,px1,px2,px3,px4⟩:=id X;obtain⟨py0,py1,py2,py3,py4⟩:=id Y;obtain⟨pz0,pz1,pz2,pz3,pz4⟩:=id Z
 cases b1
 ·go_wp2_with (go_at_call_of 28 (Value.agg #[.int .i64 aN,.int .i64 aD]);(with_reducible refine (r1 _).mono ?_);rintro _ W1 ⟨rfl,hb1⟩;replace X:=X.keep hb1;replace Y:=Y.keep hb1;replace Z:=Z.keep hb1;replace HB:=later HB hb1;clear hb1;obtain⟨p1x0,p1x1,p1x2,p1x3,p1x4⟩:=id X;obtain⟨p1y0,p1y1,p1y2,p1y3,p1y4⟩:=id Y;obtain⟨p1z0,p1z1,p1z2,p1z3,p1z4⟩:=id Z)
  refine bodyPost_ret (v:=.tuple #[.agg #[.int .i64 0,.int .i64 0],.int .i64 1]) (by simp [results,Try.results61,go_sem, *]) rfl ⟨rfl, ?_⟩;repeat' (first | (with_reducible exact HB) | (with_reducible refine Below.setCell ?_ ?_ _) | go_size)
 ·cases b2
  ·go_wp2_with (first | (go_at_call_of 28 (Value.agg #[.int .i64 aN,.int .i64 aD]);(with_reducible refine (r1 _).mono ?_);rintro _ W1 ⟨rfl,hb1⟩;replace X:=X.keep hb1;replace Y:=Y.keep hb1;replace Z:=Z.keep hb1;replace HB:=later HB hb1;clear hb1;obtain⟨p1x0,p1x1,p1x2,p1x3,p1x4⟩:=id X;obtain⟨p1y0,p1y1,p1y2,p1y3,p1y4⟩:=id Y;obtain⟨p1z0,p1z1,p1z2,p1z3,p1z4⟩:=id Z) | (go_at_call_of 28 (Value.agg #[.int .i64 bN,.int .i64 bD]);(with_reducible refine (r2 _).mono ?_);rintro _ W2 ⟨rfl,hb1⟩;replace X:=X.keep hb1;replace Y:=Y.keep hb1;replace Z:=Z.keep hb1;replace HB:=later HB hb1;clear hb1;obtain⟨p2x0,p2x1,p2x2,p2x3,p2x4⟩:=id X;obtain⟨p2y0,p2y1,p2y2,p2y3,p2y4⟩:=id Y;obtain⟨p2z0,p2z1,p2z2,p2z3,p2z4⟩:=id Z))
   refine bodyPost_ret (v:=.tuple #[.agg #[.int .i64 0,.int .i64 0],.int .i64 1]) (by simp [results,Try.results61,go_sem, *]) rfl ⟨rfl, ?_⟩;repeat' (first | (with_reducible exact HB) | (with_reducible refine Below.setCell ?_ ?_ _) | go_size)
  ·cases h
set_option maxHeartbeats 2000000 in
theorem rDiv_zero (aN aD bD:Int)
  (r1:∀W,Calls Try.prog 28 #[.agg #[.int .i64 aN,.int .i64 aD]] W fun r w'=>r=.returned (.bool true)/\Below W.heap.size W w')
  (r2:∀W,Calls Try.prog 28 #[.agg #[.int .i64 0,.int .i64 bD]] W fun r w'=>r=.returned (.bool true)/\Below W.heap.size W w') (w:World) :
  Calls Try.prog 61 #[.agg #[.int .i64 aN,.int .i64 aD],.agg #[.int .i64 0,.int .i64 bD]] w fun r w'=>r=.returned (.tuple #[.agg #[.int .i64 0,.int .i64 0],.int .i64 6])/\Below w.heap.size w w':=by
 have HB:Below w.heap.size w (((w.alloc (.cells #[.int .i64 aN,.int .i64 aD] 27)).alloc (.cells #[.int .i64 0,.int .i64 bD] 27)).alloc (.cells #[.int .i64 0,.int .i64 0] 27)):=by go_grown
 have X:Has2 (((w.alloc (.cells #[.int .i64 aN,.int .i64 aD] 27)).alloc (.cells #[.int .i64 0,.int .i64 bD] 27)).alloc (.cells #[.int .i64 0,.int .i64 0] 27)) w.heap.size (.int .i64 aN) (.int .i64 aD):=⟨by go_simp,by go_simp,by go_simp,by go_simp,by go_size⟩
 have Y:Has2 (((w.alloc (.cells #[.int .i64 aN,.int .i64 aD] 27)).alloc (.cells #[.int .i64 0,.int .i64 bD] 27)).alloc (.cells #[.int .i64 0,.int .i64 0] 27)) (w.heap.size+1) (.int .i64 0) (.int .i64 bD):=⟨by go_simp,by go_simp,by go_simp,by go_simp,by go_size⟩
 have Z:Has2 (((w.alloc (.cells #[.int .i64 aN,.int .i64 aD] 27)).alloc (.cells #[.int .i64 0,.int .i64 bD] 27)).alloc (.cells #[.int .i64 0,.int .i64 0] 27)) (w.heap.size+1+1) (.int .i64 0) (.int .i64 0):=⟨by go_simp,by go_simp,by go_simp,by go_simp,by go_size⟩
 go_enter Try.func61,Try.ntmps61
 go_upto_region 1 with fail
 generalize (((w.alloc (.cells #[.int .i64 aN,.int .i64 aD] 27)).alloc (.cells #[.int .i64 0,.int .i64 bD] 27)).alloc (.cells #[.int .i64 0,.int .i64 0] 27))=V1 at *
 obtain⟨px0,px1,px2,px3,px4⟩:=id X;obtain⟨py0,py1,py2,py3,py4⟩:=id Y;obtain⟨pz0,pz1,pz2,pz3,pz4⟩:=id Z
 go_upto_region 3 with (first | (go_at_call_of 28 (Value.agg #[.int .i64 aN,.int .i64 aD]);(with_reducible refine (r1 _).mono ?_);rintro _ W1 ⟨rfl,hb1⟩;replace X:=X.keep hb1;replace Y:=Y.keep hb1;replace Z:=Z.keep hb1;replace HB:=later HB hb1;clear hb1;obtain⟨p1x0,p1x1,p1x2,p1x3,p1x4⟩:=id X;obtain⟨p1y0,p1y1,p1y2,p1y3,p1y4⟩:=id Y;obtain⟨p1z0,p1z1,p1z2,p1z3,p1z4⟩:=id Z) | (go_at_call_of 28 (Value.agg #[.int .i64 0,.int .i64 bD]);(with_reducible refine (r2 _).mono ?_);rintro _ W2 ⟨rfl,hb1⟩;replace X:=X.keep hb1;replace Y:=Y.keep hb1;replace Z:=Z.keep hb1;replace HB:=later HB hb1;clear hb1;obtain⟨p2x0,p2x1,p2x2,p2x3,p2x4⟩:=id X;obtain⟨p2y0,p2y1,p2y2,p2y3,p2y4⟩:=id Y;obtain⟨p2z0,p2z1,p2z2,p2z3,p2z4⟩:=id Z))
 go_wp2_with fail
 refine bodyPost_ret (v:=.tuple #[.agg #[.int .i64 0,.int .i64 0],.int .i64 6]) (by simp [results,Try.results61,go_sem, *]) rfl ⟨rfl, ?_⟩;repeat' (first | (with_reducible exact HB) | (with_reducible refine Below.setCell ?_ ?_ _) | go_size)
set_option maxHeartbeats 2000000 in
theorem rDiv_good (aN aD bN bD x y e tN tD:Int) (hz:(bN==0)=false)
  (r1:∀W,Calls Try.prog 28 #[.agg #[.int .i64 aN,.int .i64 aD]] W fun r w'=>r=.returned (.bool true)/\Below W.heap.size W w')
  (r2:∀W,Calls Try.prog 28 #[.agg #[.int .i64 bN,.int .i64 bD]] W fun r w'=>r=.returned (.bool true)/\Below W.heap.size W w')
  (ct:∀W,Calls Try.prog 79 #[.agg #[.int .i64 bN,.int .i64 bD]] W fun r w'=>r=.returned (.agg #[.int .i64 tN,.int .i64 tD])/\Below W.heap.size W w')
  (c:∀W,Calls Try.prog 78 #[.agg #[.int .i64 aN,.int .i64 aD],.agg #[.int .i64 tN,.int .i64 tD]] W fun r w'=>r=.returned (.tuple #[.agg #[.int .i64 x,.int .i64 y],.int .i64 e])/\Below W.heap.size W w') (w:World) :
  Calls Try.prog 61 #[.agg #[.int .i64 aN,.int .i64 aD],.agg #[.int .i64 bN,.int .i64 bD]] w fun r w'=>r=.returned (.tuple #[.agg #[.int .i64 x,.int .i64 y],.int .i64 e])/\Below w.heap.size w w':=by
 have HB:Below w.heap.size w (((w.alloc (.cells #[.int .i64 aN,.int .i64 aD] 27)).alloc (.cells #[.int .i64 bN,.int .i64 bD] 27)).alloc (.cells #[.int .i64 0,.int .i64 0] 27)):=by go_grown
 have X:Has2 (((w.alloc (.cells #[.int .i64 aN,.int .i64 aD] 27)).alloc (.cells #[.int .i64 bN,.int .i64 bD] 27)).alloc (.cells #[.int .i64 0,.int .i64 0] 27)) w.heap.size (.int .i64 aN) (.int .i64 aD):=⟨by go_simp,by go_simp,by go_simp,by go_simp,by go_size⟩
 have Y:Has2 (((w.alloc (.cells #[.int .i64 aN,.int .i64 aD] 27)).alloc (.cells #[.int .i64 bN,.int .i64 bD] 27)).alloc (.cells #[.int .i64 0,.int .i64 0] 27)) (w.heap.size+1) (.int .i64 bN) (.int .i64 bD):=⟨by go_simp,by go_simp,by go_simp,by go_simp,by go_size⟩
 have Z:Has2 (((w.alloc (.cells #[.int .i64 aN,.int .i64 aD] 27)).alloc (.cells #[.int .i64 bN,.int .i64 bD] 27)).alloc (.cells #[.int .i64 0,.int .i64 0] 27)) (w.heap.size+1+1) (.int .i64 0) (.int .i64 0):=⟨by go_simp,by go_simp,by go_simp,by go_simp,by go_size⟩
 go_enter Try.func61,Try.ntmps61
 go_upto_region 1 with fail
 generalize (((w.alloc (.cells #[.int .i64 aN,.int .i64 aD] 27)).alloc (.cells #[.int .i64 bN,.int .i64 bD] 27)).alloc (.cells #[.int .i64 0,.int .i64 0] 27))=V1 at *
 obtain⟨px0,px1,px2,px3,px4⟩:=id X;obtain⟨py0,py1,py2,py3,py4⟩:=id Y;obtain⟨pz0,pz1,pz2,pz3,pz4⟩:=id Z
 go_upto_region 5 with (first | (go_at_call_of 28 (Value.agg #[.int .i64 aN,.int .i64 aD]);(with_reducible refine (r1 _).mono ?_);rintro _ W1 ⟨rfl,hb1⟩;replace X:=X.keep hb1;replace Y:=Y.keep hb1;replace Z:=Z.keep hb1;replace HB:=later HB hb1;clear hb1;obtain⟨p1x0,p1x1,p1x2,p1x3,p1x4⟩:=id X;obtain⟨p1y0,p1y1,p1y2,p1y3,p1y4⟩:=id Y;obtain⟨p1z0,p1z1,p1z2,p1z3,p1z4⟩:=id Z) | (go_at_call_of 28 (Value.agg #[.int .i64 bN,.int .i64 bD]);(with_reducible refine (r2 _).mono ?_);rintro _ W2 ⟨rfl,hb1⟩;replace X:=X.keep hb1;replace Y:=Y.keep hb1;replace Z:=Z.keep hb1;replace HB:=later HB hb1;clear hb1;obtain⟨p2x0,p2x1,p2x2,p2x3,p2x4⟩:=id X;obtain⟨p2y0,p2y1,p2y2,p2y3,p2y4⟩:=id Y;obtain⟨p2z0,p2z1,p2z2,p2z3,p2z4⟩:=id Z))
 clear px0 px1 px2 px3 px4 py0 py1 py2 py3 py4 pz0 pz1 pz2 pz3 pz4 p1x0 p1x1 p1x2 p1x3 p1x4 p1y0 p1y1 p1y2 p1y3 p1y4 p1z0 p1z1 p1z2 p1z3 p1z4 p2x0 p2x1 p2x2 p2x3 p2x4 p2y0 p2y1 p2y2 p2y3 p2y4 p2z0 p2z1 p2z2 p2z3 p2z4
 have kX0:=fun n:Behind W2=>n.cell X.1 X.2.2.2.2
 have kX1:=fun n:Behind W2=>n.cell X.2.1 X.2.2.2.2
 have kY0:=fun n:Behind W2=>n.cell Y.1 Y.2.2.2.2
 have kY1:=fun n:Behind W2=>n.cell Y.2.1 Y.2.2.2.2
 refine tail_behind 6 (by kernel_rfl) (by kernel_rfl) ?_
 simp only [List.take_succ_cons,List.take_zero,List.drop_succ_cons,List.drop_zero]
 repeat (go_big_quiet_step (first | (go_at_call 79;with_reducible refine Behind.call (ct _)) | (go_at_call 78;with_reducible refine Behind.call (c _))))
 refine wpQuiet_nil ?_
 rintro _ ⟨m',rfl⟩
 obtain⟨V3,hb1⟩:=m'
 dsimp only
 clear kX0 kX1 kY0 kY1
 replace Z:=Z.keep hb1
 replace HB:=later HB hb1
 clear hb1
 obtain⟨z0,z1,z2,z3,z4⟩:=id Z
 go_wp2_with fail
 refine bodyPost_ret (v:=.tuple #[.agg #[.int .i64 x,.int .i64 y],.int .i64 e]) (by simp [results,Try.results61,go_sem, *]) rfl ⟨rfl, ?_⟩;repeat' (first | (with_reducible exact HB) | (with_reducible refine Below.setCell ?_ ?_ _) | go_size)
theorem addRat_w (aN aD bN bD:Int) (ha:I64 aN/\I64 aD) (hb:I64 bN/\I64 bD) (w:World) :
  Calls Try.prog 80 #[.agg #[.int .i64 aN,.int .i64 aD],.agg #[.int .i64 bN,.int .i64 bD]] w fun r w'=>r=.returned (.tuple #[.agg #[.int .i64 (addV11 aN aD bN bD).1,.int .i64 (addV11 aN aD bN bD).2.1],.int .i64 (addV11 aN aD bN bD).2.2])/\Below w.heap.size w w':=by
 have r1:=fun W=>rright_w11 aN aD ha.1 ha.2 W
 have r2:=fun W=>rright_w11 bN bD hb.1 hb.2 W
 by_cases c:(rightR aN aD&&rightR bN bD)=true
 ·have e:addV11 aN aD bN bD=ofV (decide (aN*bD+bN*aD<0)) (aN*bD+bN*aD).natAbs (aD.natAbs*bD.natAbs):=by unfold addV11;rw [if_pos c]
  rw [e]
  obtain⟨q1,q2⟩:=Bool.and_eq_true_iff.1 c
  rw [q1] at r1
  rw [q2] at r2
  exact rAdd_good aN aD bN bD _ _ _ r1 r2 (fun W=>rsum_w aN aD bN bD ha hb (rightR_G q1) (rightR_G q2) (rightR_D q1) (rightR_D q2) (rightR_N q1) (rightR_N q2) W) w
 ·have e:addV11 aN aD bN bD=(0,0,1):=by unfold addV11;rw [if_neg c]
  rw [e]
  exact rAdd_bad aN aD bN bD _ _ (by simpa using c) r1 r2 w
theorem subRat_w (aN aD bN bD:Int) (ha:I64 aN/\I64 aD) (hb:I64 bN/\I64 bD) (w:World) :
  Calls Try.prog 59 #[.agg #[.int .i64 aN,.int .i64 aD],.agg #[.int .i64 bN,.int .i64 bD]] w fun r w'=>r=.returned (.tuple #[.agg #[.int .i64 (subV11 aN aD bN bD).1,.int .i64 (subV11 aN aD bN bD).2.1],.int .i64 (subV11 aN aD bN bD).2.2])/\Below w.heap.size w w':=by
 have r1:=fun W=>rright_w11 aN aD ha.1 ha.2 W
 have r2:=fun W=>rright_w11 bN bD hb.1 hb.2 W
 by_cases c:(rightR aN aD&&rightR bN bD)=true
 ·obtain⟨q1,q2⟩:=Bool.and_eq_true_iff.1 c
  have n2:=rightR_neg q2 hb.1
  have nb:=rightR_N q2
  have hb':I64 (-bN):=⟨by have:=hb.1.2;omega,by have:=hb.1.1;omega⟩
  have e:subV11 aN aD bN bD=ofV (decide (aN*bD+-bN*aD<0)) (aN*bD+-bN*aD).natAbs (aD.natAbs*bD.natAbs):=by unfold subV11;rw [if_pos q2];unfold addV11;rw [q1,n2];rfl
  rw [e]
  rw [q1] at r1
  rw [q2] at r2
  exact rSub_good aN aD bN bD _ _ _ (-bN) (by rw [IntKind.wrap_i64];have:=hb'.1;have:=hb'.2;omega) r1 r2 (fun W=>rsum_w aN aD (-bN) bD ha ⟨hb',hb.2⟩ (rightR_G q1) (rightR_G n2) (rightR_D q1) (rightR_D q2) (rightR_N q1) (rightR_N n2) W) w
 ·have e:subV11 aN aD bN bD=(0,0,1):=by
   unfold subV11
   by_cases q2:rightR bN bD=true
   ·have q1:rightR aN aD=false:=by
     cases h:rightR aN aD
     ·rfl
     ·rw [h,q2] at c;exact absurd rfl c
    rw [if_pos q2]
    unfold addV11
    rw [q1]
    rfl
   ·rw [if_neg q2]
  rw [e]
  exact rSub_bad aN aD bN bD _ _ (by simpa using c) r1 r2 w
theorem mulRat_w (aN aD bN bD:Int) (ha:I64 aN/\I64 aD) (hb:I64 bN/\I64 bD) (w:World) :
  Calls Try.prog 81 #[.agg #[.int .i64 aN,.int .i64 aD],.agg #[.int .i64 bN,.int .i64 bD]] w fun r w'=>r=.returned (.tuple #[.agg #[.int .i64 (mulV11 aN aD bN bD).1,.int .i64 (mulV11 aN aD bN bD).2.1],.int .i64 (mulV11 aN aD bN bD).2.2])/\Below w.heap.size w w':=by
 have r1:=fun W=>rright_w11 aN aD ha.1 ha.2 W
 have r2:=fun W=>rright_w11 bN bD hb.1 hb.2 W
 by_cases c:(rightR aN aD&&rightR bN bD)=true
 ·have e:mulV11 aN aD bN bD=ofV (!(decide (aN<0)==decide (bN<0))) (aN.natAbs*bN.natAbs) (aD.natAbs*bD.natAbs):=by unfold mulV11;rw [if_pos c]
  rw [e]
  obtain⟨q1,q2⟩:=Bool.and_eq_true_iff.1 c
  rw [q1] at r1
  rw [q2] at r2
  exact rMul_good aN aD bN bD _ _ _ r1 r2 (fun W=>times_w aN aD bN bD ha hb (rightR_G q1) (rightR_G q2) (rightR_D q1) (rightR_D q2) (rightR_N q1) (rightR_N q2) W) w
 ·have e:mulV11 aN aD bN bD=(0,0,1):=by unfold mulV11;rw [if_neg c]
  rw [e]
  exact rMul_bad aN aD bN bD _ _ (by simpa using c) r1 r2 w
theorem divRat_w (aN aD bN bD:Int) (ha:I64 aN/\I64 aD) (hb:I64 bN/\I64 bD) (w:World) :
  Calls Try.prog 61 #[.agg #[.int .i64 aN,.int .i64 aD],.agg #[.int .i64 bN,.int .i64 bD]] w fun r w'=>r=.returned (.tuple #[.agg #[.int .i64 (divV11 aN aD bN bD).1,.int .i64 (divV11 aN aD bN bD).2.1],.int .i64 (divV11 aN aD bN bD).2.2])/\Below w.heap.size w w':=by
 have r1:=fun W=>rright_w11 aN aD ha.1 ha.2 W
 have r2:=fun W=>rright_w11 bN bD hb.1 hb.2 W
 by_cases c:(rightR aN aD&&rightR bN bD)=true
 ·obtain⟨q1,q2⟩:=Bool.and_eq_true_iff.1 c
  have d2:=rightR_D q2
  have n2:=rightR_N q2
  rw [q1] at r1
  rw [q2] at r2
  by_cases z:bN=0
  ·subst z
   have e:divV11 aN aD 0 bD=(0,0,6):=by unfold divV11;rw [if_pos c,if_pos rfl]
   rw [e]
   exact rDiv_zero aN aD bD r1 r2 w
  ·have e:divV11 aN aD bN bD=ofV (!(decide (aN<0)==decide (bN<0))) (aN.natAbs*bD.natAbs) (aD.natAbs*bN.natAbs):=by unfold divV11;rw [if_pos c,if_neg z]
   rw [e]
   obtain⟨⟨b1,b2⟩,b3,b4⟩:=hb
   have G2:=rightR_G q2
   have t1:(tuR bN bD).1.natAbs=bD.natAbs:=by unfold tuR;split <;> simp
   have t2:(tuR bN bD).2.natAbs=bN.natAbs:=by unfold tuR;split <;> simp
   have t3:decide ((tuR bN bD).1<0)=decide (bN<0):=by
    unfold tuR
    by_cases k:bN<0
    ·rw [if_pos k,decide_eq_true k,decide_eq_true]
     show -bD<0
     omega
    ·rw [if_neg k,decide_eq_false k,decide_eq_false]
     show ¬bD<0
     omega
   have t4:1<=(tuR bN bD).2:=by unfold tuR;split <;> simp <;> omega
   have t5:I64 (tuR bN bD).1/\I64 (tuR bN bD).2/\(tuR bN bD).1≠-9223372036854775808:=by
    unfold tuR I64
    split <;> simp <;> omega
   have ct:=fun W=>turned_w bN bD ⟨by omega,by omega⟩ ⟨by omega,by omega⟩ W
   rw [<-t1,<-t2,<-t3]
   generalize (tuR bN bD).1=tN at *
   generalize (tuR bN bD).2=tD at *
   exact rDiv_good aN aD bN bD _ _ _ tN tD (by simpa using z) r1 r2 ct (fun W=>times_w aN aD tN tD ha ⟨t5.1,t5.2.1⟩ (rightR_G q1) (by rw [t1,t2,Nat.gcd_comm];exact G2) (rightR_D q1) t4 (rightR_N q1) t5.2.2 W) w
 ·have e:divV11 aN aD bN bD=(0,0,1):=by unfold divV11;rw [if_neg c]
  rw [e]
  exact rDiv_bad aN aD bN bD _ _ (by simpa using c) r1 r2 w
end Go.Proofs.Ytbejmklkicoibaa
