/- Plain facts: the parts that the program rounds, of sums, products, quotients and roots, stand for the exact ones. Plain facts: quotients and roots, rounded down, are the exact ones' places. Plain facts: sums, products, quotients and roots, rounded to a side, rise with the exact ones; infinite ends too. The walks of Mag, Mig, Sqr and Sqrt, of intervals that hold some number. The walks of Sqr and Sqrt, of intervals that hold some number. -/
import Derived.Test.YtgfppdboogldlaaGreatZs04
import Derived.Test.YtgfppdboogldlaaGreatZs05
import Derived.Test.YtgfppdboogldlaaGreatZs06
namespace Go.Proofs.YtgfppdboogldlaaGreat
theorem mark_near (T D:Nat) (hD:0<D) {M:Nat} (hM:M=markN (T/D) (decide (T%D≠0))) :
   (T%D=0∧M*D=T)∨(T%D≠0∧M%2=1∧(M-1)*D<T∧T<(M+1)*D∧T/D≤M):=by
 have hm:=Nat.div_add_mod T D
 have hl:=Nat.mod_lt T hD
 rw [Nat.mul_comm] at hm
 by_cases h:T%D=0
 · left
   refine⟨h, ?_⟩
   rw [hM,h]
   show T/D*D=T
   omega
 · right
   have e:M=T/D/2*2+1:=by rw [hM];simp [h,markN]
   generalize T/D=q at *
   have h1:(M-1)*D≤q*D:=Nat.mul_le_mul_right D (by omega)
   have h2:(q+1)*D≤(M+1)*D:=Nat.mul_le_mul_right D (by omega)
   have h3:(q+1)*D=q*D+D:=Nat.succ_mul q D
   refine⟨h,by omega,by omega,by omega,by omega⟩
theorem near_of {C:Cut} {T D a b M:Nat} {E:Int} (hD:0<D) (hab:(b:Int)-a=E+1075) (hle:∀h,C.le h↔h*2^a*D≤T*2^b) (heq:∀h,C.eq h↔h*2^a*D=T*2^b)
   (hM:M=markN (T/D) (decide (T%D≠0))) (big:T%D≠0→36028797018963968≤T/D):Near M E C:=by
 refine⟨a,b,hab, ?_⟩
 rcases mark_near T D hD hM with ⟨-,e⟩ | ⟨hr,odd,lo,hi,le⟩
 · left
   intro h
   have e2:T*2^b=M*2^b*D:=by rw [←e,Nat.mul_right_comm]
   rw [hle h,heq h,e2]
   exact⟨Nat.mul_le_mul_right_iff hD,Nat.mul_left_inj (by omega)⟩
 · right
   refine⟨odd,by have:=big hr;omega,fun h=>?_⟩
   have p:=Nat.two_pow_pos b
   have l1:(M-1)*2^b*D<T*2^b:=by rw [Nat.mul_right_comm];exact Nat.mul_lt_mul_of_pos_right lo p
   have l2:T*2^b<(M+1)*2^b*D:=by rw [Nat.mul_right_comm];exact Nat.mul_lt_mul_of_pos_right hi p
   rw [hle h,heq h]
   constructor
   · intro c
     have:=Nat.mul_le_mul_right D c
     exact⟨by omega,by omega⟩
   · intro c
     have:=Nat.mul_le_mul_right D c
     exact⟨by omega,by omega⟩
theorem split_val {x:Nat} (hf:finB x=true):val (x%9223372036854775808)=splitM x*2^(splitE x+1074).toNat:=by
 have hr:x%9223372036854775808<9218868437227405312:=by simpa [finB] using hf
 have hm:x%4503599627370496=x%9223372036854775808%4503599627370496:=by omega
 unfold splitM splitE val
 rw [hm]
 generalize x%9223372036854775808=r at *
 by_cases h0:r=0
 · subst h0
   rw [if_pos (by omega),if_pos (by omega),Nat.zero_mul]
 · rw [if_neg h0]
   have e:(-1074+((r/4503599627370496-1:Nat):Int)+1074).toNat=r/4503599627370496-1:=by omega
   rw [e]
   by_cases h1:r<4503599627370496
   · have:r/4503599627370496-1=0:=by omega
     rw [if_pos h1,if_pos h1,this];simp
   · rw [if_neg h1,if_neg h1]
theorem key_val {x:Nat} (hx:x<18446744073709551616):V (key x)=if splitG x then -(val (x%9223372036854775808):Int) else (val (x%9223372036854775808):Int):=by
 unfold key splitG
 by_cases h:x<9223372036854775808
 · have h2:¬9223372036854775808<x:=by omega
   have h3:x%9223372036854775808=x:=by omega
   rw [if_pos h,h3,V_nat];simp [h2]
 · rw [if_neg h]
   have e:9223372036854775808-(x:Int)=-((x%9223372036854775808:Nat):Int):=by omega
   rw [e,V_negnat]
   by_cases h2:9223372036854775808<x
   · simp [h2]
   · have:x%9223372036854775808=0:=by omega
     rw [this,val_zero];simp [h2]
def exQ (N:Int) (D:Nat):Ex:=⟨fun h=>h*D≤N,fun h=>N≤h*D⟩
theorem exQ_ok (N:Int) {D:Nat} (hD:0<D):(exQ N D).Ok where
 down:=fun {h k} c d=>Int.le_trans (Int.mul_le_mul_of_nonneg_right c (by omega)) d
 total:=fun h=>Int.le_total _ _
 sep:=fun {h k} c d=>by
   have:k*(D:Int)≤h*D:=Int.le_trans d c
   exact Int.le_of_mul_le_mul_right this (by omega)
theorem amt_Q {N:Int} {D:Nat} {g:Bool} (hg:if g then N≤0 else 0≤N) (h:Nat):(((exQ N D).amt g).le h↔h*D≤N.natAbs)∧(((exQ N D).amt g).eq h↔h*D=N.natAbs):=by
 have e1:((h*D:Nat):Int)=(h:Int)*(D:Int):=by simp
 cases g
 · simp only [Bool.false_eq_true,if_false] at hg
   have l:((exQ N D).amt false).le h↔(h:Int)*D≤N:=Iff.rfl
   have q:((exQ N D).amt false).eq h↔((h:Int)*D≤N∧N≤(h:Int)*D):=Iff.rfl
   rw [l,q,←e1]
   omega
 · simp only [if_true] at hg
   have l:((exQ N D).amt true).le h↔N≤-(h:Int)*D:=Iff.rfl
   have q:((exQ N D).amt true).eq h↔(-(h:Int)*D≤N∧N≤-(h:Int)*D):=Iff.rfl
   rw [l,q,Int.neg_mul,←e1]
   omega
theorem add_parts (mp mq n:Nat) (g:Bool) (h1:mq*1024≤mp*1024*2^n) :
   (if g then mp*1024-moveN (mq*1024) n else mp*1024+moveN (mq*1024) n)=markN ((if g then mp*1024*2^n-mq*1024 else mp*1024*2^n+mq*1024)/2^n) (decide ((if g then mp*1024*2^n-mq*1024 else mp*1024*2^n+mq*1024)%2^n≠0)):=by
 have hD:0<2^n:=Nat.two_pow_pos n
 have hm:=Nat.div_add_mod (mq*1024) (2^n)
 have hl:=Nat.mod_lt (mq*1024) hD
 rw [Nat.mul_comm] at hm
 unfold moveN
 cases g
 · simp only [Bool.false_eq_true,if_false]
   rw [Nat.add_comm (mp*1024*2^n),Nat.add_mul_div_right _ _ hD,Nat.add_mul_mod_self_right]
   by_cases c:mq*1024%2^n=0
   · simp only [c,markN,ne_eq,not_true_eq_false,decide_false,Bool.false_eq_true,if_false];omega
   · simp only [c,markN,ne_eq,not_false_eq_true,decide_true,if_true];omega
 · simp only [if_true]
   by_cases c:mq*1024%2^n=0
   · have e:mp*1024*2^n-mq*1024=(mp*1024-mq*1024/2^n)*2^n:=by
       rw [Nat.sub_mul];omega
     rw [e,Nat.mul_div_cancel _ hD,Nat.mul_mod_left]
     simp only [c,markN,ne_eq,not_true_eq_false,decide_false,Bool.false_eq_true,if_false]
   · have hk:mq*1024/2^n<mp*1024:=by
       rw [Nat.div_lt_iff_lt_mul hD]
       rcases Nat.lt_or_eq_of_le h1 with d | d
       · exact d
       · rw [d,Nat.mul_mod_left] at c;exact absurd rfl c
     have e:mp*1024*2^n-mq*1024=(2^n-mq*1024%2^n)+(mp*1024-mq*1024/2^n-1)*2^n:=by
       have s1:(mp*1024-mq*1024/2^n-1)*2^n=mp*1024*2^n-mq*1024/2^n*2^n-2^n:=by rw [Nat.sub_mul,Nat.sub_mul,Nat.one_mul]
       have s2:(mq*1024/2^n+1)*2^n≤mp*1024*2^n:=Nat.mul_le_mul_right _ hk
       rw [Nat.succ_mul] at s2
       omega
     have lt:2^n-mq*1024%2^n<2^n:=by omega
     rw [e,Nat.add_mul_div_right _ _ hD,Nat.add_mul_mod_self_right,Nat.div_eq_of_lt lt,Nat.mod_eq_of_lt lt]
     have c2:2^n-mq*1024%2^n≠0:=by omega
     simp only [c,c2,markN,ne_eq,not_false_eq_true,decide_true,if_true]
     generalize mq*1024/2^n=k at *
     omega
theorem big_sum {y p q:Nat} {g:Bool} (h3:4611686018427387904≤y) (hp:2048≤p) (hq:q≤9223372036854775808):36028797018963968*p≤if g then y*p-q else y*p+q:=by
 have b2:=Nat.mul_le_mul_right p h3
 generalize y*p=z at *
 cases g
 · simp only [Bool.false_eq_true,if_false];omega
 · simp only [if_true];omega
theorem add_near {gp gq:Bool} {mp mq:Nat} {ep eq:Int} {C:Cut} (hp:mp<9007199254740992) (hq:mq<9007199254740992) (e1:-1074≤eq) (e2:eq≤ep) (norm:eq<ep→4503599627370496≤mp) (same:ep=eq→mq≤mp)
   (hle:∀h,C.le h↔h≤2*(if gp != gq then mp*2^(ep+1074).toNat-mq*2^(eq+1074).toNat else mp*2^(ep+1074).toNat+mq*2^(eq+1074).toNat))
   (heq:∀h,C.eq h↔h=2*(if gp != gq then mp*2^(ep+1074).toNat-mq*2^(eq+1074).toNat else mp*2^(ep+1074).toNat+mq*2^(eq+1074).toNat)) :
   Near (addM gp mp ep gq mq eq) (ep-10) C∧mq*2^(eq+1074).toNat≤mp*2^(ep+1074).toNat:=by
 obtain⟨Q,hQ⟩:∃Q:Nat,(Q:Int)=eq+1074:=⟨(eq+1074).toNat,by omega⟩
 obtain⟨n,hn⟩:∃n:Nat,(n:Int)=ep-eq:=⟨(ep-eq).toNat,by omega⟩
 have tQ:(eq+1074).toNat=Q:=by omega
 have tP:(ep+1074).toNat=n+Q:=by omega
 have tn:(ep-eq).toNat=n:=by omega
 unfold addM
 rw [tn]
 simp only [tQ,tP] at hle heq ⊢
 have hle1:mq*1024≤mp*1024*2^n:=by
   by_cases z:n=0
   · subst z
     have:=same (by omega)
     simp;omega
   · have h2:2^1≤2^n:=Nat.pow_le_pow_right (by omega) (by omega)
     have:=norm (by omega)
     have h3:mp*1024*2≤mp*1024*2^n:=Nat.mul_le_mul_left _ h2
     omega
 have hle2:mq*2^Q≤mp*2^(n+Q):=by
   rw [Nat.pow_add,←Nat.mul_assoc]
   apply Nat.mul_le_mul_right
   have:mp*1024*2^n=mp*2^n*1024:=Nat.mul_right_comm _ _ _
   omega
 refine⟨?_,hle2⟩
 have hD:0<2^n:=Nat.two_pow_pos n
 have key:∀g:Bool,2*(if g then mp*2^(n+Q)-mq*2^Q else mp*2^(n+Q)+mq*2^Q)*2^10=(if g then mp*1024*2^n-mq*1024 else mp*1024*2^n+mq*1024)*2^(Q+1):=fun g=>by
   have x1:mp*1024*2^n*2^(Q+1)=2*(mp*2^(n+Q))*2^10:=by
     rw [Nat.pow_add 2 n Q,Nat.pow_succ]
     simp only [Nat.mul_comm,Nat.mul_left_comm,Nat.mul_assoc]
   have x2:mq*1024*2^(Q+1)=2*(mq*2^Q)*2^10:=by
     rw [Nat.pow_succ]
     simp only [Nat.mul_comm,Nat.mul_left_comm,Nat.mul_assoc]
   cases g
   · simp only [Bool.false_eq_true,if_false]
     rw [Nat.add_mul,x1,x2,Nat.mul_add,Nat.add_mul]
   · simp only [if_true]
     rw [Nat.sub_mul,x1,x2,Nat.mul_sub,Nat.sub_mul]
 have key:=key (gp != gq)
 have hA:=add_parts mp mq n (gp != gq) hle1
 have r1:(if gp != gq then mp*1024*2^n-mq*1024 else mp*1024*2^n+mq*1024)*2^(n+Q+1)=2*(if gp != gq then mp*2^(n+Q)-mq*2^Q else mp*2^(n+Q)+mq*2^Q)*2^10*2^n:=by
   rw [key,Nat.add_assoc,Nat.add_comm n,Nat.pow_add 2 (Q+1) n,←Nat.mul_assoc]
 refine near_of (T:=if gp != gq then mp*1024*2^n-mq*1024 else mp*1024*2^n+mq*1024) (D:=2^n) (a:=10) (b:=n+Q+1) hD (by omega) (fun h=>?_) (fun h=>?_) hA ?_
 · rw [hle h,r1,mul_two_pow_le,mul_two_pow_le]
 · rw [heq h,r1,mul_two_pow_eq,mul_two_pow_eq]
 · intro hr
   have hn11:11≤n:=by
     rcases Nat.lt_or_ge n 11 with c | c
     · exfalso
       apply hr
       have d:2^n ∣ 1024:=⟨2^(10-n),by rw [←Nat.pow_add,show n+(10-n)=10 by omega]⟩
       have d1:2^n ∣ mq*1024:=Nat.dvd_trans d (Nat.dvd_mul_left _ _)
       have d2:2^n ∣ mp*1024*2^n:=Nat.dvd_mul_left _ _
       cases (gp != gq)
       · simp only [Bool.false_eq_true,if_false]
         exact Nat.mod_eq_zero_of_dvd (Nat.dvd_add d2 d1)
       · simp only [if_true]
         exact Nat.mod_eq_zero_of_dvd (Nat.dvd_sub d2 d1)
     · exact c
   have:=norm (by omega)
   rw [Nat.le_div_iff_mul_le hD]
   have b1:2^11≤2^n:=Nat.pow_le_pow_right (by omega) hn11
   exact big_sum (by omega) b1 (by omega)
theorem round_down {x:Ex} (ok:x.Ok) {g:Bool} {M:Nat} {E:Int} (hM:M<18446744073709551616) (hE:-4096≤E∧E≤4096) (hz:M=0→x.le 0∧x.ge 0) (hg:if g then x.ge 0 else x.le 0) (near:M≠0→Near M E (x.amt g)) :
   KDown x (key (roundN g M E (-1))):=by
 unfold roundN
 by_cases h0:M=0
 · rw [if_pos h0]
   obtain⟨l,u⟩:=hz h0
   have hk:key 0=0:=rfl
   rw [hk]
   refine⟨by omega,by omega,Or.inr ?_,Or.inr fun c=>?_⟩
   · rw [V_zero];exact l
   · have:=ok.sep u c
     have h1:=V_pos (show (0:Int)<0+1 by omega)
     omega
 · rw [if_neg h0]
   have ec:clampN E=E:=by unfold clampN;omega
   have es:sideN (-1) g=if g then 2 else 0:=by cases g <;> rfl
   rw [ec,es]
   have hr:=rung_is (ok.cut hg) (near h0) h0 hM (s:=if g then 2 else 0) (by cases g <;> simp)
   have hle:rungN (topN M) (E-shiftN M) (if g then 2 else 0)≤9218868437227405312:=by
     obtain⟨d,hd,r0,r2, -⟩:=hr
     have:=hd.top
     cases g
     · have:=r0 rfl;omega
     · rcases r2 rfl with ⟨-,c⟩ | ⟨-,c⟩ <;> omega
   rw [(signN_facts g _ hle).2.2.2]
   exact kdown_of ok hg hr
theorem sum_abs {Ap Aq:Nat} {gp gq:Bool} (h:Aq≤Ap):(2*((if gp then -(Ap:Int) else Ap)+(if gq then -(Aq:Int) else Aq))).natAbs=2*(if gp != gq then Ap-Aq else Ap+Aq) ∧
   (if gp then 2*((if gp then -(Ap:Int) else Ap)+(if gq then -(Aq:Int) else Aq))≤0 else 0≤2*((if gp then -(Ap:Int) else Ap)+(if gq then -(Aq:Int) else Aq))):=by
 cases gp <;> cases gq <;> simp <;> omega
theorem sum_first {gp gq:Bool} {mp mq:Nat} {ep eq:Int} (hp:mp<9007199254740992) (hq:mq<9007199254740992) (e1:-1074≤eq) (e3:ep≤971) (e2:eq≤ep) (norm:eq<ep→4503599627370496≤mp) (same:ep=eq→mq≤mp)
   (hM:addM gp mp ep gq mq eq<18446744073709551616) :
   KDown (exQ (2*((if gp then -((mp*2^(ep+1074).toNat:Nat):Int) else (mp*2^(ep+1074).toNat:Nat))+(if gq then -((mq*2^(eq+1074).toNat:Nat):Int) else (mq*2^(eq+1074).toNat:Nat)))) 1) (key (roundN gp (addM gp mp ep gq mq eq) (ep-10) (-1))):=by
 have hle:mq*2^(eq+1074).toNat≤mp*2^(ep+1074).toNat :=
   (add_near (gp:=gp) (gq:=gq) (C:=⟨fun h=>h≤_,fun h=>h=_⟩) hp hq e1 e2 norm same (fun h=>Iff.rfl) (fun h=>Iff.rfl)).2
 have ha:=fun gp gq=>sum_abs (gp:=gp) (gq:=gq) hle
 have nr:=fun C=>add_near (gp:=gp) (gq:=gq) (C:=C) hp hq e1 e2 norm same
 generalize mp*2^(ep+1074).toNat=Ap at *
 generalize mq*2^(eq+1074).toNat=Aq at *
 obtain⟨a1,a2⟩:=ha gp gq
 generalize 2*((if gp then -(Ap:Int) else Ap)+(if gq then -(Aq:Int) else Aq))=N at *
 have near:Near (addM gp mp ep gq mq eq) (ep-10) ((exQ N 1).amt gp):=by
   refine (nr _ (fun h=>?_) (fun h=>?_)).1
   · rw [(amt_Q a2 h).1,a1,Nat.mul_one]
   · rw [(amt_Q a2 h).2,a1,Nat.mul_one]
 refine round_down (exQ_ok N (by omega)) hM (by omega) (fun h0=>?_) ?_ (fun _=>near)
 · rw [h0] at near
   obtain⟨a,b, -,hc | ⟨odd, -, -⟩⟩:=near
   · have h1:=(hc 0).2.2 (by simp)
     have h2:=(amt_Q a2 0).2.1 h1
     have:N=0:=by omega
     subst this
     exact⟨by simp [exQ],by simp [exQ]⟩
   · omega
 · cases gp
   · simpa [exQ] using a2
   · simpa [exQ] using a2
theorem signed_val {x:Nat} (hx:x<18446744073709551616) (hf:finB x=true):V (key x)=if splitG x then -((splitM x*2^(splitE x+1074).toNat:Nat):Int) else ((splitM x*2^(splitE x+1074).toNat:Nat):Int):=by
 rw [key_val hx,split_val hf]
theorem near_self {m:Nat} {e:Int} (he:-1074≤e) {C:Cut} (hle:∀h,C.le h↔h≤2*(m*2^(e+1074).toNat)) (heq:∀h,C.eq h↔h=2*(m*2^(e+1074).toNat)):Near m e C:=by
 obtain⟨P,hP⟩:∃P:Nat,(P:Int)=e+1074:=⟨(e+1074).toNat,by omega⟩
 have tP:(e+1074).toNat=P:=by omega
 simp only [tP] at hle heq
 refine⟨0,P+1,by omega,Or.inl fun h=>?_⟩
 have e1:m*2^(P+1)=2*(m*2^P):=by rw [Nat.pow_succ,←Nat.mul_assoc,Nat.mul_comm]
 rw [hle h,heq h,e1,Nat.pow_zero,Nat.mul_one]
 exact⟨Iff.rfl,Iff.rfl⟩
theorem self_down {g:Bool} {m:Nat} {e:Int} (hm:m<9007199254740992) (he:-1074≤e∧e≤971) :
   KDown (exQ (2*(if g then -((m*2^(e+1074).toNat:Nat):Int) else (m*2^(e+1074).toNat:Nat))) 1) (key (roundN g m e (-1))):=by
 have ns:=fun C=>near_self (m:=m) (e:=e) (C:=C) he.1
 have z:m=0→m*2^(e+1074).toNat=0:=fun h=>by rw [h,Nat.zero_mul]
 generalize m*2^(e+1074).toNat=A at *
 have hg:if g then 2*(if g then -(A:Int) else A)≤0 else 0≤2*(if g then -(A:Int) else (A:Int)):=by cases g <;> simp <;> omega
 have ha:(2*(if g then -(A:Int) else A)).natAbs=2*A:=by cases g <;> simp <;> omega
 generalize 2*(if g then -(A:Int) else (A:Int))=N at *
 refine round_down (exQ_ok N (by omega)) (by omega) (by omega) (fun h0=>?_) ?_ (fun _=>ns _ (fun h=>?_) (fun h=>?_))
 · have:N=0:=by have:=z h0;omega
   subst this
   exact⟨by simp [exQ],by simp [exQ]⟩
 · cases g
   · simpa [exQ] using hg
   · simpa [exQ] using hg
 · rw [(amt_Q hg h).1,ha,Nat.mul_one]
 · rw [(amt_Q hg h).2,ha,Nat.mul_one]
theorem addF_down {a b:Nat} (ha:a<18446744073709551616) (hb:b<18446744073709551616) (fa:finB a=true) (fb:finB b=true) :
   KDown (exQ (2*(V (key a)+V (key b))) 1) (key (addF a b (-1))):=by
 have hm:=sumM_lt (splitG a) (splitM a) (splitE a) (splitG b) (splitM b) (splitE b) (splitM_lt a) (splitM_lt b)
 have ea:=splitE_bounds fa
 have eb:=splitE_bounds fb
 have na:=splitM_norm fa
 have nb:=splitM_norm fb
 have la:=splitM_lt a
 have lb:=splitM_lt b
 rw [signed_val ha fa,signed_val hb fb]
 unfold addF
 generalize splitG a=gp at *
 generalize splitG b=gq at *
 generalize splitM a=mp at *
 generalize splitM b=mq at *
 generalize splitE a=ep at *
 generalize splitE b=eq at *
 unfold sumM at *
 unfold sumG sumE
 by_cases z1:mp=0
 · subst z1
   simp only [if_true,Nat.zero_mul] at *
   have:=self_down (g:=gq) (m:=mq) (e:=eq) lb eb
   have e0:(if gp then -((0:Nat):Int) else ((0:Nat):Int))=0:=by cases gp <;> rfl
   rw [e0,Int.zero_add]
   exact this
 · simp only [z1,if_false] at hm ⊢
   by_cases z2:mq=0
   · subst z2
     simp only [if_true,Nat.zero_mul] at *
     have:=self_down (g:=gp) (m:=mp) (e:=ep) la ea
     have e0:(if gq then -((0:Nat):Int) else ((0:Nat):Int))=0:=by cases gq <;> rfl
     rw [e0,Int.add_zero]
     exact this
   · simp only [z2,if_false] at hm ⊢
     have hsw:swapP mp ep mq eq=decide (ep<eq∨ep=eq∧mp<mq):=rfl
     by_cases sw:ep<eq∨ep=eq∧mp<mq
     · have hs:swapP mp ep mq eq=true:=by rw [hsw];simp [sw]
       simp only [hs,if_true] at hm ⊢
       rw [Int.add_comm]
       exact sum_first lb la ea.1 eb.2 (by omega) (fun h=>nb z2 (by omega)) (fun h=>by omega) hm
     · have hs:swapP mp ep mq eq=false:=by rw [hsw];simp [sw]
       simp only [hs,Bool.false_eq_true,if_false] at hm ⊢
       exact sum_first la lb eb.1 ea.2 (by omega) (fun h=>na z1 (by omega)) (fun h=>by omega) hm
theorem top_eq (m:Nat):topN m=m*2^shiftN m:=rfl
theorem shift_le (m:Nat):shiftN m≤63:=by unfold shiftN;omega
theorem prod_abs {Ap Aq:Nat} {gp gq:Bool}:((if gp then -(Ap:Int) else Ap)*(if gq then -(Aq:Int) else Aq)).natAbs=Ap*Aq ∧
   (if gp != gq then (if gp then -(Ap:Int) else Ap)*(if gq then -(Aq:Int) else Aq)≤0 else 0≤(if gp then -(Ap:Int) else Ap)*(if gq then -(Aq:Int) else Aq)):=by
 have e:((Ap:Int)*(Aq:Int))=((Ap*Aq:Nat):Int):=by simp
 cases gp <;> cases gq <;> simp only [Bool.false_eq_true,if_false,if_true,Int.neg_mul,Int.mul_neg,Int.neg_neg,e,bne_self_eq_false,Bool.bne_true,Bool.not_false,Bool.bne_false] <;> constructor <;> omega
theorem mulF_down {u:Nat} (hu:u=1073) {a b:Nat} (ha:a<18446744073709551616) (hb:b<18446744073709551616) (fa:finB a=true) (fb:finB b=true) (za:splitM a≠0) (zb:splitM b≠0) :
   KDown (exQ (V (key a)*V (key b)) (2^u)) (key (mulF a b (-1))):=by
 have ea:=splitE_bounds fa
 have eb:=splitE_bounds fb
 have la:=splitM_lt a
 have lb:=splitM_lt b
 have hm:=prodM_lt za zb (show splitM a<18446744073709551616 by omega) (show splitM b<18446744073709551616 by omega)
 have ta:=topN_bounds za (by omega)
 have tb:=topN_bounds zb (by omega)
 rw [signed_val ha fa,signed_val hb fb]
 unfold mulF
 generalize splitG a=gp at *
 generalize splitG b=gq at *
 generalize splitM a=mp at *
 generalize splitM b=mq at *
 generalize splitE a=ep at *
 generalize splitE b=eq at *
 obtain⟨P,hP⟩:∃P:Nat,(P:Int)=ep+1074:=⟨(ep+1074).toNat,by omega⟩
 obtain⟨Q,hQ⟩:∃Q:Nat,(Q:Int)=eq+1074:=⟨(eq+1074).toNat,by omega⟩
 have tP:(ep+1074).toNat=P:=by omega
 have tQ:(eq+1074).toNat=Q:=by omega
 rw [tP,tQ]
 obtain⟨a1,a2⟩:=prod_abs (Ap:=mp*2^P) (Aq:=mq*2^Q) (gp:=gp) (gq:=gq)
 generalize (if gp then -((mp*2^P:Nat):Int) else (mp*2^P:Nat))*(if gq then -((mq*2^Q:Nat):Int) else (mq*2^Q:Nat))=N at *
 have sp:=shift_le mp
 have sq:=shift_le mq
 have hT:topN mp*topN mq*2^(P+Q)=(mp*2^P*(mq*2^Q))*2^(shiftN mp+shiftN mq):=by
   rw [top_eq,top_eq,Nat.pow_add,Nat.pow_add]
   simp only [Nat.mul_comm,Nat.mul_left_comm,Nat.mul_assoc]
 have hmid:∀h:Nat,h*2^(u+shiftN mp+shiftN mq)=h*2^u*2^(shiftN mp+shiftN mq):=fun h=>by
   rw [Nat.add_assoc,Nat.pow_add,←Nat.mul_assoc]
 have big:36028797018963968≤topN mp*topN mq/18446744073709551616:=by
   rw [Nat.le_div_iff_mul_le (by omega)]
   exact Nat.le_trans (by omega) (Nat.mul_le_mul ta.1 tb.1)
 have hz:prodM mp mq≠0:=by
   intro h
   rcases mark_near (topN mp*topN mq) 18446744073709551616 (by omega) (show prodM mp mq=_ from rfl) with ⟨-,e⟩ | ⟨-,e, -⟩
   · rw [h,Nat.zero_mul] at e
     have:=Nat.mul_le_mul ta.1 tb.1
     omega
   · omega
 have d64:(18446744073709551616:Nat)=2^64:=rfl
 have hT2:topN mp*topN mq*2^(P+Q+64)=(mp*2^P*(mq*2^Q))*2^(shiftN mp+shiftN mq)*18446744073709551616:=by
   rw [Nat.pow_add 2 (P+Q) 64,←Nat.mul_assoc,hT]
 refine round_down (exQ_ok N (Nat.two_pow_pos u)) hm (by unfold prodE;omega) (fun h0=>absurd h0 hz) ?_ (fun _=>near_of (T:=topN mp*topN mq) (D:=18446744073709551616) (a:=u+shiftN mp+shiftN mq) (b:=P+Q+64) (by omega) (by unfold prodE;omega) (fun h=>?_) (fun h=>?_) rfl (fun _=>big))
 · cases h:(gp != gq)
   · rw [h] at a2;simpa [exQ] using a2
   · rw [h] at a2;simpa [exQ] using a2
 · rw [(amt_Q a2 h).1,a1,hT2,hmid,d64,mul_two_pow_le,mul_two_pow_le]
 · rw [(amt_Q a2 h).2,a1,hT2,hmid,d64,mul_two_pow_eq,mul_two_pow_eq]
end Go.Proofs.YtgfppdboogldlaaGreat
namespace Go.Proofs.YtgfppdboogldlaaGreat
theorem roundN_zero (g:Bool) (e e' dir:Int):roundN g 0 e dir=roundN g 0 e' dir:=by unfold roundN;rw [if_pos rfl,if_pos rfl]
theorem quo_abs {Ap c:Nat} {gp gq:Bool}:((if gq then -(if gp then -(Ap:Int) else Ap) else (if gp then -(Ap:Int) else Ap))*(c:Int)).natAbs=Ap*c ∧
   (if gp != gq then (if gq then -(if gp then -(Ap:Int) else Ap) else (if gp then -(Ap:Int) else Ap))*(c:Int)≤0 else 0≤(if gq then -(if gp then -(Ap:Int) else Ap) else (if gp then -(Ap:Int) else Ap))*(c:Int)):=by
 have e:((Ap:Int)*(c:Int))=((Ap*c:Nat):Int):=by simp
 cases gp <;> cases gq <;> simp only [Bool.false_eq_true,if_false,if_true,Int.neg_mul,Int.neg_neg,e,bne_self_eq_false,Bool.bne_true,Bool.not_false,Bool.bne_false] <;> constructor <;> omega
theorem divF_down {u:Nat} (hu:u=1075) {a b:Nat} (ha:a<18446744073709551616) (fa:finB a=true) (fb:finB b=true) (zb:isZ b=false) :
   KDown (exQ ((if splitG b then -V (key a) else V (key a))*((2^u:Nat):Int)) (val (b%9223372036854775808))) (key (divF a b (-1))):=by
 have ea:=splitE_bounds fa
 have eb:=splitE_bounds fb
 have la:=splitM_lt a
 have lb:=splitM_lt b
 have hm:=divM_lt (a:=a) zb
 have zb:=splitM_zero zb
 have tb:=topN_bounds zb (by omega)
 rw [signed_val ha fa,split_val fb]
 unfold divF
 generalize splitG a=gp at *
 generalize splitG b=gq at *
 generalize splitM a=mp at *
 generalize splitM b=mq at *
 generalize splitE a=ep at *
 generalize splitE b=eq at *
 obtain⟨P,hP⟩:∃P:Nat,(P:Int)=ep+1074:=⟨(ep+1074).toNat,by omega⟩
 obtain⟨Q,hQ⟩:∃Q:Nat,(Q:Int)=eq+1074:=⟨(eq+1074).toNat,by omega⟩
 have tP:(ep+1074).toNat=P:=by omega
 have tQ:(eq+1074).toNat=Q:=by omega
 rw [tP,tQ]
 have z0:mp=0→(if gq then -(if gp then -((mp*2^P:Nat):Int) else (mp*2^P:Nat)) else (if gp then -((mp*2^P:Nat):Int) else (mp*2^P:Nat)))*((2^u:Nat):Int)=0:=by
   rintro rfl
   cases gp <;> cases gq <;> simp
 obtain⟨a1,a2⟩:=quo_abs (Ap:=mp*2^P) (c:=2^u) (gp:=gp) (gq:=gq)
 generalize (if gq then -(if gp then -((mp*2^P:Nat):Int) else (mp*2^P:Nat)) else (if gp then -((mp*2^P:Nat):Int) else (mp*2^P:Nat)))*((2^u:Nat):Int)=N at *
 have sp:=shift_le mp
 have sq:=shift_le mq
 have hDD:0<mq*2^Q:=Nat.mul_pos (by omega) (Nat.two_pow_pos Q)
 by_cases za:mp=0
 · have:N=0:=z0 za
   subst this
   have t0:topN 0=0:=by unfold topN;simp
   have q0:quoM mp mq=0:=by rw [za];unfold quoM;rw [t0,Nat.zero_mul,Nat.zero_div,Nat.zero_mod];rfl
   rw [q0]
   rw [roundN_zero _ _ 0]
   refine round_down (exQ_ok 0 hDD) (by omega) (by omega) (fun _=>⟨by simp [exQ],by simp [exQ]⟩) ?_ (fun h=>absurd rfl h)
   cases (gp != gq) <;> simp [exQ]
 · have ta:=topN_bounds za (by omega)
   have big:36028797018963968≤topN mp*9223372036854775808/topN mq:=by
     rw [Nat.le_div_iff_mul_le (by omega)]
     omega
   have hz:quoM mp mq≠0:=by
     intro h
     rcases mark_near (topN mp*9223372036854775808) (topN mq) (by omega) (show quoM mp mq=_ from rfl) with ⟨-,e⟩ | ⟨-,e, -⟩
     · rw [h,Nat.zero_mul] at e;omega
     · omega
   have d63:(9223372036854775808:Nat)=2^63:=rfl
   have hT:topN mp*9223372036854775808*2^(P+u+shiftN mq)=(mp*2^P*2^u)*2^(shiftN mp+shiftN mq+63):=by
     rw [top_eq,d63]
     simp only [Nat.pow_add,Nat.mul_comm,Nat.mul_left_comm,Nat.mul_assoc]
   have hmid:∀h:Nat,h*2^(Q+shiftN mp+63)*topN mq=h*(mq*2^Q)*2^(shiftN mp+shiftN mq+63):=fun h=>by
     rw [top_eq]
     simp only [Nat.pow_add,Nat.mul_comm,Nat.mul_left_comm,Nat.mul_assoc]
   refine round_down (exQ_ok N hDD) hm (by unfold quoE;omega) (fun h0=>absurd h0 hz) ?_ (fun _=>near_of (T:=topN mp*9223372036854775808) (D:=topN mq) (a:=Q+shiftN mp+63) (b:=P+u+shiftN mq) (by omega) (by unfold quoE;omega) (fun h=>?_) (fun h=>?_) rfl (fun _=>big))
   · cases h:(gp != gq)
     · rw [h] at a2;simpa [exQ] using a2
     · rw [h] at a2;simpa [exQ] using a2
   · rw [(amt_Q a2 h).1,a1,hT,hmid,mul_two_pow_le]
   · rw [(amt_Q a2 h).2,a1,hT,hmid,mul_two_pow_eq]
end Go.Proofs.YtgfppdboogldlaaGreat
namespace Go.Proofs.YtgfppdboogldlaaGreat
theorem key_inf {x:Nat} (hx:x<18446744073709551616) (hn:nanB x=false):finB x=false↔(key x=9218868437227405312∨key x=-9218868437227405312):=by
 have h1:¬9218868437227405312<x%9223372036854775808:=by simpa [nanB] using hn
 unfold finB key
 simp only [decide_eq_false_iff_not]
 split <;> omega
theorem fin_key {x:Nat} (hx:x<18446744073709551616) (hf:finB x=true):-9218868437227405311≤key x∧key x≤9218868437227405311:=by
 have h1:x%9223372036854775808<9218868437227405312:=by simpa [finB] using hf
 unfold key;split <;> omega
theorem key_zero {x:Nat} (hx:x<18446744073709551616):isZ x=true↔key x=0:=by
 unfold isZ key
 simp only [decide_eq_true_eq]
 split <;> omega
theorem V_inj0 {k:Int}:V k=0↔k=0:=by
 constructor
 · intro h
   rcases Int.lt_trichotomy k 0 with c | c | c
   · have:=V_lt0 c;omega
   · exact c
   · have:=V_pos c;omega
 · rintro rfl;rfl
theorem sign_key {x:Nat} (hx:x<18446744073709551616) (hz:isZ x=false):signB x=decide (key x<0):=by
 have h:¬x%9223372036854775808=0:=by simpa [isZ] using hz
 unfold signB key
 rw [Bool.eq_iff_iff]
 simp only [decide_eq_true_eq]
 split <;> omega
theorem infW_key (g:Bool):key (infW g)=if g then -9218868437227405312 else 9218868437227405312:=by cases g <;> decide
theorem exQ_le {M N:Int} {D:Nat} (h:M≤N) (k:Int):(exQ M D).le k→(exQ N D).le k:=fun c=>Int.le_trans c h
theorem add_mono {a b c d:Nat} (ha:a<18446744073709551616) (hb:b<18446744073709551616) (hc:c<18446744073709551616) (hd:d<18446744073709551616) (fa:finB a=true) (fb:finB b=true) (fc:finB c=true) (fd:finB d=true) (h1:key a≤key c) (h2:key b≤key d) :
   key (addF a b (-1))≤key (addF c d (-1)) :=
 kdown_mono (exQ_ok _ (by omega)) (exQ_le (by have:=V_mono_le h1;have:=V_mono_le h2;omega)) (addF_down ha hb fa fb) (addF_down hc hd fc fd)
theorem mulF_zero_le {u:Nat} (hu:u=1073) {a b:Nat} (ha:a<18446744073709551616) (hb:b<18446744073709551616) (fa:finB a=true) (fb:finB b=true) (za:isZ a=false) (zb:isZ b=false) :
   KDown (exQ (V (key a)*V (key b)) (2^u)) (key (mulF a b (-1))):=mulF_down hu ha hb fa fb (splitM_zero za) (splitM_zero zb)
theorem kdown_zero {x:Ex} (ok:x.Ok) (l:x.le 0) (g:x.ge 0):KDown x 0:=by
 refine⟨by omega,by omega,Or.inr ?_,Or.inr fun c=>?_⟩
 · rw [V_zero];exact l
 · have:=ok.sep g c
   have h1:=V_pos (show (0:Int)<0+1 by omega)
   omega
theorem mulR_down {u:Nat} (hu:u=1073) {a b r:Nat} (ha:a<18446744073709551616) (hb:b<18446744073709551616) (fa:finB a=true) (fb:finB b=true) (h:mulR a b (-1)=some r) :
   KDown (exQ (V (key a)*V (key b)) (2^u)) (key r):=by
 unfold mulR at h
 rw [fin_not_nan fa,fin_not_nan fb] at h
 simp only [Bool.or_self,Bool.false_eq_true,if_false] at h
 by_cases z:(isZ a || isZ b)=true
 · rw [if_pos z] at h
   have hz:V (key a)*V (key b)=0:=by
     rcases Bool.or_eq_true _ _ |>.mp z with c | c
     · rw [(V_inj0).2 ((key_zero ha).1 c),Int.zero_mul]
     · rw [(V_inj0).2 ((key_zero hb).1 c),Int.mul_zero]
   obtain rfl:0=r:=by injection h
   rw [hz]
   have k0:key 0=0:=rfl
   rw [k0]
   exact kdown_zero (exQ_ok 0 (Nat.two_pow_pos u)) (by simp [exQ]) (by simp [exQ])
 · have z':(isZ a || isZ b)=false:=by simpa using z
   rw [z',fa,fb] at h
   simp only [Bool.false_eq_true,if_false,Bool.and_self,if_true] at h
   obtain rfl:mulF a b (-1)=r:=by injection h
   have z2:=Bool.or_eq_false_iff.1 z'
   exact mulF_zero_le hu ha hb fa fb z2.1 z2.2
theorem mulR_inf {p q r:Nat} {d:Int} (hp:p<18446744073709551616) (hq:q<18446744073709551616) (np:nanB p=false) (nq:nanB q=false) (hf:(finB p&&finB q)=false) (h:mulR p q d=some r) (hle:V (key p)*V (key q)≤0) :
   (V (key p)*V (key q)=0∧key r=0)∨key r=-9218868437227405312:=by
 unfold mulR at h
 rw [np,nq,hf] at h
 simp only [Bool.or_self,Bool.false_eq_true,if_false] at h
 by_cases z:(isZ p || isZ q)=true
 · rw [if_pos z] at h
   left
   refine⟨?_,by injection h with h;rw [←h];rfl⟩
   rcases Bool.or_eq_true _ _ |>.mp z with c | c
   · rw [(V_inj0).2 ((key_zero hp).1 c),Int.zero_mul]
   · rw [(V_inj0).2 ((key_zero hq).1 c),Int.mul_zero]
 · right
   have z':(isZ p || isZ q)=false:=by simpa using z
   rw [z'] at h
   simp only [Bool.false_eq_true,if_false] at h
   injection h with h
   have z2:=Bool.or_eq_false_iff.1 z'
   have kp:key p≠0:=fun c=>by rw [(key_zero hp).2 c] at z2;cases z2.1
   have kq:key q≠0:=fun c=>by rw [(key_zero hq).2 c] at z2;cases z2.2
   rw [←h,infW_key,sign_key hp z2.1,sign_key hq z2.2]
   rcases Int.lt_or_le (key p) 0 with c1 | c1 <;> rcases Int.lt_or_le (key q) 0 with c2 | c2
   · have:=Int.mul_pos_of_neg_of_neg (V_lt0 c1) (V_lt0 c2);omega
   · have c3:¬key q<0:=by omega
     simp [c1,c3]
   · have c3:¬key p<0:=by omega
     simp [c2,c3]
   · have:=Int.mul_pos (V_pos (show 0<key p by omega)) (V_pos (show 0<key q by omega));omega
theorem mul_le {p q a b r s:Nat} (hp:p<18446744073709551616) (hq:q<18446744073709551616) (ha:a<18446744073709551616) (hb:b<18446744073709551616) (np:nanB p=false) (nq:nanB q=false) (fa:finB a=true) (fb:finB b=true)
   (hr:mulR p q (-1)=some r) (hs:mulR a b (-1)=some s) (h:V (key p)*V (key q)≤V (key a)*V (key b)) (hi:(finB p&&finB q)=false→V (key p)*V (key q)≤0):key r≤key s:=by
 obtain⟨u,hu⟩:∃u:Nat,u=1073:=⟨_,rfl⟩
 have ks:=mulR_down hu ha hb fa fb hs
 by_cases f:(finB p&&finB q)=true
 · obtain⟨fp,fq⟩:=Bool.and_eq_true_iff.1 f
   exact kdown_mono (exQ_ok _ (Nat.two_pow_pos u)) (exQ_le h) (mulR_down hu hp hq fp fq hr) ks
 · have f':(finB p&&finB q)=false:=by simpa using f
   rcases mulR_inf hp hq np nq f' hr (hi f') with ⟨e,k⟩ | k
   · rw [k]
     clear hu
     have h0:KDown (exQ 0 (2^u)) 0:=kdown_zero (exQ_ok 0 (Nat.two_pow_pos u)) (by simp [exQ]) (by simp [exQ])
     exact kdown_mono (exQ_ok _ (Nat.two_pow_pos u)) (exQ_le (by rw [←e];exact h)) h0 ks
   · rw [k];exact ks.bot
theorem mul_top {a b s:Nat} (ha:a<18446744073709551616) (hb:b<18446744073709551616) (fa:finB a=true) (fb:finB b=true) (hs:mulR a b (-1)=some s):key s≤9218868437227405311:=by
 obtain⟨u,hu⟩:∃u:Nat,u=1073:=⟨_,rfl⟩
 exact (mulR_down hu ha hb fa fb hs).top
theorem valz {b:Nat} (zb:isZ b=false):0<val (b%9223372036854775808):=by
 have h:¬b%9223372036854775808=0:=by simpa [isZ] using zb
 have:=val_mono (show 0<b%9223372036854775808 by omega)
 rw [val_zero] at this
 exact this
theorem div_pos_down {u:Nat} (hu:u=1075) {a b:Nat} (ha:a<18446744073709551616) (hb:b<18446744073709551616) (fa:finB a=true) (fb:finB b=true) (kb:0<key b) :
   KDown (exQ (V (key a)*((2^u:Nat):Int)) (V (key b)).toNat) (key (divF a b (-1))):=by
 have zb:isZ b=false:=by
   cases h:isZ b
   · rfl
   · have:=(key_zero hb).1 h;omega
 have gb:splitG b=false:=by
   unfold splitG
   unfold key at kb
   simp only [decide_eq_false_iff_not]
   split at kb <;> omega
 have h:=divF_down hu ha fa fb zb
 rw [gb] at h
 have e:(V (key b)).toNat=val (b%9223372036854775808):=by rw [key_val hb,gb];simp
 rw [e]
 simpa using h
theorem div_flip {a b:Nat} (ha:a<18446744073709551616) (hb:b<18446744073709551616) (fa:finB a=true) (fb:finB b=true) (zb:isZ b=false):key (divF (negB a) (negB b) (-1))=key (divF a b (-1)):=by
 obtain⟨u,hu⟩:∃u:Nat,u=1075:=⟨_,rfl⟩
 have h1:=divF_down hu ha fa fb zb
 have h2:=divF_down hu (negB_lt ha) (by rw [finB_negB ha];exact fa) (by rw [finB_negB hb];exact fb) (by rw [isZ_negB hb];exact zb)
 rw [splitG_negB hb (splitM_zero zb),key_negB ha,V_neg,mod_negB hb] at h2
 have e:(if (!splitG b)=true then -(-V (key a)) else -V (key a))=(if splitG b=true then -V (key a) else V (key a)):=by
   cases splitG b <;> simp
 rw [e] at h2
 have ok:=exQ_ok ((if splitG b=true then -V (key a) else V (key a))*((2^u:Nat):Int)) (valz zb)
 exact Int.le_antisymm (kdown_mono ok (fun _ c=>c) h2 h1) (kdown_mono ok (fun _ c=>c) h1 h2)
theorem div_le {p q a b:Nat} (hp:p<18446744073709551616) (hq:q<18446744073709551616) (ha:a<18446744073709551616) (hb:b<18446744073709551616) (fp:finB p=true) (fq:finB q=true) (fa:finB a=true) (fb:finB b=true) (kq:0<key q) (kb:0<key b)
   (h:V (key p)*V (key b)≤V (key a)*V (key q)):key (divF p q (-1))≤key (divF a b (-1)):=by
 obtain⟨u,hu⟩:∃u:Nat,u=1075:=⟨_,rfl⟩
 have h1:=div_pos_down hu hp hq fp fq kq
 have h2:=div_pos_down hu ha hb fa fb kb
 have vq:=V_pos kq
 have vb:=V_pos kb
 have eq:((V (key q)).toNat:Int)=V (key q):=by omega
 have eb:((V (key b)).toNat:Int)=V (key b):=by omega
 have hc:(0:Int)≤((2^u:Nat):Int):=Int.natCast_nonneg _
 clear hu
 generalize ((2^u:Nat):Int)=c at *
 refine kdown_mono (exQ_ok _ (by omega)) (fun k hk=>?_) h1 h2
 have hk:k*((V (key q)).toNat:Int)≤V (key p)*c:=hk
 show k*((V (key b)).toNat:Int)≤V (key a)*c
 rw [eq] at hk
 rw [eb]
 generalize V (key p)=P at *
 generalize V (key q)=Q at *
 generalize V (key a)=A at *
 generalize V (key b)=B at *
 have s1:k*Q*B≤P*c*B:=Int.mul_le_mul_of_nonneg_right hk (by omega)
 have s2:P*B*c≤A*Q*c:=Int.mul_le_mul_of_nonneg_right h hc
 have s3:k*B*Q≤A*c*Q:=by
   have e1:k*Q*B=k*B*Q:=Int.mul_right_comm _ _ _
   have e2:P*c*B=P*B*c:=Int.mul_right_comm _ _ _
   have e3:A*Q*c=A*c*Q:=Int.mul_right_comm _ _ _
   rw [e1,e2] at s1
   rw [e3] at s2
   exact Int.le_trans s1 s2
 exact Int.le_of_mul_le_mul_right s3 vq
theorem div_bot {u:Nat} (hu:u=1075) {a b:Nat} (ha:a<18446744073709551616) (fa:finB a=true) (fb:finB b=true) (zb:isZ b=false):-9218868437227405312≤key (divF a b (-1))∧key (divF a b (-1))≤9218868437227405311 :=
 ⟨(divF_down hu ha fa fb zb).bot,(divF_down hu ha fa fb zb).top⟩
theorem div_nonneg {a b:Nat} (ha:a<18446744073709551616) (hb:b<18446744073709551616) (fa:finB a=true) (fb:finB b=true) (ka:0≤key a) (kb:0<key b):0≤key (divF a b (-1)):=by
 obtain⟨u,hu⟩:∃u:Nat,u=1075:=⟨_,rfl⟩
 have h2:=div_pos_down hu ha hb fa fb kb
 have vb:=V_pos kb
 have va:=V_nonneg ka
 have hc:(0:Int)≤((2^u:Nat):Int):=Int.natCast_nonneg _
 clear hu
 generalize ((2^u:Nat):Int)=c at *
 have h0:KDown (exQ 0 (V (key b)).toNat) 0:=kdown_zero (exQ_ok 0 (by omega)) (by simp [exQ]) (by simp [exQ])
 exact kdown_mono (exQ_ok _ (by omega)) (exQ_le (Int.mul_nonneg va hc)) h0 h2
end Go.Proofs.YtgfppdboogldlaaGreat
namespace Go.Proofs.YtgfppdboogldlaaGreat
open Go.ChangeShapes Go.WideShapes Go.ChangeAt Go.RowKit
def mulV (a b:Nat) (d:Int):Nat:=(mulR a b d).getD 0
theorem mulV_is {a b:Nat} (d:Int) (na:nanB a=false) (nb:nanB b=false):mulR a b d=some (mulV a b d):=by
 obtain⟨r,h⟩:=mulR_num d na nb
 unfold mulV
 rw [h];rfl
theorem mulV_w (a b:Nat) (d:Int) (ha:a<18446744073709551616) (hb:b<18446744073709551616) (na:nanB a=false) (nb:nanB b=false) (w:World) :
   Calls Tryz.prog 164 #[.float .f64 a,.float .f64 b,.int .i64 d] w fun e w'=>e=.returned (.float .f64 (mulV a b d))∧Below w.heap.size w w':=by
 have h:=mul_w a b d ha hb w
 rw [mulV_is d na nb] at h
 refine h.mono ?_
 rintro _ _ ⟨⟨r,rfl, -,e⟩,hb⟩
 have e:r=mulV a b d:=e
 rw [e]
 exact⟨rfl,hb⟩
end Go.Proofs.YtgfppdboogldlaaGreat
