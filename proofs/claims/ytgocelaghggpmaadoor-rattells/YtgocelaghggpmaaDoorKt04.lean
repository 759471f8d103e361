/- Plain facts on the program's rounding, whatever is rounded: its three sides stand in order, no more than neighbours apart. Plain facts: what the program rounds an amount to is what the document asks for, of any exact amount that the parts stand for. Plain facts: numbers with signs, rounded down: the place of the greatest float that is not above; the greater the number, the greater the place. -/
import Derived.Test.YtgocelaghggpmaaDoorKt02
namespace Go.Proofs.YtgocelaghggpmaaDoor
theorem keptN_lt {m d:Nat} (hm:m<18446744073709551616) (hd:11≤d):keptN m d≤9007199254740991:=by
 unfold keptN
 split
 · omega
 · have h1:m/2^d≤m/2^11:=Nat.div_le_div_left (Nat.pow_le_pow_right (by omega) hd) (Nat.two_pow_pos _)
   have h2:m/2^11<2^53:=Nat.div_lt_of_lt_mul (by rw [←Nat.pow_add];exact hm)
   omega
theorem goes_zero (k r:Nat):goesN k r 0=false:=rfl
theorem goes_mono {k r:Nat} (h:goesN k r 1=true):goesN k r 2=true:=by
 have h1:goesN k r 1=decide (9223372036854775808<r∨r=9223372036854775808∧k%2=1):=rfl
 have h2:goesN k r 2=decide (r≠0):=rfl
 rw [h1] at h
 rw [h2]
 simp only [decide_eq_true_eq] at h ⊢
 omega
theorem rung_sides (t:Nat) (e:Int) (ht:t<18446744073709551616) :
   ∃(r:Nat) (b1 b2:Bool),r≤9218868437227405311∧rungN t e 0=r∧rungN t e 1=r+b1.toNat∧rungN t e 2=r+b2.toNat∧(b1=true→b2=true):=by
 have hd11:11≤dropN e:=by unfold dropN;omega
 have hk:=keptN_lt (d:=dropN e) ht hd11
 by_cases h:971<e+dropN e
 · refine⟨9218868437227405311,true,true,by omega, ?_, ?_, ?_,fun _=>rfl⟩
   · have b:rungN t e 0=boundN 0:=by unfold rungN;exact if_pos h
     have c:boundN 0=9218868437227405311:=if_pos rfl
     omega
   · have b:rungN t e 1=boundN 1:=by unfold rungN;exact if_pos h
     have c:boundN 1=9218868437227405312:=if_neg (by decide)
     simp only [Bool.toNat_true];omega
   · have b:rungN t e 2=boundN 2:=by unfold rungN;exact if_pos h
     have c:boundN 2=9218868437227405312:=if_neg (by decide)
     simp only [Bool.toNat_true];omega
 · have hd:-1074≤e+dropN e:=by unfold dropN;omega
   refine⟨(e+dropN e+1074).toNat*4503599627370496+keptN t (dropN e),goesN (keptN t (dropN e)) (restN t (dropN e)) 1,goesN (keptN t (dropN e)) (restN t (dropN e)) 2,by omega, ?_, ?_, ?_,goes_mono⟩
   · have b:rungN t e 0=(e+dropN e+1074).toNat*4503599627370496+keptN t (dropN e)+(goesN (keptN t (dropN e)) (restN t (dropN e)) 0).toNat:=by unfold rungN;exact if_neg h
     rw [b,goes_zero,Bool.toNat_false,Nat.add_zero]
   · unfold rungN;exact if_neg h
   · unfold rungN;exact if_neg h
theorem signN_facts (g:Bool) (r:Nat) (h:r≤9218868437227405312) :
   nanB (signN g r)=false∧signN g r≠9223372036854775808∧signN g r<18446744073709551616∧key (signN g r)=if g then -(r:Int) else r:=by
 unfold signN nanB key
 cases g
 · simp only [Bool.false_eq_true,if_false]
   refine⟨?_,by omega,by omega, ?_⟩
   · simp;omega
   · rw [if_pos (by omega)]
 · simp only [if_true]
   by_cases hz:r=0
   · subst hz;simp
   · rw [if_neg hz]
     refine⟨?_,by omega,by omega, ?_⟩
     · simp;omega
     · rw [if_neg (by omega)];omega
theorem roundN_facts (g:Bool) (m:Nat) (e dir:Int) (hm:m<18446744073709551616) :
   nanB (roundN g m e dir)=false∧roundN g m e dir≠9223372036854775808∧roundN g m e dir<18446744073709551616:=by
 unfold roundN
 by_cases h0:m=0
 · rw [if_pos h0];decide
 · rw [if_neg h0]
   have ht:=(topN_bounds h0 hm).2
   have hle:rungN (topN m) (clampN e-shiftN m) (sideN dir g)≤9218868437227405312:=by
     obtain⟨r,b1,b2,hr,h0',h1',h2',_⟩:=rung_sides (topN m) (clampN e-shiftN m) ht
     have hs:sideN dir g=0∨sideN dir g=1∨sideN dir g=2:=by unfold sideN;split <;> (try split) <;> omega
     rcases hs with hs | hs | hs
     · rw [hs,h0'];omega
     · rw [hs,h1'];cases b1 <;> simp <;> omega
     · rw [hs,h2'];cases b2 <;> simp <;> omega
   have hf:=signN_facts g _ hle
   exact⟨hf.1,hf.2.1,hf.2.2.1⟩
end Go.Proofs.YtgocelaghggpmaaDoor
namespace Go.Proofs.YtgocelaghggpmaaDoor
structure Cut where
 le:Nat→Prop
 eq:Nat→Prop
structure Cut.Ok (C:Cut):Prop where
 down:∀{h k:Nat},h≤k→C.le k→C.le h
 eqle:∀{h:Nat},C.eq h→C.le h
 eqlt:∀{h k:Nat},C.eq h→h<k→¬C.le k
 zero:C.le 0
structure IsDown (C:Cut) (d:Nat):Prop where
 top:d≤9218868437227405311
 low:C.le (2*val d)
 up:d=9218868437227405311∨¬C.le (2*val (d+1))
def IsR (C:Cut) (s:Int) (r:Nat):Prop:=∃d,IsDown C d∧(s=0→r=d)∧(s=2→(C.eq (2*val d)∧r=d∨¬C.eq (2*val d)∧r=d+1)) ∧
 (s=1→(C.eq (2*val d)∧r=d∨¬C.eq (2*val d)∧(C.eq (val d+val (d+1))∧r=(if d%2=0 then d else d+1)∨¬C.eq (val d+val (d+1))∧(C.le (val d+val (d+1))∧r=d+1∨¬C.le (val d+val (d+1))∧r=d))))
def Near (M:Nat) (E:Int) (C:Cut):Prop:=∃a b:Nat,(b:Int)-a=E+1075 ∧
 ((∀h,(C.le h↔h*2^a≤M*2^b)∧(C.eq h↔h*2^a=M*2^b)) ∨
  (M%2=1∧36028797018963968≤M∧∀h,(h*2^a≤(M-1)*2^b→C.le h∧¬C.eq h)∧((M+1)*2^b≤h*2^a→¬C.le h∧¬C.eq h)))
theorem mul_two_pow_le {x y b:Nat}:x*2^b≤y*2^b↔x≤y:=Nat.mul_le_mul_right_iff (Nat.two_pow_pos b)
theorem mul_two_pow_eq {x y b:Nat}:x*2^b=y*2^b↔x=y:=Nat.mul_left_inj (Nat.ne_of_gt (Nat.two_pow_pos b))
theorem near_grid {M:Nat} {E:Int} {C:Cut} (h:Near M E C) (h0:M≠0) (hM:M<18446744073709551616) (u:Nat) (hu:(u:Int)=E-shiftN M+dropN (E-shiftN M)+1074) (j:Nat) :
   (C.le (j*2^u)↔j*2^(dropN (E-shiftN M)-1)≤topN M)∧(C.eq (j*2^u)↔j*2^(dropN (E-shiftN M)-1)=topN M):=by
 obtain⟨a,b,hab,hc⟩:=h
 have hd:11≤dropN (E-shiftN M):=by unfold dropN;omega
 have hsh:shiftN M=63-M.log2:=rfl
 have hl:M.log2<64:=(Nat.log2_lt h0).2 hM
 generalize dropN (E-shiftN M)=d at *
 unfold topN
 generalize shiftN M=s at *
 have ex:u+a+s=d-1+b:=by omega
 have e1:j*2^u*2^a*2^s=j*2^(d-1)*2^b:=by
   rw [Nat.mul_assoc,Nat.mul_assoc,Nat.mul_assoc,←Nat.pow_add,←Nat.pow_add,←Nat.pow_add]
   congr 2;omega
 have e2:M*2^b*2^s=M*2^s*2^b:=Nat.mul_right_comm _ _ _
 rcases hc with hc | ⟨odd,big,hc⟩
 · rw [(hc (j*2^u)).1,(hc (j*2^u)).2,←mul_two_pow_le (b:=s),←mul_two_pow_eq (b:=s),e1,e2,mul_two_pow_le,mul_two_pow_eq]
   exact⟨Iff.rfl,Iff.rfl⟩
 · have hlog:55≤M.log2:=(Nat.le_log2 h0).2 big
   have hs:s+2≤d-1:=by omega
   have e3:j*2^(d-1)=(j*2^(d-1-s))*2^s:=by
     rw [Nat.mul_assoc,←Nat.pow_add];congr 2;omega
   have e4:j*2^u*2^a=(j*2^(d-1-s))*2^b:=by
     have:=e1
     rw [e3,Nat.mul_right_comm _ (2^s) (2^b)] at this
     exact mul_two_pow_eq.1 this
   have e5:2^(d-1-s)=2*2^(d-1-s-1):=by rw [←Nat.pow_succ'];congr 1;omega
   rw [e3,mul_two_pow_le,mul_two_pow_eq]
   have hc:=hc (j*2^u)
   rw [e4] at hc
   have ev:j*2^(d-1-s)%2=0:=by rw [e5,←Nat.mul_assoc,Nat.mul_comm j 2,Nat.mul_assoc];exact Nat.mul_mod_right _ _
   generalize j*2^(d-1-s)=J at *
   rw [mul_two_pow_le,mul_two_pow_le] at hc
   rcases Nat.lt_or_ge J M with c | c
   · have:=hc.1 (by omega)
     exact⟨⟨fun _=>by omega,fun _=>this.1⟩,⟨fun h=>absurd h this.2,fun h=>by omega⟩⟩
   · have:=hc.2 (by omega)
     exact⟨⟨fun h=>absurd h this.1,fun _=>by omega⟩,⟨fun h=>absurd h this.2,fun h=>by omega⟩⟩
theorem val_grid {u k:Nat} (hk:k≤9007199254740992) (h:u=0∨4503599627370496≤k):val (u*4503599627370496+k)=k*2^u:=by
 unfold val
 rcases Nat.lt_or_ge k 4503599627370496 with c | c
 · have hu:u=0:=by omega
   subst hu
   rw [if_pos (by omega)];simp
 · rw [if_neg (by omega)]
   rcases Nat.lt_or_ge k 9007199254740992 with c2 | c2
   · have h1:(u*4503599627370496+k)%4503599627370496=k-4503599627370496:=by omega
     have h2:(u*4503599627370496+k)/4503599627370496-1=u:=by omega
     have h3:4503599627370496+(k-4503599627370496)=k:=by omega
     rw [h1,h2,h3]
   · have hk2:k=9007199254740992:=by omega
     subst hk2
     have h1:(u*4503599627370496+9007199254740992)%4503599627370496=0:=by omega
     have h2:(u*4503599627370496+9007199254740992)/4503599627370496-1=u+1:=by omega
     rw [h1,h2,Nat.pow_succ];omega
theorem rest_facts {t d:Nat} (hd:11≤d) (ht:t<18446744073709551616) (h0:0<t) :
   (restN t d≠0↔(2*keptN t d)*2^(d-1)≠t)∧(9223372036854775808<restN t d↔(2*keptN t d+1)*2^(d-1)<t)∧(restN t d=9223372036854775808↔(2*keptN t d+1)*2^(d-1)=t) ∧
   (2*keptN t d)*2^(d-1)≤t∧t<(2*keptN t d+2)*2^(d-1):=by
 unfold restN keptN
 have e5:2^d=2*2^(d-1):=by rw [←Nat.pow_succ'];congr 1;omega
 by_cases c:64<d
 · rw [if_pos c,if_pos c]
   have hp:2^64≤2^(d-1):=Nat.pow_le_pow_right (by omega) (by omega)
   generalize 2^(d-1)=p at *
   simp only [Nat.mul_zero,Nat.zero_add,Nat.zero_mul,Nat.one_mul]
   omega
 · rw [if_neg c,if_neg c,e5]
   have hm:=Nat.div_add_mod t (2*2^(d-1))
   have hlt:t%(2*2^(d-1))<2*2^(d-1):=Nat.mod_lt _ (by have:=Nat.two_pow_pos (d-1);omega)
   have e6:2^(d-1)*2^(64-d)=9223372036854775808:=by rw [←Nat.pow_add,show d-1+(64-d)=63 by omega]
   have hq:=Nat.two_pow_pos (64-d)
   generalize t%(2*2^(d-1))=r at *
   generalize t/(2*2^(d-1))=k at *
   have e7:2*k*2^(d-1)=2*2^(d-1)*k:=by rw [Nat.mul_right_comm]
   have e8:(2*k+1)*2^(d-1)=2*2^(d-1)*k+2^(d-1):=by rw [Nat.add_mul,e7,Nat.one_mul]
   have e9:(2*k+2)*2^(d-1)=2*2^(d-1)*k+2*2^(d-1):=by rw [Nat.add_mul,e7]
   rw [e7,e8,e9]
   have g1:9223372036854775808<r*2^(64-d)↔2^(d-1)<r:=by
     rw [←e6];exact Nat.mul_lt_mul_right hq
   have g2:r*2^(64-d)=9223372036854775808↔r=2^(d-1):=by
     rw [←e6];exact mul_two_pow_eq
   have g3:r*2^(64-d)≠0↔r≠0:=by
     rw [ne_eq,Nat.mul_eq_zero];constructor <;> intro h <;> omega
   rw [g1,g2,g3]
   generalize 2*2^(d-1)*k=z at *
   generalize 2^(d-1)=p at *
   omega
theorem rung_far {C:Cut} (ok:C.Ok) {s:Int} (hs:s=0∨s=1∨s=2) {L:Nat} (hL:L=9218868437227405311) (h:C.le (2*val (L+1))):IsR C s (boundN s):=by
 have hv:=val_mono (show L<L+1 by omega)
 have b0:boundN 0=L:=hL.symm
 have b1:boundN 1=L+1:=by rw [hL];rfl
 have b2:boundN 2=L+1:=by rw [hL];rfl
 refine⟨L,⟨by omega,ok.down (by omega) h,Or.inl hL⟩, ?_, ?_, ?_⟩
 · rintro rfl;exact b0
 · rintro rfl
   exact Or.inr ⟨fun e=>ok.eqlt e (by omega) h,b2⟩
 · rintro rfl
   exact Or.inr ⟨fun e=>ok.eqlt e (by omega) h,Or.inr ⟨fun e=>ok.eqlt e (by omega) h,Or.inl ⟨ok.down (by omega) h,b1⟩⟩⟩
theorem rung_is {M:Nat} {E:Int} {C:Cut} (ok:C.Ok) (h:Near M E C) (h0:M≠0) (hM:M<18446744073709551616) {s:Int} (hs:s=0∨s=1∨s=2) :
   IsR C s (rungN (topN M) (E-shiftN M) s):=by
 have hb:=topN_bounds h0 hM
 have hd:11≤dropN (E-shiftN M):=by unfold dropN;omega
 have hd2:-1074≤E-shiftN M+dropN (E-shiftN M):=by unfold dropN;omega
 have hd3:dropN (E-shiftN M)=11∨E-shiftN M+dropN (E-shiftN M)=-1074:=by unfold dropN;omega
 obtain⟨u,hu⟩:∃u:Nat,(u:Int)=E-shiftN M+dropN (E-shiftN M)+1074:=⟨(E-shiftN M+dropN (E-shiftN M)+1074).toNat,by omega⟩
 have grid:=near_grid h h0 hM u hu
 have hk:=keptN_lt (d:=dropN (E-shiftN M)) hb.2 hd
 have rf:=rest_facts (t:=topN M) hd hb.2 (by omega)
 unfold rungN
 have hut:(E-shiftN M+dropN (E-shiftN M)+1074).toNat=u:=by omega
 rw [hut]
 generalize E-(shiftN M:Int)=e at *
 generalize dropN e=d at *
 generalize topN M=t at *
 clear h h0 hM
 by_cases far:971<e+d
 · rw [if_pos far]
   have hd11:d=11:=by omega
   subst hd11
   refine rung_far ok hs rfl ?_
   have g:=(grid 9007199254740992).1.2 (by omega)
   refine ok.down ?_ g
   obtain⟨U,hU⟩:∃U:Nat,U=2046:=⟨_,rfl⟩
   have e0:9218868437227405311+1=U*4503599627370496+4503599627370496:=by omega
   have e1:=val_grid (u:=U) (k:=4503599627370496) (by omega) (Or.inr (by omega))
   have hp:2^U≤2^u:=Nat.pow_le_pow_right (by omega) (by omega)
   rw [e0,e1,←Nat.mul_assoc]
   exact Nat.mul_le_mul (by omega) hp
 · rw [if_neg far]
   have hk2:u=0∨4503599627370496≤keptN t d:=by
     rcases hd3 with c | c
     · right
       subst c
       unfold keptN
       rw [if_neg (by omega)]
       have:(2:Nat)^11=2048:=rfl
       rw [this];omega
     · left;omega
   have v0:=val_grid (u:=u) (k:=keptN t d) (by omega) hk2
   have v1:=val_grid (u:=u) (k:=keptN t d+1) (by omega) (by omega)
   rw [←Nat.add_assoc] at v1
   generalize keptN t d=k at *
   have m0:2*val (u*4503599627370496+k)=(2*k)*2^u:=by rw [v0,Nat.mul_assoc]
   have m2:2*val (u*4503599627370496+k+1)=(2*k+2)*2^u:=by rw [v1,←Nat.mul_assoc,Nat.mul_add]
   have m1:val (u*4503599627370496+k)+val (u*4503599627370496+k+1)=(2*k+1)*2^u:=by rw [v0,v1,←Nat.add_mul];congr 1;omega
   have par:(u*4503599627370496+k)%2=k%2:=by omega
   obtain⟨r0,r1,r2,r3,r4⟩:=rf
   refine⟨u*4503599627370496+k,⟨by omega, ?_,Or.inr ?_⟩, ?_, ?_, ?_⟩
   · rw [m0];exact (grid _).1.2 r3
   · rw [m2];exact fun c=>absurd ((grid _).1.1 c) (by omega)
   · rintro rfl
     have eg:goesN k (restN t d) 0=false:=rfl
     rw [eg,Bool.toNat_false,Nat.add_zero]
   · rintro rfl
     rw [m0]
     have eg:goesN k (restN t d) 2=decide (restN t d≠0):=rfl
     rw [eg]
     by_cases c:restN t d≠0
     · right
       exact⟨fun h=>r0.1 c ((grid _).2.1 h),by simp [c]⟩
     · left
       exact⟨(grid _).2.2 (Decidable.not_not.1 (fun h=>c (r0.2 h))),by simp [Decidable.not_not.1 c]⟩
   · rintro rfl
     rw [m0,m1,par]
     have eg:goesN k (restN t d) 1=decide (9223372036854775808<restN t d∨restN t d=9223372036854775808∧k%2=1):=rfl
     rw [eg]
     by_cases c:restN t d≠0
     · right
       refine⟨fun h=>r0.1 c ((grid _).2.1 h), ?_⟩
       by_cases c2:restN t d=9223372036854775808
       · left
         refine⟨(grid _).2.2 (r2.1 c2), ?_⟩
         by_cases c3:k%2=0
         · have:¬k%2=1:=by omega
           simp [c2,c3]
         · have c4:k%2=1:=by omega
           simp [c2,c4]
       · right
         refine⟨fun h=>c2 (r2.2 ((grid _).2.1 h)), ?_⟩
         by_cases c3:9223372036854775808<restN t d
         · left
           exact⟨(grid _).1.2 (Nat.le_of_lt (r1.1 c3)),by simp [c3]⟩
         · right
           refine⟨fun h=>?_,by simp [c2,c3]⟩
           have:=(grid _).1.1 h
           rcases Nat.lt_or_eq_of_le this with c4 | c4
           · exact c3 (r1.2 c4)
           · exact c2 (r2.2 c4)
     · left
       have c0:restN t d=0:=Decidable.not_not.1 c
       exact⟨(grid _).2.2 (Decidable.not_not.1 (fun h=>c (r0.2 h))),by simp [c0]⟩
end Go.Proofs.YtgocelaghggpmaaDoor
namespace Go.Proofs.YtgocelaghggpmaaDoor
def V (k:Int):Int:=if k<0 then -(val (-k).toNat:Int) else (val k.toNat:Int)
theorem V_nat (r:Nat):V (r:Int)=val r:=by unfold V;rw [if_neg (by omega)];simp
theorem V_negnat (r:Nat):V (-(r:Int))=-(val r:Int):=by
 unfold V
 by_cases h:r=0
 · subst h;simp [val_zero]
 · rw [if_pos (by omega),Int.neg_neg];simp
theorem V_neg (k:Int):V (-k)=-V k:=by
 rcases Int.le_total 0 k with h | h
 · obtain⟨r,rfl⟩:=Int.eq_ofNat_of_zero_le h
   rw [V_negnat,V_nat]
 · obtain⟨r,hr⟩:=Int.eq_ofNat_of_zero_le (show 0≤-k by omega)
   have:k=-(r:Int):=by omega
   subst this
   rw [V_negnat,Int.neg_neg,V_nat,Int.neg_neg]
theorem V_mono {i j:Int} (h:i<j):V i<V j:=by
 rcases Int.lt_or_le i 0 with hi | hi
 · obtain⟨r,hr⟩:=Int.eq_ofNat_of_zero_le (show 0≤-i by omega)
   have:i=-(r:Int):=by omega
   subst this
   have h0:=val_mono (show 0<r by omega)
   rw [V_negnat]
   rcases Int.lt_or_le j 0 with hj | hj
   · obtain⟨s,hs⟩:=Int.eq_ofNat_of_zero_le (show 0≤-j by omega)
     have:j=-(s:Int):=by omega
     subst this
     have:=val_mono (show s<r by omega)
     rw [V_negnat];omega
   · obtain⟨s,rfl⟩:=Int.eq_ofNat_of_zero_le hj
     rw [V_nat];omega
 · obtain⟨r,rfl⟩:=Int.eq_ofNat_of_zero_le hi
   obtain⟨s,rfl⟩:=Int.eq_ofNat_of_zero_le (show 0≤j by omega)
   have:=val_mono (show r<s by omega)
   rw [V_nat,V_nat];omega
theorem V_mono_le {i j:Int} (h:i≤j):V i≤V j:=by
 rcases Int.lt_or_eq_of_le h with c | c
 · exact Int.le_of_lt (V_mono c)
 · subst c;exact Int.le_refl _
theorem V_zero:V 0=0:=rfl
theorem V_pos {k:Int} (h:0<k):0<V k:=by have:=V_mono h;rw [V_zero] at this;exact this
structure Ex where
 le:Int→Prop
 ge:Int→Prop
structure Ex.Ok (x:Ex):Prop where
 down:∀{h k:Int},h≤k→x.le k→x.le h
 total:∀h:Int,x.le h∨x.ge h
 sep:∀{h k:Int},x.ge h→x.le k→k≤h
def Ex.amt (g:Bool) (x:Ex):Cut:=if g then ⟨fun h=>x.ge (-(h:Int)),fun h=>x.le (-(h:Int))∧x.ge (-(h:Int))⟩ else ⟨fun h=>x.le (h:Int),fun h=>x.le (h:Int)∧x.ge (h:Int)⟩
theorem Ex.Ok.up {x:Ex} (ok:x.Ok) {h k:Int} (hk:h≤k) (g:x.ge h):x.ge k:=by
 rcases ok.total k with c | c
 · have:=ok.sep g c
   have:h=k:=by omega
   subst this;exact g
 · exact c
theorem Ex.Ok.cut {x:Ex} (ok:x.Ok) {g:Bool} (hg:if g then x.ge 0 else x.le 0):(x.amt g).Ok:=by
 cases g
 · simp only [Bool.false_eq_true,if_false] at hg
   exact⟨fun {h k} c d=>ok.down (by omega) (show x.le (k:Int) from d),fun {h} c=>c.1,fun {h k} c d e=>by have:=ok.sep c.2 (show x.le (k:Int) from e);omega,hg⟩
 · simp only [if_true] at hg
   exact⟨fun {h k} c d=>ok.up (show -(k:Int)≤-(h:Int) by omega) (show x.ge (-(k:Int)) from d),fun {h} c=>c.2,fun {h k} c d e=>by have:=ok.sep (show x.ge (-(k:Int)) from e) c.1;omega,hg⟩
structure KDown (x:Ex) (k:Int):Prop where
 bot:-9218868437227405312≤k
 top:k≤9218868437227405311
 low:k=-9218868437227405312∨x.le (2*V k)
 up:k=9218868437227405311∨¬x.le (2*V (k+1))
theorem kdown_mono {x y:Ex} (oky:y.Ok) (h:∀h,x.le h→y.le h) {k l:Int} (hk:KDown x k) (hl:KDown y l):k≤l:=by
 rcases Int.lt_or_le l k with c | c
 · exfalso
   rcases hl.up with u | u
   · have:=hk.top;omega
   · rcases hk.low with w | w
     · have:=hl.bot;omega
     · exact u (oky.down (by have:=V_mono_le (show l+1≤k by omega);omega) (h _ w))
 · exact c
end Go.Proofs.YtgocelaghggpmaaDoor
