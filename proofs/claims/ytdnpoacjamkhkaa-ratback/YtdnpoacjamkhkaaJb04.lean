/- Plain facts on the program's rounding, whatever is rounded: its three sides stand in order, no more than neighbours apart. Plain facts: what the program rounds an amount to is what the document asks for, of any exact amount that the parts stand for. Plain facts: numbers with signs, rounded down: the place of the greatest float that is not above; the greater the number, the greater the place. The walks of Add, Mul, Div and Sqrt, way by way: what is no number, what is infinite, nought, and the finite ones. The walks of Div, Sqrt and Sub, way by way. What Add, Mul, Div and Sqrt answer, of all words: by plain functions on numbers. What Add, Sub, Mul, Div and Sqrt answer, of all words: the whole contracts. What Mul, Div and Sqrt answer, of all words: the whole contracts. What Sqrt answers, of all words. -/
import Derived.Test.YtdnpoacjamkhkaaJb02
import Derived.Test.YtdnpoacjamkhkaaJb03
namespace Go.Proofs.Ytdnpoacjamkhkaa
theorem keptN_lt {m d:Nat} (hm:m<18446744073709551616) (hd:11≤d):keptN m d≤9007199254740991:=by
 unfold keptN
 split
 · omega
 · have h1:m/2^d≤m/2^11:=Nat.div_le_div_left (Nat.pow_le_pow_right (by omega) hd) (Nat.two_pow_pos _)
   have h2:m/2^11<2^53:=Nat.div_lt_of_lt_mul (by rw [←Nat.pow_add];exact hm)
   omega
theorem goes_zero (k r:Nat):goesN k r 0=false:=rfl
theorem goes_mono {k r:Nat} (h:goesN k r 1=true):goesN k r 2=true:=by
 have h1:goesN k r 1=decide (9223372036854775808<r∨r=9223372036854775808∧k%2=1):=rfl
 have h2:goesN k r 2=decide (r≠0):=rfl
 rw [h1] at h
 rw [h2]
 simp only [decide_eq_true_eq] at h ⊢
 omega
theorem rung_sides (t:Nat) (e:Int) (ht:t<18446744073709551616) :
   ∃(r:Nat) (b1 b2:Bool),r≤9218868437227405311∧rungN t e 0=r∧rungN t e 1=r+b1.toNat∧rungN t e 2=r+b2.toNat∧(b1=true→b2=true):=by
 have hd11:11≤dropN e:=by unfold dropN;omega
 have hk:=keptN_lt (d:=dropN e) ht hd11
 by_cases h:971<e+dropN e
 · refine⟨9218868437227405311,true,true,by omega, ?_, ?_, ?_,fun _=>rfl⟩
   · have b:rungN t e 0=boundN 0:=by unfold rungN;exact if_pos h
     have c:boundN 0=9218868437227405311:=if_pos rfl
     omega
   · have b:rungN t e 1=boundN 1:=by unfold rungN;exact if_pos h
     have c:boundN 1=9218868437227405312:=if_neg (by decide)
     simp only [Bool.toNat_true];omega
   · have b:rungN t e 2=boundN 2:=by unfold rungN;exact if_pos h
     have c:boundN 2=9218868437227405312:=if_neg (by decide)
     simp only [Bool.toNat_true];omega
 · have hd:-1074≤e+dropN e:=by unfold dropN;omega
   refine⟨(e+dropN e+1074).toNat*4503599627370496+keptN t (dropN e),goesN (keptN t (dropN e)) (restN t (dropN e)) 1,goesN (keptN t (dropN e)) (restN t (dropN e)) 2,by omega, ?_, ?_, ?_,goes_mono⟩
   · have b:rungN t e 0=(e+dropN e+1074).toNat*4503599627370496+keptN t (dropN e)+(goesN (keptN t (dropN e)) (restN t (dropN e)) 0).toNat:=by unfold rungN;exact if_neg h
     rw [b,goes_zero,Bool.toNat_false,Nat.add_zero]
   · unfold rungN;exact if_neg h
   · unfold rungN;exact if_neg h
def SidesOK (d n u:Nat):Prop :=
 (nanB d=false∧nanB n=false∧nanB u=false)∧(d≠9223372036854775808∧n≠9223372036854775808∧u≠9223372036854775808) ∧
 (d<18446744073709551616∧n<18446744073709551616∧u<18446744073709551616)∧key d≤key n∧key n≤key u∧(key u=key d∨key u=key d+1)
theorem signN_facts (g:Bool) (r:Nat) (h:r≤9218868437227405312) :
   nanB (signN g r)=false∧signN g r≠9223372036854775808∧signN g r<18446744073709551616∧key (signN g r)=if g then -(r:Int) else r:=by
 unfold signN nanB key
 cases g
 · simp only [Bool.false_eq_true,if_false]
   refine⟨?_,by omega,by omega, ?_⟩
   · simp;omega
   · rw [if_pos (by omega)]
 · simp only [if_true]
   by_cases hz:r=0
   · subst hz;simp
   · rw [if_neg hz]
     refine⟨?_,by omega,by omega, ?_⟩
     · simp;omega
     · rw [if_neg (by omega)];omega
theorem roundN_facts (g:Bool) (m:Nat) (e dir:Int) (hm:m<18446744073709551616) :
   nanB (roundN g m e dir)=false∧roundN g m e dir≠9223372036854775808∧roundN g m e dir<18446744073709551616:=by
 unfold roundN
 by_cases h0:m=0
 · rw [if_pos h0];decide
 · rw [if_neg h0]
   have ht:=(topN_bounds h0 hm).2
   have hle:rungN (topN m) (clampN e-shiftN m) (sideN dir g)≤9218868437227405312:=by
     obtain⟨r,b1,b2,hr,h0',h1',h2',_⟩:=rung_sides (topN m) (clampN e-shiftN m) ht
     have hs:sideN dir g=0∨sideN dir g=1∨sideN dir g=2:=by unfold sideN;split <;> (try split) <;> omega
     rcases hs with hs | hs | hs
     · rw [hs,h0'];omega
     · rw [hs,h1'];cases b1 <;> simp <;> omega
     · rw [hs,h2'];cases b2 <;> simp <;> omega
   have hf:=signN_facts g _ hle
   exact⟨hf.1,hf.2.1,hf.2.2.1⟩
theorem round_sides (g:Bool) (m:Nat) (e:Int) (hm:m<18446744073709551616):SidesOK (roundN g m e (-1)) (roundN g m e 0) (roundN g m e 1):=by
 have f1:=roundN_facts g m e (-1) hm
 have f2:=roundN_facts g m e 0 hm
 have f3:=roundN_facts g m e 1 hm
 refine⟨⟨f1.1,f2.1,f3.1⟩,⟨f1.2.1,f2.2.1,f3.2.1⟩,⟨f1.2.2,f2.2.2,f3.2.2⟩, ?_⟩
 clear f1 f2 f3
 unfold roundN
 by_cases h0:m=0
 · simp only [h0,if_true];decide
 · simp only [h0,if_false]
   obtain⟨r,b1,b2,hr,h0',h1',h2',hb⟩:=rung_sides (topN m) (clampN e-shiftN m) (topN_bounds h0 hm).2
   have c1:r+b1.toNat≤9218868437227405312:=by cases b1 <;> simp <;> omega
   have c2:r+b2.toNat≤9218868437227405312:=by cases b2 <;> simp <;> omega
   have c12:b1.toNat≤b2.toNat∧b2.toNat≤1:=by
     cases b1 <;> cases b2 <;> simp at hb ⊢
   cases g
   · have s1:sideN (-1) false=0:=rfl
     have s2:sideN 0 false=1:=rfl
     have s3:sideN 1 false=2:=rfl
     rw [s1,s2,s3,h0',h1',h2',(signN_facts false r (by omega)).2.2.2,(signN_facts false _ c1).2.2.2,(signN_facts false _ c2).2.2.2]
     simp only [Bool.false_eq_true,if_false]
     omega
   · have s1:sideN (-1) true=2:=rfl
     have s2:sideN 0 true=1:=rfl
     have s3:sideN 1 true=0:=rfl
     rw [s1,s2,s3,h0',h1',h2',(signN_facts true r (by omega)).2.2.2,(signN_facts true _ c1).2.2.2,(signN_facts true _ c2).2.2.2]
     simp only [if_true]
     omega
theorem round_mirror (g:Bool) (m:Nat) (e:Int) (hm:m<18446744073709551616):key (roundN (!g) m e 1)=- key (roundN g m e (-1)):=by
 unfold roundN
 by_cases h0:m=0
 · simp only [h0,if_true];rfl
 · simp only [h0,if_false]
   obtain⟨r,b1,b2,hr,h0',h1',h2',hb⟩:=rung_sides (topN m) (clampN e-shiftN m) (topN_bounds h0 hm).2
   have c2:r+b2.toNat≤9218868437227405312:=by cases b2 <;> simp <;> omega
   cases g
   · have s1:sideN (-1) false=0:=rfl
     have s3:sideN 1 (!false)=0:=rfl
     rw [s1,s3,h0',(signN_facts false r (by omega)).2.2.2,(signN_facts (!false) r (by omega)).2.2.2]
     simp
   · have s1:sideN (-1) true=2:=rfl
     have s3:sideN 1 (!true)=2:=rfl
     rw [s1,s3,h2',(signN_facts true _ c2).2.2.2,(signN_facts (!true) _ c2).2.2.2]
     simp
end Go.Proofs.Ytdnpoacjamkhkaa
namespace Go.Proofs.Ytdnpoacjamkhkaa
structure Cut where
 le:Nat→Prop
 eq:Nat→Prop
structure Cut.Ok (C:Cut):Prop where
 down:∀{h k:Nat},h≤k→C.le k→C.le h
 eqle:∀{h:Nat},C.eq h→C.le h
 eqlt:∀{h k:Nat},C.eq h→h<k→¬C.le k
 zero:C.le 0
structure IsDown (C:Cut) (d:Nat):Prop where
 top:d≤9218868437227405311
 low:C.le (2*val d)
 up:d=9218868437227405311∨¬C.le (2*val (d+1))
def IsR (C:Cut) (s:Int) (r:Nat):Prop:=∃d,IsDown C d∧(s=0→r=d)∧(s=2→(C.eq (2*val d)∧r=d∨¬C.eq (2*val d)∧r=d+1)) ∧
 (s=1→(C.eq (2*val d)∧r=d∨¬C.eq (2*val d)∧(C.eq (val d+val (d+1))∧r=(if d%2=0 then d else d+1)∨¬C.eq (val d+val (d+1))∧(C.le (val d+val (d+1))∧r=d+1∨¬C.le (val d+val (d+1))∧r=d))))
def Near (M:Nat) (E:Int) (C:Cut):Prop:=∃a b:Nat,(b:Int)-a=E+1075 ∧
 ((∀h,(C.le h↔h*2^a≤M*2^b)∧(C.eq h↔h*2^a=M*2^b)) ∨
  (M%2=1∧36028797018963968≤M∧∀h,(h*2^a≤(M-1)*2^b→C.le h∧¬C.eq h)∧((M+1)*2^b≤h*2^a→¬C.le h∧¬C.eq h)))
theorem mul_two_pow_le {x y b:Nat}:x*2^b≤y*2^b↔x≤y:=Nat.mul_le_mul_right_iff (Nat.two_pow_pos b)
theorem mul_two_pow_eq {x y b:Nat}:x*2^b=y*2^b↔x=y:=Nat.mul_left_inj (Nat.ne_of_gt (Nat.two_pow_pos b))
theorem near_grid {M:Nat} {E:Int} {C:Cut} (h:Near M E C) (h0:M≠0) (hM:M<18446744073709551616) (u:Nat) (hu:(u:Int)=E-shiftN M+dropN (E-shiftN M)+1074) (j:Nat) :
   (C.le (j*2^u)↔j*2^(dropN (E-shiftN M)-1)≤topN M)∧(C.eq (j*2^u)↔j*2^(dropN (E-shiftN M)-1)=topN M):=by
 obtain⟨a,b,hab,hc⟩:=h
 have hd:11≤dropN (E-shiftN M):=by unfold dropN;omega
 have hsh:shiftN M=63-M.log2:=rfl
 have hl:M.log2<64:=(Nat.log2_lt h0).2 hM
 generalize dropN (E-shiftN M)=d at *
 unfold topN
 generalize shiftN M=s at *
 have ex:u+a+s=d-1+b:=by omega
 have e1:j*2^u*2^a*2^s=j*2^(d-1)*2^b:=by
   rw [Nat.mul_assoc,Nat.mul_assoc,Nat.mul_assoc,←Nat.pow_add,←Nat.pow_add,←Nat.pow_add]
   congr 2;omega
 have e2:M*2^b*2^s=M*2^s*2^b:=Nat.mul_right_comm _ _ _
 rcases hc with hc | ⟨odd,big,hc⟩
 · rw [(hc (j*2^u)).1,(hc (j*2^u)).2,←mul_two_pow_le (b:=s),←mul_two_pow_eq (b:=s),e1,e2,mul_two_pow_le,mul_two_pow_eq]
   exact⟨Iff.rfl,Iff.rfl⟩
 · have hlog:55≤M.log2:=(Nat.le_log2 h0).2 big
   have hs:s+2≤d-1:=by omega
   have e3:j*2^(d-1)=(j*2^(d-1-s))*2^s:=by
     rw [Nat.mul_assoc,←Nat.pow_add];congr 2;omega
   have e4:j*2^u*2^a=(j*2^(d-1-s))*2^b:=by
     have:=e1
     rw [e3,Nat.mul_right_comm _ (2^s) (2^b)] at this
     exact mul_two_pow_eq.1 this
   have e5:2^(d-1-s)=2*2^(d-1-s-1):=by rw [←Nat.pow_succ'];congr 1;omega
   rw [e3,mul_two_pow_le,mul_two_pow_eq]
   have hc:=hc (j*2^u)
   rw [e4] at hc
   have ev:j*2^(d-1-s)%2=0:=by rw [e5,←Nat.mul_assoc,Nat.mul_comm j 2,Nat.mul_assoc];exact Nat.mul_mod_right _ _
   generalize j*2^(d-1-s)=J at *
   rw [mul_two_pow_le,mul_two_pow_le] at hc
   rcases Nat.lt_or_ge J M with c | c
   · have:=hc.1 (by omega)
     exact⟨⟨fun _=>by omega,fun _=>this.1⟩,⟨fun h=>absurd h this.2,fun h=>by omega⟩⟩
   · have:=hc.2 (by omega)
     exact⟨⟨fun h=>absurd h this.1,fun _=>by omega⟩,⟨fun h=>absurd h this.2,fun h=>by omega⟩⟩
theorem val_grid {u k:Nat} (hk:k≤9007199254740992) (h:u=0∨4503599627370496≤k):val (u*4503599627370496+k)=k*2^u:=by
 unfold val
 rcases Nat.lt_or_ge k 4503599627370496 with c | c
 · have hu:u=0:=by omega
   subst hu
   rw [if_pos (by omega)];simp
 · rw [if_neg (by omega)]
   rcases Nat.lt_or_ge k 9007199254740992 with c2 | c2
   · have h1:(u*4503599627370496+k)%4503599627370496=k-4503599627370496:=by omega
     have h2:(u*4503599627370496+k)/4503599627370496-1=u:=by omega
     have h3:4503599627370496+(k-4503599627370496)=k:=by omega
     rw [h1,h2,h3]
   · have hk2:k=9007199254740992:=by omega
     subst hk2
     have h1:(u*4503599627370496+9007199254740992)%4503599627370496=0:=by omega
     have h2:(u*4503599627370496+9007199254740992)/4503599627370496-1=u+1:=by omega
     rw [h1,h2,Nat.pow_succ];omega
theorem rest_facts {t d:Nat} (hd:11≤d) (ht:t<18446744073709551616) (h0:0<t) :
   (restN t d≠0↔(2*keptN t d)*2^(d-1)≠t)∧(9223372036854775808<restN t d↔(2*keptN t d+1)*2^(d-1)<t)∧(restN t d=9223372036854775808↔(2*keptN t d+1)*2^(d-1)=t) ∧
   (2*keptN t d)*2^(d-1)≤t∧t<(2*keptN t d+2)*2^(d-1):=by
 unfold restN keptN
 have e5:2^d=2*2^(d-1):=by rw [←Nat.pow_succ'];congr 1;omega
 by_cases c:64<d
 · rw [if_pos c,if_pos c]
   have hp:2^64≤2^(d-1):=Nat.pow_le_pow_right (by omega) (by omega)
   generalize 2^(d-1)=p at *
   simp only [Nat.mul_zero,Nat.zero_add,Nat.zero_mul,Nat.one_mul]
   omega
 · rw [if_neg c,if_neg c,e5]
   have hm:=Nat.div_add_mod t (2*2^(d-1))
   have hlt:t%(2*2^(d-1))<2*2^(d-1):=Nat.mod_lt _ (by have:=Nat.two_pow_pos (d-1);omega)
   have e6:2^(d-1)*2^(64-d)=9223372036854775808:=by rw [←Nat.pow_add,show d-1+(64-d)=63 by omega]
   have hq:=Nat.two_pow_pos (64-d)
   generalize t%(2*2^(d-1))=r at *
   generalize t/(2*2^(d-1))=k at *
   have e7:2*k*2^(d-1)=2*2^(d-1)*k:=by rw [Nat.mul_right_comm]
   have e8:(2*k+1)*2^(d-1)=2*2^(d-1)*k+2^(d-1):=by rw [Nat.add_mul,e7,Nat.one_mul]
   have e9:(2*k+2)*2^(d-1)=2*2^(d-1)*k+2*2^(d-1):=by rw [Nat.add_mul,e7]
   rw [e7,e8,e9]
   have g1:9223372036854775808<r*2^(64-d)↔2^(d-1)<r:=by
     rw [←e6];exact Nat.mul_lt_mul_right hq
   have g2:r*2^(64-d)=9223372036854775808↔r=2^(d-1):=by
     rw [←e6];exact mul_two_pow_eq
   have g3:r*2^(64-d)≠0↔r≠0:=by
     rw [ne_eq,Nat.mul_eq_zero];constructor <;> intro h <;> omega
   rw [g1,g2,g3]
   generalize 2*2^(d-1)*k=z at *
   generalize 2^(d-1)=p at *
   omega
theorem rung_far {C:Cut} (ok:C.Ok) {s:Int} (hs:s=0∨s=1∨s=2) {L:Nat} (hL:L=9218868437227405311) (h:C.le (2*val (L+1))):IsR C s (boundN s):=by
 have hv:=val_mono (show L<L+1 by omega)
 have b0:boundN 0=L:=hL.symm
 have b1:boundN 1=L+1:=by rw [hL];rfl
 have b2:boundN 2=L+1:=by rw [hL];rfl
 refine⟨L,⟨by omega,ok.down (by omega) h,Or.inl hL⟩, ?_, ?_, ?_⟩
 · rintro rfl;exact b0
 · rintro rfl
   exact Or.inr ⟨fun e=>ok.eqlt e (by omega) h,b2⟩
 · rintro rfl
   exact Or.inr ⟨fun e=>ok.eqlt e (by omega) h,Or.inr ⟨fun e=>ok.eqlt e (by omega) h,Or.inl ⟨ok.down (by omega) h,b1⟩⟩⟩
theorem rung_is {M:Nat} {E:Int} {C:Cut} (ok:C.Ok) (h:Near M E C) (h0:M≠0) (hM:M<18446744073709551616) {s:Int} (hs:s=0∨s=1∨s=2) :
   IsR C s (rungN (topN M) (E-shiftN M) s):=by
 have hb:=topN_bounds h0 hM
 have hd:11≤dropN (E-shiftN M):=by unfold dropN;omega
 have hd2:-1074≤E-shiftN M+dropN (E-shiftN M):=by unfold dropN;omega
 have hd3:dropN (E-shiftN M)=11∨E-shiftN M+dropN (E-shiftN M)=-1074:=by unfold dropN;omega
 obtain⟨u,hu⟩:∃u:Nat,(u:Int)=E-shiftN M+dropN (E-shiftN M)+1074:=⟨(E-shiftN M+dropN (E-shiftN M)+1074).toNat,by omega⟩
 have grid:=near_grid h h0 hM u hu
 have hk:=keptN_lt (d:=dropN (E-shiftN M)) hb.2 hd
 have rf:=rest_facts (t:=topN M) hd hb.2 (by omega)
 unfold rungN
 have hut:(E-shiftN M+dropN (E-shiftN M)+1074).toNat=u:=by omega
 rw [hut]
 generalize E-(shiftN M:Int)=e at *
 generalize dropN e=d at *
 generalize topN M=t at *
 clear h h0 hM
 by_cases far:971<e+d
 · rw [if_pos far]
   have hd11:d=11:=by omega
   subst hd11
   refine rung_far ok hs rfl ?_
   have g:=(grid 9007199254740992).1.2 (by omega)
   refine ok.down ?_ g
   obtain⟨U,hU⟩:∃U:Nat,U=2046:=⟨_,rfl⟩
   have e0:9218868437227405311+1=U*4503599627370496+4503599627370496:=by omega
   have e1:=val_grid (u:=U) (k:=4503599627370496) (by omega) (Or.inr (by omega))
   have hp:2^U≤2^u:=Nat.pow_le_pow_right (by omega) (by omega)
   rw [e0,e1,←Nat.mul_assoc]
   exact Nat.mul_le_mul (by omega) hp
 · rw [if_neg far]
   have hk2:u=0∨4503599627370496≤keptN t d:=by
     rcases hd3 with c | c
     · right
       subst c
       unfold keptN
       rw [if_neg (by omega)]
       have:(2:Nat)^11=2048:=rfl
       rw [this];omega
     · left;omega
   have v0:=val_grid (u:=u) (k:=keptN t d) (by omega) hk2
   have v1:=val_grid (u:=u) (k:=keptN t d+1) (by omega) (by omega)
   rw [←Nat.add_assoc] at v1
   generalize keptN t d=k at *
   have m0:2*val (u*4503599627370496+k)=(2*k)*2^u:=by rw [v0,Nat.mul_assoc]
   have m2:2*val (u*4503599627370496+k+1)=(2*k+2)*2^u:=by rw [v1,←Nat.mul_assoc,Nat.mul_add]
   have m1:val (u*4503599627370496+k)+val (u*4503599627370496+k+1)=(2*k+1)*2^u:=by rw [v0,v1,←Nat.add_mul];congr 1;omega
   have par:(u*4503599627370496+k)%2=k%2:=by omega
   obtain⟨r0,r1,r2,r3,r4⟩:=rf
   refine⟨u*4503599627370496+k,⟨by omega, ?_,Or.inr ?_⟩, ?_, ?_, ?_⟩
   · rw [m0];exact (grid _).1.2 r3
   · rw [m2];exact fun c=>absurd ((grid _).1.1 c) (by omega)
   · rintro rfl
     have eg:goesN k (restN t d) 0=false:=rfl
     rw [eg,Bool.toNat_false,Nat.add_zero]
   · rintro rfl
     rw [m0]
     have eg:goesN k (restN t d) 2=decide (restN t d≠0):=rfl
     rw [eg]
     by_cases c:restN t d≠0
     · right
       exact⟨fun h=>r0.1 c ((grid _).2.1 h),by simp [c]⟩
     · left
       exact⟨(grid _).2.2 (Decidable.not_not.1 (fun h=>c (r0.2 h))),by simp [Decidable.not_not.1 c]⟩
   · rintro rfl
     rw [m0,m1,par]
     have eg:goesN k (restN t d) 1=decide (9223372036854775808<restN t d∨restN t d=9223372036854775808∧k%2=1):=rfl
     rw [eg]
     by_cases c:restN t d≠0
     · right
       refine⟨fun h=>r0.1 c ((grid _).2.1 h), ?_⟩
       by_cases c2:restN t d=9223372036854775808
       · left
         refine⟨(grid _).2.2 (r2.1 c2), ?_⟩
         by_cases c3:k%2=0
         · have:¬k%2=1:=by omega
           simp [c2,c3]
         · have c4:k%2=1:=by omega
           simp [c2,c4]
       · right
         refine⟨fun h=>c2 (r2.2 ((grid _).2.1 h)), ?_⟩
         by_cases c3:9223372036854775808<restN t d
         · left
           exact⟨(grid _).1.2 (Nat.le_of_lt (r1.1 c3)),by simp [c3]⟩
         · right
           refine⟨fun h=>?_,by simp [c2,c3]⟩
           have:=(grid _).1.1 h
           rcases Nat.lt_or_eq_of_le this with c4 | c4
           · exact c3 (r1.2 c4)
           · exact c2 (r2.2 c4)
     · left
       have c0:restN t d=0:=Decidable.not_not.1 c
       exact⟨(grid _).2.2 (Decidable.not_not.1 (fun h=>c (r0.2 h))),by simp [c0]⟩
end Go.Proofs.Ytdnpoacjamkhkaa
namespace Go.Proofs.Ytdnpoacjamkhkaa
def V (k:Int):Int:=if k<0 then -(val (-k).toNat:Int) else (val k.toNat:Int)
theorem V_nat (r:Nat):V (r:Int)=val r:=by unfold V;rw [if_neg (by omega)];simp
theorem V_negnat (r:Nat):V (-(r:Int))=-(val r:Int):=by
 unfold V
 by_cases h:r=0
 · subst h;simp [val_zero]
 · rw [if_pos (by omega),Int.neg_neg];simp
theorem V_neg (k:Int):V (-k)=-V k:=by
 rcases Int.le_total 0 k with h | h
 · obtain⟨r,rfl⟩:=Int.eq_ofNat_of_zero_le h
   rw [V_negnat,V_nat]
 · obtain⟨r,hr⟩:=Int.eq_ofNat_of_zero_le (show 0≤-k by omega)
   have:k=-(r:Int):=by omega
   subst this
   rw [V_negnat,Int.neg_neg,V_nat,Int.neg_neg]
theorem V_mono {i j:Int} (h:i<j):V i<V j:=by
 rcases Int.lt_or_le i 0 with hi | hi
 · obtain⟨r,hr⟩:=Int.eq_ofNat_of_zero_le (show 0≤-i by omega)
   have:i=-(r:Int):=by omega
   subst this
   have h0:=val_mono (show 0<r by omega)
   rw [V_negnat]
   rcases Int.lt_or_le j 0 with hj | hj
   · obtain⟨s,hs⟩:=Int.eq_ofNat_of_zero_le (show 0≤-j by omega)
     have:j=-(s:Int):=by omega
     subst this
     have:=val_mono (show s<r by omega)
     rw [V_negnat];omega
   · obtain⟨s,rfl⟩:=Int.eq_ofNat_of_zero_le hj
     rw [V_nat];omega
 · obtain⟨r,rfl⟩:=Int.eq_ofNat_of_zero_le hi
   obtain⟨s,rfl⟩:=Int.eq_ofNat_of_zero_le (show 0≤j by omega)
   have:=val_mono (show r<s by omega)
   rw [V_nat,V_nat];omega
theorem V_mono_le {i j:Int} (h:i≤j):V i≤V j:=by
 rcases Int.lt_or_eq_of_le h with c | c
 · exact Int.le_of_lt (V_mono c)
 · subst c;exact Int.le_refl _
theorem V_zero:V 0=0:=rfl
theorem V_nonneg {k:Int} (h:0≤k):0≤V k:=by have:=V_mono_le h;rw [V_zero] at this;exact this
theorem V_pos {k:Int} (h:0<k):0<V k:=by have:=V_mono h;rw [V_zero] at this;exact this
theorem V_npos {k:Int} (h:k≤0):V k≤0:=by have:=V_mono_le h;rw [V_zero] at this;exact this
theorem V_lt0 {k:Int} (h:k<0):V k<0:=by have:=V_mono h;rw [V_zero] at this;exact this
structure Ex where
 le:Int→Prop
 ge:Int→Prop
structure Ex.Ok (x:Ex):Prop where
 down:∀{h k:Int},h≤k→x.le k→x.le h
 total:∀h:Int,x.le h∨x.ge h
 sep:∀{h k:Int},x.ge h→x.le k→k≤h
def Ex.amt (g:Bool) (x:Ex):Cut:=if g then ⟨fun h=>x.ge (-(h:Int)),fun h=>x.le (-(h:Int))∧x.ge (-(h:Int))⟩ else ⟨fun h=>x.le (h:Int),fun h=>x.le (h:Int)∧x.ge (h:Int)⟩
theorem Ex.Ok.up {x:Ex} (ok:x.Ok) {h k:Int} (hk:h≤k) (g:x.ge h):x.ge k:=by
 rcases ok.total k with c | c
 · have:=ok.sep g c
   have:h=k:=by omega
   subst this;exact g
 · exact c
theorem Ex.Ok.cut {x:Ex} (ok:x.Ok) {g:Bool} (hg:if g then x.ge 0 else x.le 0):(x.amt g).Ok:=by
 cases g
 · simp only [Bool.false_eq_true,if_false] at hg
   exact⟨fun {h k} c d=>ok.down (by omega) (show x.le (k:Int) from d),fun {h} c=>c.1,fun {h k} c d e=>by have:=ok.sep c.2 (show x.le (k:Int) from e);omega,hg⟩
 · simp only [if_true] at hg
   exact⟨fun {h k} c d=>ok.up (show -(k:Int)≤-(h:Int) by omega) (show x.ge (-(k:Int)) from d),fun {h} c=>c.2,fun {h k} c d e=>by have:=ok.sep (show x.ge (-(k:Int)) from e) c.1;omega,hg⟩
structure KDown (x:Ex) (k:Int):Prop where
 bot:-9218868437227405312≤k
 top:k≤9218868437227405311
 low:k=-9218868437227405312∨x.le (2*V k)
 up:k=9218868437227405311∨¬x.le (2*V (k+1))
theorem kdown_mono {x y:Ex} (oky:y.Ok) (h:∀h,x.le h→y.le h) {k l:Int} (hk:KDown x k) (hl:KDown y l):k≤l:=by
 rcases Int.lt_or_le l k with c | c
 · exfalso
   rcases hl.up with u | u
   · have:=hk.top;omega
   · rcases hk.low with w | w
     · have:=hl.bot;omega
     · exact u (oky.down (by have:=V_mono_le (show l+1≤k by omega);omega) (h _ w))
 · exact c
theorem kdown_of {x:Ex} (ok:x.Ok) {g:Bool} (hg:if g then x.ge 0 else x.le 0) {r:Nat} (h:IsR (x.amt g) (if g then 2 else 0) r):KDown x (if g then -(r:Int) else r):=by
 obtain⟨d,hd,h0,h2, -⟩:=h
 have dt:=hd.top
 cases g
 · simp only [Bool.false_eq_true,if_false] at *
   obtain rfl:=h0 trivial
   have lo:x.le ((2*val r:Nat):Int):=hd.low
   have up:r=9218868437227405311∨¬x.le ((2*val (r+1):Nat):Int):=hd.up
   refine⟨by omega,by omega,Or.inr ?_, ?_⟩
   · rw [V_nat];exact ok.down (by omega) lo
   · rcases up with u | u
     · left;omega
     · right
       have e:((r:Int)+1)=((r+1:Nat):Int):=by omega
       rw [e,V_nat]
       exact fun c=>u (ok.down (by omega) c)
 · simp only [if_true] at *
   have lo:x.ge (-((2*val d:Nat):Int)):=hd.low
   have up:d=9218868437227405311∨¬x.ge (-((2*val (d+1):Nat):Int)):=hd.up
   rcases h2 trivial with ⟨e,rfl⟩ | ⟨e,rfl⟩
   · have e1:x.le (-((2*val r:Nat):Int)):=e.1
     refine⟨by omega,by omega,Or.inr ?_,Or.inr ?_⟩
     · rw [V_negnat];exact ok.down (by omega) e1
     · intro c
       have c1:=ok.sep lo c
       have c2:=V_mono (show -(r:Int) < -(r:Int)+1 by omega)
       rw [V_negnat] at c2
       omega
   · refine⟨by omega,by omega, ?_,Or.inr ?_⟩
     · rcases up with u | u
       · left;omega
       · right
         rcases ok.total (-((2*val (d+1):Nat):Int)) with c | c
         · rw [V_negnat];exact ok.down (by omega) c
         · exact absurd c u
     · have e3:(-((d+1:Nat):Int)+1)=-(d:Int):=by omega
       rw [e3,V_negnat]
       intro c
       refine e ⟨ok.down ?_ c,lo⟩
       omega
end Go.Proofs.Ytdnpoacjamkhkaa
namespace Go.Proofs.Ytdnpoacjamkhkaa
open Go.ChangeShapes Go.WideShapes Go.ChangeAt Go.RowKit
def nanOf (a b:Nat) (w:World):Nat:=Question.cut (.nanBits .f64 a b) (w.tape w.drawn (.nanBits .f64 a b))
theorem nanOf_nan (a b:Nat) (w:World):nanB (nanOf a b w)=true∧nanOf a b w<18446744073709551616:=by
 unfold nanOf Question.cut nanB
 generalize w.tape w.drawn (.nanBits .f64 a b)=t
 have hm:t/2%(2^52-1)<4503599627370495:=Nat.mod_lt _ (by decide)
 simp only [decide_eq_true_eq]
 generalize t/2%(2^52-1)=u at *
 rcases Nat.mod_two_eq_zero_or_one t with h | h
 · rw [h];omega
 · rw [h];omega
theorem run_float_none (op:BinOp) (t:TypeId) (a b:Nat) (hop:op=.add∨op=.mul∨op=.quo) (h:floatBits op .f64 a b=none) (w:World) :
   (binOp op t (.float .f64 a) (.float .f64 b)).run Try.prog w=.ok (.float .f64 (nanOf a b w)) w.drew:=by
 rcases hop with rfl | rfl | rfl
 all_goals
   unfold floatBits at h
   simp only at h
   simp [binOp,Op.floatArith,h,nanOf,Question.forced]
def Ans (o:Option Nat) (x:Ending):Prop:=∃r,x=.returned (.float .f64 r)∧r<18446744073709551616∧match o with | some v=>r=v | none=>nanB r=true
theorem ans_nan:Ans none (.returned (.float .f64 9221120237041090561)):=⟨_,rfl,by omega,by decide⟩
set_option maxHeartbeats 400000 in
theorem add_out (a b:Nat) (dir:Int) (ga gb fa fb:Bool) (ma mb:Nat) (ea eb:Int) (o:Option Nat) (hf:(fa&&fb)=false) (hlt:∀r,o=some r→r<18446744073709551616)
   (ha:∀w,Calls Try.prog 93 #[.float .f64 a] w fun x w'=>x=.returned (.tuple #[.agg #[.bool ga,.int .u64 ma,.int .i64 ea],.bool fa])∧Below w.heap.size w w')
   (hb:∀w,Calls Try.prog 93 #[.float .f64 b] w fun x w'=>x=.returned (.tuple #[.agg #[.bool gb,.int .u64 mb,.int .i64 eb],.bool fb])∧Below w.heap.size w w')
   (ho:floatBits .add .f64 a b=o) (w:World) :
   Calls Try.prog 63 #[.float .f64 a,.float .f64 b,.int .i64 dir] w fun x w'=>Ans o x∧Below w.heap.size w w':=by
 have fin:∀(w1 w2:World) (hb1:Below w.heap.size w w1) (hb2:Below (w1.alloc (Obj.cells #[Value.bool ga,Value.int IntKind.u64 ma,Value.int IntKind.i64 ea] 78)).heap.size (w1.alloc (Obj.cells #[Value.bool ga,Value.int IntKind.u64 ma,Value.int IntKind.i64 ea] 78)) w2),
     Below w.heap.size w (w2.alloc (Obj.cells #[Value.bool gb,Value.int IntKind.u64 mb,Value.int IntKind.i64 eb] 78)):=fun w1 w2 hb1 hb2=>by
   have t2:Below w.heap.size w (w1.alloc (Obj.cells #[Value.bool ga,Value.int IntKind.u64 ma,Value.int IntKind.i64 ea] 78)):=hb1.alloc hb1.size _
   have t3:=later t2 hb2
   exact t3.alloc t3.size _
 cases o with
 | some r =>
   have hop:=fun (t:TypeId) (w:World)=>run_float_arith (P:=Try.prog) w .add t .f64 a b r ho
   have hl:=hlt r rfl
   clear ho hlt
   cases fa <;> cases fb <;> (try (cases hf;done))
   all_goals
     go_enter Try.func63,Try.ntmps63
     go_upto_region 2 with (first | (go_at_call_of 93 (Value.float .f64 a);refine (ha _).mono ?_;rintro _ w1 ⟨rfl,hb1⟩))
     go_wp2_with (first | (go_at_call_of 93 (Value.float .f64 b);refine (hb _).mono ?_;rintro _ w2 ⟨rfl,hb2⟩))
     go_ret
     exact⟨⟨r,rfl,hl,rfl⟩,fin w1 w2 hb1 hb2⟩
 | none =>
   have hop:=fun (t:TypeId) (w:World)=>run_float_none .add t a b (Or.inl rfl) ho w
   clear ho hlt
   cases fa <;> cases fb <;> (try (cases hf;done))
   all_goals
     go_enter Try.func63,Try.ntmps63
     go_upto_region 2 with (first | (go_at_call_of 93 (Value.float .f64 a);refine (ha _).mono ?_;rintro _ w1 ⟨rfl,hb1⟩))
     go_wp2_with (first | (go_at_call_of 93 (Value.float .f64 b);refine (hb _).mono ?_;rintro _ w2 ⟨rfl,hb2⟩))
     go_ret
     exact⟨⟨_,rfl,(nanOf_nan _ _ _).2,(nanOf_nan _ _ _).1⟩,(fin w1 w2 hb1 hb2).drew⟩
set_option maxHeartbeats 400000 in
theorem mul_core (a b:Nat) (dir:Int) (hx:a<18446744073709551616) (hy:b<18446744073709551616) (na:nanB a=false) (nb:nanB b=false) (za:(FloatKind.f64.format.order a 0==some .eq)=false) (zb:(FloatKind.f64.format.order b 0==some .eq)=false)
   (ga gb gs:Bool) (ma mb ms:Nat) (ea eb es:Int) (r:Nat)
   (ha:∀w,Calls Try.prog 93 #[.float .f64 a] w fun x w'=>x=.returned (.tuple #[.agg #[.bool ga,.int .u64 ma,.int .i64 ea],.bool true])∧Below w.heap.size w w')
   (hb:∀w,Calls Try.prog 93 #[.float .f64 b] w fun x w'=>x=.returned (.tuple #[.agg #[.bool gb,.int .u64 mb,.int .i64 eb],.bool true])∧Below w.heap.size w w')
   (hs:∀w,Calls Try.prog 98 #[.agg #[.bool ga,.int .u64 ma,.int .i64 ea],.agg #[.bool gb,.int .u64 mb,.int .i64 eb]] w fun x w'=>x=.returned (.agg #[.bool gs,.int .u64 ms,.int .i64 es])∧Below w.heap.size w w')
   (hr:∀w,Calls Try.prog 62 #[.agg #[.bool gs,.int .u64 ms,.int .i64 es],.int .i64 dir] w fun x w'=>x=.returned (.float .f64 r)∧Below w.heap.size w w') (w:World) :
   Calls Try.prog 66 #[.float .f64 a,.float .f64 b,.int .i64 dir] w fun x w'=>x=.returned (.float .f64 r)∧Below w.heap.size w w':=by
 go_enter Try.func66,Try.ntmps66
 go_upto_region 6 with (first | (go_at_call 96;refine (isNaN_w _ (by assumption) _).mono ?_;rintro _ _ ⟨rfl,rfl⟩) | (go_at_call_of 93 (Value.float .f64 a);refine (ha _).mono ?_;rintro _ w1 ⟨rfl,hb1⟩))
 go_wp2_with (first
   | (go_at_call_of 93 (Value.float .f64 b);refine (hb _).mono ?_;rintro _ w2 ⟨rfl,hb2⟩
      have c0:=keepsC hb2 (b:=w1.heap.size) (o:=0) (v:=.bool ga) (by go_simp) (by simp)
      have c1:=keepsC hb2 (b:=w1.heap.size) (o:=1) (v:=.int .u64 ma) (by go_simp) (by simp)
      have c2:=keepsC hb2 (b:=w1.heap.size) (o:=2) (v:=.int .i64 ea) (by go_simp) (by simp)
      have hsz:w1.heap.size<w2.heap.size:=by have:=hb2.size;simp only [World.size_alloc] at this;omega)
   | (go_at_call 98;refine (hs _).mono ?_;rintro _ w3 ⟨rfl,hb3⟩)
   | (go_at_call 62;refine (hr _).mono ?_;rintro _ w4 ⟨rfl,hb4⟩))
 all_goals
   go_ret
   refine⟨rfl, ?_⟩
   have t2:Below w.heap.size w (w1.alloc (Obj.cells #[Value.bool ga,Value.int IntKind.u64 ma,Value.int IntKind.i64 ea] 78)):=hb1.alloc hb1.size _
   have t3:=later t2 hb2
   have t4:Below w.heap.size w (w2.alloc (Obj.cells #[Value.bool gb,Value.int IntKind.u64 mb,Value.int IntKind.i64 eb] 78)):=t3.alloc t3.size _
   exact later (later t4 hb3) hb4
theorem mul_nan (a b:Nat) (dir:Int) (hx:a<18446744073709551616) (hy:b<18446744073709551616) (h:nanB a=true∨nanB a=false∧nanB b=true) (w:World) :
   Calls Try.prog 66 #[.float .f64 a,.float .f64 b,.int .i64 dir] w fun x w'=>Ans none x∧Below w.heap.size w w':=by
 rcases h with h | ⟨h,h2⟩
 all_goals
   go_enter Try.func66,Try.ntmps66
   go_wp2_with (first | (go_at_call 96;refine (isNaN_w _ (by assumption) _).mono ?_;rintro _ _ ⟨rfl,rfl⟩) | (go_at_call 97;refine (nan_w _).mono ?_;rintro _ _ ⟨rfl,rfl⟩))
   go_ret
   exact⟨ans_nan,Below.refl _ _⟩
theorem mul_zero (a b:Nat) (dir:Int) (hx:a<18446744073709551616) (hy:b<18446744073709551616) (na:nanB a=false) (nb:nanB b=false)
   (h:(FloatKind.f64.format.order a 0==some .eq)=true∨(FloatKind.f64.format.order a 0==some .eq)=false∧(FloatKind.f64.format.order b 0==some .eq)=true) (w:World) :
   Calls Try.prog 66 #[.float .f64 a,.float .f64 b,.int .i64 dir] w fun x w'=>Ans (some 0) x∧Below w.heap.size w w':=by
 rcases h with h | ⟨h,h2⟩
 all_goals
   go_enter Try.func66,Try.ntmps66
   go_wp2_with (first | (go_at_call 96;refine (isNaN_w _ (by assumption) _).mono ?_;rintro _ _ ⟨rfl,rfl⟩))
   go_ret
   exact⟨⟨0,rfl,by omega,rfl⟩,Below.refl _ _⟩
set_option maxHeartbeats 400000 in
theorem mul_inf (a b:Nat) (dir:Int) (hx:a<18446744073709551616) (hy:b<18446744073709551616) (na:nanB a=false) (nb:nanB b=false) (za:(FloatKind.f64.format.order a 0==some .eq)=false) (zb:(FloatKind.f64.format.order b 0==some .eq)=false)
   (ga gb fa fb:Bool) (ma mb:Nat) (ea eb:Int) (r:Nat) (hl:r<18446744073709551616) (hf:(fa&&fb)=false)
   (ha:∀w,Calls Try.prog 93 #[.float .f64 a] w fun x w'=>x=.returned (.tuple #[.agg #[.bool ga,.int .u64 ma,.int .i64 ea],.bool fa])∧Below w.heap.size w w')
   (hb:∀w,Calls Try.prog 93 #[.float .f64 b] w fun x w'=>x=.returned (.tuple #[.agg #[.bool gb,.int .u64 mb,.int .i64 eb],.bool fb])∧Below w.heap.size w w')
   (ho:floatBits .mul .f64 a b=some r) (w:World) :
   Calls Try.prog 66 #[.float .f64 a,.float .f64 b,.int .i64 dir] w fun x w'=>Ans (some r) x∧Below w.heap.size w w':=by
 have hop:=fun (t:TypeId) (w:World)=>run_float_arith (P:=Try.prog) w .mul t .f64 a b r ho
 clear ho
 cases fa <;> cases fb <;> (try (cases hf;done))
 all_goals
   go_enter Try.func66,Try.ntmps66
   go_upto_region 6 with (first | (go_at_call 96;refine (isNaN_w _ (by assumption) _).mono ?_;rintro _ _ ⟨rfl,rfl⟩) | (go_at_call_of 93 (Value.float .f64 a);refine (ha _).mono ?_;rintro _ w1 ⟨rfl,hb1⟩))
   go_wp2_with (first | (go_at_call_of 93 (Value.float .f64 b);refine (hb _).mono ?_;rintro _ w2 ⟨rfl,hb2⟩))
   go_ret
   have t2:Below w.heap.size w (w1.alloc (Obj.cells #[Value.bool ga,Value.int IntKind.u64 ma,Value.int IntKind.i64 ea] 78)):=hb1.alloc hb1.size _
   have t3:=later t2 hb2
   exact⟨⟨r,rfl,hl,rfl⟩,t3.alloc t3.size _⟩
theorem read_nan {x:Nat} (hx:x<18446744073709551616) (h:nanB x=true):∃s f,Ieee.double.read x=.nan s f:=by
 have hr:9218868437227405312<x%9223372036854775808:=by simpa [nanB] using h
 rw [read_eq x hx,if_neg (by omega),if_neg (by omega)]
 exact⟨_,_,rfl⟩
theorem read_inf {x:Nat} (hx:x<18446744073709551616) (h:nanB x=false) (hf:finB x=false):Ieee.double.read x=.infinity (decide (9223372036854775808≤x)):=by
 have hr:¬9218868437227405312<x%9223372036854775808:=by simpa [nanB] using h
 have hg:¬x%9223372036854775808<9218868437227405312:=by simpa [finB] using hf
 rw [read_eq x hx,if_neg hg,if_pos (by omega)]
theorem read_fin {x:Nat} (hx:x<18446744073709551616) (hf:finB x=true):∃e,Ieee.double.read x=.number (decide (9223372036854775808≤x)) (splitM x) e:=by
 have hg:x%9223372036854775808<9218868437227405312:=by simpa [finB] using hf
 rw [read_eq x hx,if_pos hg]
 exact⟨_,rfl⟩
theorem write_inf (s:Bool):Ieee.double.write (.infinity s)=if s then 18442240474082181120 else 9218868437227405312:=by cases s <;> decide
theorem inf_word {x:Nat} (hx:x<18446744073709551616) (h:nanB x=false) (hf:finB x=false):x=if decide (9223372036854775808≤x) then 18442240474082181120 else 9218868437227405312:=by
 have hr:¬9218868437227405312<x%9223372036854775808:=by simpa [nanB] using h
 have hg:¬x%9223372036854775808<9218868437227405312:=by simpa [finB] using hf
 by_cases c:9223372036854775808≤x
 · simp only [c,decide_true,if_true];omega
 · simp only [c,decide_false,Bool.false_eq_true,if_false];omega
theorem fin_not_nan {x:Nat} (hf:finB x=true):nanB x=false:=by
 have hg:x%9223372036854775808<9218868437227405312:=by simpa [finB] using hf
 simp [nanB];omega
theorem split_any (x:Nat) (hx:x<18446744073709551616):∃(g:Bool) (m:Nat) (e:Int),∀w,Calls Try.prog 93 #[.float .f64 x] w fun r w'=>r=.returned (.tuple #[.agg #[.bool g,.int .u64 m,.int .i64 e],.bool (finB x)])∧Below w.heap.size w w':=by
 cases hf:finB x
 · exact⟨false,0,0,fun w=>split_not x hx hf w⟩
 · exact⟨_,_,_,fun w=>split_w x hx hf w⟩
theorem splitM_norm {x:Nat} (hf:finB x=true):splitM x≠0→-1074<splitE x→4503599627370496≤splitM x:=by
 have hg:x%9223372036854775808<9218868437227405312:=by simpa [finB] using hf
 unfold splitM splitE
 intro h1 h2
 split at h2
 · split at h1 <;> omega
 · split <;> omega
def isZ (x:Nat):Bool:=decide (x%9223372036854775808=0)
def infW (g:Bool):Nat:=if g then 18442240474082181120 else 9218868437227405312
def signB (x:Nat):Bool:=decide (9223372036854775808≤x)
def addF (a b:Nat) (dir:Int):Nat:=roundN (sumG (splitG a) (splitM a) (splitE a) (splitG b) (splitM b) (splitE b)) (sumM (splitG a) (splitM a) (splitE a) (splitG b) (splitM b) (splitE b)) (sumE (splitM a) (splitE a) (splitM b) (splitE b)) dir
def addR (a b:Nat) (dir:Int):Option Nat :=
 if nanB a || nanB b then none else if finB a&&finB b then some (addF a b dir) else if !finB a&&!finB b&&(signB a != signB b) then none else some (if finB a then b else a)
theorem markN_lt {m:Nat} {l:Bool} (h:m<18446744073709551616):markN m l<18446744073709551616:=by unfold markN;split <;> omega
theorem moveN_le {m n:Nat} (h:m≤9223372036854775807):moveN m n≤9223372036854775808:=by
 have:=Nat.div_le_self m (2^n)
 unfold moveN markN;split <;> omega
theorem sumM_lt (ga:Bool) (ma:Nat) (ea:Int) (gb:Bool) (mb:Nat) (eb:Int) (h1:ma<9007199254740992) (h2:mb<9007199254740992):sumM ga ma ea gb mb eb<18446744073709551616:=by
 have hA:∀(g:Bool) (x:Nat) (e:Int) (g':Bool) (y:Nat) (e':Int),x<9007199254740992→y<9007199254740992→addM g x e g' y e'<18446744073709551616:=fun g x e g' y e' hx hy=>by
   have:=moveN_le (m:=y*1024) (n:=(e-e').toNat) (by omega)
   unfold addM;split <;> omega
 unfold sumM
 split
 · omega
 · split
   · omega
   · split
     · exact hA _ _ _ _ _ _ h2 h1
     · exact hA _ _ _ _ _ _ h1 h2
theorem add_bits {a b:Nat} (ha:a<18446744073709551616) (hb:b<18446744073709551616) (dir:Int) (hf:(finB a&&finB b)=false):floatBits .add .f64 a b=addR a b dir:=by
 show ((Ieee.double.read a).sum (Ieee.double.read b)).map Ieee.double.write=_
 unfold addR
 cases na:nanB a
 · cases nb:nanB b
   · simp only [Bool.or_self,Bool.false_eq_true,if_false,hf]
     cases fa:finB a
     · rw [read_inf ha na fa]
       have ea:=inf_word ha na fa
       cases fb:finB b
       · rw [read_inf hb nb fb]
         unfold signB
         simp only [Ieee.Datum.sum,Bool.not_false,Bool.true_and,Bool.false_eq_true,if_false]
         generalize decide (9223372036854775808≤a)=s at *
         generalize decide (9223372036854775808≤b)=t at *
         cases s <;> cases t <;> simp only [if_true,if_false,Option.map,write_inf,bne_self_eq_false,Bool.false_eq_true,Bool.true_eq_false] <;> first | rfl | (rw [ea];rfl)
       · obtain⟨e,he⟩:=read_fin hb fb
         rw [he]
         simp only [Ieee.Datum.sum,Option.map,write_inf,Bool.not_true,Bool.and_false,Bool.false_and,Bool.false_eq_true,if_false]
         rw [←ea]
     · have fb:finB b=false:=by rw [fa] at hf;simpa using hf
       rw [read_inf hb nb fb]
       have eb:=inf_word hb nb fb
       obtain⟨e,he⟩:=read_fin ha fa
       rw [he]
       simp only [Ieee.Datum.sum,Option.map,write_inf,Bool.not_true,Bool.false_and,Bool.false_eq_true,if_false,if_true]
       rw [←eb]
   · obtain⟨s,f,he⟩:=read_nan hb nb
     rw [he]
     simp only [Bool.or_true,if_true]
     cases Ieee.double.read a <;> rfl
 · obtain⟨s,f,he⟩:=read_nan ha na
   rw [he]
   simp only [Bool.true_or,if_true]
   rfl
theorem add_w (a b:Nat) (dir:Int) (ha:a<18446744073709551616) (hb:b<18446744073709551616) (w:World) :
   Calls Try.prog 63 #[.float .f64 a,.float .f64 b,.int .i64 dir] w fun x w'=>Ans (addR a b dir) x∧Below w.heap.size w w':=by
 by_cases hf:(finB a&&finB b)=true
 · have fa:finB a=true:=by cases h:finB a <;> simp_all
   have fb:finB b=true:=by cases h:finB b <;> simp_all
   have e:addR a b dir=some (addF a b dir):=by unfold addR;simp only [fin_not_nan fa,fin_not_nan fb,fa,fb,Bool.or_self,Bool.and_self,Bool.false_eq_true,if_false,if_true]
   rw [e]
   have hm:=sumM_lt (splitG a) (splitM a) (splitE a) (splitG b) (splitM b) (splitE b) (splitM_lt a) (splitM_lt b)
   have c:=add_core a b dir _ _ _ _ _ _ _ _ _ _ (fun w=>split_w a ha fa w) (fun w=>split_w b hb fb w)
     (fun w=>sum_w (splitG a) (splitG b) (splitM a) (splitM b) (splitE a) (splitE b) (splitM_lt a) (splitM_lt b) (splitE_bounds fa) (splitE_bounds fb) (splitM_norm fa) (splitM_norm fb) w)
     (fun w=>round_w _ _ _ dir hm w) w
   exact c.mono fun x w' h=>⟨⟨_,h.1,(roundN_facts _ _ _ dir hm).2.2,rfl⟩,h.2⟩
 · have hf:(finB a&&finB b)=false:=by simpa using hf
   obtain⟨ga,ma,ea,sa⟩:=split_any a ha
   obtain⟨gb,mb,eb,sb⟩:=split_any b hb
   refine add_out a b dir ga gb (finB a) (finB b) ma mb ea eb (addR a b dir) hf ?_ sa sb (add_bits ha hb dir hf) w
   intro r hr
   have:=floatBits_wf (op:=.add) (k:=.f64) (x:=a) (y:=b) (r:=r) (by rw [add_bits ha hb dir hf,hr])
   simpa [Lit.wf] using this
theorem ord_zero {x:Nat} (hx:x<18446744073709551616) (hn:nanB x=false):(FloatKind.f64.format.order x 0==some .eq)=isZ x:=by
 unfold isZ
 rcases cases0 x hx with ⟨h,_,_⟩ | ⟨_,ho,hc⟩ | ⟨_,ho,hc⟩ | ⟨_,ho,hc⟩
 · rw [hn] at h;cases h
 · rw [ho];simp [hc]
 · rw [ho]
   have:¬x%9223372036854775808=0:=by omega
   simp [this]
 · rw [ho]
   have:¬x%9223372036854775808=0:=by omega
   simp [this]
theorem splitM_zero {x:Nat} (h:isZ x=false):splitM x≠0:=by
 have hz:¬x%9223372036854775808=0:=by simpa [isZ] using h
 unfold splitM;split <;> omega
theorem splitG_sign {x:Nat} (h:isZ x=false):splitG x=signB x:=by
 have hz:¬x%9223372036854775808=0:=by simpa [isZ] using h
 unfold splitG signB
 rw [Bool.eq_iff_iff];simp only [decide_eq_true_eq];omega
def mulF (a b:Nat) (dir:Int):Nat:=roundN (splitG a != splitG b) (prodM (splitM a) (splitM b)) (prodE (splitM a) (splitE a) (splitM b) (splitE b)) dir
def mulR (a b:Nat) (dir:Int):Option Nat :=
 if nanB a || nanB b then none else if isZ a || isZ b then some 0 else if finB a&&finB b then some (mulF a b dir) else some (infW (signB a != signB b))
theorem prodM_lt {a b:Nat} (z1:a≠0) (z2:b≠0) (h1:a<18446744073709551616) (h2:b<18446744073709551616):prodM a b<18446744073709551616 :=
 markN_lt (Nat.div_lt_of_lt_mul (Nat.mul_lt_mul'' (topN_bounds z1 h1).2 (topN_bounds z2 h2).2))
theorem mul_bits {a b:Nat} (ha:a<18446744073709551616) (hb:b<18446744073709551616) (na:nanB a=false) (nb:nanB b=false) (za:isZ a=false) (zb:isZ b=false) (hf:(finB a&&finB b)=false) :
   floatBits .mul .f64 a b=some (infW (signB a != signB b)):=by
 show ((Ieee.double.read a).product (Ieee.double.read b)).map Ieee.double.write=_
 have wi:∀s t:Bool,Ieee.double.write (.infinity (s ^^ t))=infW (s != t):=by intro s t;cases s <;> cases t <;> decide
 unfold signB
 cases fa:finB a
 · rw [read_inf ha na fa]
   cases fb:finB b
   · rw [read_inf hb nb fb]
     simp only [Ieee.Datum.product,Option.map,wi]
   · obtain⟨e,he⟩:=read_fin hb fb
     rw [he]
     simp only [Ieee.Datum.product,splitM_zero zb,if_false,Option.map,wi]
 · have fb:finB b=false:=by rw [fa] at hf;simpa using hf
   rw [read_inf hb nb fb]
   obtain⟨e,he⟩:=read_fin ha fa
   rw [he]
   simp only [Ieee.Datum.product,splitM_zero za,if_false,Option.map,wi]
   generalize decide (9223372036854775808≤a)=s
   generalize decide (9223372036854775808≤b)=t
   cases s <;> cases t <;> rfl
theorem infW_lt (g:Bool):infW g<18446744073709551616:=by cases g <;> decide
theorem mul_w (a b:Nat) (dir:Int) (ha:a<18446744073709551616) (hb:b<18446744073709551616) (w:World) :
   Calls Try.prog 66 #[.float .f64 a,.float .f64 b,.int .i64 dir] w fun x w'=>Ans (mulR a b dir) x∧Below w.heap.size w w':=by
 unfold mulR
 cases na:nanB a
 · cases nb:nanB b
   · simp only [Bool.or_self,Bool.false_eq_true,if_false]
     cases za:isZ a
     · cases zb:isZ b
       · simp only [Bool.or_self,Bool.false_eq_true,if_false]
         have oa:=ord_zero ha na
         have ob:=ord_zero hb nb
         rw [za] at oa
         rw [zb] at ob
         by_cases hf:(finB a&&finB b)=true
         · have fa:finB a=true:=by cases h:finB a <;> simp_all
           have fb:finB b=true:=by cases h:finB b <;> simp_all
           rw [if_pos hf]
           have h1:=splitM_lt a
           have h2:=splitM_lt b
           have e1:=splitE_bounds fa
           have e2:=splitE_bounds fb
           have hm:=prodM_lt (splitM_zero za) (splitM_zero zb) (show splitM a<18446744073709551616 by omega) (show splitM b<18446744073709551616 by omega)
           have c:=mul_core a b dir ha hb na nb oa ob _ _ _ _ _ _ _ _ _ _ (fun w=>split_w a ha fa w) (fun w=>split_w b hb fb w)
             (fun w=>product_w (splitG a) (splitG b) (splitM a) (splitM b) (splitE a) (splitE b) (splitM_zero za) (splitM_zero zb) (by omega) (by omega) (by omega) (by omega) w)
             (fun w=>round_w _ _ _ dir hm w) w
           exact c.mono fun x w' h=>⟨⟨_,h.1,(roundN_facts _ _ _ dir hm).2.2,rfl⟩,h.2⟩
         · have hf:(finB a&&finB b)=false:=by simpa using hf
           rw [hf]
           simp only [Bool.false_eq_true,if_false]
           obtain⟨ga,ma,ea,sa⟩:=split_any a ha
           obtain⟨gb,mb,eb,sb⟩:=split_any b hb
           exact mul_inf a b dir ha hb na nb oa ob ga gb (finB a) (finB b) ma mb ea eb _ (infW_lt _) hf sa sb (mul_bits ha hb na nb za zb hf) w
       · have oa:=ord_zero ha na
         have ob:=ord_zero hb nb
         rw [za] at oa
         rw [zb] at ob
         simp only [Bool.or_true,if_true]
         exact mul_zero a b dir ha hb na nb (Or.inr ⟨oa,ob⟩) w
     · have oa:=ord_zero ha na
       rw [za] at oa
       simp only [Bool.true_or,if_true]
       exact mul_zero a b dir ha hb na nb (Or.inl oa) w
   · simp only [Bool.or_true,if_true]
     exact mul_nan a b dir ha hb (Or.inr ⟨na,nb⟩) w
 · simp only [Bool.true_or,if_true]
   exact mul_nan a b dir ha hb (Or.inl na) w
end Go.Proofs.Ytdnpoacjamkhkaa
