/- Middles and widths: the program's and the reference's are the same; IvalSizes' walk. The greater the intervals are, the greater are sums and products: plain facts, end by end. -/
import Derived.Test.YtdokikhhlmelkaaGreatZs31
namespace Go.Proofs.YtdokikhhlmelkaaGreat
open Go.ChangeShapes Go.WideShapes Go.ChangeAt Go.RowKit
theorem top_shift {t k:Nat} (h1:2^k≤t) (h2:t<2^(k+1)):shiftN t=63-k∧topN t=t*2^(63-k):=by
 have h0:t≠0:=by have:=Nat.two_pow_pos k;omega
 have l:t.log2=k:=by
   have a:=(Nat.le_log2 h0).2 h1
   have b:=(Nat.log2_lt h0).2 h2
   omega
 unfold topN shiftN
 rw [l]
 exact⟨rfl,rfl⟩
theorem half_parts {m:Nat} (h0:m≠0) (hm:m<9007199254740992) (e d:Int) (he:-1074≤e∧e≤971) (g:Bool) :
   roundN g (prodM m 4503599627370496) (prodE m e 4503599627370496 (-53)) d=roundN g (quoM m 4503599627370496) (quoE m e 4503599627370496 (-51)) d:=by
 obtain⟨s1,s2⟩:=top_shift (t:=4503599627370496) (k:=52) (by decide) (by decide)
 have tb:=topN_bounds h0 (show m<18446744073709551616 by omega)
 have ev:topN m%2=0:=by
   have l:m.log2<53:=(Nat.log2_lt h0).2 hm
   unfold topN
   rw [show shiftN m=(shiftN m-1)+1 by unfold shiftN;omega,Nat.pow_succ,←Nat.mul_assoc]
   omega
 have sm:shiftN m≤63:=by unfold shiftN;omega
 unfold prodM prodE quoM quoE
 rw [s1,s2]
 generalize topN m=t at *
 generalize shiftN m=s at *
 have a1:t*(4503599627370496*2^(63-52))/18446744073709551616=t/2:=by omega
 have a2:t*(4503599627370496*2^(63-52))%18446744073709551616=0:=by omega
 have a3:t*9223372036854775808/(4503599627370496*2^(63-52))=t:=by omega
 have a4:t*9223372036854775808%(4503599627370496*2^(63-52))=0:=by omega
 rw [a1,a2,a3,a4]
 obtain⟨p1,p2⟩:=top_shift (t:=t) (k:=63) (by omega) (by omega)
 obtain⟨q1,q2⟩:=top_shift (t:=t/2) (k:=62) (by omega) (by omega)
 have f:(decide ((0:Nat)≠0))=false:=rfl
 rw [f]
 show roundN g (t/2) _ d=roundN g t _ d
 unfold roundN
 rw [if_neg (by omega),if_neg (by omega),p1,p2,q1,q2]
 have t1:t/2*2^(63-62)=t*2^(63-63):=by omega
 have t2:clampN (e-(s:Int)+(-53-((63-52:Nat):Int))+64)-((63-62:Nat):Int)=clampN (e-(s:Int)-(-51-((63-52:Nat):Int))-63)-((63-63:Nat):Int):=by unfold clampN;omega
 rw [t1,t2]
def halfF (a:Nat):Nat:=divF a 4611686018427387904 0
theorem half_div {a:Nat} (fa:finB a=true):divR a 4611686018427387904 0=some (halfF a):=divR_fin 0 fa (by decide) (by decide)
theorem half_mul {a:Nat} (fa:finB a=true):mulR a 4602678819172646912 0=some (halfF a):=by
 have na:=fin_not_nan fa
 unfold mulR halfF
 rw [na,fa]
 have n2:nanB 4602678819172646912=false:=by decide
 have z2:isZ 4602678819172646912=false:=by decide
 have f2:finB 4602678819172646912=true:=by decide
 rw [n2,z2,f2]
 simp only [Bool.or_self,Bool.or_false,Bool.false_eq_true,if_false,Bool.and_self,if_true]
 have s1:splitG 4602678819172646912=false:=by decide
 have s2:splitM 4602678819172646912=4503599627370496:=by decide
 have s3:splitE 4602678819172646912=-53:=by decide
 have t1:splitG 4611686018427387904=false:=by decide
 have t2:splitM 4611686018427387904=4503599627370496:=by decide
 have t3:splitE 4611686018427387904=-51:=by decide
 cases z:isZ a
 · rw [if_neg (by simp)]
   congr 1
   unfold mulF divF
   rw [s1,s2,s3,t1,t2,t3]
   exact half_parts (splitM_zero z) (splitM_lt a) _ 0 (splitE_bounds fa) _
 · rw [if_pos rfl]
   congr 1
   have h:a%9223372036854775808=0:=by simpa [isZ] using z
   have zm:splitM a=0:=by unfold splitM;rw [if_pos (by omega),h]
   unfold divF
   rw [zm,quoM_zero]
   unfold roundN
   rw [if_pos rfl]
theorem half_low {a:Nat} (ha:a<18446744073709551616) (fa:finB a=true) (k:key a≤0):key a≤key (divF a 4611686018427387904 (-1)):=by
 obtain⟨u,hu⟩:∃u:Nat,u=1074:=⟨_,rfl⟩
 obtain⟨u3,hu3⟩:∃u:Nat,u=1075:=⟨_,rfl⟩
 have r3:2^u3=2*2^u:=by rw [show u3=u+1 by omega,Nat.pow_succ,Nat.mul_comm]
 have i3:((2^u3:Nat):Int)=2*((2^u:Nat):Int):=by rw [r3];simp
 have ov:=one_val hu
 have e:=div_exact hu3 ha (b:=4607182418800017408) (by omega) ha fa (by decide) fa (by decide) (by rw [ov,i3,Int.mul_comm 2 (V (key a)),Int.mul_assoc]) (-1)
 have m:V (key 4607182418800017408)≤V (key 4611686018427387904):=V_mono_le (by decide)
 have n:=V_npos k
 clear hu hu3 r3 i3 ov
 rw [←e]
 refine div_le ha (by omega) ha (by omega) fa (by decide) fa (by decide) (by decide) (by decide) ?_
 exact Int.mul_le_mul_of_nonpos_left n m
theorem half_up {a:Nat} (ha:a<18446744073709551616) (fa:finB a=true):key (divF a 4611686018427387904 1)=- key (divF (negB a) 4611686018427387904 (-1)):=by
 have m:=div_mirror (a:=a) (b:=4611686018427387904) (by omega) fa (by decide) (by decide)
 have f:=div_flip (a:=negB a) (b:=4611686018427387904) (negB_lt ha) (by omega) (by rw [finB_negB ha];exact fa) (by decide) (by decide)
 rw [negB_negB ha] at f
 rw [m,f]
theorem half_key {a:Nat} (ha:a<18446744073709551616) (fa:finB a=true):(0≤key a→0≤key (halfF a)∧key (halfF a)≤key a)∧(key a≤0→key a≤key (halfF a)∧key (halfF a)≤0):=by
 have s:=div_sides (a:=a) (b:=4611686018427387904) ha (by omega) fa (by decide) (by decide)
 have u:=half_up ha fa
 have s1:=s.1.le
 have s2:=s.2.1.le
 have kn:=key_negB ha
 have fn:finB (negB a)=true:=by rw [finB_negB ha];exact fa
 unfold halfF
 refine⟨fun k=>⟨?_, ?_⟩,fun k=>⟨?_, ?_⟩⟩
 · have:=div_nonneg (a:=a) (b:=4611686018427387904) ha (by omega) fa (by decide) k (by decide)
   exact Int.le_trans this s1
 · have:=half_low (negB_lt ha) fn (by omega)
   omega
 · have:=half_low ha fa k
   exact Int.le_trans this s1
 · have:=div_nonneg (a:=negB a) (b:=4611686018427387904) (negB_lt ha) (by omega) fn (by decide) (by omega) (by decide)
   omega
theorem half_facts {a:Nat} (ha:a<18446744073709551616) (fa:finB a=true):nanB (halfF a)=false∧halfF a<18446744073709551616∧finB (halfF a)=true:=by
 have f:=divF_facts (a:=a) (b:=4611686018427387904) 0 (by decide)
 have k:=half_key ha fa
 have g:=fin_key ha fa
 have hd:divF a 4611686018427387904 0=halfF a:=rfl
 rw [hd] at f
 refine⟨f.1,f.2.2, ?_⟩
 cases h:finB (halfF a)
 · have:=(key_inf f.2.2 f.1).1 h
   rcases Int.le_total 0 (key a) with c | c
   · have:=k.1 c;omega
   · have:=k.2 c;omega
 · rfl
def midLo (lo:Nat):Nat:=maxW lo 18442240474082181119
def midHi (hi:Nat):Nat:=minW hi 9218868437227405311
def midM (lo hi:Nat):Nat:=addF (halfF (midLo lo)) (halfF (midHi hi)) 0
def midP (lo hi:Nat):Nat:=if hsB lo hi then (if key (midM lo hi)<key (midLo lo) then midLo lo else if key (midHi hi)<key (midM lo hi) then midHi hi else midM lo hi) else 0
theorem midM_facts (lo hi:Nat):nanB (midM lo hi)=false∧midM lo hi≠9223372036854775808∧midM lo hi<18446744073709551616:=by
 unfold midM
 exact addF_facts _ _ 0
theorem midM_is {lo hi:Nat} (f1:finB (halfF (midLo lo))=true) (f2:finB (halfF (midHi hi))=true):addR (halfF (midLo lo)) (halfF (midHi hi)) 0=some (midM lo hi):=by
 unfold midM
 exact addR_fin 0 f1 f2
theorem mid_ends {lo hi:Nat} (hl:lo<18446744073709551616) (hh:hi<18446744073709551616) (S:Some2 lo hi):(midLo lo=if eqB lo (infI (-1)) then 18442240474082181119 else lo)∧(midHi hi=if eqB hi (infI 1) then 9218868437227405311 else hi)∧finB (midLo lo)=true∧finB (midHi hi)=true∧midLo lo<18446744073709551616∧midHi hi<18446744073709551616∧midLo lo≠9223372036854775808∧midHi hi≠9223372036854775808∧key (midLo lo)≤key (midHi hi):=by
 have ei:eqB lo (infI (-1))=decide (key lo=-9218868437227405312):=by unfold eqB;rw [S.nl,nan_inf,key_down];rfl
 have ej:eqB hi (infI 1)=decide (key hi=9218868437227405312):=by unfold eqB;rw [S.nh,nan_inf,key_up];rfl
 have k1:key 18442240474082181119=-9218868437227405311:=by decide
 have k2:key 9218868437227405311=9218868437227405311:=by decide
 have g1:=nanB_key hl S.nl
 have g2:=nanB_key hh S.nh
 have sl:=S.lt
 have sg:=S.gt
 have sle:=S.le
 have F:∀{x:Nat},x<18446744073709551616→nanB x=false→key x≠9218868437227405312→key x≠-9218868437227405312→finB x=true:=fun {x} hx nx n1 n2=>by
   cases h:finB x
   · rcases (key_inf hx nx).1 h with c | c
     · exact absurd c n1
     · exact absurd c n2
   · rfl
 unfold midLo midHi
 rw [maxW_is S.zl (by omega),minW_is S.zh (by omega),ei,ej,k1,k2]
 by_cases c1:key lo < -9218868437227405311
 · have q:key lo=-9218868437227405312:=by omega
   rw [if_pos c1,decide_eq_true q,if_pos rfl]
   by_cases c2:9218868437227405311<key hi
   · have q2:key hi=9218868437227405312:=by omega
     rw [if_pos c2,decide_eq_true q2,if_pos rfl]
     exact⟨rfl,rfl,by decide,by decide,by omega,by omega,by omega,by omega,by rw [k1,k2];omega⟩
   · have q2:¬key hi=9218868437227405312:=by omega
     rw [if_neg c2,decide_eq_false q2,if_neg (by simp)]
     exact⟨rfl,rfl,by decide,F hh S.nh q2 (by omega),by omega,hh,by omega,S.zh,by rw [k1];omega⟩
 · have q:¬key lo=-9218868437227405312:=by omega
   rw [if_neg c1,decide_eq_false q,if_neg (by simp)]
   by_cases c2:9218868437227405311<key hi
   · have q2:key hi=9218868437227405312:=by omega
     rw [if_pos c2,decide_eq_true q2,if_pos rfl]
     exact⟨rfl,rfl,F hl S.nl (by omega) q,by decide,hl,by omega,S.zl,by omega,by rw [k2];omega⟩
   · have q2:¬key hi=9218868437227405312:=by omega
     rw [if_neg c2,decide_eq_false q2,if_neg (by simp)]
     exact⟨rfl,rfl,F hl S.nl (by omega) q,F hh S.nh q2 (by omega),hl,hh,S.zl,S.zh,sle⟩
set_option maxHeartbeats 1000000 in
theorem mid_core (lo hi l h p q m x r:Nat) (b:Bool)
   (c0:∀b' W,W.cell? ⟨b',0,none⟩=some (.float .f64 lo)→W.cell? ⟨b',1,none⟩=some (.float .f64 hi)→Calls Tryz.prog 54 #[.slice (some ⟨b',0,none⟩) 1 1] W fun e w'=>e=.returned (.bool (!b))∧Below W.heap.size W w')
   (m1:b=true→∀ts t w,(Builtin.max_ ts t #[.float .f64 lo,.float .f64 18442240474082181119]).run Tryz.prog w=.ok (.float .f64 l) w)
   (m2:b=true→∀ts t w,(Builtin.min_ ts t #[.float .f64 hi,.float .f64 9218868437227405311]).run Tryz.prog w=.ok (.float .f64 h) w)
   (c1:b=true→∀w,Calls Tryz.prog 84 #[.float .f64 l,.float .f64 4611686018427387904,.int .i64 0] w fun e w'=>e=.returned (.float .f64 p)∧Below w.heap.size w w')
   (c2:b=true→∀w,Calls Tryz.prog 84 #[.float .f64 h,.float .f64 4611686018427387904,.int .i64 0] w fun e w'=>e=.returned (.float .f64 q)∧Below w.heap.size w w')
   (c3:b=true→∀w,Calls Tryz.prog 56 #[.float .f64 p,.float .f64 q,.int .i64 0] w fun e w'=>e=.returned (.float .f64 m)∧Below w.heap.size w w')
   (m3:b=true→∀ts t w,(Builtin.max_ ts t #[.float .f64 m,.float .f64 l]).run Tryz.prog w=.ok (.float .f64 x) w)
   (m4:b=true→∀ts t w,(Builtin.min_ ts t #[.float .f64 x,.float .f64 h]).run Tryz.prog w=.ok (.float .f64 r) w) (w:World) :
   Calls Tryz.prog 60 #[.agg #[.float .f64 lo,.float .f64 hi]] w fun e w'=>e=.returned (.float .f64 (if b then r else 0))∧Below w.heap.size w w':=by
 cases b
 · clear m1 m2 m3 m4 c1 c2 c3
   simp only [Bool.not_false,Bool.false_eq_true,if_false] at c0 ⊢
   go_enter Tryz.func60,Tryz.ntmps60
   go_wp2_with (go_at_call 54;refine (c0 (w.heap.size+1) _ (by go_simp) (by go_simp)).mono ?_;rintro _ w1 ⟨rfl,hb1⟩)
   go_ret
   exact⟨rfl,later (by go_grown) hb1⟩
 · replace m1:=m1 rfl
   replace m2:=m2 rfl
   replace m3:=m3 rfl
   replace m4:=m4 rfl
   replace c1:=c1 rfl
   replace c2:=c2 rfl
   replace c3:=c3 rfl
   simp only [Bool.not_true,if_true] at c0 ⊢
   go_enter Tryz.func60,Tryz.ntmps60
   go_upto_region 3 with
    (go_at_call 54;refine (c0 (w.heap.size+1) _ (by go_simp) (by go_simp)).mono ?_;rintro _ w1 ⟨rfl,hb1⟩
     have X:Has2 w1 w.heap.size (.float .f64 lo) (.float .f64 hi):=Has2.keep ⟨by go_simp,by go_simp,by go_simp,by go_simp,by go_size⟩ hb1
     have HB:Below w.heap.size w w1:=later (by go_grown) hb1)
   clear hb1 c0
   have kx0:=fun n:Behind w1=>n.cell X.1 X.2.2.2.2
   have kx1:=fun n:Behind w1=>n.cell X.2.1 X.2.2.2.2
   refine region_behind (by kernel_rfl) (by kernel_rfl) ?_
   repeat (go_big_quiet_step (fail))
   refine wpQuiet_nil ?_
   rintro _ ⟨n,rfl⟩
   obtain⟨W,hb1⟩:=n
   dsimp only
   clear kx0 kx1
   replace HB:=later HB hb1
   clear hb1
   go_wp2_with (first
     | (go_at_call_of 84 (Value.float .f64 l);refine (c1 _).mono ?_;rintro _ w2 ⟨rfl,hb1⟩;replace HB:=later HB hb1;clear hb1)
     | (go_at_call 84;refine (c2 _).mono ?_;rintro _ w2 ⟨rfl,hb1⟩;replace HB:=later HB hb1;clear hb1)
     | (go_at_call 56;refine (c3 _).mono ?_;rintro _ w2 ⟨rfl,hb1⟩;replace HB:=later HB hb1;clear hb1))
   go_ret
   exact⟨rfl,HB⟩
theorem Mid_w (lo hi:Nat) (hl:lo<18446744073709551616) (hh:hi<18446744073709551616) (w:World):Calls Tryz.prog 60 #[.agg #[.float .f64 lo,.float .f64 hi]] w fun e w'=>e=.returned (.float .f64 (midP lo hi))∧Below w.heap.size w w':=by
 have c0:=fun b W c0 c1=>someEmpty1_w b lo hi hl hh W c0 c1
 have E:=fun h=>mid_ends hl hh (hs_iff.1 h)
 have P:=fun h=>half_facts (E h).2.2.2.2.1 (E h).2.2.1
 have Q:=fun h=>half_facts (E h).2.2.2.2.2.1 (E h).2.2.2.1
 have N:=fun h=>fin_not_nan (E h).2.2.1
 have O:=fun h=>fin_not_nan (E h).2.2.2.1
 have M:=midM_facts lo hi
 have X:hsB lo hi=true→minW (maxW (midM lo hi) (midLo lo)) (midHi hi)=(if key (midM lo hi)<key (midLo lo) then midLo lo else if key (midHi hi)<key (midM lo hi) then midHi hi else midM lo hi):=fun h=>by
   have k:=(E h).2.2.2.2.2.2.2.2
   rw [maxW_is M.2.1 (E h).2.2.2.2.2.2.1]
   by_cases c:key (midM lo hi)<key (midLo lo)
   · rw [if_pos c,if_pos c,minW_is (E h).2.2.2.2.2.2.1 (E h).2.2.2.2.2.2.2.1,if_neg (by omega)]
   · rw [if_neg c,if_neg c,minW_is M.2.1 (E h).2.2.2.2.2.2.2.1]
 have q:=mid_core lo hi (midLo lo) (midHi hi) (halfF (midLo lo)) (halfF (midHi hi)) (midM lo hi) (maxW (midM lo hi) (midLo lo)) (minW (maxW (midM lo hi) (midLo lo)) (midHi hi)) (hsB lo hi) c0
   (fun h ts t w=>max_f hl (by omega) (hs_nan h).1 (by decide) _ ts t w) (fun h ts t w=>min_f hh (by omega) (hs_nan h).2 (by decide) _ ts t w)
   (fun h=>told_calls (half_div (E h).2.2.1) (fun w=>div_w _ _ 0 (E h).2.2.2.2.1 (by omega) w)) (fun h=>told_calls (half_div (E h).2.2.2.1) (fun w=>div_w _ _ 0 (E h).2.2.2.2.2.1 (by omega) w))
   (fun h=>told_calls (midM_is (P h).2.2 (Q h).2.2) (fun w=>add_w _ _ 0 (P h).2.1 (Q h).2.1 w))
   (fun h ts t w=>max_f M.2.2 (E h).2.2.2.2.1 M.1 (N h) _ ts t w)
   (fun h ts t w=>min_f (by rw [maxW_is M.2.1 (E h).2.2.2.2.2.2.1];split;exact (E h).2.2.2.2.1;exact M.2.2) (E h).2.2.2.2.2.1 (by rw [maxW_is M.2.1 (E h).2.2.2.2.2.2.1];split;exact N h;exact M.1) (O h) _ ts t w) w
 unfold midP
 cases h:hsB lo hi
 · rw [h,if_neg (by simp)] at q
   rw [if_neg (by simp)]
   exact q
 · rw [h,if_pos rfl] at q
   rw [if_pos rfl,←X h]
   exact q
theorem Has2.put0 {w:World} {b:Nat} {x y:Value} (h:Has2 w b x y) (x':Value):Has2 (w.setCell ⟨b,0,none⟩ x') b x' y:=by
 obtain⟨h0,h1,f0,f1,hl⟩:=h
 refine⟨by go_simp,by go_simp,by go_simp,by go_simp, ?_⟩
 simp only [World.size_setCell];exact hl
theorem Has2.put1 {w:World} {b:Nat} {x y:Value} (h:Has2 w b x y) (y':Value):Has2 (w.setCell ⟨b,1,none⟩ y') b x y':=by
 obtain⟨h0,h1,f0,f1,hl⟩:=h
 refine⟨by go_simp,by go_simp,by go_simp,by go_simp, ?_⟩
 simp only [World.size_setCell];exact hl
set_option maxHeartbeats 2000000 in
theorem rmid_core (lo hi l h p q m:Nat) (b b1 b2 b3 b4:Bool)
   (c1:∀w,Calls Tryz.prog 11 #[.agg #[.float .f64 lo,.float .f64 hi]] w fun e w'=>e=.returned (.bool (!b))∧Below w.heap.size w w')
   (o1:(FloatKind.f64.format.order lo (infI (-1))==some .eq)=b1) (o2:(FloatKind.f64.format.order hi (infI 1)==some .eq)=b2)
   (hl:l=if b1 then 18442240474082181119 else lo) (hh:h=if b2 then 9218868437227405311 else hi)
   (c2:b=true→∀w,Calls Tryz.prog 37 #[.float .f64 l,.float .f64 4602678819172646912,.int .i64 0] w fun e w'=>e=.returned (.float .f64 p)∧Below w.heap.size w w')
   (c3:b=true→∀w,Calls Tryz.prog 37 #[.float .f64 h,.float .f64 4602678819172646912,.int .i64 0] w fun e w'=>e=.returned (.float .f64 q)∧Below w.heap.size w w')
   (c4:b=true→∀w,Calls Tryz.prog 38 #[.float .f64 p,.float .f64 q,.int .i64 0] w fun e w'=>e=.returned (.float .f64 m)∧Below w.heap.size w w')
   (o3:(FloatKind.f64.format.order m l==some .lt)=b3) (o4:(FloatKind.f64.format.order m h==some .gt)=b4) (w:World) :
   Calls Tryz.prog 12 #[.agg #[.float .f64 lo,.float .f64 hi]] w fun e w'=>e=.returned (.float .f64 (if b then (if b3 then l else if b4 then h else m) else 0))∧Below w.heap.size w w':=by
 have X:Has2 (w.alloc (.cells #[.float .f64 lo,.float .f64 hi] 38)) w.heap.size (.float .f64 lo) (.float .f64 hi):=⟨by go_simp,by go_simp,by go_simp,by go_simp,by go_size⟩
 have HB:Below w.heap.size w (w.alloc (.cells #[.float .f64 lo,.float .f64 hi] 38)):=by go_grown
 cases b
 · clear c2 c3 c4 o1 o2 o3 o4
   simp only [Bool.not_false,Bool.false_eq_true,if_false] at c1 ⊢
   go_enter Tryz.func12,Tryz.ntmps12
   go_wp2_with fail
   generalize w.alloc (.cells #[.float .f64 lo,.float .f64 hi] 38)=V0 at *
   obtain⟨x0,x1,x2,x3,x4⟩:=id X
   go_wp2_with (go_at_call 11;refine (c1 _).mono ?_;rintro _ w1 ⟨rfl,hb1⟩;replace X:=X.keep hb1;replace HB:=later HB hb1;clear hb1)
   go_ret
   exact⟨rfl,HB⟩
 · replace c2:=c2 rfl
   replace c3:=c3 rfl
   replace c4:=c4 rfl
   simp only [Bool.not_true,if_true] at c1 ⊢
   go_enter Tryz.func12,Tryz.ntmps12
   go_wp2_with fail
   generalize w.alloc (.cells #[.float .f64 lo,.float .f64 hi] 38)=V0 at *
   obtain⟨x0,x1,x2,x3,x4⟩:=id X
   go_upto_region 3 with (go_at_call 11;refine (c1 _).mono ?_;rintro _ V1 ⟨rfl,hb1⟩;replace X:=X.keep hb1;replace HB:=later HB hb1;clear hb1)
   clear x0 x1 x2 x3 x4 c1
   have kx0:=fun n:Behind V1=>n.cell X.1 X.2.2.2.2
   refine region_behind (by kernel_rfl) (by kernel_rfl) ?_
   repeat (go_big_quiet_step (first | (go_at_call 36;refine Behind.same (rinf_w _ _))))
   refine wpQuiet_nil ?_
   rintro _ ⟨n,rfl⟩
   obtain⟨V2,hb1⟩:=n
   dsimp only
   clear kx0
   replace X:=X.keep hb1;replace HB:=later HB hb1;clear hb1
   clear V1 V0
   cases b1
   case' false =>
     simp only [Bool.false_eq_true,if_false] at hl
     subst hl
     go_upto_region 5 with fail
     obtain⟨V3,rfl⟩:∃V3,V3=V2:=⟨_,rfl⟩
   case' true =>
     simp only [if_true] at hl
     subst hl
     obtain⟨x0,x1,x2,x3,x4⟩:=id X
     go_upto_region 5 with fail
     clear x0 x1 x2 x3 x4
     replace X:=X.put0 (.float .f64 18442240474082181119)
     replace HB:Below w.heap.size w (V2.setCell ⟨w.heap.size,0,none⟩ (.float .f64 18442240474082181119)):=HB.setCell (Nat.le_refl _) _
     generalize V2.setCell ⟨w.heap.size,0,none⟩ (.float .f64 18442240474082181119)=V3 at *
   all_goals
     have kx0:=fun n:Behind V3=>n.cell X.2.1 X.2.2.2.2
     refine region_behind (by kernel_rfl) (by kernel_rfl) ?_
     repeat (go_big_quiet_step (first | (go_at_call 36;refine Behind.same (rinf_w _ _))))
     refine wpQuiet_nil ?_
     rintro _ ⟨n,rfl⟩
     obtain⟨V4,hb1⟩:=n
     dsimp only
     clear kx0
     replace X:=X.keep hb1;replace HB:=later HB hb1;clear hb1
     cases b2
     case' false =>
       simp only [Bool.false_eq_true,if_false] at hh
       subst hh
       obtain⟨x0,x1,x2,x3,x4⟩:=id X
       go_upto_region 7 with fail
       clear x0 x1 x2 x3 x4
       obtain⟨V5,rfl⟩:∃V5,V5=V4:=⟨_,rfl⟩
     case' true =>
       simp only [if_true] at hh
       subst hh
       obtain⟨x0,x1,x2,x3,x4⟩:=id X
       go_upto_region 7 with fail
       clear x0 x1 x2 x3 x4
       replace X:=X.put1 (.float .f64 9218868437227405311)
       replace HB:Below w.heap.size w (V4.setCell ⟨w.heap.size,1,none⟩ (.float .f64 9218868437227405311)):=HB.setCell (Nat.le_refl _) _
       generalize V4.setCell ⟨w.heap.size,1,none⟩ (.float .f64 9218868437227405311)=V5 at *
     all_goals
       obtain⟨x0,x1,x2,x3,x4⟩:=id X
       cases b3 <;> cases b4
       all_goals
         go_wp2_with (first
           | (go_at_call 37;with_reducible refine (c2 _).mono ?_;rintro _ w1 ⟨rfl,hb1⟩;replace X:=X.keep hb1;replace HB:=later HB hb1;clear hb1;clear x0 x1 x2 x3 x4
              obtain⟨x0,x1,x2,x3,x4⟩:=id X)
           | (go_at_call 37;with_reducible refine (c3 _).mono ?_;rintro _ w1 ⟨rfl,hb1⟩;replace X:=X.keep hb1;replace HB:=later HB hb1;clear hb1;clear x0 x1 x2 x3 x4
              obtain⟨x0,x1,x2,x3,x4⟩:=id X)
           | (go_at_call 38;refine (c4 _).mono ?_;rintro _ w1 ⟨rfl,hb1⟩;replace X:=X.keep hb1;replace HB:=later HB hb1;clear hb1;clear x0 x1 x2 x3 x4
              obtain⟨x0,x1,x2,x3,x4⟩:=id X))
         go_ret
         exact⟨rfl,HB⟩
theorem rMid_w (lo hi:Nat) (hl:lo<18446744073709551616) (hh:hi<18446744073709551616) (w:World):Calls Tryz.prog 12 #[.agg #[.float .f64 lo,.float .f64 hi]] w fun e w'=>e=.returned (.float .f64 (midP lo hi))∧Below w.heap.size w w':=by
 have E:=fun h=>mid_ends hl hh (hs_iff.1 h)
 have P:=fun h=>half_facts (E h).2.2.2.2.1 (E h).2.2.1
 have Q:=fun h=>half_facts (E h).2.2.2.2.2.1 (E h).2.2.2.1
 have N:=fun h=>fin_not_nan (E h).2.2.1
 have O:=fun h=>fin_not_nan (E h).2.2.2.1
 have M:=midM_facts lo hi
 have c1:=fun w=>none_w lo hi hl hh w
 have o1:=o_eq hl (infI_lt (-1))
 have o2:=o_eq hh (infI_lt 1)
 unfold midP
 cases h:hsB lo hi
 · rw [h] at c1
   have q:=rmid_core lo hi _ _ 0 0 0 false _ _ _ _ c1 o1 o2 rfl rfl (fun h=>by cases h) (fun h=>by cases h) (fun h=>by cases h) rfl rfl w
   rw [if_neg (by simp)] at q ⊢
   exact q
 · rw [h] at c1
   have q:=rmid_core lo hi (midLo lo) (midHi hi) (halfF (midLo lo)) (halfF (midHi hi)) (midM lo hi) true _ _ _ _ c1 o1 o2 (E h).1 (E h).2.1
     (fun _=>told_calls (half_mul (E h).2.2.1) (fun w=>rmul_w _ _ 0 (E h).2.2.2.2.1 (by omega) w)) (fun _=>told_calls (half_mul (E h).2.2.2.1) (fun w=>rmul_w _ _ 0 (E h).2.2.2.2.2.1 (by omega) w))
     (fun _=>told_calls (midM_is (P h).2.2 (Q h).2.2) (fun w=>radd_w _ _ 0 (P h).2.1 (Q h).2.1 w)) (o_lt M.2.2 (E h).2.2.2.2.1) (o_gt M.2.2 (E h).2.2.2.2.2.1) w
   have e1:ltB (midM lo hi) (midLo lo)=decide (key (midM lo hi)<key (midLo lo)):=lt_is M.1 (N h)
   have e2:ltB (midHi hi) (midM lo hi)=decide (key (midHi hi)<key (midM lo hi)):=lt_is (O h) M.1
   rw [e1,e2,if_pos rfl] at q
   rw [if_pos rfl]
   simpa only [decide_eq_true_eq] using q
def Gr (p q:Nat×Nat):Prop:=(p=(infI 1,infI (-1))∧(q=(infI 1,infI (-1))∨Some2 q.1 q.2))∨(Some2 p.1 p.2∧Some2 q.1 q.2∧key q.1≤key p.1∧key p.2≤key q.2)
theorem empty_some:hsB (infI 1) (infI (-1))=false:=by decide
end Go.Proofs.YtdokikhhlmelkaaGreat
