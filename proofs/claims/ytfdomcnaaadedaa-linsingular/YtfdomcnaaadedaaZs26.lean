/- The reference's floats as numbers, row by row. Middles and widths: the program's and the reference's are the same; IvalSizes' walk. The greater the intervals are, the greater are sums and products: plain facts, end by end. -/
import Derived.Test.YtfdomcnaaadedaaZs19
import Derived.Test.YtfdomcnaaadedaaZs20
import Derived.Test.YtfdomcnaaadedaaZs25
import Derived.Test.YtfdomcnaaadedaaZs22
namespace Go.Proofs.Ytfdomcnaaadedaa
open Go.ChangeShapes Go.WideShapes Go.ChangeAt Go.RowKit
def NvD:Nv:=⟨false,none,0,0,0⟩
theorem NumZ.big {S T:Int} {K:Nat} {w w':World} {x:Value} {z:Int} (h:NumZ S T K w x z) (hb:∀x n,BigIs w x n→BigIs w' x n):NumZ S T K w' x z:=by
 obtain⟨g,v,m,e,h1,h2,h3⟩:=h
 exact⟨g,v,m,e,h1,hb _ _ h2,h3⟩
def NusV (w:World) (T:List Nv) (x:Nat→Int):Prop:=∀c,c<T.length→NumZ (-1074) 971 53 w (T.getD c NvD).val (x c)
theorem NusV.big {w w':World} {T:List Nv} {x:Nat→Int} (h:NusV w T x) (hb:∀x n,BigIs w x n→BigIs w' x n):NusV w' T x:=fun c hc=>(h c hc).big hb
theorem NusV.keep {w w':World} {T:List Nv} {x:Nat→Int} (h:NusV w T x) (hb:Below w.heap.size w w'):NusV w' T x:=fun c hc=>(h c hc).keep hb
theorem NusV.push {w:World} {T:List Nv} {x:Nat→Int} {z:Nv} (h:NusV w T x) (hz:NumZ (-1074) 971 53 w z.val (x T.length)):NusV w (T++[z]) x:=fun c hc=>by
 rw [List.length_append,List.length_cons,List.length_nil] at hc
 by_cases e:c<T.length
 · have:(T++[z]).getD c NvD=T.getD c NvD:=by simp [List.getD,List.getElem?_append_left e]
   rw [this];exact h c e
 · obtain rfl:c=T.length:=by omega
   have:(T++[z]).getD T.length NvD=z:=by simp [List.getD]
   rw [this];exact hz
def RowsV (B:Nat) (w:World) (n k:Nat) (x:Nat→Nat→Int) (vs:List Value):Prop:=vs.length=k∧∀r,r<k→∃A C T,vs[r]?=some (.slice A n C)∧T.length=n∧OwnQ B w (.slice A n C) T∧NusV w T (x r)
theorem RowsV.keep {B:Nat} {w w2:World} {n k:Nat} {x:Nat→Nat→Int} {vs:List Value} (h:RowsV B w n k x vs) (hb:Below w.heap.size w w2):RowsV B w2 n k x vs:=by
 refine⟨h.1,fun r hr=>?_⟩
 obtain⟨A,C,T,h1,h2,h3,h4⟩:=h.2 r hr
 exact⟨A,C,T,h1,h2,h3.keep hb,h4.keep hb⟩
theorem RowsV.push {B:Nat} {w w2:World} {n k:Nat} {x:Nat→Nat→Int} {vs:List Value} (h:RowsV B w n k x vs) (hw:∀u T,OwnQ B w u T→OwnQ B w2 u T) (hb:∀x n,BigIs w x n→BigIs w2 x n) {A:Option Addr} {C:Nat} {T:List Nv} (hl:T.length=n) (hn:OwnQ B w (.slice A n C) T) (hv:NusV w T (x k)):RowsV B w2 n (k+1) x (vs++[.slice A n C]):=by
 have e:=h.1
 refine⟨by rw [List.length_append,e];rfl,fun r hr=>?_⟩
 by_cases c:r<k
 · obtain⟨A',C',T',h1,h2,h3,h4⟩:=h.2 r c
   exact⟨A',C',T',by rw [List.getElem?_append_left (by omega)];exact h1,h2,hw _ _ h3,h4.big hb⟩
 · obtain rfl:r=k:=by omega
   exact⟨A,C,T,by rw [List.getElem?_append_right (by omega),e,Nat.sub_self];rfl,hl,hw _ _ hn,hv.big hb⟩
def NmAns (w:World) (n:Nat) (x:Nat→Nat→Int) (e:Ending) (w':World):Prop:=∃v vs,e=.returned v∧OwnS w.heap.size w' v vs∧RowsV w.heap.size w' n n x vs∧Below w.heap.size w w'
set_option maxHeartbeats 4000000 in
theorem nums_w (A:Option Addr) (n C:Nat) (RA:Nat→Option Addr) (RL RC:Nat→Nat) (X:Nat→Nat→Nat) (hn:n≤1000) (hl:∀r,r<n→RL r=n) (hf:∀r,r<n→∀c,c<n→finB (X r c)=true) (w:World) (H:Rfs w A n RA RL RC X) :
   Calls Try.prog 8 #[.slice A n C] w fun e w'=>NmAns w n (fun r c=>V (key (X r c))) e w':=by
 have HH:Hid _:=H
 have Ni:(n:Int)≤1000:=by omega
 have HB0:Below w.heap.size w (w.alloc (.cells #[] 54)):=by go_grown
 have own0:=ownS_empty w
 clear H
 go_enter Try.func8,Try.ntmps8
 go_upto_region 3 with fail
 generalize w.alloc (.cells #[] 54)=V0 at *
 go_loopg [3,12] n (fun G s3 s12 wx=>∃(k:Nat) (vs:List Value),s12=.int .i64 (k:Int)∧k≤n∧k+G=n∧OwnS w.heap.size wx s3 vs∧RowsV w.heap.size wx n k (fun r c=>V (key (X r c))) vs∧Below w.heap.size w wx)
 case atStart=>exact⟨0,[],rfl,by omega,by omega,own0,⟨rfl,fun r hr=>by omega⟩,HB0⟩
 case round =>
   clear own0 HB0
   obtain⟨k,vs,rfl,hk,hG,own,rows,HB⟩:=hrel
   obtain⟨A7,C7,rfl⟩:=own.form
   by_cases c:k<n
   · have ci:(k:Int)<(n:Int):=by omega
     obtain⟨b,o,eA,hb,cr, -,fls⟩:=HH.out k c
     subst eA
     rw [hl k c] at cr fls
     replace cr:=keepsC HB cr hb
     replace fls:=fls.keep HB
     obtain⟨rb,ro,eR⟩:∃rb ro,RA k=some ⟨rb,ro,none⟩:=by
       obtain⟨rb,ro,e, -⟩:=fls 0 (by omega)
       exact⟨rb,ro,e⟩
     rw [eR] at cr fls
     clear eR
     go_upto_region 7 with fail
     have h2:Below wr.heap.size wr (wr.alloc (.cells #[] 33)):=by go_grown
     have q0:=ownQ_empty wr
     have fl2:Hid _:=fls
     clear fls cr HH
     generalize wr.alloc (.cells #[] 33)=V1 at *
     go_loopg [6,19] n (fun G s6 s19 wx=>∃(i:Nat) (T:List Nv),s19=.int .i64 (i:Int)∧i≤n∧i+G=n∧T.length=i∧OwnQ wr.heap.size wx s6 T∧NusV wx T (fun c=>V (key (X k c)))∧Below wr.heap.size wr wx)
     case atStart=>exact⟨0,[],rfl,by omega,by omega,rfl,q0,(fun c hc=>by simp at hc),h2⟩
     case round =>
       clear q0 h2
       obtain⟨i,T,rfl,hi,hGi,hT,q,nv,HBi⟩:=hrel
       obtain⟨A10,C10,rfl⟩:=q.form
       by_cases c2:i<n
       · have c2i:(i:Int)<(n:Int):=by omega
         obtain⟨b',o',eA,hb',x0,xw⟩:=Fls.keep fl2.out HBi i c2
         cases eA
         have cf:=fun W=>float_z (X k i) xw (hf k c i c2) W
         have hT2:Hid _:=hT
         clear fl2 hf hT
         go_wp2_with (first
           | (go_at_call 29;(with_reducible refine (cf _).mono ?_);rintro _ W4 ⟨⟨v4,rfl,nz⟩,hb1⟩;obtain⟨g4,a4,l4,k4,e4,rfl⟩:=nz.shape;replace q:=q.keep hb1;replace nv:=nv.keep hb1;replace HBi:=later HBi hb1;clear hb1)
           | (at_builtin;refine wpList_pushQ (by rfl) _ _ (by rfl) _ T ⟨g4,a4,l4,k4,e4⟩ (by rfl) (by rfl) q (by have:=hT2.out;omega) HBi.size HBi ?_;intro v' w' own' HB2 _ _ _ bk))
         (go_roundg (n-i-1)
          case measure=>omega
          case rel=>exact⟨i+1,_,by go_num,by omega,by omega,by rw [List.length_append,hT2.out];rfl,own',(nv.push (by rw [hT2.out];exact nz)).big bk,HB2⟩)
       · have c2i:¬(i:Int)<(n:Int):=by omega
         obtain rfl:i=n:=by omega
         have hvl:vs.length≤1000:=by have:=rows.1;omega
         replace own:=own.keep HBi
         replace rows:=rows.keep HBi
         have sz:=HB.size
         have q2:=q.base sz
         rw [hT] at q2
         replace HB:=later HB HBi
         have hT2:Hid _:=hT
         clear fl2 hT
         go_wp2_with (at_builtin;refine wpList_pushS (by rfl) _ _ (by rfl) _ vs A10 T.length C10 (by rfl) (by rfl) own (by omega) HB.size HB ?_;intro v' w' own' HB2 _ _ kp bk)
         rw [hT2.out] at own'
         (go_roundg (i-k-1)
          case measure=>omega
          case rel=>exact⟨k+1,_,by go_num,by omega,by omega,own',rows.push kp bk hT2.out q2 nv,HB2⟩)
   · have ci:¬(k:Int)<(n:Int):=by omega
     obtain rfl:k=n:=by omega
     clear HH
     go_wp2_with fail
     go_ret
     exact⟨_,vs,rfl,own,rows,HB⟩
def halfF (a:Nat):Nat:=divF a 4611686018427387904 0
theorem half_div {a:Nat} (fa:finB a=true):divR a 4611686018427387904 0=some (halfF a):=divR_fin 0 fa (by decide) (by decide)
theorem half_low {a:Nat} (ha:a<18446744073709551616) (fa:finB a=true) (k:key a≤0):key a≤key (divF a 4611686018427387904 (-1)):=by
 obtain⟨u,hu⟩:∃u:Nat,u=1074:=⟨_,rfl⟩
 obtain⟨u3,hu3⟩:∃u:Nat,u=1075:=⟨_,rfl⟩
 have r3:2^u3=2*2^u:=by rw [show u3=u+1 by omega,Nat.pow_succ,Nat.mul_comm]
 have i3:((2^u3:Nat):Int)=2*((2^u:Nat):Int):=by rw [r3];simp
 have ov:=one_val hu
 have e:=div_exact hu3 ha (b:=4607182418800017408) (by omega) ha fa (by decide) fa (by decide) (by rw [ov,i3,Int.mul_comm 2 (V (key a)),Int.mul_assoc]) (-1)
 have m:V (key 4607182418800017408)≤V (key 4611686018427387904):=V_mono_le (by decide)
 have n:=V_npos k
 clear hu hu3 r3 i3 ov
 rw [←e]
 refine div_le ha (by omega) ha (by omega) fa (by decide) fa (by decide) (by decide) (by decide) ?_
 exact Int.mul_le_mul_of_nonpos_left n m
theorem half_up {a:Nat} (ha:a<18446744073709551616) (fa:finB a=true):key (divF a 4611686018427387904 1)=- key (divF (negB a) 4611686018427387904 (-1)):=by
 have m:=div_mirror (a:=a) (b:=4611686018427387904) (by omega) fa (by decide) (by decide)
 have f:=div_flip (a:=negB a) (b:=4611686018427387904) (negB_lt ha) (by omega) (by rw [finB_negB ha];exact fa) (by decide) (by decide)
 rw [negB_negB ha] at f
 rw [m,f]
theorem half_key {a:Nat} (ha:a<18446744073709551616) (fa:finB a=true):(0≤key a→0≤key (halfF a)∧key (halfF a)≤key a)∧(key a≤0→key a≤key (halfF a)∧key (halfF a)≤0):=by
 have s:=div_sides (a:=a) (b:=4611686018427387904) ha (by omega) fa (by decide) (by decide)
 have u:=half_up ha fa
 have s1:=s.1.le
 have s2:=s.2.1.le
 have kn:=key_negB ha
 have fn:finB (negB a)=true:=by rw [finB_negB ha];exact fa
 unfold halfF
 refine⟨fun k=>⟨?_, ?_⟩,fun k=>⟨?_, ?_⟩⟩
 · have:=div_nonneg (a:=a) (b:=4611686018427387904) ha (by omega) fa (by decide) k (by decide)
   exact Int.le_trans this s1
 · have:=half_low (negB_lt ha) fn (by omega)
   omega
 · have:=half_low ha fa k
   exact Int.le_trans this s1
 · have:=div_nonneg (a:=negB a) (b:=4611686018427387904) (negB_lt ha) (by omega) fn (by decide) (by omega) (by decide)
   omega
theorem half_facts {a:Nat} (ha:a<18446744073709551616) (fa:finB a=true):nanB (halfF a)=false∧halfF a<18446744073709551616∧finB (halfF a)=true:=by
 have f:=divF_facts (a:=a) (b:=4611686018427387904) 0 (by decide)
 have k:=half_key ha fa
 have g:=fin_key ha fa
 have hd:divF a 4611686018427387904 0=halfF a:=rfl
 rw [hd] at f
 refine⟨f.1,f.2.2, ?_⟩
 cases h:finB (halfF a)
 · have:=(key_inf f.2.2 f.1).1 h
   rcases Int.le_total 0 (key a) with c | c
   · have:=k.1 c;omega
   · have:=k.2 c;omega
 · rfl
def midLo (lo:Nat):Nat:=maxW lo 18442240474082181119
def midHi (hi:Nat):Nat:=minW hi 9218868437227405311
def midM (lo hi:Nat):Nat:=addF (halfF (midLo lo)) (halfF (midHi hi)) 0
def midP (lo hi:Nat):Nat:=if hsB lo hi then (if key (midM lo hi)<key (midLo lo) then midLo lo else if key (midHi hi)<key (midM lo hi) then midHi hi else midM lo hi) else 0
theorem midM_facts (lo hi:Nat):nanB (midM lo hi)=false∧midM lo hi≠9223372036854775808∧midM lo hi<18446744073709551616:=by
 unfold midM
 exact addF_facts _ _ 0
theorem midM_is {lo hi:Nat} (f1:finB (halfF (midLo lo))=true) (f2:finB (halfF (midHi hi))=true):addR (halfF (midLo lo)) (halfF (midHi hi)) 0=some (midM lo hi):=by
 unfold midM
 exact addR_fin 0 f1 f2
theorem mid_ends {lo hi:Nat} (hl:lo<18446744073709551616) (hh:hi<18446744073709551616) (S:Some2 lo hi):(midLo lo=if eqB lo (infI (-1)) then 18442240474082181119 else lo)∧(midHi hi=if eqB hi (infI 1) then 9218868437227405311 else hi)∧finB (midLo lo)=true∧finB (midHi hi)=true∧midLo lo<18446744073709551616∧midHi hi<18446744073709551616∧midLo lo≠9223372036854775808∧midHi hi≠9223372036854775808∧key (midLo lo)≤key (midHi hi):=by
 have ei:eqB lo (infI (-1))=decide (key lo=-9218868437227405312):=by unfold eqB;rw [S.nl,nan_inf,key_down];rfl
 have ej:eqB hi (infI 1)=decide (key hi=9218868437227405312):=by unfold eqB;rw [S.nh,nan_inf,key_up];rfl
 have k1:key 18442240474082181119=-9218868437227405311:=by decide
 have k2:key 9218868437227405311=9218868437227405311:=by decide
 have g1:=nanB_key hl S.nl
 have g2:=nanB_key hh S.nh
 have sl:=S.lt
 have sg:=S.gt
 have sle:=S.le
 have F:∀{x:Nat},x<18446744073709551616→nanB x=false→key x≠9218868437227405312→key x≠-9218868437227405312→finB x=true:=fun {x} hx nx n1 n2=>by
   cases h:finB x
   · rcases (key_inf hx nx).1 h with c | c
     · exact absurd c n1
     · exact absurd c n2
   · rfl
 unfold midLo midHi
 rw [maxW_is S.zl (by omega),minW_is S.zh (by omega),ei,ej,k1,k2]
 by_cases c1:key lo < -9218868437227405311
 · have q:key lo=-9218868437227405312:=by omega
   rw [if_pos c1,decide_eq_true q,if_pos rfl]
   by_cases c2:9218868437227405311<key hi
   · have q2:key hi=9218868437227405312:=by omega
     rw [if_pos c2,decide_eq_true q2,if_pos rfl]
     exact⟨rfl,rfl,by decide,by decide,by omega,by omega,by omega,by omega,by rw [k1,k2];omega⟩
   · have q2:¬key hi=9218868437227405312:=by omega
     rw [if_neg c2,decide_eq_false q2,if_neg (by simp)]
     exact⟨rfl,rfl,by decide,F hh S.nh q2 (by omega),by omega,hh,by omega,S.zh,by rw [k1];omega⟩
 · have q:¬key lo=-9218868437227405312:=by omega
   rw [if_neg c1,decide_eq_false q,if_neg (by simp)]
   by_cases c2:9218868437227405311<key hi
   · have q2:key hi=9218868437227405312:=by omega
     rw [if_pos c2,decide_eq_true q2,if_pos rfl]
     exact⟨rfl,rfl,F hl S.nl (by omega) q,by decide,hl,by omega,S.zl,by omega,by rw [k2];omega⟩
   · have q2:¬key hi=9218868437227405312:=by omega
     rw [if_neg c2,decide_eq_false q2,if_neg (by simp)]
     exact⟨rfl,rfl,F hl S.nl (by omega) q,F hh S.nh q2 (by omega),hl,hh,S.zl,S.zh,sle⟩
set_option maxHeartbeats 1000000 in
theorem mid_core (lo hi l h p q m x r:Nat) (b:Bool)
   (c0:∀b' W,W.cell? ⟨b',0,none⟩=some (.float .f64 lo)→W.cell? ⟨b',1,none⟩=some (.float .f64 hi)→Calls Try.prog 65 #[.slice (some ⟨b',0,none⟩) 1 1] W fun e w'=>e=.returned (.bool (!b))∧Below W.heap.size W w')
   (m1:b=true→∀ts t w,(Builtin.max_ ts t #[.float .f64 lo,.float .f64 18442240474082181119]).run Try.prog w=.ok (.float .f64 l) w)
   (m2:b=true→∀ts t w,(Builtin.min_ ts t #[.float .f64 hi,.float .f64 9218868437227405311]).run Try.prog w=.ok (.float .f64 h) w)
   (c1:b=true→∀w,Calls Try.prog 50 #[.float .f64 l,.float .f64 4611686018427387904,.int .i64 0] w fun e w'=>e=.returned (.float .f64 p)∧Below w.heap.size w w')
   (c2:b=true→∀w,Calls Try.prog 50 #[.float .f64 h,.float .f64 4611686018427387904,.int .i64 0] w fun e w'=>e=.returned (.float .f64 q)∧Below w.heap.size w w')
   (c3:b=true→∀w,Calls Try.prog 48 #[.float .f64 p,.float .f64 q,.int .i64 0] w fun e w'=>e=.returned (.float .f64 m)∧Below w.heap.size w w')
   (m3:b=true→∀ts t w,(Builtin.max_ ts t #[.float .f64 m,.float .f64 l]).run Try.prog w=.ok (.float .f64 x) w)
   (m4:b=true→∀ts t w,(Builtin.min_ ts t #[.float .f64 x,.float .f64 h]).run Try.prog w=.ok (.float .f64 r) w) (w:World) :
   Calls Try.prog 42 #[.agg #[.float .f64 lo,.float .f64 hi]] w fun e w'=>e=.returned (.float .f64 (if b then r else 0))∧Below w.heap.size w w':=by
 cases b
 · clear m1 m2 m3 m4 c1 c2 c3
   simp only [Bool.not_false,Bool.false_eq_true,if_false] at c0 ⊢
   go_enter Try.func42,Try.ntmps42
   go_wp2_with (go_at_call 65;refine (c0 (w.heap.size+1) _ (by go_simp) (by go_simp)).mono ?_;rintro _ w1 ⟨rfl,hb1⟩)
   go_ret
   exact⟨rfl,later (by go_grown) hb1⟩
 · replace m1:=m1 rfl
   replace m2:=m2 rfl
   replace m3:=m3 rfl
   replace m4:=m4 rfl
   replace c1:=c1 rfl
   replace c2:=c2 rfl
   replace c3:=c3 rfl
   simp only [Bool.not_true,if_true] at c0 ⊢
   go_enter Try.func42,Try.ntmps42
   go_upto_region 3 with
    (go_at_call 65;refine (c0 (w.heap.size+1) _ (by go_simp) (by go_simp)).mono ?_;rintro _ w1 ⟨rfl,hb1⟩
     have X:Has2 w1 w.heap.size (.float .f64 lo) (.float .f64 hi):=Has2.keep ⟨by go_simp,by go_simp,by go_simp,by go_simp,by go_size⟩ hb1
     have HB:Below w.heap.size w w1:=later (by go_grown) hb1)
   clear hb1 c0
   have kx0:=fun n:Behind w1=>n.cell X.1 X.2.2.2.2
   have kx1:=fun n:Behind w1=>n.cell X.2.1 X.2.2.2.2
   refine region_behind (by kernel_rfl) (by kernel_rfl) ?_
   repeat (go_big_quiet_step (fail))
   refine wpQuiet_nil ?_
   rintro _ ⟨n,rfl⟩
   obtain⟨W,hb1⟩:=n
   dsimp only
   clear kx0 kx1
   replace HB:=later HB hb1
   clear hb1
   go_wp2_with (first
     | (go_at_call_of 50 (Value.float .f64 l);refine (c1 _).mono ?_;rintro _ w2 ⟨rfl,hb1⟩;replace HB:=later HB hb1;clear hb1)
     | (go_at_call 50;refine (c2 _).mono ?_;rintro _ w2 ⟨rfl,hb1⟩;replace HB:=later HB hb1;clear hb1)
     | (go_at_call 48;refine (c3 _).mono ?_;rintro _ w2 ⟨rfl,hb1⟩;replace HB:=later HB hb1;clear hb1))
   go_ret
   exact⟨rfl,HB⟩
theorem Mid_w (lo hi:Nat) (hl:lo<18446744073709551616) (hh:hi<18446744073709551616) (w:World):Calls Try.prog 42 #[.agg #[.float .f64 lo,.float .f64 hi]] w fun e w'=>e=.returned (.float .f64 (midP lo hi))∧Below w.heap.size w w':=by
 have c0:=fun b W c0 c1=>someEmpty1_w b lo hi hl hh W c0 c1
 have E:=fun h=>mid_ends hl hh (hs_iff.1 h)
 have P:=fun h=>half_facts (E h).2.2.2.2.1 (E h).2.2.1
 have Q:=fun h=>half_facts (E h).2.2.2.2.2.1 (E h).2.2.2.1
 have N:=fun h=>fin_not_nan (E h).2.2.1
 have O:=fun h=>fin_not_nan (E h).2.2.2.1
 have M:=midM_facts lo hi
 have X:hsB lo hi=true→minW (maxW (midM lo hi) (midLo lo)) (midHi hi)=(if key (midM lo hi)<key (midLo lo) then midLo lo else if key (midHi hi)<key (midM lo hi) then midHi hi else midM lo hi):=fun h=>by
   have k:=(E h).2.2.2.2.2.2.2.2
   rw [maxW_is M.2.1 (E h).2.2.2.2.2.2.1]
   by_cases c:key (midM lo hi)<key (midLo lo)
   · rw [if_pos c,if_pos c,minW_is (E h).2.2.2.2.2.2.1 (E h).2.2.2.2.2.2.2.1,if_neg (by omega)]
   · rw [if_neg c,if_neg c,minW_is M.2.1 (E h).2.2.2.2.2.2.2.1]
 have q:=mid_core lo hi (midLo lo) (midHi hi) (halfF (midLo lo)) (halfF (midHi hi)) (midM lo hi) (maxW (midM lo hi) (midLo lo)) (minW (maxW (midM lo hi) (midLo lo)) (midHi hi)) (hsB lo hi) c0
   (fun h ts t w=>max_f hl (by omega) (hs_nan h).1 (by decide) _ ts t w) (fun h ts t w=>min_f hh (by omega) (hs_nan h).2 (by decide) _ ts t w)
   (fun h=>told_calls (half_div (E h).2.2.1) (fun w=>div_w _ _ 0 (E h).2.2.2.2.1 (by omega) w)) (fun h=>told_calls (half_div (E h).2.2.2.1) (fun w=>div_w _ _ 0 (E h).2.2.2.2.2.1 (by omega) w))
   (fun h=>told_calls (midM_is (P h).2.2 (Q h).2.2) (fun w=>add_w _ _ 0 (P h).2.1 (Q h).2.1 w))
   (fun h ts t w=>max_f M.2.2 (E h).2.2.2.2.1 M.1 (N h) _ ts t w)
   (fun h ts t w=>min_f (by rw [maxW_is M.2.1 (E h).2.2.2.2.2.2.1];split;exact (E h).2.2.2.2.1;exact M.2.2) (E h).2.2.2.2.2.1 (by rw [maxW_is M.2.1 (E h).2.2.2.2.2.2.1];split;exact N h;exact M.1) (O h) _ ts t w) w
 unfold midP
 cases h:hsB lo hi
 · rw [h,if_neg (by simp)] at q
   rw [if_neg (by simp)]
   exact q
 · rw [h,if_pos rfl] at q
   rw [if_pos rfl,←X h]
   exact q
theorem addR_bot {a b r:Nat} {d:Int} (ha:a<18446744073709551616) (na:nanB a=false) (k:key a=-9218868437227405312) (h:addR a b d=some r):r=a:=by
 have fa:=(key_inf ha na).2 (Or.inr k)
 unfold addR at h
 rw [fa] at h
 split at h
 · cases h
 · simp only [Bool.false_and,Bool.false_eq_true,if_false] at h
   split at h
   · cases h
   · exact (Option.some.inj h).symm
theorem addR_bot2 {a b r:Nat} {d:Int} (ha:a<18446744073709551616) (hb:b<18446744073709551616) (na:nanB a=false) (nb:nanB b=false) (k:key b=-9218868437227405312) (h:addR a b d=some r):key r=-9218868437227405312:=by
 have fb:=(key_inf hb nb).2 (Or.inr k)
 have zb:isZ b=false:=isZ_pos hb (by omega)
 have sb:=sign_key hb zb
 unfold addR at h
 rw [fb,na,nb] at h
 simp only [Bool.or_self,Bool.and_false,Bool.false_eq_true,if_false,Bool.not_false,Bool.and_true] at h
 cases fa:finB a
 · rw [fa] at h
   have za:isZ a=false:=by
     cases z:isZ a
     · rfl
     · have:=(key_zero ha).1 z
       rcases (key_inf ha na).1 fa with c | c <;> omega
   have sa:=sign_key ha za
   simp only [Bool.not_false,Bool.true_and,Bool.false_eq_true,if_false] at h
   split at h
   · cases h
   · rename_i hc
     have e:=(Option.some.inj h).symm
     rw [e]
     rcases (key_inf ha na).1 fa with c | c
     · rw [sa,sb,decide_eq_false (by omega),decide_eq_true (by omega)] at hc
       exact absurd rfl hc
     · exact c
 · rw [fa] at h
   simp only [Bool.not_true,Bool.false_and,Bool.false_eq_true,if_false,if_true] at h
   rw [←Option.some.inj h]
   exact k
theorem mul_keys {xl xh yl yh:Nat} (h1:xl<18446744073709551616) (h2:xh<18446744073709551616) (h3:yl<18446744073709551616) (h4:yh<18446744073709551616) (S:Some2 xl xh) (T:Some2 yl yh) :
   Some2 (mulP xl xh yl yh).1 (mulP xl xh yl yh).2∧key (mulP xl xh yl yh).1=lowK xl xh yl yh∧key (mulP xl xh yl yh).2=topK xl xh yl yh:=by
 obtain⟨a,X⟩:=held_some h1 h2 S
 obtain⟨b,Y⟩:=held_some h3 h4 T
 obtain⟨m1,m2, -,Z,l1,l2,k1,k2⟩:=mul_ends X Y
 have e:mulP xl xh yl yh=(m1,m2):=by unfold mulP;rw [hs_iff.2 S,hs_iff.2 T,←rmul_is S.nl S.nh T.nl T.nh Z k1 k2];rfl
 rw [e]
 exact⟨Z,k1,k2⟩
end Go.Proofs.Ytfdomcnaaadedaa
