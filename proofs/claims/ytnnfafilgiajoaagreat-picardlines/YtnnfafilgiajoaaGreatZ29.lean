/- Slices of intervals, and slices of those, as they lie in memory; what vectorMayBe, Vector and isDimension answer. Matrices of intervals: may they be? Sums of products of intervals: the program's and the reference's. Slices of intervals, and slices of those, as arguments: opened. Middles and widths: the program's and the reference's are the same; IvalSizes' walk. The greater the intervals are, the greater are sums and products: plain facts, end by end. The reference's Div: the exact quotient, rounded; the walk of the statement UlpQuotients. The walks of the reference's least, great, over and Div of intervals; IvalQuotients' walk. The walk of the reference's Div of intervals. The reference's Div answers as the program's; IvalQuotients' walk. -/
import Derived.Test.YtnnfafilgiajoaaGreatZ08
import Derived.Test.YtnnfafilgiajoaaGreatZ19
import Derived.Deep.LoopGhost
import Derived.Test.YtnnfafilgiajoaaGreatZ28
import Derived.Deep.SlicePairs
import Derived.Deep.Slices
import Derived.WideKeyArgs
import Derived.Test.YtnnfafilgiajoaaGreatZ27
namespace Go.Proofs.YtnnfafilgiajoaaGreat
open Go.ChangeShapes Go.WideShapes Go.ChangeAt Go.RowKit
def Ivs (w:World) (A:Option Addr) (n:Nat) (X:Nat→Nat×Nat):Prop :=
 ∀i,i<n→∃b o,A=some ⟨b,o,none⟩∧b<w.heap.size∧w.cell? ⟨b,o+i*2,none⟩=some (.float .f64 (X i).1)∧w.cell? ⟨b,o+i*2+1,none⟩=some (.float .f64 (X i).2)∧(X i).1<18446744073709551616∧(X i).2<18446744073709551616
theorem Ivs.keep {w w2:World} {A:Option Addr} {n:Nat} {X:Nat→Nat×Nat} (h:Ivs w A n X) (hb:Below w.heap.size w w2):Ivs w2 A n X:=fun i hi=>by
 obtain⟨b,o,e,l,c0,c1,r⟩:=h i hi
 exact⟨b,o,e,Nat.lt_of_lt_of_le l hb.size,keepsC hb c0 l,keepsC hb c1 l,r⟩
theorem all_upto {p:Nat→Bool} {n:Nat}:(List.range n).all p=true↔∀i,i<n→p i=true:=by
 rw [List.all_eq_true]
 exact⟨fun h i hi=>h i (List.mem_range.2 hi),fun h i hi=>h i (List.mem_range.1 hi)⟩
theorem all_not {p:Nat→Bool} {n i:Nat} (hi:i<n) (h:p i=false):(List.range n).all p=false:=by
 cases c:(List.range n).all p
 · rfl
 · rw [all_upto.1 c i hi] at h;cases h
theorem ivs_words {w:World} {A:Option Addr} {n:Nat} {X:Nat→Nat×Nat} (V:Ivs w A n X):∀i,i<n→(X i).1<18446744073709551616∧(X i).2<18446744073709551616:=fun i hi=>by
 obtain⟨b,o,e,l,c0,c1,r⟩:=V i hi
 exact r
end Go.Proofs.YtnnfafilgiajoaaGreat
namespace Go.Proofs.YtnnfafilgiajoaaGreat
open Go.ChangeShapes Go.WideShapes Go.ChangeAt Go.RowKit Go.Deep
theorem Tryz.laidOut:laidOutB Tryz.prog=true:=by kernel_rfl
theorem addr_add (b o j:Nat):(⟨b,o,none⟩:Addr).add j=⟨b,o+j,none⟩:=by
 first
   | rfl
   | (unfold Addr.add;rfl)
   | simp [Addr.add]
   | (unfold Addr.add;split <;> simp_all)
theorem open_ivs {H:Type} {enc:TypeId×Value→H} {W:World} {fuel:Nat} {v:Value} {x:DataW H×List MemPlace} (h:DataW.trod enc Tryz.prog W 0 (fun _=>true) true fuel 26 [v]=some x) :
   ∃A n C X,v=.slice A n C∧n≤9223372036854775807∧Ivs W A n X:=by
 rcases open_slice_pairs Tryz.underlying26 Tryz.underlying40 cellsIval rfl rfl cellsFloat cellsFloat h with ⟨e, -⟩ | ⟨a,len,cap,m,f,V0,V1,D0,D1,P0,P1,e, -,hl,hm,hmm, -,hc⟩
 · simp only [List.cons.injEq,and_true] at e
   exact⟨none,0,0,fun _=>(0,0),e,by omega,fun i hi=>absurd hi (by omega)⟩
 · simp only [List.cons.injEq,and_true] at e
   simp only [if_true] at hmm
   subst hmm
   obtain⟨X,hX⟩:=Classical.axiomOfChoice (fun i=>(show ∃p:Nat×Nat,i<len→W.cell? (a.add (i*2))=some (.float .f64 p.1)∧W.cell? (a.add (i*2+1))=some (.float .f64 p.2)∧p.1<18446744073709551616∧p.2<18446744073709551616 by
     by_cases hi:i<len
     · obtain⟨c0,c1,t0,t1⟩:=hc i (by omega)
       obtain⟨b0,e0, -,l0⟩:=trod_float t0
       obtain⟨b1,e1, -,l1⟩:=trod_float t1
       rw [e0] at c0
       rw [e1] at c1
       exact⟨(b0,b1),fun _=>⟨c0,c1,l0,l1⟩⟩
     · exact⟨(0,0),fun q=>absurd q hi⟩))
   refine⟨some a,len,_,X,e,by unfold maxLen at hm;omega,fun i hi=>?_⟩
   obtain⟨c0,c1,l⟩:=hX i hi
   obtain⟨b,o,sp⟩:=a
   have hs:sp=none:=by
     have q:=World.cell?_spot (hX 0 (by omega)).1
     simpa [Addr.add] using q
   subst hs
   rw [addr_add] at c0 c1
   exact⟨b,o,rfl,World.block_lt_of_cell? _ _ c0,c0,c1,l⟩
end Go.Proofs.YtnnfafilgiajoaaGreat
namespace Go.Proofs.YtnnfafilgiajoaaGreat
open Go.ChangeShapes Go.WideShapes Go.ChangeAt Go.RowKit
def halfF (a:Nat):Nat:=divF a 4611686018427387904 0
theorem half_div {a:Nat} (fa:finB a=true):divR a 4611686018427387904 0=some (halfF a):=divR_fin 0 fa (by decide) (by decide)
theorem half_low {a:Nat} (ha:a<18446744073709551616) (fa:finB a=true) (k:key a≤0):key a≤key (divF a 4611686018427387904 (-1)):=by
 obtain⟨u,hu⟩:∃u:Nat,u=1074:=⟨_,rfl⟩
 obtain⟨u3,hu3⟩:∃u:Nat,u=1075:=⟨_,rfl⟩
 have r3:2^u3=2*2^u:=by rw [show u3=u+1 by omega,Nat.pow_succ,Nat.mul_comm]
 have i3:((2^u3:Nat):Int)=2*((2^u:Nat):Int):=by rw [r3];simp
 have ov:=one_val hu
 have e:=div_exact hu3 ha (b:=4607182418800017408) (by omega) ha fa (by decide) fa (by decide) (by rw [ov,i3,Int.mul_comm 2 (V (key a)),Int.mul_assoc]) (-1)
 have m:V (key 4607182418800017408)≤V (key 4611686018427387904):=V_mono_le (by decide)
 have n:=V_npos k
 clear hu hu3 r3 i3 ov
 rw [←e]
 refine div_le ha (by omega) ha (by omega) fa (by decide) fa (by decide) (by decide) (by decide) ?_
 exact Int.mul_le_mul_of_nonpos_left n m
theorem half_up {a:Nat} (ha:a<18446744073709551616) (fa:finB a=true):key (divF a 4611686018427387904 1)=- key (divF (negB a) 4611686018427387904 (-1)):=by
 have m:=div_mirror (a:=a) (b:=4611686018427387904) (by omega) fa (by decide) (by decide)
 have f:=div_flip (a:=negB a) (b:=4611686018427387904) (negB_lt ha) (by omega) (by rw [finB_negB ha];exact fa) (by decide) (by decide)
 rw [negB_negB ha] at f
 rw [m,f]
theorem half_key {a:Nat} (ha:a<18446744073709551616) (fa:finB a=true):(0≤key a→0≤key (halfF a)∧key (halfF a)≤key a)∧(key a≤0→key a≤key (halfF a)∧key (halfF a)≤0):=by
 have s:=div_sides (a:=a) (b:=4611686018427387904) ha (by omega) fa (by decide) (by decide)
 have u:=half_up ha fa
 have s1:=s.1.le
 have s2:=s.2.1.le
 have kn:=key_negB ha
 have fn:finB (negB a)=true:=by rw [finB_negB ha];exact fa
 unfold halfF
 refine⟨fun k=>⟨?_, ?_⟩,fun k=>⟨?_, ?_⟩⟩
 · have:=div_nonneg (a:=a) (b:=4611686018427387904) ha (by omega) fa (by decide) k (by decide)
   exact Int.le_trans this s1
 · have:=half_low (negB_lt ha) fn (by omega)
   omega
 · have:=half_low ha fa k
   exact Int.le_trans this s1
 · have:=div_nonneg (a:=negB a) (b:=4611686018427387904) (negB_lt ha) (by omega) fn (by decide) (by omega) (by decide)
   omega
theorem half_facts {a:Nat} (ha:a<18446744073709551616) (fa:finB a=true):nanB (halfF a)=false∧halfF a<18446744073709551616∧finB (halfF a)=true:=by
 have f:=divF_facts (a:=a) (b:=4611686018427387904) 0 (by decide)
 have k:=half_key ha fa
 have g:=fin_key ha fa
 have hd:divF a 4611686018427387904 0=halfF a:=rfl
 rw [hd] at f
 refine⟨f.1,f.2.2, ?_⟩
 cases h:finB (halfF a)
 · have:=(key_inf f.2.2 f.1).1 h
   rcases Int.le_total 0 (key a) with c | c
   · have:=k.1 c;omega
   · have:=k.2 c;omega
 · rfl
def midLo (lo:Nat):Nat:=maxW lo 18442240474082181119
def midHi (hi:Nat):Nat:=minW hi 9218868437227405311
def midM (lo hi:Nat):Nat:=addF (halfF (midLo lo)) (halfF (midHi hi)) 0
def midP (lo hi:Nat):Nat:=if hsB lo hi then (if key (midM lo hi)<key (midLo lo) then midLo lo else if key (midHi hi)<key (midM lo hi) then midHi hi else midM lo hi) else 0
theorem midM_facts (lo hi:Nat):nanB (midM lo hi)=false∧midM lo hi≠9223372036854775808∧midM lo hi<18446744073709551616:=by
 unfold midM
 exact addF_facts _ _ 0
theorem midM_is {lo hi:Nat} (f1:finB (halfF (midLo lo))=true) (f2:finB (halfF (midHi hi))=true):addR (halfF (midLo lo)) (halfF (midHi hi)) 0=some (midM lo hi):=by
 unfold midM
 exact addR_fin 0 f1 f2
theorem mid_ends {lo hi:Nat} (hl:lo<18446744073709551616) (hh:hi<18446744073709551616) (S:Some2 lo hi):(midLo lo=if eqB lo (infI (-1)) then 18442240474082181119 else lo)∧(midHi hi=if eqB hi (infI 1) then 9218868437227405311 else hi)∧finB (midLo lo)=true∧finB (midHi hi)=true∧midLo lo<18446744073709551616∧midHi hi<18446744073709551616∧midLo lo≠9223372036854775808∧midHi hi≠9223372036854775808∧key (midLo lo)≤key (midHi hi):=by
 have ei:eqB lo (infI (-1))=decide (key lo=-9218868437227405312):=by unfold eqB;rw [S.nl,nan_inf,key_down];rfl
 have ej:eqB hi (infI 1)=decide (key hi=9218868437227405312):=by unfold eqB;rw [S.nh,nan_inf,key_up];rfl
 have k1:key 18442240474082181119=-9218868437227405311:=by decide
 have k2:key 9218868437227405311=9218868437227405311:=by decide
 have g1:=nanB_key hl S.nl
 have g2:=nanB_key hh S.nh
 have sl:=S.lt
 have sg:=S.gt
 have sle:=S.le
 have F:∀{x:Nat},x<18446744073709551616→nanB x=false→key x≠9218868437227405312→key x≠-9218868437227405312→finB x=true:=fun {x} hx nx n1 n2=>by
   cases h:finB x
   · rcases (key_inf hx nx).1 h with c | c
     · exact absurd c n1
     · exact absurd c n2
   · rfl
 unfold midLo midHi
 rw [maxW_is S.zl (by omega),minW_is S.zh (by omega),ei,ej,k1,k2]
 by_cases c1:key lo < -9218868437227405311
 · have q:key lo=-9218868437227405312:=by omega
   rw [if_pos c1,decide_eq_true q,if_pos rfl]
   by_cases c2:9218868437227405311<key hi
   · have q2:key hi=9218868437227405312:=by omega
     rw [if_pos c2,decide_eq_true q2,if_pos rfl]
     exact⟨rfl,rfl,by decide,by decide,by omega,by omega,by omega,by omega,by rw [k1,k2];omega⟩
   · have q2:¬key hi=9218868437227405312:=by omega
     rw [if_neg c2,decide_eq_false q2,if_neg (by simp)]
     exact⟨rfl,rfl,by decide,F hh S.nh q2 (by omega),by omega,hh,by omega,S.zh,by rw [k1];omega⟩
 · have q:¬key lo=-9218868437227405312:=by omega
   rw [if_neg c1,decide_eq_false q,if_neg (by simp)]
   by_cases c2:9218868437227405311<key hi
   · have q2:key hi=9218868437227405312:=by omega
     rw [if_pos c2,decide_eq_true q2,if_pos rfl]
     exact⟨rfl,rfl,F hl S.nl (by omega) q,by decide,hl,by omega,S.zl,by omega,by rw [k2];omega⟩
   · have q2:¬key hi=9218868437227405312:=by omega
     rw [if_neg c2,decide_eq_false q2,if_neg (by simp)]
     exact⟨rfl,rfl,F hl S.nl (by omega) q,F hh S.nh q2 (by omega),hl,hh,S.zl,S.zh,sle⟩
set_option maxHeartbeats 1000000 in
theorem mid_core (lo hi l h p q m x r:Nat) (b:Bool)
   (c0:∀b' W,W.cell? ⟨b',0,none⟩=some (.float .f64 lo)→W.cell? ⟨b',1,none⟩=some (.float .f64 hi)→Calls Tryz.prog 35 #[.slice (some ⟨b',0,none⟩) 1 1] W fun e w'=>e=.returned (.bool (!b))∧Below W.heap.size W w')
   (m1:b=true→∀ts t w,(Builtin.max_ ts t #[.float .f64 lo,.float .f64 18442240474082181119]).run Tryz.prog w=.ok (.float .f64 l) w)
   (m2:b=true→∀ts t w,(Builtin.min_ ts t #[.float .f64 hi,.float .f64 9218868437227405311]).run Tryz.prog w=.ok (.float .f64 h) w)
   (c1:b=true→∀w,Calls Tryz.prog 178 #[.float .f64 l,.float .f64 4611686018427387904,.int .i64 0] w fun e w'=>e=.returned (.float .f64 p)∧Below w.heap.size w w')
   (c2:b=true→∀w,Calls Tryz.prog 178 #[.float .f64 h,.float .f64 4611686018427387904,.int .i64 0] w fun e w'=>e=.returned (.float .f64 q)∧Below w.heap.size w w')
   (c3:b=true→∀w,Calls Tryz.prog 111 #[.float .f64 p,.float .f64 q,.int .i64 0] w fun e w'=>e=.returned (.float .f64 m)∧Below w.heap.size w w')
   (m3:b=true→∀ts t w,(Builtin.max_ ts t #[.float .f64 m,.float .f64 l]).run Tryz.prog w=.ok (.float .f64 x) w)
   (m4:b=true→∀ts t w,(Builtin.min_ ts t #[.float .f64 x,.float .f64 h]).run Tryz.prog w=.ok (.float .f64 r) w) (w:World) :
   Calls Tryz.prog 181 #[.agg #[.float .f64 lo,.float .f64 hi]] w fun e w'=>e=.returned (.float .f64 (if b then r else 0))∧Below w.heap.size w w':=by
 cases b
 · clear m1 m2 m3 m4 c1 c2 c3
   simp only [Bool.not_false,Bool.false_eq_true,if_false] at c0 ⊢
   go_enter Tryz.func181,Tryz.ntmps181
   go_wp2_with (go_at_call 35;refine (c0 (w.heap.size+1) _ (by go_simp) (by go_simp)).mono ?_;rintro _ w1 ⟨rfl,hb1⟩)
   go_ret
   exact⟨rfl,later (by go_grown) hb1⟩
 · replace m1:=m1 rfl
   replace m2:=m2 rfl
   replace m3:=m3 rfl
   replace m4:=m4 rfl
   replace c1:=c1 rfl
   replace c2:=c2 rfl
   replace c3:=c3 rfl
   simp only [Bool.not_true,if_true] at c0 ⊢
   go_enter Tryz.func181,Tryz.ntmps181
   go_upto_region 3 with
    (go_at_call 35;refine (c0 (w.heap.size+1) _ (by go_simp) (by go_simp)).mono ?_;rintro _ w1 ⟨rfl,hb1⟩
     have X:Has2 w1 w.heap.size (.float .f64 lo) (.float .f64 hi):=Has2.keep ⟨by go_simp,by go_simp,by go_simp,by go_simp,by go_size⟩ hb1
     have HB:Below w.heap.size w w1:=later (by go_grown) hb1)
   clear hb1 c0
   have kx0:=fun n:Behind w1=>n.cell X.1 X.2.2.2.2
   have kx1:=fun n:Behind w1=>n.cell X.2.1 X.2.2.2.2
   refine region_behind (by kernel_rfl) (by kernel_rfl) ?_
   repeat (go_big_quiet_step (fail))
   refine wpQuiet_nil ?_
   rintro _ ⟨n,rfl⟩
   obtain⟨W,hb1⟩:=n
   dsimp only
   clear kx0 kx1
   replace HB:=later HB hb1
   clear hb1
   go_wp2_with (first
     | (go_at_call_of 178 (Value.float .f64 l);refine (c1 _).mono ?_;rintro _ w2 ⟨rfl,hb1⟩;replace HB:=later HB hb1;clear hb1)
     | (go_at_call 178;refine (c2 _).mono ?_;rintro _ w2 ⟨rfl,hb1⟩;replace HB:=later HB hb1;clear hb1)
     | (go_at_call 111;refine (c3 _).mono ?_;rintro _ w2 ⟨rfl,hb1⟩;replace HB:=later HB hb1;clear hb1))
   go_ret
   exact⟨rfl,HB⟩
theorem Mid_w (lo hi:Nat) (hl:lo<18446744073709551616) (hh:hi<18446744073709551616) (w:World):Calls Tryz.prog 181 #[.agg #[.float .f64 lo,.float .f64 hi]] w fun e w'=>e=.returned (.float .f64 (midP lo hi))∧Below w.heap.size w w':=by
 have c0:=fun b W c0 c1=>someEmpty1_w b lo hi hl hh W c0 c1
 have E:=fun h=>mid_ends hl hh (hs_iff.1 h)
 have P:=fun h=>half_facts (E h).2.2.2.2.1 (E h).2.2.1
 have Q:=fun h=>half_facts (E h).2.2.2.2.2.1 (E h).2.2.2.1
 have N:=fun h=>fin_not_nan (E h).2.2.1
 have O:=fun h=>fin_not_nan (E h).2.2.2.1
 have M:=midM_facts lo hi
 have X:hsB lo hi=true→minW (maxW (midM lo hi) (midLo lo)) (midHi hi)=(if key (midM lo hi)<key (midLo lo) then midLo lo else if key (midHi hi)<key (midM lo hi) then midHi hi else midM lo hi):=fun h=>by
   have k:=(E h).2.2.2.2.2.2.2.2
   rw [maxW_is M.2.1 (E h).2.2.2.2.2.2.1]
   by_cases c:key (midM lo hi)<key (midLo lo)
   · rw [if_pos c,if_pos c,minW_is (E h).2.2.2.2.2.2.1 (E h).2.2.2.2.2.2.2.1,if_neg (by omega)]
   · rw [if_neg c,if_neg c,minW_is M.2.1 (E h).2.2.2.2.2.2.2.1]
 have q:=mid_core lo hi (midLo lo) (midHi hi) (halfF (midLo lo)) (halfF (midHi hi)) (midM lo hi) (maxW (midM lo hi) (midLo lo)) (minW (maxW (midM lo hi) (midLo lo)) (midHi hi)) (hsB lo hi) c0
   (fun h ts t w=>max_f hl (by omega) (hs_nan h).1 (by decide) _ ts t w) (fun h ts t w=>min_f hh (by omega) (hs_nan h).2 (by decide) _ ts t w)
   (fun h=>told_calls (half_div (E h).2.2.1) (fun w=>div_w _ _ 0 (E h).2.2.2.2.1 (by omega) w)) (fun h=>told_calls (half_div (E h).2.2.2.1) (fun w=>div_w _ _ 0 (E h).2.2.2.2.2.1 (by omega) w))
   (fun h=>told_calls (midM_is (P h).2.2 (Q h).2.2) (fun w=>add_w _ _ 0 (P h).2.1 (Q h).2.1 w))
   (fun h ts t w=>max_f M.2.2 (E h).2.2.2.2.1 M.1 (N h) _ ts t w)
   (fun h ts t w=>min_f (by rw [maxW_is M.2.1 (E h).2.2.2.2.2.2.1];split;exact (E h).2.2.2.2.1;exact M.2.2) (E h).2.2.2.2.2.1 (by rw [maxW_is M.2.1 (E h).2.2.2.2.2.2.1];split;exact N h;exact M.1) (O h) _ ts t w) w
 unfold midP
 cases h:hsB lo hi
 · rw [h,if_neg (by simp)] at q
   rw [if_neg (by simp)]
   exact q
 · rw [h,if_pos rfl] at q
   rw [if_pos rfl,←X h]
   exact q
structure In (xl xh ul uh:Nat):Prop where
 S:Some2 xl xh
 T:Some2 ul uh
 kl:key ul≤key xl
 kh:key xh≤key uh
 a1:xl<18446744073709551616
 a2:xh<18446744073709551616
 b1:ul<18446744073709551616
 b2:uh<18446744073709551616
def Gr (p q:Nat×Nat):Prop:=(p=(infI 1,infI (-1))∧(q=(infI 1,infI (-1))∨Some2 q.1 q.2))∨(Some2 p.1 p.2∧Some2 q.1 q.2∧key q.1≤key p.1∧key p.2≤key q.2)
theorem empty_some:hsB (infI 1) (infI (-1))=false:=by decide
theorem gr_empty:Gr (infI 1,infI (-1)) (infI 1,infI (-1)):=Or.inl ⟨rfl,Or.inl rfl⟩
theorem gr_some {p q:Nat×Nat} (S:Some2 p.1 p.2) (T:Some2 q.1 q.2) (k1:key q.1≤key p.1) (k2:key p.2≤key q.2):Gr p q:=Or.inr ⟨S,T,k1,k2⟩
theorem In.refl {xl xh:Nat} (h1:xl<18446744073709551616) (h2:xh<18446744073709551616) (S:Some2 xl xh):In xl xh xl xh:=⟨S,S,Int.le_refl _,Int.le_refl _,h1,h2,h1,h2⟩
theorem addR_bot {a b r:Nat} {d:Int} (ha:a<18446744073709551616) (na:nanB a=false) (k:key a=-9218868437227405312) (h:addR a b d=some r):r=a:=by
 have fa:=(key_inf ha na).2 (Or.inr k)
 unfold addR at h
 rw [fa] at h
 split at h
 · cases h
 · simp only [Bool.false_and,Bool.false_eq_true,if_false] at h
   split at h
   · cases h
   · exact (Option.some.inj h).symm
theorem addR_bot2 {a b r:Nat} {d:Int} (ha:a<18446744073709551616) (hb:b<18446744073709551616) (na:nanB a=false) (nb:nanB b=false) (k:key b=-9218868437227405312) (h:addR a b d=some r):key r=-9218868437227405312:=by
 have fb:=(key_inf hb nb).2 (Or.inr k)
 have zb:isZ b=false:=isZ_pos hb (by omega)
 have sb:=sign_key hb zb
 unfold addR at h
 rw [fb,na,nb] at h
 simp only [Bool.or_self,Bool.and_false,Bool.false_eq_true,if_false,Bool.not_false,Bool.and_true] at h
 cases fa:finB a
 · rw [fa] at h
   have za:isZ a=false:=by
     cases z:isZ a
     · rfl
     · have:=(key_zero ha).1 z
       rcases (key_inf ha na).1 fa with c | c <;> omega
   have sa:=sign_key ha za
   simp only [Bool.not_false,Bool.true_and,Bool.false_eq_true,if_false] at h
   split at h
   · cases h
   · rename_i hc
     have e:=(Option.some.inj h).symm
     rw [e]
     rcases (key_inf ha na).1 fa with c | c
     · rw [sa,sb,decide_eq_false (by omega),decide_eq_true (by omega)] at hc
       exact absurd rfl hc
     · exact c
 · rw [fa] at h
   simp only [Bool.not_true,Bool.false_and,Bool.false_eq_true,if_false,if_true] at h
   rw [←Option.some.inj h]
   exact k
theorem addR_word {a b r:Nat} {d:Int} (ha:a<18446744073709551616) (hb:b<18446744073709551616) (h:addR a b d=some r):r<18446744073709551616∧nanB r=false:=by
 have f:=addF_facts a b d
 unfold addR at h
 generalize addF a b d=q at *
 split at h
 · cases h
 · rename_i hn
   have na:nanB a=false:=by cases z:nanB a <;> simp_all
   have nb:nanB b=false:=by cases z:nanB b <;> simp_all
   split at h
   · rw [←Option.some.inj h];exact⟨f.2.2,f.1⟩
   · split at h
     · cases h
     · rw [←Option.some.inj h]
       split
       · exact⟨hb,nb⟩
       · exact⟨ha,na⟩
theorem add_low {p q c d l m:Nat} (hp:p<18446744073709551616) (hq:q<18446744073709551616) (hc:c<18446744073709551616) (hd:d<18446744073709551616) (np:nanB p=false) (nq:nanB q=false) (nc:nanB c=false) (nd:nanB d=false)
   (kc:key c<9218868437227405312) (kd:key d<9218868437227405312) (h1:key p≤key c) (h2:key q≤key d) (e:addR c d (-1)=some l) (e':addR p q (-1)=some m):key m≤key l:=by
 have wl:=addR_word hc hd e
 have hl:=(key_range wl.1 wl.2).1
 have rc:=key_range hc nc
 have rd:=key_range hd nd
 have rp:=key_range hp np
 have rq:=key_range hq nq
 cases fc:finB c
 · have kc':key p=-9218868437227405312:=by rcases (key_inf hc nc).1 fc with z | z <;> omega
   rw [addR_bot hp np kc' e',kc']
   exact hl
 · cases fd:finB d
   · have kd':key q=-9218868437227405312:=by rcases (key_inf hd nd).1 fd with z | z <;> omega
     rw [addR_bot2 hp hq np nq kd' e']
     exact hl
   · obtain⟨r,t,g1,g2,g⟩:=addR_low hp hq hc hd np nq fc fd h1 h2
     rw [e'] at g1
     rw [e] at g2
     have g1:=Option.some.inj g1
     have g2:=Option.some.inj g2
     rw [g1,g2]
     exact g.le
theorem add_high {p q c d l m:Nat} (hp:p<18446744073709551616) (hq:q<18446744073709551616) (hc:c<18446744073709551616) (hd:d<18446744073709551616) (np:nanB p=false) (nq:nanB q=false) (nc:nanB c=false) (nd:nanB d=false)
   (kc:-9218868437227405312<key c) (kd:-9218868437227405312<key d) (h1:key c≤key p) (h2:key d≤key q) (e:addR c d 1=some l) (e':addR p q 1=some m):key l≤key m:=by
 have m1:=addR_mirror (negB_lt hc) (negB_lt hd)
 have m2:=addR_mirror (negB_lt hp) (negB_lt hq)
 rw [negB_negB hc,negB_negB hd,e] at m1
 rw [negB_negB hp,negB_negB hq,e'] at m2
 rcases m1 with ⟨-,z⟩ | ⟨x,y,g1,g2,lx,ly,k⟩
 · cases z
 · rcases m2 with ⟨-,z⟩ | ⟨x2,y2,g3,g4,lx2,ly2,k2⟩
   · cases z
   · have g2:=Option.some.inj g2
     have g4:=Option.some.inj g4
     rw [←g2] at k
     rw [←g4] at k2
     have kx:=add_low (negB_lt hp) (negB_lt hq) (negB_lt hc) (negB_lt hd) (by rw [nanB_negB hp];exact np) (by rw [nanB_negB hq];exact nq) (by rw [nanB_negB hc];exact nc) (by rw [nanB_negB hd];exact nd)
       (by rw [key_negB hc];omega) (by rw [key_negB hd];omega) (by rw [key_negB hp,key_negB hc];omega) (by rw [key_negB hq,key_negB hd];omega) g1 g3
     omega
theorem add_gr {xl xh ul uh yl yh vl vh:Nat} (X:In xl xh ul uh) (Y:In yl yh vl vh):Gr (addP xl xh yl yh) (addP ul uh vl vh):=by
 obtain⟨l,u,e1,e2,A, -, -⟩:=add_some X.a1 X.a2 Y.a1 Y.a2 X.S Y.S
 obtain⟨l',u',e1',e2',A', -, -⟩:=add_some X.b1 X.b2 Y.b1 Y.b2 X.T Y.T
 have p1:addP xl xh yl yh=(l,u):=by unfold addP;rw [hs_iff.2 X.S,hs_iff.2 Y.S,e1,e2];rfl
 have p2:addP ul uh vl vh=(l',u'):=by unfold addP;rw [hs_iff.2 X.T,hs_iff.2 Y.T,e1',e2'];rfl
 rw [p1,p2]
 exact gr_some A A' (add_low X.b1 Y.b1 X.a1 Y.a1 X.T.nl Y.T.nl X.S.nl Y.S.nl X.S.lt Y.S.lt X.kl Y.kl e1 e1') (add_high X.b2 Y.b2 X.a2 Y.a2 X.T.nh Y.T.nh X.S.nh Y.S.nh X.S.gt Y.S.gt X.kh Y.kh e2 e2')
theorem neg_in {xl xh ul uh:Nat} (X:In xl xh ul uh):In (negP (xl,xh)).1 (negP (xl,xh)).2 (negP (ul,uh)).1 (negP (ul,uh)).2:=by
 have e1:negP (xl,xh)=mirrorP (xl,xh):=by unfold negP;rw [if_pos (hs_iff.2 X.S)]
 have e2:negP (ul,uh)=mirrorP (ul,uh):=by unfold negP;rw [if_pos (hs_iff.2 X.T)]
 obtain⟨S,k1,k2,l1,l2⟩:=mirror_some X.a1 X.a2 X.S
 obtain⟨T,k3,k4,l3,l4⟩:=mirror_some X.b1 X.b2 X.T
 have h1:=X.kl
 have h2:=X.kh
 rw [e1,e2]
 exact⟨S,T,by omega,by omega,l1,l2,l3,l4⟩
theorem mul_keys {xl xh yl yh:Nat} (h1:xl<18446744073709551616) (h2:xh<18446744073709551616) (h3:yl<18446744073709551616) (h4:yh<18446744073709551616) (S:Some2 xl xh) (T:Some2 yl yh) :
   Some2 (mulP xl xh yl yh).1 (mulP xl xh yl yh).2∧key (mulP xl xh yl yh).1=lowK xl xh yl yh∧key (mulP xl xh yl yh).2=topK xl xh yl yh:=by
 obtain⟨a,X⟩:=held_some h1 h2 S
 obtain⟨b,Y⟩:=held_some h3 h4 T
 obtain⟨m1,m2, -,Z,l1,l2,k1,k2⟩:=mul_ends X Y
 have e:mulP xl xh yl yh=(m1,m2):=by unfold mulP;rw [hs_iff.2 S,hs_iff.2 T,←rmul_is S.nl S.nh T.nl T.nh Z k1 k2];rfl
 rw [e]
 exact⟨Z,k1,k2⟩
theorem mul_gr {xl xh ul uh yl yh:Nat} (X:In xl xh ul uh) (h3:yl<18446744073709551616) (h4:yh<18446744073709551616) (T:Some2 yl yh):Gr (mulP xl xh yl yh) (mulP ul uh yl yh):=by
 obtain⟨A,k1,k2⟩:=mul_keys X.a1 X.a2 h3 h4 X.S T
 obtain⟨A',k3,k4⟩:=mul_keys X.b1 X.b2 h3 h4 X.T T
 refine gr_some A A' ?_ ?_
 · rw [k1,k3]
   exact low_grows X.b1 X.b2 X.a1 X.a2 h3 h4 X.T.nl X.T.nh X.S.nl X.S.nh T.nl T.nh X.kl X.S.le X.kh
 · rw [k2,k4]
   exact top_grows X.b1 X.b2 X.a1 X.a2 h3 h4 X.T.nl X.T.nh X.S.nl X.S.nh T.nl T.nh X.kl X.S.le X.kh
theorem divP_lt {xl xh yl yh:Nat} (h1:xl<18446744073709551616) (h2:xh<18446744073709551616) (h3:yl<18446744073709551616) (h4:yh<18446744073709551616):(divP xl xh yl yh).1<18446744073709551616∧(divP xl xh yl yh).2<18446744073709551616:=by
 have h0:=infI_lt 1
 have h0':=infI_lt (-1)
 unfold divP
 cases hs:hsB xl xh&&hsB yl yh
 · rw [if_pos rfl];exact⟨h0,h0'⟩
 · rw [if_neg (by simp)]
   obtain⟨hx,hy⟩:=Bool.and_eq_true_iff.1 hs
   have S:=hs_iff.1 hx
   have T:=hs_iff.1 hy
   have ky:=T.le
   obtain⟨S',k1,k2,l1,l2⟩:=mirror_some h1 h2 S
   obtain⟨T',k3,k4,l3,l4⟩:=mirror_some h3 h4 T
   by_cases cy:key yl=0∧key yh=0
   · rw [if_pos cy];exact⟨h0,h0'⟩
   · rw [if_neg cy]
     by_cases cx:key xl=0∧key xh=0
     · rw [if_pos cx];exact⟨by omega,by omega⟩
     · rw [if_neg cx]
       by_cases p1:0≤key yl
       · rw [if_pos p1]
         obtain⟨-, -, -,b3,b4, -, -⟩:=shrink_w h1 h2 h3 h4 S T p1 (by omega)
         exact makeP_lt b3 (negB_lt b4)
       · rw [if_neg p1]
         by_cases p2:key yh≤0
         · rw [if_pos p2]
           obtain⟨-, -, -,b3,b4, -, -⟩:=shrink_w l1 l2 l3 l4 S' T' (by omega) (by omega)
           exact makeP_lt b3 (negB_lt b4)
         · rw [if_neg p2];exact⟨h0',h0⟩
end Go.Proofs.YtnnfafilgiajoaaGreat
