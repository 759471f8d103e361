/- The reference's numbers between two: root and quotient by their models; Sqrt. -/
import Derived.Test.YtopfabemfbdccaaGreatZe13
import Derived.Test.YtopfabemfbdccaaGreatZe14
import Derived.Test.YtopfabemfbdccaaGreatZe15
namespace Go.Proofs.YtopfabemfbdccaaGreat
open Go.ChangeShapes Go.WideShapes Go.ChangeAt Go.RowKit
def rtK (a:Nm):Nat:=if Int.tmod (a.e-((400-bitsN a.m:Nat):Int)) 2=0 then 400-bitsN a.m else 400-bitsN a.m+1
def rootX (a:Nm) (lo:Bool):Nm:=⟨false,rtN (a.m*2^rtK a) lo,Int.tdiv (a.e-(rtK a:Int)) 2⟩
def quK (a b:Nm):Nat:=200+bitsN b.m-bitsN a.m
def quotX (a b:Nm) (lo:Bool):Nm:=⟨a.g&&decide (0<quN (a.m*2^quK a b) b.m lo a.g),quN (a.m*2^quK a b) b.m lo a.g,a.e-b.e-(quK a b:Int)⟩
theorem tdiv2_small {x:Int} (h:-100000≤x∧x≤100000):-100000≤Int.tdiv x 2∧Int.tdiv x 2≤100000:=by
 rcases Int.le_total 0 x with c | c
 · rw [Int.tdiv_eq_ediv_of_nonneg c];omega
 · have:Int.tdiv x 2=-(Int.tdiv (-x) 2):=by rw [Int.neg_tdiv,Int.neg_neg]
   rw [this,Int.tdiv_eq_ediv_of_nonneg (by omega)];omega
theorem root_m {w:World} {x:Value} {a:Nm} (ha:NI w x a) (sa:Sm a) (nz:a.m≠0) (hb:bitsN a.m≤400) (lo:Bool) :
   Calls Tryz.prog 139 #[x,.int .i64 (dirZ lo)] w fun r w'=>(∃v,r=.returned v∧NI w' v (rootX a lo))∧Below w.heap.size w w':=by
 obtain⟨ao,l,ca,rfl,hl,a2⟩:=ha.shape
 obtain⟨g,m,e⟩:=a
 obtain⟨p1,p2,p3⟩:=sa
 unfold rootX
 have hK:rtK ⟨g,m,e⟩=if Int.tmod (e-((400-bitsN m:Nat):Int)) 2=0 then 400-bitsN m else 400-bitsN m+1:=rfl
 simp only at *
 generalize rtK ⟨g,m,e⟩=n at *
 have hl0:((l:Int)==0)=false:=by rw [beq_eq_false_iff_ne];intro c;exact nz (hl.1 (by omega))
 obtain⟨K,hKK⟩:∃K:Nat,K=2000:=⟨_,rfl⟩
 rw [←hKK] at p1
 obtain⟨J,hJ⟩:∃J:Nat,J=401:=⟨_,rfl⟩
 have hn:n≤401:=by rw [hK];split <;> omega
 have hR:m*2^n<2^(K+J):=by
   rw [Nat.pow_add]
   exact Nat.lt_of_lt_of_le (Nat.mul_lt_mul_of_pos_right p1 (Nat.two_pow_pos _)) (Nat.mul_le_mul_left _ (Nat.pow_le_pow_right (by omega) (by omega)))
 have hNM:=bitsN_le hR
 have cb:=fun W (hW:Below w.heap.size w W)=>bits_w (.slice ao l ca) m K (by omega) p1 W (a2.keep hW)
 have cl:=fun W (hW:Below w.heap.size w W)=>left_w (.slice ao l ca) m n (n/32) (n%32) K (by omega) p1 (by omega) (by omega) (by omega) W (a2.keep hW)
 have c2:=fun W v (h:BigIs W v (m*2^n))=>bits_w v (m*2^n) (K+J) (by omega) hR W h
 have hodd:(Int.tmod (e-((400-bitsN m:Nat):Int)) 2=0∧n=400-bitsN m)∨((Int.tmod (e-((400-bitsN m:Nat):Int)) 2 != 0)=true∧((400-bitsN m:Nat):Int)+1=(n:Int)):=by
   by_cases c:Int.tmod (e-((400-bitsN m:Nat):Int)) 2=0
   · rw [if_pos c] at hK
     exact .inl ⟨c,hK⟩
   · rw [if_neg c] at hK
     exact .inr ⟨by simpa using c,by omega⟩
 have hE:wrap64 (Int.tdiv (e-(n:Int)) 2)=Int.tdiv (e-(n:Int)) 2:=by
   have:=tdiv2_small (x:=e-(n:Int)) (by omega)
   unfold wrap64
   omega
 refine (rootP_core (by omega) lo (400-bitsN m) n (m*2^n) (K+J) (by omega) hR (bitsN m) (by omega) w hl0 _ rfl hodd _ rfl hE (bitsN (m*2^n)) (by omega) _ rfl cb cl c2).mono ?_
 rintro _ w' ⟨⟨v,rfl,hv⟩,hb⟩
 exact⟨⟨_,rfl,v,rfl,hv⟩,hb⟩
theorem root_lo {w:World} {x:Value} {a:Nm} (ha:NI w x a) (sa:Sm a) (nz:a.m≠0) (hb:bitsN a.m≤400) :
   Calls Tryz.prog 139 #[x,.int .i64 (-1)] w fun r w'=>(∃v,r=.returned v∧NI w' v (rootX a true))∧Below w.heap.size w w':=root_m ha sa nz hb true
theorem root_hi {w:World} {x:Value} {a:Nm} (ha:NI w x a) (sa:Sm a) (nz:a.m≠0) (hb:bitsN a.m≤400) :
   Calls Tryz.prog 139 #[x,.int .i64 1] w fun r w'=>(∃v,r=.returned v∧NI w' v (rootX a false))∧Below w.heap.size w w':=root_m ha sa nz hb false
theorem quot_m {w:World} {x y:Value} {a b:Nm} (ha:NI w x a) (hb:NI w y b) (sa:Sm a) (sb:Sm b) (nz:a.m≠0) (nb:b.m≠0) (hab:bitsN a.m≤200+bitsN b.m) (lo:Bool) :
   Calls Tryz.prog 83 #[x,y,.int .i64 (dirZ lo)] w fun r w'=>(∃v,r=.returned v∧NI w' v (quotX a b lo))∧Below w.heap.size w w':=by
 obtain⟨ao,l,ca,rfl,hl,a2⟩:=ha.shape
 obtain⟨bo,k,cb,rfl,hk,b2⟩:=hb.shape
 obtain⟨g,m,e⟩:=a
 obtain⟨h,d,f⟩:=b
 obtain⟨p1,p2,p3⟩:=sa
 obtain⟨q1,q2,q3⟩:=sb
 unfold quotX
 have hK:quK ⟨g,m,e⟩ ⟨h,d,f⟩=200+bitsN d-bitsN m:=rfl
 simp only at *
 generalize quK ⟨g,m,e⟩ ⟨h,d,f⟩=n at *
 have hl0:((l:Int)==0)=false:=by rw [beq_eq_false_iff_ne];intro c;exact nz (hl.1 (by omega))
 obtain⟨K,hKK⟩:∃K:Nat,K=2000:=⟨_,rfl⟩
 rw [←hKK] at p1 q1
 have hbm:=bitsN_le p1
 have hbd:=bitsN_le q1
 obtain⟨J,hJ⟩:∃J:Nat,J=2201:=⟨_,rfl⟩
 have hR:m*2^n<2^(K+J):=by
   rw [Nat.pow_add]
   exact Nat.lt_of_lt_of_le (Nat.mul_lt_mul_of_pos_right p1 (Nat.two_pow_pos _)) (Nat.mul_le_mul_left _ (Nat.pow_le_pow_right (by omega) (by omega)))
 have hdK:d*2^201<2^(K+J):=by
   rw [Nat.pow_add]
   exact Nat.lt_of_lt_of_le (Nat.mul_lt_mul_of_pos_right q1 (Nat.two_pow_pos _)) (Nat.mul_le_mul_left _ (Nat.pow_le_pow_right (by omega) (by omega)))
 have hbits:bitsN (m*2^n)=bitsN d+200:=by rw [bits_mul nz];omega
 have hRl:m*2^n<d*2^201:=by
   obtain⟨t,et, -,h2⟩:=bitsN_low (n:=m*2^n) (by have:=Nat.mul_pos (Nat.pos_of_ne_zero nz) (Nat.two_pow_pos n);omega)
   obtain⟨s,es,h3, -⟩:=bitsN_low (n:=d) nb
   have:t+1=s+201:=by omega
   rw [this,Nat.pow_add] at h2
   exact Nat.lt_of_lt_of_le h2 (Nat.mul_le_mul_right _ h3)
 have ca1:=fun W (hW:Below w.heap.size w W)=>bits_turn (bits_w (.slice ao l ca) m K (by omega) p1 W (a2.keep hW))
 have cb1:=fun W (hW:Below w.heap.size w W)=>bits_turn (bits_w (.slice bo k cb) d K (by omega) q1 W (b2.keep hW))
 have cl:=fun W (hW:Below w.heap.size w W)=>left_w (.slice ao l ca) m n (n/32) (n%32) K (by omega) p1 (by omega) (by omega) (by omega) W (a2.keep hW)
 have c2:∀W v,BigIs W v (m*2^n)→Calls Tryz.prog 87 #[v] W fun e w'=>e=.returned (.int .i64 ((bitsN d:Int)+200))∧w'=W:=fun W v h=>by
   have:=bits_turn (bits_w v (m*2^n) (K+J) (by omega) hR W h)
   rw [hbits,show ((bitsN d+200:Nat):Int)=(bitsN d:Int)+200 by omega] at this
   exact this
 refine (quot_core (h:=h) (by omega) (by omega) lo d n (m*2^n) (K+J) nb (by omega) hR hdK (bitsN m) (bitsN d) (by omega) (by omega) (by omega) w hl0 b2 hRl ca1 cb1 cl c2).mono ?_
 rintro _ w' ⟨⟨v,rfl,hv⟩,hb⟩
 exact⟨⟨_,rfl,v,rfl,hv⟩,hb⟩
def sqrtX (x:Pr):Pr:=pairX (rootX x.a true) (rootX x.b false)
set_option maxHeartbeats 1600000 in
theorem sqrt_m {w:World} {vx:Value} {x:Pr} (hx:PI w vx x) (sx:SmP x) (z0:x.a.m≠0) (z1:x.b.m≠0) (b0:bitsN x.a.m≤400) (b1:bitsN x.b.m≤400) (s1:Sm (rootX x.a true)) (s2:Sm (rootX x.b false)) :
   Calls Tryz.prog 77 #[vx] w fun r w'=>(∃v,r=.returned v∧PI w' v (sqrtX x))∧Below w.heap.size w w':=by
 obtain⟨xo0,xl0,xc0,xo1,xl1,xc1,rfl,xn0,xn1⟩:=hx.shape
 unfold sqrtX
 obtain⟨sx0,sx1⟩:=sx
 have Xx:=(hs6_new w (.bool x.a.g) (.slice xo0 xl0 xc0) (.int .i64 x.a.e) (.bool x.b.g) (.slice xo1 xl1 xc1) (.int .i64 x.b.e) 31).alloc (.cells #[.bool false,.slice none 0 0,.int .i64 0,.bool false,.slice none 0 0,.int .i64 0] 31)
 have R:=hs6_new (w.alloc (.cells #[.bool x.a.g,.slice xo0 xl0 xc0,.int .i64 x.a.e,.bool x.b.g,.slice xo1 xl1 xc1,.int .i64 x.b.e] 31)) (.bool false) (.slice none 0 0) (.int .i64 0) (.bool false) (.slice none 0 0) (.int .i64 0) 31
 have B:=Boxed.newP (w.alloc (.cells #[.bool x.a.g,.slice xo0 xl0 xc0,.int .i64 x.a.e,.bool x.b.g,.slice xo1 xl1 xc1,.int .i64 x.b.e] 31)) #[.bool false,.slice none 0 0,.int .i64 0,.bool false,.slice none 0 0,.int .i64 0]
 have HB:Below w.heap.size w ((w.alloc (.cells #[.bool x.a.g,.slice xo0 xl0 xc0,.int .i64 x.a.e,.bool x.b.g,.slice xo1 xl1 xc1,.int .i64 x.b.e] 31)).alloc (.cells #[.bool false,.slice none 0 0,.int .i64 0,.bool false,.slice none 0 0,.int .i64 0] 31)):=by go_grown
 replace xn0:=xn0.keep HB
 replace xn1:=xn1.keep HB
 simp only [World.size_alloc] at R B
 go_enter Tryz.func77,Tryz.ntmps77
 go_upto_region 1 with fail
 generalize ((w.alloc (.cells #[.bool x.a.g,.slice xo0 xl0 xc0,.int .i64 x.a.e,.bool x.b.g,.slice xo1 xl1 xc1,.int .i64 x.b.e] 31)).alloc (.cells #[.bool false,.slice none 0 0,.int .i64 0,.bool false,.slice none 0 0,.int .i64 0] 31))=V1 at *
 have HD:Below V1.heap.size V1 V1.drew:=(Below.refl _ _).drew
 replace Xx:=Xx.keep HD
 replace R:=R.keep HD
 replace B:=B.keep HD
 replace xn0:=xn0.keep HD
 replace xn1:=xn1.keep HD
 replace HB:=later HB HD
 clear HD
 have nex:w.heap.size≠w.heap.size+1:=by omega
 go_region_held3 (fun w'=>w'.cell? ⟨w.heap.size,0,none⟩=some (.bool x.a.g)∧w'.cell? ⟨w.heap.size,1,none⟩=some (.slice xo0 xl0 xc0)∧w'.cell? ⟨w.heap.size,2,none⟩=some (.int .i64 x.a.e)∧w'.cell? ⟨w.heap.size,3,none⟩=some (.bool x.b.g)∧w'.cell? ⟨w.heap.size,4,none⟩=some (.slice xo1 xl1 xc1)∧w'.cell? ⟨w.heap.size,5,none⟩=some (.int .i64 x.b.e)) (first | with_reducible exact⟨Xx.c0,Xx.c1,Xx.c2,Xx.c3,Xx.c4,Xx.c5⟩ | with_reducible exact⟨far6 nex Xx.c0,far6 nex Xx.c1,far6 nex Xx.c2,far6 nex Xx.c3,far6 nex Xx.c4,far6 nex Xx.c5⟩ | go_keep)
   (first
     | (go_at_call_of 139 (Value.agg #[.bool x.a.g,.slice xo0 xl0 xc0,.int .i64 x.a.e]);with_reducible refine (root_lo xn0 sx0 z0 b0).mono ?_;rintro _ Wm1 ⟨⟨vm1,rfl,m1⟩,hb1⟩;obtain⟨m1o,m1l,m1c,rfl, -, -⟩:=m1.shape;replace Xx:=Xx.keep hb1;replace R:=R.keep hb1;replace B:=B.keep hb1;replace xn0:=xn0.keep hb1;replace xn1:=xn1.keep hb1;replace HB:=later HB hb1;clear hb1)
     | (go_at_call_of 139 (Value.agg #[.bool x.b.g,.slice xo1 xl1 xc1,.int .i64 x.b.e]);with_reducible refine (root_hi xn1 sx1 z1 b1).mono ?_;rintro _ Wm2 ⟨⟨vm2,rfl,m2⟩,hb1⟩;obtain⟨m2o,m2l,m2c,rfl, -, -⟩:=m2.shape;replace Xx:=Xx.keep hb1;replace R:=R.keep hb1;replace B:=B.keep hb1;replace xn0:=xn0.keep hb1;replace xn1:=xn1.keep hb1;replace m1:=m1.keep hb1;replace HB:=later HB hb1;clear hb1)
     | (go_at_call 85;with_reducible refine (pair_m m1 m2 s1 s2).mono ?_;rintro _ Wpp ⟨⟨vpp,rfl,pp⟩,hb1⟩;obtain⟨ppo0,ppl0,ppc0,ppo1,ppl1,ppc1,rfl, -, -⟩:=pp.shape;replace Xx:=Xx.keep hb1;replace R:=R.keep hb1;replace B:=B.keep hb1;replace xn0:=xn0.keep hb1;replace xn1:=xn1.keep hb1;replace m1:=m1.keep hb1;replace m2:=m2.keep hb1;replace HB:=later HB hb1;clear hb1;obtain⟨r0,r1,r2,r3,r4,r5,g0,g1,g2,g3,g4,g5,rl⟩:=id R))
 all_goals
   go_wp2_with fail
   refine bodyPost_ret (v:=.agg #[.bool (pairX (rootX x.a true) (rootX x.b false)).a.g,.slice ppo0 ppl0 ppc0,.int .i64 (pairX (rootX x.a true) (rootX x.b false)).a.e,.bool (pairX (rootX x.a true) (rootX x.b false)).b.g,.slice ppo1 ppl1 ppc1,.int .i64 (pairX (rootX x.a true) (rootX x.b false)).b.e]) (by simp [results,Tryz.results77,go_sem, *]) rfl ⟨⟨_,rfl, ?_⟩, ?_⟩
   · have hp:=pp
     repeat' (first | (with_reducible exact hp) | (with_reducible exact B) | (with_reducible refine PI.put ?_ ?_ _ _) | (with_reducible refine Boxed.set ?_ _ _ _))
   · repeat' (first | (with_reducible exact HB) | (with_reducible refine Below.setCell ?_ ?_ _) | go_size)
end Go.Proofs.YtopfabemfbdccaaGreat
