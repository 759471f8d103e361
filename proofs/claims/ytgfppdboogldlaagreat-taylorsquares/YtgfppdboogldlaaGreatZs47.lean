/- The reference's question whether an interval holds a quotient: the walk, for numbers up to the 14th power of a float. -/
import Derived.Test.YtgfppdboogldlaaGreatZs46
namespace Go.Proofs.YtgfppdboogldlaaGreat
open Go.ChangeShapes Go.WideShapes Go.ChangeAt Go.RowKit
theorem hq_prodT {W:World} {y z:Value} {m K:Nat} {v d:Int} (hm:m≤14) (hK:53≤K) (hK2:K≤100000) (N4:NumZ (-1074) 971 53 W y v) (nb:NumZ (-1074*(m:Int)-1074) (971*(m:Int)+971) K W z d) :
   Calls Tryz.prog 17 #[y,z] W fun r w'=>(∃x,r=.returned x∧NumZ (-1074*(m:Int)-2148) (971*(m:Int)+1942) (K+K) w' x (v*d))∧Below W.heap.size W w':=by
 have:=prod_z (by omega) (by omega) (by omega) (by omega) (N4.wide (Int.le_refl _) hK) nb
 rw [show (-1074:Int)+(-1074*(m:Int)-1074)=-1074*(m:Int)-2148 by omega,show (971:Int)+(971*(m:Int)+971)=971*(m:Int)+1942 by omega] at this
 exact this
theorem hq_ordT {W:World} {y z:Value} {m K:Nat} {v c:Int} (hm:m≤14) (hK2:K≤100000) (N5:NumZ (-1074*(m:Int)-2148) (971*(m:Int)+1942) (K+K) W y v) (na:NumZ (-1074*(m:Int)) (971*(m:Int)) K W z c) :
   Calls Tryz.prog 31 #[y,z] W fun r w'=>r=.returned (.int .i64 (cmpZ v (c*((2^(expN+expN):Nat):Int))))∧Below W.heap.size W w':=by
 have e:(expN:Int)=1074:=rfl
 have n2:=(na.scale (S':=-1074*(m:Int)-2148) (t:=expN+expN) (by rw [Int.natCast_add,e];omega)).wide (T':=971*(m:Int)+1942) (K':=K+K) (by omega) (by omega)
 exact order_z (by omega) (by omega) (by omega) N5 n2
set_option maxRecDepth 8000 in
set_option maxHeartbeats 16000000 in
theorem hquotT_w (lo hi:Nat) (q:Rat) (hq:Hq (lo,hi) q) (pg rg:Bool) (pa ra:Option Addr) (pl pc rl rc:Nat) (pe re:Int) (m K:Nat) (hm:m≤14) (hK:53≤K) (hK2:K≤100000) (c0 d0:Int) (hd0:d0≠0) (hr0:q*(d0:Rat)=(c0:Rat)*((unitN:Int):Rat)) (w:World)
   (na:NumZ (-1074*(m:Int)) (971*(m:Int)) K w (.agg #[.bool pg,.slice pa pl pc,.int .i64 pe]) c0) (nb:NumZ (-1074*(m:Int)-1074) (971*(m:Int)+971) K w (.agg #[.bool rg,.slice ra rl rc,.int .i64 re]) d0) :
   Calls Tryz.prog 13 #[.agg #[.float .f64 lo,.float .f64 hi],.agg #[.bool pg,.slice pa pl pc,.int .i64 pe],.agg #[.bool rg,.slice ra rl rc,.int .i64 re]] w fun e w'=>e=.returned (.bool true)∧Below w.heap.size w w':=by
 have l1:lo<18446744073709551616:=hq.l1
 have l2:hi<18446744073709551616:=hq.l2
 have cn:=fun W=>none_w lo hi l1 l2 W
 rw [hs_iff.2 hq.S] at cn
 have qlo:LoQ (key lo) q:=hq.lo
 have qhi:LoQ (-key hi) (-q):=hq.hi
 clear hq
 have E:HqS w (((w.alloc (.cells #[.float .f64 lo,.float .f64 hi] 43)).alloc (.cells #[.bool pg,.slice pa pl pc,.int .i64 pe] 40)).alloc (.cells #[.bool rg,.slice ra rl rc,.int .i64 re] 40)) lo hi ⟨pg,pa,pl,pc,pe⟩ ⟨rg,ra,rl,rc,re⟩ m K c0 d0:=by
   have s1:(w.alloc (.cells #[.float .f64 lo,.float .f64 hi] 43)).heap.size=w.heap.size+1:=by simp
   have s2:((w.alloc (.cells #[.float .f64 lo,.float .f64 hi] 43)).alloc (.cells #[.bool pg,.slice pa pl pc,.int .i64 pe] 40)).heap.size=w.heap.size+1+1:=by simp
   have h1:=grewQ w (.cells #[.float .f64 lo,.float .f64 hi] 43)
   have h2:=grewQ (w.alloc (.cells #[.float .f64 lo,.float .f64 hi] 43)) (.cells #[.bool pg,.slice pa pl pc,.int .i64 pe] 40)
   have h3:=grewQ ((w.alloc (.cells #[.float .f64 lo,.float .f64 hi] 43)).alloc (.cells #[.bool pg,.slice pa pl pc,.int .i64 pe] 40)) (.cells #[.bool rg,.slice ra rl rc,.int .i64 re] 40)
   refine⟨((has2_new w _ _ _).keep h2).keep h3, ?_, ?_, ?_, ?_,((na.keep h1).keep h2).keep h3,((nb.keep h1).keep h2).keep h3,by go_grown⟩
   · rw [←s1];exact (h3_newQ _ _ _ _ _).keep h3
   · rw [←s2];exact h3_newQ _ _ _ _ _
   · rw [←s1];exact (Boxed.new _ _).keep h3
   · rw [←s2];exact Boxed.new _ _
 clear na nb
 go_enter Tryz.func13,Tryz.ntmps13
 go_upto_region 1 with fail
 generalize (((w.alloc (.cells #[.float .f64 lo,.float .f64 hi] 43)).alloc (.cells #[.bool pg,.slice pa pl pc,.int .i64 pe] 40)).alloc (.cells #[.bool rg,.slice ra rl rc,.int .i64 re] 40))=V0 at *
 obtain⟨x0,x1,x2,x3,x4⟩:=id E.x
 obtain⟨b0,b1,b2,b3,b4,b5,b6⟩:=id E.bx
 dsimp only at b0 b1 b2
 go_upto_region 3 with (go_at_call 28;(with_reducible refine (cn _).mono ?_);rintro _ W1 ⟨rfl,hb1⟩;replace E:=E.keep hb1;clear hb1 x0 x1 x2 x3 x4 b0 b1 b2 b3 b4 b5 b6)
 obtain⟨b0,b1,b2,b3,b4,b5,b6⟩:=id E.bx
 dsimp only at b0 b1 b2
 obtain⟨sz,hsz⟩:∃sz:Int,sz=cmpZ d0 0:=⟨_,rfl⟩
 have csg:∀W,NumZ (-1074*(m:Int)-1074) (971*(m:Int)+971) K W (.agg #[.bool rg,.slice ra rl rc,.int .i64 re]) d0→Calls Tryz.prog 29 #[.agg #[.bool rg,.slice ra rl rc,.int .i64 re]] W fun r w'=>r=.returned (.int .i64 sz)∧Below W.heap.size W w':=fun W n=>by rw [hsz];exact sign_z n
 have hsz2:Hid (sz=cmpZ d0 0):=hsz
 clear hsz
 go_upto_if 13 with (go_at_call 29;(with_reducible refine (csg _ E.nb').mono ?_);rintro _ W2 ⟨rfl,hb1⟩;replace E:=E.keep hb1;clear hb1 b0 b1 b2 b3 b4 b5 b6)
 clear csg
 go_cut [17] from 14 to 17 (fun _ wx=>∃ag aa al ac ae bg ba bl bc be c d,HqS w wx lo hi ⟨ag,aa,al,ac,ae⟩ ⟨bg,ba,bl,bc,be⟩ m K c d∧0<d∧q*(d:Rat)=(c:Rat)*((unitN:Int):Rat))
 case first =>
   by_cases hs:d0<0
   · obtain rfl:sz=-1:=by rw [hsz2.out];unfold cmpZ;rw [if_pos hs]
     obtain⟨a0,a1,a2,a3,a4,a5,a6⟩:=id E.ab
     dsimp only at a0 a1 a2
     go_upto_region 5 with (go_at_call 26;(with_reducible refine (minus_z E.na').mono ?_);rintro _ W3 ⟨⟨v3,rfl,N3⟩,hb1⟩;obtain⟨g3,q3,l3,k3,e3,rfl⟩:=N3.shape;replace E:=E.keep hb1;clear hb1 a0 a1 a2 a3 a4 a5 a6;obtain⟨a0,a1,a2,a3,a4,a5,a6⟩:=id E.ab;dsimp only at a0 a1 a2)
     have E2:HqS w (((W3.setCell ⟨w.heap.size+1,0,none⟩ (.bool g3)).setCell ⟨w.heap.size+1,1,none⟩ (.slice q3 l3 k3)).setCell ⟨w.heap.size+1,2,none⟩ (.int .i64 e3)) lo hi ⟨g3,q3,l3,k3,e3⟩ ⟨rg,ra,rl,rc,re⟩ m K (-c0) d0:=E.putA ⟨g3,q3,l3,k3,e3⟩ N3
     clear E N3 a0 a1 a2 a3 a4 a5 a6
     generalize (((W3.setCell ⟨w.heap.size+1,0,none⟩ (.bool g3)).setCell ⟨w.heap.size+1,1,none⟩ (.slice q3 l3 k3)).setCell ⟨w.heap.size+1,2,none⟩ (.int .i64 e3))=V3 at *
     obtain⟨b0,b1,b2,b3,b4,b5,b6⟩:=id E2.bx
     dsimp only at b0 b1 b2
     go_wp2_with (go_at_call 26;(with_reducible refine (minus_z E2.nb').mono ?_);rintro _ W4 ⟨⟨v4,rfl,N4⟩,hb1⟩;obtain⟨g4,q4,l4,k4,e4,rfl⟩:=N4.shape;replace E2:=E2.keep hb1;clear hb1 b0 b1 b2 b3 b4 b5 b6;obtain⟨b0,b1,b2,b3,b4,b5,b6⟩:=id E2.bx;dsimp only at b0 b1 b2)
     go_meet
     case rel=>exact⟨_,_,_,_,_,_,_,_,_,_,_,_,E2.putB ⟨g4,q4,l4,k4,e4⟩ N4,by omega,by rw [Rat.intCast_neg,Rat.intCast_neg];grind⟩
   · obtain rfl:sz=1:=by rw [hsz2.out];unfold cmpZ;rw [if_neg hs,if_pos (by omega)]
     go_wp2_with fail
     go_meet
     case rel=>exact⟨_,_,_,_,_,_,_,_,_,_,_,_,E,by omega,hr0⟩
 case rest =>
 clear E cn hd0 hr0 hsz2
 obtain⟨ag,aa,al,ac,ae,bg,ba,bl,bc,be,c,d,E,hd,hr⟩:=hcut
 obtain⟨VV,rfl⟩:∃VV,VV=wc:=⟨_,rfl⟩
 have cfA:∀W,Calls Tryz.prog 30 #[.float .f64 lo] W fun e w'=>e=.returned (.bool (finB lo))∧Below W.heap.size W w':=fun W=>(rfin_w lo l1 W).mono fun e w' ⟨a,b⟩=>⟨a,b ▸ Below.refl _ _⟩
 have cfB:∀W,Calls Tryz.prog 30 #[.float .f64 hi] W fun e w'=>e=.returned (.bool (finB hi))∧Below W.heap.size W w':=fun W=>(rfin_w hi l2 W).mono fun e w' ⟨a,b⟩=>⟨a,b ▸ Below.refl _ _⟩
 have clA:=fun (f:finB lo=true) W=>float_z lo l1 f W
 have clB:=fun (f:finB hi=true) W=>float_z hi l2 f W
 have cpA:=fun W y (n:NumZ (-1074) 971 53 W y (V (key lo))) (nb:NumZ (-1074*(m:Int)-1074) (971*(m:Int)+971) K W (.agg #[.bool bg,.slice ba bl bc,.int .i64 be]) d)=>hq_prodT hm hK hK2 n nb
 have cpB:=fun W y (n:NumZ (-1074) 971 53 W y (V (key hi))) (nb:NumZ (-1074*(m:Int)-1074) (971*(m:Int)+971) K W (.agg #[.bool bg,.slice ba bl bc,.int .i64 be]) d)=>hq_prodT hm hK hK2 n nb
 have coA:finB lo=true→∀W y,NumZ (-1074*(m:Int)-2148) (971*(m:Int)+1942) (K+K) W y (V (key lo)*d)→NumZ (-1074*(m:Int)) (971*(m:Int)) K W (.agg #[.bool ag,.slice aa al ac,.int .i64 ae]) c→Calls Tryz.prog 31 #[y,.agg #[.bool ag,.slice aa al ac,.int .i64 ae]] W fun r w'=>(∃z,r=.returned (.int .i64 z)∧z≤0)∧Below W.heap.size W w':=fun f W y n5 na =>
   (hq_ordT hm hK2 n5 na).mono fun r w' ⟨a,b⟩=>⟨⟨_,a,of_decide_eq_true (cmpZ_leD (end_low hd hr (fin_lo l1 f qlo)))⟩,b⟩
 have coB:finB hi=true→∀W y,NumZ (-1074*(m:Int)-2148) (971*(m:Int)+1942) (K+K) W y (V (key hi)*d)→NumZ (-1074*(m:Int)) (971*(m:Int)) K W (.agg #[.bool ag,.slice aa al ac,.int .i64 ae]) c→Calls Tryz.prog 31 #[y,.agg #[.bool ag,.slice aa al ac,.int .i64 ae]] W fun r w'=>(∃z,r=.returned (.int .i64 z)∧0≤z)∧Below W.heap.size W w':=fun f W y n5 na =>
   (hq_ordT hm hK2 n5 na).mono fun r w' ⟨a,b⟩=>⟨⟨_,a,of_decide_eq_true (cmpZ_geD (end_high hd hr (fin_hi l2 f qhi)))⟩,b⟩
 clear qlo qhi hr hd l1 l2
 generalize V (key lo)=vlo at *
 generalize V (key hi)=vhi at *
 go_upto_region 6 with fail
 go_cut [7] from 18 to 31 (fun s wx=>s=.bool true∧HqS w wx lo hi ⟨ag,aa,al,ac,ae⟩ ⟨bg,ba,bl,bc,be⟩ m K c d)
 case first =>
   cases hf:finB lo
   · rw [hf] at cfA
     have E0:=E
     obtain⟨x0,x1,x2,x3,x4⟩:=id E.x
     have kx0:=fun n:Behind VV=>n.cell x0 x4
     have kx1:=fun n:Behind VV=>n.cell x1 x4
     refine region_behind (by kernel_rfl) (by kernel_rfl) ?_
     repeat (go_big_quiet_step (first | (go_at_call 30;with_reducible refine Behind.call (cfA _))))
     refine wpQuiet_nil ?_
     rintro _ ⟨n,rfl⟩
     obtain⟨W,hb⟩:=n
     go_wp2_with fail
     go_meet
     case rel=>exact⟨rfl,E0.keep hb⟩
   · rw [hf] at cfA
     replace clA:=clA hf
     replace coA:=coA hf
     have HD:Below VV.heap.size VV VV.drew:=(Below.refl _ _).drew
     replace E:=E.keep HD
     clear HD
     go_region_held3 (fun w'=>w'.cell? ⟨w.heap.size,0,none⟩=some (.float .f64 lo)∧w'.cell? ⟨w.heap.size,1,none⟩=some (.float .f64 hi)∧w'.cell? ⟨w.heap.size+1,0,none⟩=some (.bool ag)∧w'.cell? ⟨w.heap.size+1,1,none⟩=some (.slice aa al ac)∧w'.cell? ⟨w.heap.size+1,2,none⟩=some (.int .i64 ae)∧w'.cell? ⟨w.heap.size+1+1,0,none⟩=some (.bool bg)∧w'.cell? ⟨w.heap.size+1+1,1,none⟩=some (.slice ba bl bc)∧w'.cell? ⟨w.heap.size+1+1,2,none⟩=some (.int .i64 be)) (first | with_reducible exact⟨E.x0,E.x1,E.a0,E.a1,E.a2,E.b0,E.b1,E.b2⟩ | go_keep)
       (first
         | (go_at_call 30;(with_reducible refine (cfA _).mono ?_);rintro _ W3 ⟨rfl,hb1⟩;replace E:=E.keep hb1;clear hb1)
         | (go_at_call 11;(with_reducible refine (clA _).mono ?_);rintro _ W4 ⟨⟨v4,rfl,N4⟩,hb1⟩;obtain⟨g4,a4,l4,k4,e4,rfl⟩:=N4.shape;replace E:=E.keep hb1;clear hb1)
         | (go_at_call 17;(with_reducible refine (cpA _ _ N4 E.nb').mono ?_);rintro _ W5 ⟨⟨v5,rfl,N5⟩,hb1⟩;obtain⟨g5,a5,l5,k5,e5,rfl⟩:=N5.shape;replace E:=E.keep hb1;clear hb1 N4)
         | (go_at_call 31;(with_reducible refine (coA _ _ N5 E.na').mono ?_);rintro _ W6 ⟨⟨z6,rfl,hz6⟩,hb1⟩;replace E:=E.keep hb1;clear hb1 N5))
     all_goals
       go_wp2_with fail
       go_meet
       case rel=>exact⟨rfl,E⟩
 case rest =>
 clear E cfA clA cpA coA
 obtain⟨rfl,E⟩:=hcut
 obtain⟨VV,rfl⟩:∃VV,VV=wc:=⟨_,rfl⟩
 go_upto_region 7 with fail
 go_cut [8] from 32 to 45 (fun s wx=>s=.bool true∧HqS w wx lo hi ⟨ag,aa,al,ac,ae⟩ ⟨bg,ba,bl,bc,be⟩ m K c d)
 case first =>
   cases hf:finB hi
   · rw [hf] at cfB
     have E0:=E
     obtain⟨x0,x1,x2,x3,x4⟩:=id E.x
     have kx0:=fun n:Behind VV=>n.cell x0 x4
     have kx1:=fun n:Behind VV=>n.cell x1 x4
     refine region_behind (by kernel_rfl) (by kernel_rfl) ?_
     repeat (go_big_quiet_step (first | (go_at_call 30;with_reducible refine Behind.call (cfB _))))
     refine wpQuiet_nil ?_
     rintro _ ⟨n,rfl⟩
     obtain⟨W,hb⟩:=n
     go_wp2_with fail
     go_meet
     case rel=>exact⟨rfl,E0.keep hb⟩
   · rw [hf] at cfB
     replace clB:=clB hf
     replace coB:=coB hf
     have HD:Below VV.heap.size VV VV.drew:=(Below.refl _ _).drew
     replace E:=E.keep HD
     clear HD
     go_region_held3 (fun w'=>w'.cell? ⟨w.heap.size,0,none⟩=some (.float .f64 lo)∧w'.cell? ⟨w.heap.size,1,none⟩=some (.float .f64 hi)∧w'.cell? ⟨w.heap.size+1,0,none⟩=some (.bool ag)∧w'.cell? ⟨w.heap.size+1,1,none⟩=some (.slice aa al ac)∧w'.cell? ⟨w.heap.size+1,2,none⟩=some (.int .i64 ae)∧w'.cell? ⟨w.heap.size+1+1,0,none⟩=some (.bool bg)∧w'.cell? ⟨w.heap.size+1+1,1,none⟩=some (.slice ba bl bc)∧w'.cell? ⟨w.heap.size+1+1,2,none⟩=some (.int .i64 be)) (first | with_reducible exact⟨E.x0,E.x1,E.a0,E.a1,E.a2,E.b0,E.b1,E.b2⟩ | go_keep)
       (first
         | (go_at_call 30;(with_reducible refine (cfB _).mono ?_);rintro _ W3 ⟨rfl,hb1⟩;replace E:=E.keep hb1;clear hb1)
         | (go_at_call 11;(with_reducible refine (clB _).mono ?_);rintro _ W4 ⟨⟨v4,rfl,N4⟩,hb1⟩;obtain⟨g4,a4,l4,k4,e4,rfl⟩:=N4.shape;replace E:=E.keep hb1;clear hb1)
         | (go_at_call 17;(with_reducible refine (cpB _ _ N4 E.nb').mono ?_);rintro _ W5 ⟨⟨v5,rfl,N5⟩,hb1⟩;obtain⟨g5,a5,l5,k5,e5,rfl⟩:=N5.shape;replace E:=E.keep hb1;clear hb1 N4)
         | (go_at_call 31;(with_reducible refine (coB _ _ N5 E.na').mono ?_);rintro _ W6 ⟨⟨z6,rfl,hz6⟩,hb1⟩;replace E:=E.keep hb1;clear hb1 N5))
     all_goals
       go_wp2_with fail
       go_meet
       case rel=>exact⟨rfl,E⟩
 case rest =>
 clear E cfB clB cpB coB
 obtain⟨rfl,E⟩:=hcut
 go_wp2_with fail
 go_ret
 exact⟨rfl,E.hb⟩
end Go.Proofs.YtgfppdboogldlaaGreat
