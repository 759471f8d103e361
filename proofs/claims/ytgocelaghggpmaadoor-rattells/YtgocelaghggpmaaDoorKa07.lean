/- The program's quotients (rat): what is made of two amounts; what has grown; turned round; which may be. The program's quotients (rat): what has grown; turned round; which may be. The program's reading of digits (rat.leading). -/
import Derived.Test.YtgocelaghggpmaaDoorKa06
import Derived.Deep.RegionHeld3
import Derived.Test.YtgocelaghggpmaaDoorKa03
namespace Go.Proofs.YtgocelaghggpmaaDoor
open Go.ChangeShapes Go.WideShapes Go.ChangeAt Go.RowKit
def mdV (g:Bool) (nh nl dh dl:Nat):Int×Int×Int:=if (decide (nh=0)&&decide (nl≤9223372036854775807))&&(decide (dh=0)&&decide (dl≤9223372036854775807)) then (sgnd g nl,(dl:Int),0) else (0,0,3)
set_option maxHeartbeats 1000000 in
theorem made_no (g:Bool) (nh nl dh dl:Nat) (b1 b2:Bool) (hb:(b1&&b2)=false)
   (c1:∀W,Calls Tryd.prog 103 #[.agg #[.int .u64 (nh:Int),.int .u64 (nl:Int)]] W fun r w'=>r=.returned (.bool b1)∧Below W.heap.size W w')
   (c2:∀W,Calls Tryd.prog 103 #[.agg #[.int .u64 (dh:Int),.int .u64 (dl:Int)]] W fun r w'=>r=.returned (.bool b2)∧Below W.heap.size W w') (w:World) :
   Calls Tryd.prog 50 #[.bool g,.agg #[.int .u64 (nh:Int),.int .u64 (nl:Int)],.agg #[.int .u64 (dh:Int),.int .u64 (dl:Int)]] w fun r w'=>r=.returned (.tuple #[.agg #[.int .i64 0,.int .i64 0],.int .i64 3])∧Below w.heap.size w w':=by
 have HB:Below w.heap.size w (((w.alloc (.cells #[.int .u64 (nh:Int),.int .u64 (nl:Int)] 92)).alloc (.cells #[.int .u64 (dh:Int),.int .u64 (dl:Int)] 92)).alloc (.cells #[.int .i64 0,.int .i64 0] 23)):=by go_grown
 have X:Has2 (((w.alloc (.cells #[.int .u64 (nh:Int),.int .u64 (nl:Int)] 92)).alloc (.cells #[.int .u64 (dh:Int),.int .u64 (dl:Int)] 92)).alloc (.cells #[.int .i64 0,.int .i64 0] 23)) w.heap.size (.int .u64 (nh:Int)) (.int .u64 (nl:Int)):=⟨by go_simp,by go_simp,by go_simp,by go_simp,by go_size⟩
 have Y:Has2 (((w.alloc (.cells #[.int .u64 (nh:Int),.int .u64 (nl:Int)] 92)).alloc (.cells #[.int .u64 (dh:Int),.int .u64 (dl:Int)] 92)).alloc (.cells #[.int .i64 0,.int .i64 0] 23)) (w.heap.size+1) (.int .u64 (dh:Int)) (.int .u64 (dl:Int)):=⟨by go_simp,by go_simp,by go_simp,by go_simp,by go_size⟩
 have Z:Has2 (((w.alloc (.cells #[.int .u64 (nh:Int),.int .u64 (nl:Int)] 92)).alloc (.cells #[.int .u64 (dh:Int),.int .u64 (dl:Int)] 92)).alloc (.cells #[.int .i64 0,.int .i64 0] 23)) (w.heap.size+1+1) (.int .i64 0) (.int .i64 0):=⟨by go_simp,by go_simp,by go_simp,by go_simp,by go_size⟩
 go_enter Tryd.func50,Tryd.ntmps50
 go_upto_region 1 with fail
 generalize (((w.alloc (.cells #[.int .u64 (nh:Int),.int .u64 (nl:Int)] 92)).alloc (.cells #[.int .u64 (dh:Int),.int .u64 (dl:Int)] 92)).alloc (.cells #[.int .i64 0,.int .i64 0] 23))=V1 at *
 obtain⟨x0,x1,x2,x3,x4⟩:=id X
 cases b1
 · go_wp2_with (go_at_call_of 103 (Value.agg #[.int .u64 (nh:Int),.int .u64 (nl:Int)]);(with_reducible refine (c1 _).mono ?_);rintro _ W1 ⟨rfl,hb1⟩;replace Z:=Z.keep hb1;replace HB:=later HB hb1;clear hb1;obtain⟨z0,z1,z2,z3,z4⟩:=id Z)
   refine bodyPost_ret (v:=.tuple #[.agg #[.int .i64 0,.int .i64 0],.int .i64 3]) (by simp [results,Tryd.results50,go_sem, *]) rfl ⟨rfl, ?_⟩
   repeat' (first | (with_reducible exact HB) | (with_reducible refine Below.setCell ?_ ?_ _) | go_size)
 · cases b2
   · go_wp2_with (first
       | (go_at_call_of 103 (Value.agg #[.int .u64 (nh:Int),.int .u64 (nl:Int)]);(with_reducible refine (c1 _).mono ?_);rintro _ W1 ⟨rfl,hb1⟩;replace Y:=Y.keep hb1;replace Z:=Z.keep hb1;replace HB:=later HB hb1;clear hb1;obtain⟨y0,y1,y2,y3,y4⟩:=id Y)
       | (go_at_call_of 103 (Value.agg #[.int .u64 (dh:Int),.int .u64 (dl:Int)]);(with_reducible refine (c2 _).mono ?_);rintro _ W2 ⟨rfl,hb1⟩;replace Z:=Z.keep hb1;replace HB:=later HB hb1;clear hb1;obtain⟨z0,z1,z2,z3,z4⟩:=id Z))
     refine bodyPost_ret (v:=.tuple #[.agg #[.int .i64 0,.int .i64 0],.int .i64 3]) (by simp [results,Tryd.results50,go_sem, *]) rfl ⟨rfl, ?_⟩
     repeat' (first | (with_reducible exact HB) | (with_reducible refine Below.setCell ?_ ?_ _) | go_size)
   · cases hb
set_option maxHeartbeats 1000000 in
theorem made_yes (g:Bool) (nh nl dh dl:Nat) (q:Int) (hq:q=sgnd g nl) (l1:nl≤9223372036854775807) (l2:dl≤9223372036854775807)
   (c1:∀W,Calls Tryd.prog 103 #[.agg #[.int .u64 (nh:Int),.int .u64 (nl:Int)]] W fun r w'=>r=.returned (.bool true)∧Below W.heap.size W w')
   (c2:∀W,Calls Tryd.prog 103 #[.agg #[.int .u64 (dh:Int),.int .u64 (dl:Int)]] W fun r w'=>r=.returned (.bool true)∧Below W.heap.size W w') (w:World) :
   Calls Tryd.prog 50 #[.bool g,.agg #[.int .u64 (nh:Int),.int .u64 (nl:Int)],.agg #[.int .u64 (dh:Int),.int .u64 (dl:Int)]] w fun r w'=>r=.returned (.tuple #[.agg #[.int .i64 q,.int .i64 (dl:Int)],.int .i64 0])∧Below w.heap.size w w':=by
 have HB:Below w.heap.size w (((w.alloc (.cells #[.int .u64 (nh:Int),.int .u64 (nl:Int)] 92)).alloc (.cells #[.int .u64 (dh:Int),.int .u64 (dl:Int)] 92)).alloc (.cells #[.int .i64 0,.int .i64 0] 23)):=by go_grown
 have X:Has2 (((w.alloc (.cells #[.int .u64 (nh:Int),.int .u64 (nl:Int)] 92)).alloc (.cells #[.int .u64 (dh:Int),.int .u64 (dl:Int)] 92)).alloc (.cells #[.int .i64 0,.int .i64 0] 23)) w.heap.size (.int .u64 (nh:Int)) (.int .u64 (nl:Int)):=⟨by go_simp,by go_simp,by go_simp,by go_simp,by go_size⟩
 have Y:Has2 (((w.alloc (.cells #[.int .u64 (nh:Int),.int .u64 (nl:Int)] 92)).alloc (.cells #[.int .u64 (dh:Int),.int .u64 (dl:Int)] 92)).alloc (.cells #[.int .i64 0,.int .i64 0] 23)) (w.heap.size+1) (.int .u64 (dh:Int)) (.int .u64 (dl:Int)):=⟨by go_simp,by go_simp,by go_simp,by go_simp,by go_size⟩
 have Z:Has2 (((w.alloc (.cells #[.int .u64 (nh:Int),.int .u64 (nl:Int)] 92)).alloc (.cells #[.int .u64 (dh:Int),.int .u64 (dl:Int)] 92)).alloc (.cells #[.int .i64 0,.int .i64 0] 23)) (w.heap.size+1+1) (.int .i64 0) (.int .i64 0):=⟨by go_simp,by go_simp,by go_simp,by go_simp,by go_size⟩
 have e1:IntKind.i64.wrap (nl:Int)=(nl:Int):=by rw [IntKind.wrap_i64];omega
 have e2:IntKind.i64.wrap (dl:Int)=(dl:Int):=by rw [IntKind.wrap_i64];omega
 have e3:IntKind.i64.wrap (-(nl:Int))=-(nl:Int):=by rw [IntKind.wrap_i64];omega
 go_enter Tryd.func50,Tryd.ntmps50
 go_upto_region 1 with fail
 generalize (((w.alloc (.cells #[.int .u64 (nh:Int),.int .u64 (nl:Int)] 92)).alloc (.cells #[.int .u64 (dh:Int),.int .u64 (dl:Int)] 92)).alloc (.cells #[.int .i64 0,.int .i64 0] 23))=V1 at *
 obtain⟨x0,x1,x2,x3,x4⟩:=id X
 cases g
 · have hq':q=(nl:Int):=hq
   subst hq'
   clear hq
   go_wp2_with (first
       | (go_at_call_of 103 (Value.agg #[.int .u64 (nh:Int),.int .u64 (nl:Int)]);(with_reducible refine (c1 _).mono ?_);rintro _ W1 ⟨rfl,hb1⟩;replace X:=X.keep hb1;replace Y:=Y.keep hb1;replace Z:=Z.keep hb1;replace HB:=later HB hb1;clear hb1;obtain⟨y0,y1,y2,y3,y4⟩:=id Y)
       | (go_at_call_of 103 (Value.agg #[.int .u64 (dh:Int),.int .u64 (dl:Int)]);(with_reducible refine (c2 _).mono ?_);rintro _ W2 ⟨rfl,hb1⟩;replace X:=X.keep hb1;replace Y:=Y.keep hb1;replace Z:=Z.keep hb1;replace HB:=later HB hb1;clear hb1;obtain⟨z0,z1,z2,z3,z4⟩:=id Z;obtain⟨s0,s1,s2,s3,s4⟩:=id X;obtain⟨t0,t1,t2,t3,t4⟩:=id Y))
   refine bodyPost_ret (v:=.tuple #[.agg #[.int .i64 (nl:Int),.int .i64 (dl:Int)],.int .i64 0]) (by simp [results,Tryd.results50,go_sem, *]) rfl ⟨rfl, ?_⟩
   refine later (W0:=(W2.setCell ⟨w.heap.size+1+1,0,none⟩ (.int .i64 (nl:Int))).setCell ⟨w.heap.size+1+1,1,none⟩ (.int .i64 (dl:Int))) ?_ (by go_grown)
   repeat' (first | (with_reducible exact HB) | (with_reducible refine Below.setCell ?_ ?_ _) | go_size)
 · have hq':q=-(nl:Int):=hq
   subst hq'
   clear hq
   go_wp2_with (first
       | (go_at_call_of 103 (Value.agg #[.int .u64 (nh:Int),.int .u64 (nl:Int)]);(with_reducible refine (c1 _).mono ?_);rintro _ W1 ⟨rfl,hb1⟩;replace X:=X.keep hb1;replace Y:=Y.keep hb1;replace Z:=Z.keep hb1;replace HB:=later HB hb1;clear hb1;obtain⟨y0,y1,y2,y3,y4⟩:=id Y)
       | (go_at_call_of 103 (Value.agg #[.int .u64 (dh:Int),.int .u64 (dl:Int)]);(with_reducible refine (c2 _).mono ?_);rintro _ W2 ⟨rfl,hb1⟩;replace X:=X.keep hb1;replace Y:=Y.keep hb1;replace Z:=Z.keep hb1;replace HB:=later HB hb1;clear hb1;obtain⟨z0,z1,z2,z3,z4⟩:=id Z;obtain⟨s0,s1,s2,s3,s4⟩:=id X;obtain⟨t0,t1,t2,t3,t4⟩:=id Y))
   refine bodyPost_ret (v:=.tuple #[.agg #[.int .i64 (-(nl:Int)),.int .i64 (dl:Int)],.int .i64 0]) (by simp [results,Tryd.results50,go_sem, *]) rfl ⟨rfl, ?_⟩
   refine later (W0:=(W2.setCell ⟨w.heap.size+1+1,0,none⟩ (.int .i64 (-(nl:Int)))).setCell ⟨w.heap.size+1+1,1,none⟩ (.int .i64 (dl:Int))) ?_ (by go_grown)
   repeat' (first | (with_reducible exact HB) | (with_reducible refine Below.setCell ?_ ?_ _) | go_size)
theorem made_w (g:Bool) (nh nl dh dl:Nat) (w:World) :
   Calls Tryd.prog 50 #[.bool g,.agg #[.int .u64 (nh:Int),.int .u64 (nl:Int)],.agg #[.int .u64 (dh:Int),.int .u64 (dl:Int)]] w fun r w'=>r=.returned (.tuple #[.agg #[.int .i64 (mdV g nh nl dh dl).1,.int .i64 (mdV g nh nl dh dl).2.1],.int .i64 (mdV g nh nl dh dl).2.2])∧Below w.heap.size w w':=by
 have c1:=fun W=>wroom_w nh nl W
 have c2:=fun W=>wroom_w dh dl W
 by_cases c:((decide (nh=0)&&decide (nl≤9223372036854775807))&&(decide (dh=0)&&decide (dl≤9223372036854775807)))=true
 · have e:mdV g nh nl dh dl=(sgnd g nl,(dl:Int),0):=by unfold mdV;rw [if_pos c]
   rw [e]
   obtain⟨k1,k2⟩:=Bool.and_eq_true_iff.1 c
   rw [k1] at c1
   rw [k2] at c2
   have m1:=(Bool.and_eq_true_iff.1 k1).2
   have m2:=(Bool.and_eq_true_iff.1 k2).2
   exact made_yes g nh nl dh dl _ rfl (of_decide_eq_true m1) (of_decide_eq_true m2) c1 c2 w
 · have e:mdV g nh nl dh dl=(0,0,3):=by unfold mdV;rw [if_neg c]
   rw [e]
   exact made_no g nh nl dh dl _ _ (by simpa using c) c1 c2 w
def grN (f:Nat):Nat→Nat→Nat
 | 0,F=>F
 | n+1,F=>if F<9223372036854775808 then grN f n (F*f) else F
theorem grN_big {f n F:Nat} (h:¬F<9223372036854775808):grN f n F=F:=by
 cases n with
 | zero=>rfl
 | succ n=>unfold grN;rw [if_neg h]
theorem grN_succ {f n F:Nat} (h:F<9223372036854775808):grN f (n+1) F=grN f n (F*f):=by
 rw [grN,if_pos h]
theorem grN_is {f:Nat}:∀(n F:Nat),F<9223372036854775808→(grN f n F<9223372036854775808∧grN f n F=F*f^n)∨(9223372036854775808≤grN f n F∧9223372036854775808≤F*f^n)
 | 0,F,h=>Or.inl ⟨h,by rw [Nat.pow_zero,Nat.mul_one];rfl⟩
 | n+1,F,h=>by
   rw [grN_succ h,Nat.pow_succ,Nat.mul_comm (f^n),←Nat.mul_assoc]
   by_cases c:F*f<9223372036854775808
   · exact grN_is n (F*f) c
   · rw [grN_big c]
     refine Or.inr ⟨by omega, ?_⟩
     have hf:0<f:=by rcases Nat.eq_zero_or_pos f with z | z;(rw [z] at c;omega);exact z
     have:=Nat.mul_le_mul (show 9223372036854775808≤F*f by omega) (Nat.pow_pos (n:=n) hf)
     omega
theorem grN_lt {f:Nat} (hf:f<18446744073709551616):∀(n F:Nat),F<340282366920938463463374607431768211456→grN f n F<340282366920938463463374607431768211456
 | 0,F,h=>h
 | n+1,F,h=>by
   by_cases c:F<9223372036854775808
   · rw [grN_succ c]
     refine grN_lt hf n _ ?_
     have:=Nat.mul_lt_mul'' c hf
     omega
   · rw [grN_big c];exact h
theorem sg_room {h l F:Nat} (S:Sg h l (F:Int)) (hF:F<340282366920938463463374607431768211456):(decide (h=0)&&decide (l≤9223372036854775807))=decide (F<9223372036854775808)∧(F<9223372036854775808→h=0∧l=F):=by
 have hn:=S.nat (by omega) (by omega)
 obtain⟨s1,s2, -⟩:=S
 by_cases c:F<9223372036854775808
 · have e1:h=0:=by omega
   have e2:l=F:=by omega
   refine⟨?_,fun _=>⟨e1,e2⟩⟩
   rw [decide_eq_true c,decide_eq_true e1,decide_eq_true (by omega)]
   rfl
 · refine⟨?_,fun q=>absurd q c⟩
   rw [decide_eq_false c]
   by_cases e1:h=0
   · rw [decide_eq_true e1,decide_eq_false (by omega)];rfl
   · rw [decide_eq_false e1];rfl
set_option maxHeartbeats 2000000 in
theorem grown_w (h l f F H L:Nat) (n:Int) (hn:n≤1000000) (hf:f<18446744073709551616) (hF:F<340282366920938463463374607431768211456) (S:Sg h l (F:Int)) (S':Sg H L ((grN f n.toNat F:Nat):Int)) (w:World) :
   Calls Tryd.prog 51 #[.agg #[.int .u64 (h:Int),.int .u64 (l:Int)],.int .u64 (f:Int),.int .i64 n] w fun r w'=>r=.returned (.agg #[.int .u64 (H:Int),.int .u64 (L:Int)])∧Below w.heap.size w w':=by
 have HB:Below w.heap.size w ((w.alloc (.cells #[.int .u64 (h:Int),.int .u64 (l:Int)] 92)).alloc (.cells #[.int .u64 0,.int .u64 0] 92)):=by go_grown
 have X:Has2 ((w.alloc (.cells #[.int .u64 (h:Int),.int .u64 (l:Int)] 92)).alloc (.cells #[.int .u64 0,.int .u64 0] 92)) w.heap.size (.int .u64 (h:Int)) (.int .u64 (l:Int)):=⟨by go_simp,by go_simp,by go_simp,by go_simp,by go_size⟩
 have Z:Has2 ((w.alloc (.cells #[.int .u64 (h:Int),.int .u64 (l:Int)] 92)).alloc (.cells #[.int .u64 0,.int .u64 0] 92)) (w.heap.size+1) (.int .u64 0) (.int .u64 0):=⟨by go_simp,by go_simp,by go_simp,by go_simp,by go_size⟩
 have H0:Hid (F<340282366920938463463374607431768211456∧Sg h l (F:Int)∧grN f (n.toNat-0) F=grN f n.toNat F):=⟨hF,S,rfl⟩
 have HE:Hid (∀h' l' F',Sg h' l' ((F':Nat):Int)→F'=grN f n.toNat F→h'=H∧l'=L):=fun h' l' F' s e=>by
   subst e
   exact s.uniq S'
 obtain⟨N,hN⟩:∃N,N=n.toNat:=⟨_,rfl⟩
 rw [←hN] at H0 HE
 have nk:∀k:Nat,(k:Int)<n→k<N:=fun k q=>by omega
 have kn:∀k:Nat,¬(k:Int)<n→N≤k:=fun k q=>by omega
 clear S S' hF hN
 go_enter Tryd.func51,Tryd.ntmps51
 go_upto_region 2 with fail
 generalize ((w.alloc (.cells #[.int .u64 (h:Int),.int .u64 (l:Int)] 92)).alloc (.cells #[.int .u64 0,.int .u64 0] 92))=V1 at *
 go_loopg [8] (N:Nat) (fun G s8 wx=>∃(k h' l' F':Nat),s8=.int .i64 (k:Int)∧k≤N∧N≤k+G∧Below w.heap.size w wx∧Has2 wx w.heap.size (.int .u64 (h':Int)) (.int .u64 (l':Int))∧Has2 wx (w.heap.size+1) (.int .u64 0) (.int .u64 0)∧Hid (F'<340282366920938463463374607431768211456∧Sg h' l' (F':Int)∧grN f (N-k) F'=grN f N F))
 case atStart=>exact⟨0,h,l,F,rfl,by omega,by omega,HB,X,Z,H0⟩
 case round =>
   clear X Z HB H0
   obtain⟨k,h',l',F',rfl,hk,hG,HB,X,Z,HI⟩:=hrel
   obtain⟨x0,x1,x2,x3,x4⟩:=id X
   obtain⟨z0,z1,z2,z3,z4⟩:=id Z
   by_cases c:(k:Int)<n
   · have c':=nk k c
     obtain⟨i1,i2,i3⟩:=HI.out
     obtain⟨r1,r2⟩:=sg_room i2 i1
     have cr:=fun W=>wroom_w h' l' W
     rw [r1] at cr
     by_cases cF:F'<9223372036854775808
     · obtain⟨e1,e2⟩:=r2 cF
       rw [decide_eq_true cF] at cr
       obtain⟨H2,L2,S2⟩:=sg_ex ((l':Int)*(f:Int))
       have cp:=fun W=>wprod_w l' f H2 L2 (by omega) hf S2 W
       have HN:Hid (F'*f<340282366920938463463374607431768211456∧Sg H2 L2 ((F'*f:Nat):Int)∧grN f (N-(k+1)) (F'*f)=grN f N F):=by
         refine⟨?_, ?_, ?_⟩
         · have:=Nat.mul_lt_mul'' cF hf
           omega
         · rw [Int.natCast_mul,←e2];exact S2
         · rw [←i3,show N-k=N-(k+1)+1 by omega,grN_succ cF]
       clear HI i1 i2 i3 r1 r2 cF e1 e2 S2 HE
       generalize F'*f=F2 at *
       go_wp2_with (first
         | (go_at_call 103;(with_reducible refine (cr _).mono ?_);rintro _ W1 ⟨rfl,hb1⟩;replace X:=X.keep hb1;replace Z:=Z.keep hb1;replace HB:=later HB hb1;clear hb1 x0 x1 x2 x3 x4;obtain⟨x0,x1,x2,x3,x4⟩:=id X)
         | (go_at_call 104;(with_reducible refine (cp _).mono ?_);rintro _ W2 ⟨rfl,hb1⟩;replace X:=X.keep hb1;replace Z:=Z.keep hb1;replace HB:=later HB hb1;clear hb1 x0 x1 x2 x3 x4;obtain⟨x0,x1,x2,x3,x4⟩:=id X))
       (go_roundg (gk-1)
        case measure=>omega
        case rel=>exact⟨k+1,H2,L2,F2,congrArg (Value.int .i64) (show (k:Int)+1=((k+1:Nat):Int) by omega),by omega,by omega,by (repeat' (first | (with_reducible exact HB) | (with_reducible refine Below.setCell ?_ ?_ _) | go_size)),X.put _ _,Z.far (by omega) _ _,HN⟩)
     · rw [decide_eq_false cF] at cr
       obtain⟨v1,v2⟩:=HE.out h' l' F' i2 (by rw [←i3,grN_big cF])
       subst v1 v2
       clear HI i1 i2 i3 r1 r2 cF HE
       go_wp2_with (go_at_call 103;(with_reducible refine (cr _).mono ?_);rintro _ W1 ⟨rfl,hb1⟩;replace X:=X.keep hb1;replace Z:=Z.keep hb1;replace HB:=later HB hb1;clear hb1 x0 x1 x2 x3 x4 z0 z1 z2 z3 z4;obtain⟨x0,x1,x2,x3,x4⟩:=id X;obtain⟨z0,z1,z2,z3,z4⟩:=id Z)
       refine bodyPost_ret (v:=.agg #[.int .u64 (h':Int),.int .u64 (l':Int)]) (by simp [results,Tryd.results51,go_sem, *]) rfl ⟨rfl, ?_⟩
       repeat' (first | (with_reducible exact HB) | (with_reducible refine Below.setCell ?_ ?_ _) | go_size)
   · have c':N≤k:=kn k (by omega)
     obtain⟨i1,i2,i3⟩:=HI.out
     obtain⟨v1,v2⟩:=HE.out h' l' F' i2 (by rw [←i3,show N-k=0 by omega];rfl)
     subst v1 v2
     clear HI i1 i2 i3 HE
     go_wp2_with fail
     refine bodyPost_ret (v:=.agg #[.int .u64 (h':Int),.int .u64 (l':Int)]) (by simp [results,Tryd.results51,go_sem, *]) rfl ⟨rfl, ?_⟩
     repeat' (first | (with_reducible exact HB) | (with_reducible refine Below.setCell ?_ ?_ _) | go_size)
theorem upto_ge (s:ByteArray) (k:Nat):k≤uptoN s k:=by unfold uptoN;omega
def ldN (s:ByteArray) (lim:Nat):Nat:=min lim (uptoN s 0)
set_option maxHeartbeats 2000000 in
theorem leading_w (s:ByteArray) (lim:Nat) (hl:lim≤1000) (hs:(s.size:Int)≤9223372036854775807) (w:World) :
   Calls Tryd.prog 19 #[.string s,.int .i64 (lim:Int)] w fun e w'=>e=.returned (.tuple #[.string (s.extract 0 (ldN s lim)),.string (s.extract (ldN s lim) s.size)])∧Below w.heap.size w w':=by
 obtain⟨u,hU⟩:∃u,Hid (uptoN s 0=u):=⟨_,rfl⟩
 obtain⟨n,hn⟩:∃n,Hid (ldN s lim=n):=⟨_,rfl⟩
 have HN:Hid (min lim u=n):=by show _=_;rw [←hU.out];exact hn.out
 rw [hn.out]
 clear hn
 go_enter Tryd.func19,Tryd.ntmps19
 go_upto_region 2 with fail
 go_loopg [6] s.size (fun G s1 wx=>∃i:Nat,s1=.int .i64 (i:Int)∧i≤s.size∧i+G=s.size∧i≤lim∧w=wx∧Hid (uptoN s i=u))
 case atStart=>exact⟨0,rfl,by omega,by omega,by omega,rfl,hU⟩
 case round =>
   clear hU
   obtain⟨i,rfl,hi,hG,hil,rfl,H⟩:=hrel
   have hil':(i:Int)≤(s.size:Int):=by omega
   by_cases c:i<s.size
   · have ci:(i:Int)<(s.size:Int):=by omega
     by_cases c2:i<lim
     · have ci2:(i:Int)<(lim:Int):=by omega
       by_cases d1:48≤(s[i].toNat:Int)
       · by_cases d2:(s[i].toNat:Int)≤57
         · have H2:Hid (uptoN s (i+1)=u):=by
             show _=_
             rw [←upto_step c (by unfold isDg;rw [decide_eq_true d1,decide_eq_true d2];rfl)]
             exact H.out
           clear H
           go_wp2_with fail
           (go_roundg (s.size-i-1)
            case measure=>omega
            case rel=>exact⟨i+1,by go_num,by omega,by omega,by omega,rfl,H2⟩)
         · have e:i=n:=by have h1:=H.out;have h2:=HN.out;rw [upto_stop c (by unfold isDg;rw [decide_eq_true d1,decide_eq_false d2];rfl)] at h1;omega
           subst e
           clear H HN
           go_wp2_with fail
           go_region
           all_goals
             go_wp2_with fail
             go_ret2
             exact⟨rfl,(Below.refl _ _).drew⟩
       · have e:i=n:=by have h1:=H.out;have h2:=HN.out;rw [upto_stop c (by unfold isDg;rw [decide_eq_false d1];rfl)] at h1;omega
         subst e
         clear H HN
         go_wp2_with fail
         go_region
         all_goals
           go_wp2_with fail
           go_ret2
           exact⟨rfl,(Below.refl _ _).drew⟩
     · have ci2:¬(i:Int)<(lim:Int):=by omega
       have e:i=n:=by have h1:=H.out;have h2:=HN.out;have h3:=upto_ge s i;omega
       subst e
       clear H HN
       go_wp2_with fail
       go_region
       all_goals
         go_wp2_with fail
         go_ret2
         exact⟨rfl,(Below.refl _ _).drew⟩
   · have ci:¬(i:Int)<(s.size:Int):=by omega
     have e:i=n:=by have h1:=H.out;have h2:=HN.out;rw [upto_end c] at h1;omega
     subst e
     clear H HN
     go_wp2_with fail
     go_region
     all_goals
       go_wp2_with fail
       go_ret2
       exact⟨rfl,(Below.refl _ _).drew⟩
end Go.Proofs.YtgocelaghggpmaaDoor
