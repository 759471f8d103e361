/- The program's quotients (rat): what is made of two amounts; what has grown; turned round; which may be. The program's quotients (rat): what has grown; turned round; which may be. -/
import Derived.Test.YtdnpoacjamkhkaaJt08
import Derived.Test.YtdnpoacjamkhkaaJt18
namespace Go.Proofs.Ytdnpoacjamkhkaa
open Go.ChangeShapes Go.WideShapes Go.ChangeAt Go.RowKit
def mdV (g:Bool) (nh nl dh dl:Nat):Int×Int×Int:=if (decide (nh=0)&&decide (nl≤9223372036854775807))&&(decide (dh=0)&&decide (dl≤9223372036854775807)) then (sgnd g nl,(dl:Int),0) else (0,0,3)
set_option maxHeartbeats 1000000 in
theorem made_no (g:Bool) (nh nl dh dl:Nat) (b1 b2:Bool) (hb:(b1&&b2)=false)
   (c1:∀W,Calls Try.prog 72 #[.agg #[.int .u64 (nh:Int),.int .u64 (nl:Int)]] W fun r w'=>r=.returned (.bool b1)∧Below W.heap.size W w')
   (c2:∀W,Calls Try.prog 72 #[.agg #[.int .u64 (dh:Int),.int .u64 (dl:Int)]] W fun r w'=>r=.returned (.bool b2)∧Below W.heap.size W w') (w:World) :
   Calls Try.prog 38 #[.bool g,.agg #[.int .u64 (nh:Int),.int .u64 (nl:Int)],.agg #[.int .u64 (dh:Int),.int .u64 (dl:Int)]] w fun r w'=>r=.returned (.tuple #[.agg #[.int .i64 0,.int .i64 0],.int .i64 3])∧Below w.heap.size w w':=by
 have HB:Below w.heap.size w (((w.alloc (.cells #[.int .u64 (nh:Int),.int .u64 (nl:Int)] 55)).alloc (.cells #[.int .u64 (dh:Int),.int .u64 (dl:Int)] 55)).alloc (.cells #[.int .i64 0,.int .i64 0] 23)):=by go_grown
 have X:Has2 (((w.alloc (.cells #[.int .u64 (nh:Int),.int .u64 (nl:Int)] 55)).alloc (.cells #[.int .u64 (dh:Int),.int .u64 (dl:Int)] 55)).alloc (.cells #[.int .i64 0,.int .i64 0] 23)) w.heap.size (.int .u64 (nh:Int)) (.int .u64 (nl:Int)):=⟨by go_simp,by go_simp,by go_simp,by go_simp,by go_size⟩
 have Y:Has2 (((w.alloc (.cells #[.int .u64 (nh:Int),.int .u64 (nl:Int)] 55)).alloc (.cells #[.int .u64 (dh:Int),.int .u64 (dl:Int)] 55)).alloc (.cells #[.int .i64 0,.int .i64 0] 23)) (w.heap.size+1) (.int .u64 (dh:Int)) (.int .u64 (dl:Int)):=⟨by go_simp,by go_simp,by go_simp,by go_simp,by go_size⟩
 have Z:Has2 (((w.alloc (.cells #[.int .u64 (nh:Int),.int .u64 (nl:Int)] 55)).alloc (.cells #[.int .u64 (dh:Int),.int .u64 (dl:Int)] 55)).alloc (.cells #[.int .i64 0,.int .i64 0] 23)) (w.heap.size+1+1) (.int .i64 0) (.int .i64 0):=⟨by go_simp,by go_simp,by go_simp,by go_simp,by go_size⟩
 go_enter Try.func38,Try.ntmps38
 go_upto_region 1 with fail
 generalize (((w.alloc (.cells #[.int .u64 (nh:Int),.int .u64 (nl:Int)] 55)).alloc (.cells #[.int .u64 (dh:Int),.int .u64 (dl:Int)] 55)).alloc (.cells #[.int .i64 0,.int .i64 0] 23))=V1 at *
 obtain⟨x0,x1,x2,x3,x4⟩:=id X
 cases b1
 · go_wp2_with (go_at_call_of 72 (Value.agg #[.int .u64 (nh:Int),.int .u64 (nl:Int)]);(with_reducible refine (c1 _).mono ?_);rintro _ W1 ⟨rfl,hb1⟩;replace Z:=Z.keep hb1;replace HB:=later HB hb1;clear hb1;obtain⟨z0,z1,z2,z3,z4⟩:=id Z)
   refine bodyPost_ret (v:=.tuple #[.agg #[.int .i64 0,.int .i64 0],.int .i64 3]) (by simp [results,Try.results38,go_sem, *]) rfl ⟨rfl, ?_⟩
   repeat' (first | (with_reducible exact HB) | (with_reducible refine Below.setCell ?_ ?_ _) | go_size)
 · cases b2
   · go_wp2_with (first
       | (go_at_call_of 72 (Value.agg #[.int .u64 (nh:Int),.int .u64 (nl:Int)]);(with_reducible refine (c1 _).mono ?_);rintro _ W1 ⟨rfl,hb1⟩;replace Y:=Y.keep hb1;replace Z:=Z.keep hb1;replace HB:=later HB hb1;clear hb1;obtain⟨y0,y1,y2,y3,y4⟩:=id Y)
       | (go_at_call_of 72 (Value.agg #[.int .u64 (dh:Int),.int .u64 (dl:Int)]);(with_reducible refine (c2 _).mono ?_);rintro _ W2 ⟨rfl,hb1⟩;replace Z:=Z.keep hb1;replace HB:=later HB hb1;clear hb1;obtain⟨z0,z1,z2,z3,z4⟩:=id Z))
     refine bodyPost_ret (v:=.tuple #[.agg #[.int .i64 0,.int .i64 0],.int .i64 3]) (by simp [results,Try.results38,go_sem, *]) rfl ⟨rfl, ?_⟩
     repeat' (first | (with_reducible exact HB) | (with_reducible refine Below.setCell ?_ ?_ _) | go_size)
   · cases hb
set_option maxHeartbeats 1000000 in
theorem made_yes (g:Bool) (nh nl dh dl:Nat) (q:Int) (hq:q=sgnd g nl) (l1:nl≤9223372036854775807) (l2:dl≤9223372036854775807)
   (c1:∀W,Calls Try.prog 72 #[.agg #[.int .u64 (nh:Int),.int .u64 (nl:Int)]] W fun r w'=>r=.returned (.bool true)∧Below W.heap.size W w')
   (c2:∀W,Calls Try.prog 72 #[.agg #[.int .u64 (dh:Int),.int .u64 (dl:Int)]] W fun r w'=>r=.returned (.bool true)∧Below W.heap.size W w') (w:World) :
   Calls Try.prog 38 #[.bool g,.agg #[.int .u64 (nh:Int),.int .u64 (nl:Int)],.agg #[.int .u64 (dh:Int),.int .u64 (dl:Int)]] w fun r w'=>r=.returned (.tuple #[.agg #[.int .i64 q,.int .i64 (dl:Int)],.int .i64 0])∧Below w.heap.size w w':=by
 have HB:Below w.heap.size w (((w.alloc (.cells #[.int .u64 (nh:Int),.int .u64 (nl:Int)] 55)).alloc (.cells #[.int .u64 (dh:Int),.int .u64 (dl:Int)] 55)).alloc (.cells #[.int .i64 0,.int .i64 0] 23)):=by go_grown
 have X:Has2 (((w.alloc (.cells #[.int .u64 (nh:Int),.int .u64 (nl:Int)] 55)).alloc (.cells #[.int .u64 (dh:Int),.int .u64 (dl:Int)] 55)).alloc (.cells #[.int .i64 0,.int .i64 0] 23)) w.heap.size (.int .u64 (nh:Int)) (.int .u64 (nl:Int)):=⟨by go_simp,by go_simp,by go_simp,by go_simp,by go_size⟩
 have Y:Has2 (((w.alloc (.cells #[.int .u64 (nh:Int),.int .u64 (nl:Int)] 55)).alloc (.cells #[.int .u64 (dh:Int),.int .u64 (dl:Int)] 55)).alloc (.cells #[.int .i64 0,.int .i64 0] 23)) (w.heap.size+1) (.int .u64 (dh:Int)) (.int .u64 (dl:Int)):=⟨by go_simp,by go_simp,by go_simp,by go_simp,by go_size⟩
 have Z:Has2 (((w.alloc (.cells #[.int .u64 (nh:Int),.int .u64 (nl:Int)] 55)).alloc (.cells #[.int .u64 (dh:Int),.int .u64 (dl:Int)] 55)).alloc (.cells #[.int .i64 0,.int .i64 0] 23)) (w.heap.size+1+1) (.int .i64 0) (.int .i64 0):=⟨by go_simp,by go_simp,by go_simp,by go_simp,by go_size⟩
 have e1:IntKind.i64.wrap (nl:Int)=(nl:Int):=by rw [IntKind.wrap_i64];omega
 have e2:IntKind.i64.wrap (dl:Int)=(dl:Int):=by rw [IntKind.wrap_i64];omega
 have e3:IntKind.i64.wrap (-(nl:Int))=-(nl:Int):=by rw [IntKind.wrap_i64];omega
 go_enter Try.func38,Try.ntmps38
 go_upto_region 1 with fail
 generalize (((w.alloc (.cells #[.int .u64 (nh:Int),.int .u64 (nl:Int)] 55)).alloc (.cells #[.int .u64 (dh:Int),.int .u64 (dl:Int)] 55)).alloc (.cells #[.int .i64 0,.int .i64 0] 23))=V1 at *
 obtain⟨x0,x1,x2,x3,x4⟩:=id X
 cases g
 · have hq':q=(nl:Int):=hq
   subst hq'
   clear hq
   go_wp2_with (first
       | (go_at_call_of 72 (Value.agg #[.int .u64 (nh:Int),.int .u64 (nl:Int)]);(with_reducible refine (c1 _).mono ?_);rintro _ W1 ⟨rfl,hb1⟩;replace X:=X.keep hb1;replace Y:=Y.keep hb1;replace Z:=Z.keep hb1;replace HB:=later HB hb1;clear hb1;obtain⟨y0,y1,y2,y3,y4⟩:=id Y)
       | (go_at_call_of 72 (Value.agg #[.int .u64 (dh:Int),.int .u64 (dl:Int)]);(with_reducible refine (c2 _).mono ?_);rintro _ W2 ⟨rfl,hb1⟩;replace X:=X.keep hb1;replace Y:=Y.keep hb1;replace Z:=Z.keep hb1;replace HB:=later HB hb1;clear hb1;obtain⟨z0,z1,z2,z3,z4⟩:=id Z;obtain⟨s0,s1,s2,s3,s4⟩:=id X;obtain⟨t0,t1,t2,t3,t4⟩:=id Y))
   refine bodyPost_ret (v:=.tuple #[.agg #[.int .i64 (nl:Int),.int .i64 (dl:Int)],.int .i64 0]) (by simp [results,Try.results38,go_sem, *]) rfl ⟨rfl, ?_⟩
   refine later (W0:=(W2.setCell ⟨w.heap.size+1+1,0,none⟩ (.int .i64 (nl:Int))).setCell ⟨w.heap.size+1+1,1,none⟩ (.int .i64 (dl:Int))) ?_ (by go_grown)
   repeat' (first | (with_reducible exact HB) | (with_reducible refine Below.setCell ?_ ?_ _) | go_size)
 · have hq':q=-(nl:Int):=hq
   subst hq'
   clear hq
   go_wp2_with (first
       | (go_at_call_of 72 (Value.agg #[.int .u64 (nh:Int),.int .u64 (nl:Int)]);(with_reducible refine (c1 _).mono ?_);rintro _ W1 ⟨rfl,hb1⟩;replace X:=X.keep hb1;replace Y:=Y.keep hb1;replace Z:=Z.keep hb1;replace HB:=later HB hb1;clear hb1;obtain⟨y0,y1,y2,y3,y4⟩:=id Y)
       | (go_at_call_of 72 (Value.agg #[.int .u64 (dh:Int),.int .u64 (dl:Int)]);(with_reducible refine (c2 _).mono ?_);rintro _ W2 ⟨rfl,hb1⟩;replace X:=X.keep hb1;replace Y:=Y.keep hb1;replace Z:=Z.keep hb1;replace HB:=later HB hb1;clear hb1;obtain⟨z0,z1,z2,z3,z4⟩:=id Z;obtain⟨s0,s1,s2,s3,s4⟩:=id X;obtain⟨t0,t1,t2,t3,t4⟩:=id Y))
   refine bodyPost_ret (v:=.tuple #[.agg #[.int .i64 (-(nl:Int)),.int .i64 (dl:Int)],.int .i64 0]) (by simp [results,Try.results38,go_sem, *]) rfl ⟨rfl, ?_⟩
   refine later (W0:=(W2.setCell ⟨w.heap.size+1+1,0,none⟩ (.int .i64 (-(nl:Int)))).setCell ⟨w.heap.size+1+1,1,none⟩ (.int .i64 (dl:Int))) ?_ (by go_grown)
   repeat' (first | (with_reducible exact HB) | (with_reducible refine Below.setCell ?_ ?_ _) | go_size)
theorem made_w (g:Bool) (nh nl dh dl:Nat) (w:World) :
   Calls Try.prog 38 #[.bool g,.agg #[.int .u64 (nh:Int),.int .u64 (nl:Int)],.agg #[.int .u64 (dh:Int),.int .u64 (dl:Int)]] w fun r w'=>r=.returned (.tuple #[.agg #[.int .i64 (mdV g nh nl dh dl).1,.int .i64 (mdV g nh nl dh dl).2.1],.int .i64 (mdV g nh nl dh dl).2.2])∧Below w.heap.size w w':=by
 have c1:=fun W=>wroom_w nh nl W
 have c2:=fun W=>wroom_w dh dl W
 by_cases c:((decide (nh=0)&&decide (nl≤9223372036854775807))&&(decide (dh=0)&&decide (dl≤9223372036854775807)))=true
 · have e:mdV g nh nl dh dl=(sgnd g nl,(dl:Int),0):=by unfold mdV;rw [if_pos c]
   rw [e]
   obtain⟨k1,k2⟩:=Bool.and_eq_true_iff.1 c
   rw [k1] at c1
   rw [k2] at c2
   have m1:=(Bool.and_eq_true_iff.1 k1).2
   have m2:=(Bool.and_eq_true_iff.1 k2).2
   exact made_yes g nh nl dh dl _ rfl (of_decide_eq_true m1) (of_decide_eq_true m2) c1 c2 w
 · have e:mdV g nh nl dh dl=(0,0,3):=by unfold mdV;rw [if_neg c]
   rw [e]
   exact made_no g nh nl dh dl _ _ (by simpa using c) c1 c2 w
theorem sg_room {h l F:Nat} (S:Sg h l (F:Int)) (hF:F<340282366920938463463374607431768211456):(decide (h=0)&&decide (l≤9223372036854775807))=decide (F<9223372036854775808)∧(F<9223372036854775808→h=0∧l=F):=by
 have hn:=S.nat (by omega) (by omega)
 obtain⟨s1,s2, -⟩:=S
 by_cases c:F<9223372036854775808
 · have e1:h=0:=by omega
   have e2:l=F:=by omega
   refine⟨?_,fun _=>⟨e1,e2⟩⟩
   rw [decide_eq_true c,decide_eq_true e1,decide_eq_true (by omega)]
   rfl
 · refine⟨?_,fun q=>absurd q c⟩
   rw [decide_eq_false c]
   by_cases e1:h=0
   · rw [decide_eq_true e1,decide_eq_false (by omega)];rfl
   · rw [decide_eq_false e1];rfl
set_option maxHeartbeats 1000000 in
theorem rright_w11 (N D:Int) (hN:I64 N) (hD:I64 D) (w:World) :
   Calls Try.prog 12 #[.agg #[.int .i64 N,.int .i64 D]] w fun r w'=>r=.returned (.bool (rightR N D))∧Below w.heap.size w w':=by
 have X:=has2_new w (.int .i64 N) (.int .i64 D) 23
 have HB:Below w.heap.size w (w.alloc (.cells #[.int .i64 N,.int .i64 D] 23)):=by go_grown
 obtain⟨x0,x1,x2,x3,x4⟩:=id X
 by_cases c1:1≤D
 · by_cases c2:N=-9223372036854775808
   · have e:rightR N D=false:=by unfold rightR;rw [decide_eq_false (show ¬N≠-9223372036854775808 from fun q=>q c2)];simp
     rw [e]
     clear e
     subst c2
     go_enter Try.func12,Try.ntmps12
     go_upto_region 1 with fail
     generalize (w.alloc (.cells #[.int .i64 (-9223372036854775808),.int .i64 D] 23))=V1 at *
     go_quiet (fail)
     go_wp2_with fail
     go_ret
     exact⟨by simp,below_drewN HB _⟩
   · have c2':-9223372036854775807≤N:=by have:=hN.1;omega
     have ca:=fun W=>ramount_w N hN.1 hN.2 W
     have cb:=fun W=>ramount_w D hD.1 hD.2 W
     have cg:=fun W=>rdivisor_w N.natAbs D.natAbs W
     have e:rightR N D=decide (Nat.gcd N.natAbs D.natAbs=1):=by unfold rightR;rw [decide_eq_true c1,decide_eq_true (show N≠-9223372036854775808 from c2)];simp
     rw [e]
     have e2:(((Nat.gcd N.natAbs D.natAbs:Nat):Int)==1)=decide (Nat.gcd N.natAbs D.natAbs=1):=by
       by_cases q:Nat.gcd N.natAbs D.natAbs=1
       · rw [decide_eq_true q]
         have:((Nat.gcd N.natAbs D.natAbs:Nat):Int)=1:=by omega
         rw [beq_iff_eq];exact this
       · rw [decide_eq_false q]
         have:¬((Nat.gcd N.natAbs D.natAbs:Nat):Int)=1:=by omega
         exact beq_eq_false_iff_ne.2 this
     have d1:decide (1≤D)=true:=decide_eq_true c1
     have d2:decide (-9223372036854775807≤N)=true:=decide_eq_true c2'
     clear e c2 hN hD
     generalize N.natAbs=n at *
     generalize D.natAbs=d at *
     generalize decide (Nat.gcd n d=1)=b at *
     generalize Nat.gcd n d=g at *
     go_enter Try.func12,Try.ntmps12
     go_upto_region 1 with fail
     generalize (w.alloc (.cells #[.int .i64 N,.int .i64 D] 23))=V1 at *
     have k0:=fun n:Behind V1=>n.cell X.1 X.2.2.2.2
     have k1:=fun n:Behind V1=>n.cell X.2.1 X.2.2.2.2
     clear x0 x1 x2 x3 x4
     refine region_behind (by kernel_rfl) (by kernel_rfl) ?_
     repeat (go_big_quiet_step (first
       | (go_at_call_of 37 (Value.int .i64 N);with_reducible refine Behind.same (ca _))
       | (go_at_call_of 37 (Value.int .i64 D);with_reducible refine Behind.same (cb _))
       | (go_at_call 36;with_reducible refine Behind.call (cg _))))
     refine wpQuiet_nil ?_
     rintro _ ⟨m',rfl⟩
     obtain⟨W,hb1⟩:=m'
     dsimp only
     go_wp2_with fail
     go_ret
     exact⟨rfl,later HB hb1⟩
 · have e:rightR N D=false:=by unfold rightR;rw [decide_eq_false c1];rfl
   rw [e]
   clear e
   go_enter Try.func12,Try.ntmps12
   go_upto_region 1 with fail
   generalize (w.alloc (.cells #[.int .i64 N,.int .i64 D] 23))=V1 at *
   go_quiet (fail)
   go_wp2_with fail
   go_ret
   exact⟨by simp,below_drewN HB _⟩
end Go.Proofs.Ytdnpoacjamkhkaa
