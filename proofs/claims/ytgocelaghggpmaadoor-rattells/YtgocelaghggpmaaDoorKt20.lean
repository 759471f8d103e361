/- The reference's numbers of stage 11: which may be, quotients of whole numbers. -/
import Derived.Test.YtgocelaghggpmaaDoorKt19
import Derived.Deep.RegionHeld3
namespace Go.Proofs.YtgocelaghggpmaaDoor
open Go.ChangeShapes Go.WideShapes Go.ChangeAt Go.RowKit
theorem Rt2.c0 {w:World} {b:Nat} {x y:Value} (h:Rt2 w b x y):w.cell? ⟨b,0,none⟩=some x:=h.1
theorem Rt2.c1 {w:World} {b:Nat} {x y:Value} (h:Rt2 w b x y):w.cell? ⟨b,1,none⟩=some y:=h.2.1
def rightR (N D:Int):Bool:=decide (1≤D)&&(decide (N≠-9223372036854775808)&&decide (Nat.gcd N.natAbs D.natAbs=1))
def I64 (n:Int):Prop:=-9223372036854775808≤n∧n≤9223372036854775807
theorem I64.lt {n:Int} (h:I64 n):n.natAbs<2^64:=by
 obtain⟨h1,h2⟩:=h
 omega
theorem cmpN_one (g:Nat):(cmpN g 1==0)=decide (g=1):=by
 unfold cmpN
 by_cases c:g=1
 · subst c;rfl
 · rw [decide_eq_false c]
   split
   · rfl
   · split
     · rfl
     · omega
set_option maxHeartbeats 4000000 in
theorem right11_w (N D:Int) (hN:I64 N) (hD:I64 D) (w:World) :
   Calls Tryd.prog 33 #[.agg #[.int .i64 N,.int .i64 D]] w fun r w'=>r=.returned (.bool (rightR N D))∧Below w.heap.size w w':=by
 have X:=rat_new w (.int .i64 N) (.int .i64 D) 23
 have HB:Below w.heap.size w (w.alloc (.cells #[.int .i64 N,.int .i64 D] 23)):=by go_grown
 obtain⟨x0,x1,x2,x3,x4⟩:=id X
 by_cases c1:1≤D
 · by_cases c2:N=-9223372036854775808
   · have e:rightR N D=false:=by unfold rightR;rw [decide_eq_false (show ¬N≠-9223372036854775808 from fun q=>q c2)];simp
     rw [e]
     clear e
     subst c2
     go_enter Tryd.func33,Tryd.ntmps33
     go_upto_region 1 with fail
     generalize (w.alloc (.cells #[.int .i64 (-9223372036854775808),.int .i64 D] 23))=V1 at *
     go_quiet (fail)
     go_wp2_with fail
     go_ret
     exact⟨by simp,Go.below_drewN HB _⟩
   · have cs1:=fun W=>size_w N hN.1 hN.2 W
     have cs2:=fun W=>size_w D hD.1 hD.2 W
     have l1:=hN.lt
     have l2:=hD.lt
     obtain⟨K,hK⟩:∃K:Nat,K=64:=⟨_,rfl⟩
     rw [←hK] at l1 l2
     have e:rightR N D=(cmpN (Nat.gcd N.natAbs D.natAbs) 1==0):=by unfold rightR;rw [cmpN_one,decide_eq_true c1,decide_eq_true (show N≠-9223372036854775808 from c2)];simp
     rw [e]
     have cg:=fun W o1 k1 c1 o2 k2 c2 (p:BigIs W (.slice o1 k1 c1) N.natAbs) (q:BigIs W (.slice o2 k2 c2) D.natAbs)=>common_w N.natAbs D.natAbs K (by omega) l1 l2 W p q
     have hg:Nat.gcd N.natAbs D.natAbs<2^K:=Nat.lt_of_le_of_lt (Nat.gcd_le_right _ (by omega)) l2
     have cc:=fun W v1 v2 (p:BigIs W v1 (Nat.gcd N.natAbs D.natAbs)) (q:BigIs W v2 1)=>cmp_w v1 v2 (Nat.gcd N.natAbs D.natAbs) 1 K (by omega) hg (Nat.lt_of_lt_of_le (show 1<2^1 by decide) (Nat.pow_le_pow_right (by omega) (by omega))) W p q
     have c11:=one_w
     have d2:(N != -9223372036854775808)=true:=by simpa using c2
     clear e l1 l2 hg hK hN hD c2
     generalize N.natAbs=n at *
     generalize D.natAbs=d at *
     generalize cmpN (Nat.gcd n d) 1=y at *
     generalize Nat.gcd n d=g at *
     go_enter Tryd.func33,Tryd.ntmps33
     go_upto_region 1 with fail
     generalize (w.alloc (.cells #[.int .i64 N,.int .i64 D] 23))=V1 at *
     have HD:Below V1.heap.size V1 V1.drew:=(Below.refl _ _).drew
     replace X:=X.keep HD
     replace HB:=later HB HD
     clear HD x0 x1 x2 x3 x4
     go_region_held3 (fun w'=>w'.cell? ⟨w.heap.size,0,none⟩=some (.int .i64 N)∧w'.cell? ⟨w.heap.size,1,none⟩=some (.int .i64 D)) (first | with_reducible exact⟨X.c0,X.c1⟩ | go_keep)
       (first
         | (go_at_call_of 63 (Value.int .i64 N);(with_reducible refine (cs1 _).mono ?_);rintro _ W1 ⟨⟨v1,rfl,A⟩,hb1⟩;obtain⟨o1,k1,u1,rfl, -⟩:=A.shape;replace X:=X.keep hb1;replace HB:=later HB hb1;clear hb1)
         | (go_at_call_of 63 (Value.int .i64 D);(with_reducible refine (cs2 _).mono ?_);rintro _ W2 ⟨⟨v2,rfl,B⟩,hb1⟩;obtain⟨o2,k2,u2,rfl, -⟩:=B.shape;replace A:=A.keep hb1;replace X:=X.keep hb1;replace HB:=later HB hb1;clear hb1)
         | (go_at_call 57;(with_reducible refine (cg _ _ _ _ _ _ _ A B).mono ?_);rintro _ W3 ⟨⟨v3,rfl,G⟩,hb1⟩;obtain⟨o3,k3,u3,rfl, -⟩:=G.shape;replace X:=X.keep hb1;replace HB:=later HB hb1;clear hb1)
         | (go_at_call 30;(with_reducible refine (c11 _).mono ?_);rintro _ W4 ⟨⟨v4,rfl,O⟩,hb1⟩;obtain⟨o4,k4,u4,rfl, -⟩:=O.shape;replace G:=G.keep hb1;replace X:=X.keep hb1;replace HB:=later HB hb1;clear hb1)
         | (go_at_call 62;(with_reducible refine (cc _ _ _ G O).mono ?_);rintro _ W5 ⟨rfl,hb1⟩;replace X:=X.keep hb1;replace HB:=later HB hb1;clear hb1))
     all_goals
       go_wp2_with fail
       go_ret
       exact⟨by simp,HB⟩
 · have e:rightR N D=false:=by unfold rightR;rw [decide_eq_false c1];rfl
   rw [e]
   have d1:decide (1≤D)=false:=decide_eq_false c1
   clear e
   go_enter Tryd.func33,Tryd.ntmps33
   go_upto_region 1 with fail
   generalize (w.alloc (.cells #[.int .i64 N,.int .i64 D] 23))=V1 at *
   go_quiet (fail)
   go_wp2_with fail
   go_ret
   exact⟨by simp,Go.below_drewN HB _⟩
def numR (n:Int):Nm:=⟨decide (n<0),n.natAbs,0⟩
set_option maxHeartbeats 4000000 in
theorem num11_w (n:Int) (hn:I64 n) (w:World) :
   Calls Tryd.prog 41 #[.int .i64 n] w fun r w'=>(∃v,r=.returned v∧NI w' v (numR n))∧Below w.heap.size w w':=by
 have R:Has3 (w.alloc (.cells #[.bool false,.slice none 0 0,.int .i64 0] 76)) w.heap.size (.bool false) (.slice none 0 0) (.int .i64 0):=⟨by go_simp,by go_simp,by go_simp,by go_simp,by go_simp,by go_simp,by go_size⟩
 have B:=Boxed.new w #[.bool false,.slice none 0 0,.int .i64 0]
 have HB:Below w.heap.size w (w.alloc (.cells #[.bool false,.slice none 0 0,.int .i64 0] 76)):=by go_grown
 have cs:=fun W=>size_w n hn.1 hn.2 W
 unfold numR
 generalize n.natAbs=m at *
 clear hn
 go_enter Tryd.func41,Tryd.ntmps41
 go_wp2_with (go_at_call 63;(with_reducible refine (cs _).mono ?_);rintro _ W1 ⟨⟨v1,rfl,A⟩,hb1⟩;obtain⟨o1,k1,u1,rfl, -⟩:=A.shape;replace R:=R.keep hb1;replace B:=B.keep hb1;replace HB:=later HB hb1;clear hb1;obtain⟨r0,r1,r2,r3,r4,r5,r6⟩:=id R)
 refine bodyPost_ret (v:=.agg #[.bool (decide (n<0)),.slice o1 k1 u1,.int .i64 0]) (by simp [results,Tryd.results41,go_sem, *]) rfl ⟨⟨_,rfl,.slice o1 k1 u1,rfl, ?_⟩, ?_⟩
 · repeat' (first | (with_reducible exact A) | (with_reducible exact B) | (with_reducible refine BigIs.put ?_ ?_ _ _) | (with_reducible refine Boxed.set ?_ _ _ _))
 · repeat' (first | (with_reducible exact HB) | (with_reducible refine Below.setCell ?_ ?_ _) | go_size)
end Go.Proofs.YtgocelaghggpmaaDoor
