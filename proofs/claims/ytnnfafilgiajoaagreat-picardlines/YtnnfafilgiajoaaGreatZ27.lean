/- The reference's Mul: the exact product, rounded. The walk of the statement UlpProducts. The reference's Add and Sub: the exact sum, rounded; the walk of the statement UlpSums. The walks of the reference's Hull, Meet, Neg, ends, Add and Sub: they answer as the program's; IvalSums' walk. Plain facts on powers: products, one by one, rounded to a side; the reference's amounts. -/
import Derived.Test.YtnnfafilgiajoaaGreatZ26
import Derived.Test.YtnnfafilgiajoaaGreatZ25
import Derived.Test.YtnnfafilgiajoaaGreatZ19
namespace Go.Proofs.YtnnfafilgiajoaaGreat
open Go.ChangeShapes Go.WideShapes Go.ChangeAt Go.RowKit
theorem ofKey_key {r:Nat} (hr:r<18446744073709551616) (hz:r≠9223372036854775808):ofKey (key r)=r:=by
 unfold key ofKey
 by_cases h:r<9223372036854775808
 · rw [if_pos h,if_neg (by omega)];omega
 · rw [if_neg h,if_pos (by omega)];omega
theorem sign_order {x:Nat} (hx:x<18446744073709551616) (hn:nanB x=false) (hz:isZ x=false):FloatKind.f64.format.order x 0=some .lt∧signB x=true∨FloatKind.f64.format.order x 0=some .gt∧signB x=false:=by
 unfold isZ at hz
 simp at hz
 unfold signB
 rcases cases0 x hx with ⟨h,_,_⟩ | ⟨_,ho,hc⟩ | ⟨_,ho,hc⟩ | ⟨_,ho,hc⟩
 · rw [hn] at h;cases h
 · omega
 · right;exact⟨ho,by simp;omega⟩
 · left;exact⟨ho,by simp;omega⟩
theorem rmul_nan (a b:Nat) (dir:Int) (ha:a<18446744073709551616) (hb:b<18446744073709551616) (h:nanB a=true∨nanB a=false∧nanB b=true) (w:World) :
   Calls Tryz.prog 57 #[.float .f64 a,.float .f64 b,.int .i64 dir] w fun x w'=>Ans none x∧Below w.heap.size w w':=by
 rcases h with h | ⟨h1,h2⟩
 all_goals
   go_enter Tryz.func57,Tryz.ntmps57
   go_wp2_with (first | (go_at_call 95;refine (isNum_w _ (by assumption) _).mono ?_;rintro _ _ ⟨rfl,rfl⟩) | (go_at_call 96;refine (nan_w _).mono ?_;rintro _ _ ⟨rfl,rfl⟩))
   go_ret
   exact⟨ans_nan,Below.refl _ _⟩
theorem rmul_zero (a b:Nat) (dir:Int) (ha:a<18446744073709551616) (hb:b<18446744073709551616) (na:nanB a=false) (nb:nanB b=false) (h:(FloatKind.f64.format.order a 0==some .eq)=true∨(FloatKind.f64.format.order a 0==some .eq)=false∧(FloatKind.f64.format.order b 0==some .eq)=true) (w:World) :
   Calls Tryz.prog 57 #[.float .f64 a,.float .f64 b,.int .i64 dir] w fun x w'=>x=.returned (.float .f64 0)∧Below w.heap.size w w':=by
 rcases h with h | ⟨h1,h2⟩
 all_goals
   go_enter Tryz.func57,Tryz.ntmps57
   go_wp2_with (first | (go_at_call 95;refine (isNum_w _ (by assumption) _).mono ?_;rintro _ _ ⟨rfl,rfl⟩) | (go_at_call 96;refine (nan_w _).mono ?_;rintro _ _ ⟨rfl,rfl⟩))
   go_ret
   exact⟨rfl,Below.refl _ _⟩
set_option maxHeartbeats 400000 in
theorem rmul_inf (a b:Nat) (dir:Int) (ha:a<18446744073709551616) (hb:b<18446744073709551616) (na:nanB a=false) (nb:nanB b=false) (za:isZ a=false) (zb:isZ b=false) (hf:finB a=false∨finB a=true∧finB b=false) (w:World) :
   Calls Tryz.prog 57 #[.float .f64 a,.float .f64 b,.int .i64 dir] w fun x w'=>x=.returned (.float .f64 (infW (signB a != signB b)))∧Below w.heap.size w w':=by
 have ca:=fun w=>rfinite_w a ha w
 have cb:=fun w=>rfinite_w b hb w
 have HB:Below w.heap.size w w:=Below.refl _ _
 rcases sign_order ha na za with ⟨oa,sa⟩ | ⟨oa,sa⟩ <;> rcases sign_order hb nb zb with ⟨ob,sb⟩ | ⟨ob,sb⟩ <;> rcases hf with fa | ⟨fa,fb⟩
 all_goals
   rw [sa,sb]
   rw [fa] at ca
   try rw [fb] at cb
   clear sa sb za zb
   go_enter Tryz.func57,Tryz.ntmps57
   go_wp2_with (first | (go_at_call 95;refine (isNum_w _ (by assumption) _).mono ?_;rintro _ _ ⟨rfl,rfl⟩) | (go_at_call_of 97 (Value.float .f64 a);refine (ca _).mono ?_;rintro _ w1 ⟨rfl,hb1⟩;replace HB:=later HB hb1;clear hb1) | (go_at_call_of 97 (Value.float .f64 b);refine (cb _).mono ?_;rintro _ w2 ⟨rfl,hb1⟩;replace HB:=later HB hb1;clear hb1) | (go_at_call 98;refine (rinf_w' _ _).mono ?_;rintro _ _ ⟨rfl,rfl⟩))
   go_ret
   exact⟨rfl,HB⟩
set_option maxHeartbeats 1000000 in
theorem rmul_fin (a b:Nat) (dir:Int) (ha:a<18446744073709551616) (hb:b<18446744073709551616) (fa:finB a=true) (fb:finB b=true) (za:isZ a=false) (zb:isZ b=false) (w:World) :
   Calls Tryz.prog 57 #[.float .f64 a,.float .f64 b,.int .i64 dir] w fun x w'=>x=.returned (.float .f64 (mulF a b dir))∧Below w.heap.size w w':=by
 have ca:=fun w=>rfinite_w a ha w
 have cb:=fun w=>rfinite_w b hb w
 rw [fa] at ca
 rw [fb] at cb
 have na:=fin_num fa
 have nb:=fin_num fb
 have f0:=fun w=>float_z a ha fa w
 have f1:=fun w=>float_z b hb fb w
 have oa:=ord_zero ha na
 have ob:=ord_zero hb nb
 rw [za] at oa
 rw [zb] at ob
 obtain⟨u,hu⟩:∃u:Nat,u=1073:=⟨_,rfl⟩
 have hr:=mulF_is dir hu ha hb fa fb (splitM_zero za) (splitM_zero zb)
 have hfacts:nanB (mulF a b dir)=false∧mulF a b dir≠9223372036854775808∧mulF a b dir<18446744073709551616:=by
   have h1:=splitM_lt a
   have h2:=splitM_lt b
   exact roundN_facts _ _ _ dir (prodM_lt (splitM_zero za) (splitM_zero zb) (show splitM a<18446744073709551616 by omega) (show splitM b<18446744073709551616 by omega))
 have hok:=ofKey_key hfacts.2.2 hfacts.2.1
 clear hfacts
 generalize mulF a b dir=M at *
 have cp:=fun W v0 v1 (h0:NumZ (-1074) 971 53 W v0 (V (key a))) (h1:NumZ (-1074) 971 53 W v1 (V (key b)))=>prod_z (S:=-1074) (T:=971) (S':=-1074) (T':=971) (K:=53) (by omega) (by omega) (by omega) (by omega) h0 h1
 have cw:=fun W x (hx:NumZ (-1074+-1074) (971+971) (53+53) W x (V (key a)*V (key b)))=>whole_x (t:=u) (by omega) hr (x:=x) (w:=W) (by
   have:=hx.wide (T':=6000) (K':=20000) (by omega) (by omega)
   rw [show (-1074:Int)+-1074=-(u:Int)-1075 by omega] at this
   exact this)
 rw [hok] at cw
 clear hr hok hu
 generalize V (key a)=A at *
 generalize V (key b)=B at *
 have HB:Below w.heap.size w w:=Below.refl _ _
 go_enter Tryz.func57,Tryz.ntmps57
 go_wp2_with (first
   | (go_at_call 95;refine (isNum_w _ (by assumption) _).mono ?_;rintro _ _ ⟨rfl,rfl⟩)
   | (go_at_call_of 97 (Value.float .f64 a);refine (ca _).mono ?_;rintro _ w1 ⟨rfl,hb1⟩;replace HB:=later HB hb1;clear hb1)
   | (go_at_call_of 97 (Value.float .f64 b);refine (cb _).mono ?_;rintro _ w2 ⟨rfl,hb1⟩;replace HB:=later HB hb1;clear hb1)
   | (go_at_call_of 101 (Value.float .f64 a);refine (f0 _).mono ?_;rintro _ w3 ⟨⟨v0,rfl,hv0⟩,hb1⟩;replace HB:=later HB hb1;clear hb1)
   | (go_at_call_of 101 (Value.float .f64 b);refine (f1 _).mono ?_;rintro _ w4 ⟨⟨v1,rfl,hv1⟩,hb1⟩;replace HB:=later HB hb1;replace hv0:=hv0.keep hb1;clear hb1)
   | (go_at_call 100;refine (cp _ _ _ hv0 hv1).mono ?_;rintro _ w5 ⟨⟨v2,rfl,hv2⟩,hb1⟩;replace HB:=later HB hb1;clear hb1)
   | (go_at_call 99;refine (cw _ _ hv2).mono ?_;rintro _ w6 ⟨rfl,hb1⟩;replace HB:=later HB hb1;clear hb1))
 go_ret
 exact⟨rfl,HB⟩
theorem rmul_w (a b:Nat) (dir:Int) (ha:a<18446744073709551616) (hb:b<18446744073709551616) (w:World) :
   Calls Tryz.prog 57 #[.float .f64 a,.float .f64 b,.int .i64 dir] w fun x w'=>Ans (mulR a b dir) x∧Below w.heap.size w w':=by
 unfold mulR
 cases na:nanB a
 · cases nb:nanB b
   · simp only [Bool.or_self,Bool.false_eq_true,if_false]
     have oa:=ord_zero ha na
     have ob:=ord_zero hb nb
     cases za:isZ a
     · rw [za] at oa
       cases zb:isZ b
       · simp only [Bool.or_self,Bool.false_eq_true,if_false]
         cases fa:finB a
         · simp only [Bool.false_and,Bool.false_eq_true,if_false]
           exact (rmul_inf a b dir ha hb na nb za zb (Or.inl fa) w).mono fun x w' h=>⟨⟨_,h.1,infW_lt _,rfl⟩,h.2⟩
         · cases fb:finB b
           · simp only [Bool.and_false,Bool.false_eq_true,if_false]
             exact (rmul_inf a b dir ha hb na nb za zb (Or.inr ⟨fa,fb⟩) w).mono fun x w' h=>⟨⟨_,h.1,infW_lt _,rfl⟩,h.2⟩
           · simp only [Bool.and_self,if_true]
             have h1:=splitM_lt a
             have h2:=splitM_lt b
             have hm:=(roundN_facts (splitG a != splitG b) _ (prodE (splitM a) (splitE a) (splitM b) (splitE b)) dir (prodM_lt (splitM_zero za) (splitM_zero zb) (show splitM a<18446744073709551616 by omega) (show splitM b<18446744073709551616 by omega))).2.2
             exact (rmul_fin a b dir ha hb fa fb za zb w).mono fun x w' h=>⟨⟨_,h.1,hm,rfl⟩,h.2⟩
       · rw [zb] at ob
         simp only [Bool.or_true,if_true]
         exact (rmul_zero a b dir ha hb na nb (Or.inr ⟨oa,ob⟩) w).mono fun x w' h=>⟨⟨_,h.1,by omega,rfl⟩,h.2⟩
     · rw [za] at oa
       simp only [Bool.true_or,if_true]
       exact (rmul_zero a b dir ha hb na nb (Or.inl oa) w).mono fun x w' h=>⟨⟨_,h.1,by omega,rfl⟩,h.2⟩
   · simp only [Bool.or_true,if_true]
     exact rmul_nan a b dir ha hb (Or.inr ⟨na,nb⟩) w
 · simp only [Bool.true_or,if_true]
   exact rmul_nan a b dir ha hb (Or.inl na) w
theorem radd_nan (a b:Nat) (dir:Int) (ha:a<18446744073709551616) (hb:b<18446744073709551616) (h:nanB a=true∨nanB a=false∧nanB b=true) (w:World) :
   Calls Tryz.prog 59 #[.float .f64 a,.float .f64 b,.int .i64 dir] w fun x w'=>Ans none x∧Below w.heap.size w w':=by
 rcases h with h | ⟨h1,h2⟩
 all_goals
   go_enter Tryz.func59,Tryz.ntmps59
   go_wp2_with (first | (go_at_call 95;refine (isNum_w _ (by assumption) _).mono ?_;rintro _ _ ⟨rfl,rfl⟩) | (go_at_call 96;refine (nan_w _).mono ?_;rintro _ _ ⟨rfl,rfl⟩))
   go_ret
   exact⟨ans_nan,Below.refl _ _⟩
set_option maxHeartbeats 400000 in
theorem radd_inf (a b:Nat) (dir:Int) (ha:a<18446744073709551616) (hb:b<18446744073709551616) (na:nanB a=false) (nb:nanB b=false) (R:Option Nat) (hR:∀r,R=some r→r<18446744073709551616)
   (h:finB a=true∧finB b=false∧R=some b∨finB a=false∧(FloatKind.f64.format.order a b==some .eq)=true∧R=some b∨finB a=false∧(FloatKind.f64.format.order a b==some .eq)=false∧finB b=true∧R=some a∨finB a=false∧(FloatKind.f64.format.order a b==some .eq)=false∧finB b=false∧R=none) (w:World) :
   Calls Tryz.prog 59 #[.float .f64 a,.float .f64 b,.int .i64 dir] w fun x w'=>Ans R x∧Below w.heap.size w w':=by
 have ca:=fun w=>rfinite_w a ha w
 have cb:=fun w=>rfinite_w b hb w
 have HB:Below w.heap.size w w:=Below.refl _ _
 rcases h with ⟨fa,fb,rfl⟩ | ⟨fa,ho,rfl⟩ | ⟨fa,ho,fb,rfl⟩ | ⟨fa,ho,fb,rfl⟩
 · rw [fa] at ca
   rw [fb] at cb
   go_enter Tryz.func59,Tryz.ntmps59
   go_wp2_with (first
     | (go_at_call 95;refine (isNum_w _ (by assumption) _).mono ?_;rintro _ _ ⟨rfl,rfl⟩)
     | (go_at_call_of 97 (Value.float .f64 a);refine (ca _).mono ?_;rintro _ w1 ⟨rfl,hb1⟩;replace HB:=later HB hb1;clear hb1)
     | (go_at_call_of 97 (Value.float .f64 b);refine (cb _).mono ?_;rintro _ w2 ⟨rfl,hb1⟩;replace HB:=later HB hb1;clear hb1)
     | (go_at_call 96;refine (nan_w _).mono ?_;rintro _ _ ⟨rfl,rfl⟩))
   go_ret
   exact⟨⟨_,rfl,hR _ rfl,rfl⟩,HB⟩
 · rw [fa] at ca
   go_enter Tryz.func59,Tryz.ntmps59
   go_wp2_with (first
     | (go_at_call 95;refine (isNum_w _ (by assumption) _).mono ?_;rintro _ _ ⟨rfl,rfl⟩)
     | (go_at_call_of 97 (Value.float .f64 a);refine (ca _).mono ?_;rintro _ w1 ⟨rfl,hb1⟩;replace HB:=later HB hb1;clear hb1)
     | (go_at_call_of 97 (Value.float .f64 b);refine (cb _).mono ?_;rintro _ w2 ⟨rfl,hb1⟩;replace HB:=later HB hb1;clear hb1)
     | (go_at_call 96;refine (nan_w _).mono ?_;rintro _ _ ⟨rfl,rfl⟩))
   go_ret
   exact⟨⟨_,rfl,hR _ rfl,rfl⟩,HB⟩
 · rw [fa] at ca
   rw [fb] at cb
   go_enter Tryz.func59,Tryz.ntmps59
   go_wp2_with (first
     | (go_at_call 95;refine (isNum_w _ (by assumption) _).mono ?_;rintro _ _ ⟨rfl,rfl⟩)
     | (go_at_call_of 97 (Value.float .f64 a);refine (ca _).mono ?_;rintro _ w1 ⟨rfl,hb1⟩;replace HB:=later HB hb1;clear hb1)
     | (go_at_call_of 97 (Value.float .f64 b);refine (cb _).mono ?_;rintro _ w2 ⟨rfl,hb1⟩;replace HB:=later HB hb1;clear hb1)
     | (go_at_call 96;refine (nan_w _).mono ?_;rintro _ _ ⟨rfl,rfl⟩))
   go_ret
   exact⟨⟨_,rfl,hR _ rfl,rfl⟩,HB⟩
 · rw [fa] at ca
   rw [fb] at cb
   go_enter Tryz.func59,Tryz.ntmps59
   go_wp2_with (first
     | (go_at_call 95;refine (isNum_w _ (by assumption) _).mono ?_;rintro _ _ ⟨rfl,rfl⟩)
     | (go_at_call_of 97 (Value.float .f64 a);refine (ca _).mono ?_;rintro _ w1 ⟨rfl,hb1⟩;replace HB:=later HB hb1;clear hb1)
     | (go_at_call_of 97 (Value.float .f64 b);refine (cb _).mono ?_;rintro _ w2 ⟨rfl,hb1⟩;replace HB:=later HB hb1;clear hb1)
     | (go_at_call 96;refine (nan_w _).mono ?_;rintro _ _ ⟨rfl,rfl⟩))
   go_ret
   exact⟨ans_nan,HB⟩
set_option maxHeartbeats 1000000 in
theorem radd_fin (a b:Nat) (dir:Int) (ha:a<18446744073709551616) (hb:b<18446744073709551616) (fa:finB a=true) (fb:finB b=true) (hlt:addF a b dir<18446744073709551616) (hnz:addF a b dir≠9223372036854775808) (w:World) :
   Calls Tryz.prog 59 #[.float .f64 a,.float .f64 b,.int .i64 dir] w fun x w'=>x=.returned (.float .f64 (addF a b dir))∧Below w.heap.size w w':=by
 have ca:=fun w=>rfinite_w a ha w
 have cb:=fun w=>rfinite_w b hb w
 rw [fa] at ca
 rw [fb] at cb
 have na:=fin_num fa
 have nb:=fin_num fb
 have f0:=fun w=>float_z a ha fa w
 have f1:=fun w=>float_z b hb fb w
 have hr:=addF_is dir ha hb fa fb
 have hok:=ofKey_key hlt hnz
 clear hlt hnz
 generalize addF a b dir=M at *
 obtain⟨L,hL⟩:∃L:Nat,L=2099:=⟨_,rfl⟩
 have cp:=fun W v0 v1 (h0:NumZ (-1074) 971 53 W v0 (V (key a))) (h1:NumZ (-1074) 971 53 W v1 (V (key b)))=>sum_z (S:=-1074) (T:=971) (K:=53) (L:=L) (by omega) (by omega) (by omega) (by omega) h0 h1
 have cw:∀W x,NumZ (-1074) 971 L W x (V (key a)+V (key b))→Calls Tryz.prog 99 #[x,.int .i64 dir] W fun r w'=>r=.returned (.float .f64 (ofKey (key M)))∧Below W.heap.size W w':=fun W x hx=>by
   have h1:=(hx.scale (S':=-1075) (t:=1) (by omega)).wide (T':=6000) (K':=20000) (by omega) (by omega)
   rw [show (V (key a)+V (key b))*((2^1:Nat):Int)=2*(V (key a)+V (key b)) by simp;omega] at h1
   exact whole_x (t:=0) (by omega) (by rw [Nat.pow_zero];exact hr) h1
 rw [hok] at cw
 clear hr hok hL
 generalize V (key a)=A at *
 generalize V (key b)=B at *
 have HB:Below w.heap.size w w:=Below.refl _ _
 go_enter Tryz.func59,Tryz.ntmps59
 go_wp2_with (first
   | (go_at_call 95;refine (isNum_w _ (by assumption) _).mono ?_;rintro _ _ ⟨rfl,rfl⟩)
   | (go_at_call_of 97 (Value.float .f64 a);refine (ca _).mono ?_;rintro _ w1 ⟨rfl,hb1⟩;replace HB:=later HB hb1;clear hb1)
   | (go_at_call_of 97 (Value.float .f64 b);refine (cb _).mono ?_;rintro _ w2 ⟨rfl,hb1⟩;replace HB:=later HB hb1;clear hb1)
   | (go_at_call_of 101 (Value.float .f64 a);refine (f0 _).mono ?_;rintro _ w3 ⟨⟨v0,rfl,hv0⟩,hb1⟩;replace HB:=later HB hb1;clear hb1)
   | (go_at_call_of 101 (Value.float .f64 b);refine (f1 _).mono ?_;rintro _ w4 ⟨⟨v1,rfl,hv1⟩,hb1⟩;replace HB:=later HB hb1;replace hv0:=hv0.keep hb1;clear hb1)
   | (go_at_call 102;refine (cp _ _ _ hv0 hv1).mono ?_;rintro _ w5 ⟨⟨v2,rfl,hv2⟩,hb1⟩;replace HB:=later HB hb1;clear hb1)
   | (go_at_call 99;refine (cw _ _ hv2).mono ?_;rintro _ w6 ⟨rfl,hb1⟩;replace HB:=later HB hb1;clear hb1))
 go_ret
 exact⟨rfl,HB⟩
theorem radd_facts (a b:Nat) (d:Int):nanB (addF a b d)=false∧addF a b d≠9223372036854775808∧addF a b d<18446744073709551616:=by
 have hm:=sumM_lt (splitG a) (splitM a) (splitE a) (splitG b) (splitM b) (splitE b) (splitM_lt a) (splitM_lt b)
 exact roundN_facts _ _ _ d hm
theorem radd_w (a b:Nat) (dir:Int) (ha:a<18446744073709551616) (hb:b<18446744073709551616) (w:World) :
   Calls Tryz.prog 59 #[.float .f64 a,.float .f64 b,.int .i64 dir] w fun x w'=>Ans (addR a b dir) x∧Below w.heap.size w w':=by
 unfold addR
 cases na:nanB a
 · cases nb:nanB b
   · simp only [Bool.or_self,Bool.false_eq_true,if_false]
     have ho:=order_eq a b ha hb
     rw [na,nb] at ho
     simp only [Bool.or_self,Bool.false_eq_true,if_false] at ho
     cases fa:finB a
     · have ea:=inf_word ha na fa
       cases fb:finB b
       · have eb:=inf_word hb nb fb
         have sd:(signB a != signB b)=true∨a=b:=by
           unfold signB
           generalize decide (9223372036854775808≤a)=s at *
           generalize decide (9223372036854775808≤b)=t at *
           cases s <;> cases t <;> simp_all
         have hne:(signB a != signB b)=true→(FloatKind.f64.format.order a b==some .eq)=false:=by
           intro h
           rw [ho]
           unfold signB at h
           have hk:compare (key a) (key b)≠.eq:=by
             intro c
             have c:=Int.compare_eq_eq.1 c
             generalize hs:decide (9223372036854775808≤a)=s at *
             generalize ht:decide (9223372036854775808≤b)=t at *
             cases s <;> cases t <;> simp at h <;> simp only [Bool.false_eq_true,if_false,if_true] at ea eb <;> subst ea <;> subst eb <;> exact absurd c (by decide)
           simp [hk]
         cases hs:(signB a != signB b)
         · rcases sd with h | h
           · rw [h] at hs;cases hs
           · subst h
             simp only [Bool.and_self,Bool.false_eq_true,if_false,Bool.not_false,Bool.and_false]
             exact radd_inf a a dir ha ha na na (some a) (fun r h=>by cases h;exact ha) (Or.inr (Or.inl ⟨fa,by rw [ho];simp,rfl⟩)) w
         · simp only [Bool.and_self,Bool.false_eq_true,if_false,Bool.not_false,if_true]
           exact radd_inf a b dir ha hb na nb none (fun r h=>by cases h) (Or.inr (Or.inr (Or.inr ⟨fa,hne hs,fb,rfl⟩))) w
       · have hne:(FloatKind.f64.format.order a b==some .eq)=false:=by
           rw [ho]
           have hk:compare (key a) (key b)≠.eq:=by
             intro c
             have c:=Int.compare_eq_eq.1 c
             have h1:¬a%9223372036854775808<9218868437227405312:=by simpa [finB] using fa
             have h2:b%9223372036854775808<9218868437227405312:=by simpa [finB] using fb
             unfold key at c
             split at c <;> split at c <;> omega
           simp [hk]
         simp only [Bool.false_and,Bool.false_eq_true,if_false,Bool.not_true,Bool.and_false]
         exact radd_inf a b dir ha hb na nb (some a) (fun r h=>by cases h;exact ha) (Or.inr (Or.inr (Or.inl ⟨fa,hne,fb,rfl⟩))) w
     · cases fb:finB b
       · simp only [Bool.and_false,Bool.false_eq_true,if_false,Bool.not_true,Bool.false_and,if_true]
         exact radd_inf a b dir ha hb na nb (some b) (fun r h=>by cases h;exact hb) (Or.inl ⟨fa,fb,rfl⟩) w
       · simp only [Bool.and_self,if_true]
         have hm:=radd_facts a b dir
         exact (radd_fin a b dir ha hb fa fb hm.2.2 hm.2.1 w).mono fun x w' h=>⟨⟨_,h.1,hm.2.2,rfl⟩,h.2⟩
   · simp only [Bool.or_true,if_true]
     exact radd_nan a b dir ha hb (Or.inr ⟨na,nb⟩) w
 · simp only [Bool.true_or,if_true]
   exact radd_nan a b dir ha hb (Or.inl na) w
def zminus (b:Nat):Nat:=if isZ b then 0 else negB b
theorem enter2 (w:World) (a b c d:Value) (T:TypeId):Has2 (((w.alloc (.cells #[a,b] T)).alloc (.cells #[c,d] T)).alloc (.cells #[.float .f64 0,.float .f64 0] T)) w.heap.size a b∧Has2 (((w.alloc (.cells #[a,b] T)).alloc (.cells #[c,d] T)).alloc (.cells #[.float .f64 0,.float .f64 0] T)) (w.heap.size+1) c d ∧
   Has2 (((w.alloc (.cells #[a,b] T)).alloc (.cells #[c,d] T)).alloc (.cells #[.float .f64 0,.float .f64 0] T)) (w.heap.size+1+1) (.float .f64 0) (.float .f64 0)∧Below w.heap.size w (((w.alloc (.cells #[a,b] T)).alloc (.cells #[c,d] T)).alloc (.cells #[.float .f64 0,.float .f64 0] T)) :=
 ⟨⟨by go_simp,by go_simp,by go_simp,by go_simp,by go_size⟩,⟨by go_simp,by go_simp,by go_simp,by go_simp,by go_size⟩,⟨by go_simp,by go_simp,by go_simp,by go_simp,by go_size⟩,by go_grown⟩
theorem enter1 (w:World) (a b:Value) (T:TypeId):Has2 ((w.alloc (.cells #[a,b] T)).alloc (.cells #[.float .f64 0,.float .f64 0] T)) w.heap.size a b ∧
   Has2 ((w.alloc (.cells #[a,b] T)).alloc (.cells #[.float .f64 0,.float .f64 0] T)) (w.heap.size+1) (.float .f64 0) (.float .f64 0)∧Below w.heap.size w ((w.alloc (.cells #[a,b] T)).alloc (.cells #[.float .f64 0,.float .f64 0] T)) :=
 ⟨⟨by go_simp,by go_simp,by go_simp,by go_simp,by go_size⟩,⟨by go_simp,by go_simp,by go_simp,by go_simp,by go_size⟩,by go_grown⟩
theorem pz_zminus {b:Nat} (hb:b<18446744073709551616):pz (zminus b)=pz (negB b):=by
 unfold zminus
 cases hz:isZ b
 · simp only [Bool.false_eq_true,if_false]
 · simp only [if_true]
   have h0:b%9223372036854775808=0:=by unfold isZ at hz;simpa using hz
   unfold pz negB
   split <;> split <;> split <;> omega
theorem zminus_lt {b:Nat} (hb:b<18446744073709551616):zminus b<18446744073709551616:=by
 unfold zminus
 have:=negB_lt hb
 split <;> omega
theorem rends_core (lo hi l2 h2:Nat) (b1 b2:Bool) (p:Nat×Nat) (o1:(FloatKind.f64.format.order lo 9218868437227405311==some .gt)=b1) (o2:(FloatKind.f64.format.order hi 18442240474082181119==some .lt)=b2)
   (e1:l2=if b1 then 9218868437227405311 else lo) (e2:h2=if b2 then 18442240474082181119 else hi)
   (c3:∀w,Calls Tryz.prog 16 #[.float .f64 l2,.float .f64 h2] w fun e w'=>e=.returned (.agg #[.float .f64 p.1,.float .f64 p.2])∧Below w.heap.size w w') (w:World) :
   Calls Tryz.prog 58 #[.float .f64 lo,.float .f64 hi] w fun e w'=>e=.returned (.agg #[.float .f64 p.1,.float .f64 p.2])∧Below w.heap.size w w':=by
 cases b1 <;> cases b2
 all_goals
   simp only [Bool.false_eq_true,if_true,if_false] at e1 e2
   subst e1 e2
   go_enter Tryz.func58,Tryz.ntmps58
   go_wp2_with (go_at_call 16;refine (c3 _).mono ?_;rintro _ w1 ⟨rfl,hb1⟩
                have R:Has2 w1 w.heap.size (.float .f64 0) (.float .f64 0):=Has2.keep ⟨by go_simp,by go_simp,by go_simp,by go_simp,by go_size⟩ hb1
                obtain⟨r0,r1,r2,r3,r4⟩:=R
                have HB:Below w.heap.size w w1:=later (by go_grown) hb1)
   refine bodyPost_ret (v:=.agg #[.float .f64 p.1,.float .f64 p.2]) (by simp [results,Tryz.results58,go_sem, *]) rfl ⟨rfl, ?_⟩
   repeat' (first | (with_reducible exact HB) | (with_reducible refine Below.setCell ?_ ?_ _) | go_size)
theorem rends_w (lo hi:Nat) (hl:lo<18446744073709551616) (hh:hi<18446744073709551616) (S:Some2 lo hi) (w:World) :
   Calls Tryz.prog 58 #[.float .f64 lo,.float .f64 hi] w fun e w'=>e=.returned (.agg #[.float .f64 lo,.float .f64 hi])∧Below w.heap.size w w':=by
 have h:=rends_core lo hi _ _ _ _ (rendsP lo hi) (o_gt hl (by omega)) (o_lt hh (by omega)) rfl rfl (fun w=>rmake_w _ _ (by split <;> omega) (by split <;> omega) w) w
 rw [rends_is S] at h
 exact h
def addP (xl xh yl yh:Nat):Nat×Nat:=if hsB xl xh&&hsB yl yh then ((addR xl yl (-1)).getD 0,(addR xh yh 1).getD 0) else (infI 1,infI (-1))
theorem addP_lt {xl xh yl yh:Nat} (h1:xl<18446744073709551616) (h2:xh<18446744073709551616) (h3:yl<18446744073709551616) (h4:yh<18446744073709551616):(addP xl xh yl yh).1<18446744073709551616∧(addP xl xh yl yh).2<18446744073709551616:=by
 unfold addP
 have e1:=infI_lt 1
 have e2:=infI_lt (-1)
 cases hx:hsB xl xh <;> cases hy:hsB yl yh
 · rw [if_neg (by simp)];exact⟨e1,e2⟩
 · rw [if_neg (by simp)];exact⟨e1,e2⟩
 · rw [if_neg (by simp)];exact⟨e1,e2⟩
 · rw [if_pos (by simp)]
   obtain⟨l,u,e1,e2, -,e3,e4⟩:=add_some h1 h2 h3 h4 (hs_iff.1 hx) (hs_iff.1 hy)
   rw [e1,e2]
   exact⟨e3,e4⟩
theorem negP_lt {lo hi:Nat} (hl:lo<18446744073709551616) (hh:hi<18446744073709551616):(negP (lo,hi)).1<18446744073709551616∧(negP (lo,hi)).2<18446744073709551616:=by
 have e1:=infI_lt 1
 have e2:=infI_lt (-1)
 unfold negP mirrorP emptyP
 cases hsB lo hi
 · rw [if_neg (by simp)];exact⟨e1,e2⟩
 · rw [if_pos rfl];exact makeP_lt (negB_lt hh) (negB_lt hl)
theorem Add_w (xl xh yl yh:Nat) (h1:xl<18446744073709551616) (h2:xh<18446744073709551616) (h3:yl<18446744073709551616) (h4:yh<18446744073709551616) (w:World) :
   Calls Tryz.prog 83 #[.agg #[.float .f64 xl,.float .f64 xh],.agg #[.float .f64 yl,.float .f64 yh]] w fun e w'=>e=.returned (.agg #[.float .f64 (addP xl xh yl yh).1,.float .f64 (addP xl xh yl yh).2])∧Below w.heap.size w w':=by
 unfold addP
 cases hs:hsB xl xh&&hsB yl yh
 · exact add_none xl xh yl yh h1 h2 h3 h4 hs w
 · obtain⟨hx,hy⟩:=Bool.and_eq_true_iff.1 hs
   obtain⟨l,u,e1,e2, -,e3,e4⟩:=add_some h1 h2 h3 h4 (hs_iff.1 hx) (hs_iff.1 hy)
   refine (add_i xl xh yl yh h1 h2 h3 h4 _ _ (fun w=>add_w xl yl (-1) h1 h3 w) (fun w=>add_w xh yh 1 h2 h4 w) hs w).mono ?_
   rintro _ _ ⟨⟨r1,r2,rfl,t1,t2⟩,hb⟩
   rw [e1] at t1
   rw [e2] at t2
   rw [e1,e2]
   obtain rfl:r1=l:=t1.2
   obtain rfl:r2=u:=t2.2
   exact⟨rfl,hb⟩
theorem Sub_w (xl xh yl yh:Nat) (h1:xl<18446744073709551616) (h2:xh<18446744073709551616) (h3:yl<18446744073709551616) (h4:yh<18446744073709551616) (w:World) :
   Calls Tryz.prog 84 #[.agg #[.float .f64 xl,.float .f64 xh],.agg #[.float .f64 yl,.float .f64 yh]] w fun e w'=>e=.returned (.agg #[.float .f64 (addP xl xh (negP (yl,yh)).1 (negP (yl,yh)).2).1,.float .f64 (addP xl xh (negP (yl,yh)).1 (negP (yl,yh)).2).2])∧Below w.heap.size w w':=by
 have n:=negP_lt h3 h4
 have a:=addP_lt h1 h2 n.1 n.2
 have h:=sub_i xl xh yl yh (negP (yl,yh)).1 (negP (yl,yh)).2 (some (addP xl xh (negP (yl,yh)).1 (negP (yl,yh)).2).1) (some (addP xl xh (negP (yl,yh)).1 (negP (yl,yh)).2).2) (fun w=>neg_w yl yh h3 h4 w)
   (fun w=>(Add_w xl xh _ _ h1 h2 n.1 n.2 w).mono fun _ _ ⟨e,b⟩=>⟨⟨_,_,e,⟨a.1,rfl⟩,⟨a.2,rfl⟩⟩,b⟩) w
 refine h.mono ?_
 rintro _ _ ⟨⟨r1,r2,rfl,t1,t2⟩,hb⟩
 have e1:r1=(addP xl xh (negP (yl,yh)).1 (negP (yl,yh)).2).1:=t1.2
 have e2:r2=(addP xl xh (negP (yl,yh)).1 (negP (yl,yh)).2).2:=t2.2
 rw [e1,e2]
 exact⟨rfl,hb⟩
set_option maxHeartbeats 1000000 in
theorem radd_none (xl xh yl yh:Nat) (b1 b2:Bool)
   (c1:∀w,Calls Tryz.prog 24 #[.agg #[.float .f64 xl,.float .f64 xh]] w fun e w'=>e=.returned (.bool (!b1))∧Below w.heap.size w w')
   (c2:∀w,Calls Tryz.prog 24 #[.agg #[.float .f64 yl,.float .f64 yh]] w fun e w'=>e=.returned (.bool (!b2))∧Below w.heap.size w w')
   (hb:(b1&&b2)=false) (w:World) :
   Calls Tryz.prog 34 #[.agg #[.float .f64 xl,.float .f64 xh],.agg #[.float .f64 yl,.float .f64 yh]] w fun e w'=>e=.returned (.agg #[.float .f64 (infI 1),.float .f64 (infI (-1))])∧Below w.heap.size w w':=by
 obtain⟨X,Y,R,HB⟩:=enter2 w (.float .f64 xl) (.float .f64 xh) (.float .f64 yl) (.float .f64 yh) 40
 cases b1
 case' true=>cases b2
 case true.true=>cases hb
 all_goals
   simp only [Bool.not_true,Bool.not_false] at c1 c2
   go_enter Tryz.func34,Tryz.ntmps34
   go_wp2_with fail
   generalize ((w.alloc (.cells #[.float .f64 xl,.float .f64 xh] 40)).alloc (.cells #[.float .f64 yl,.float .f64 yh] 40)).alloc (.cells #[.float .f64 0,.float .f64 0] 40)=V0 at *
   obtain⟨x0,x1,x2,x3,x4⟩:=id X
   obtain⟨y0,y1,y2,y3,y4⟩:=id Y
   obtain⟨r0,r1,r2,r3,r4⟩:=id R
   go_wp2_with (first
     | (go_at_call_of 24 (Value.agg #[.float .f64 xl,.float .f64 xh]);refine (c1 _).mono ?_;rintro _ w1 ⟨rfl,hb1⟩;replace X:=X.keep hb1;replace Y:=Y.keep hb1;replace R:=R.keep hb1;replace HB:=later HB hb1;clear hb1 x0 x1 x2 x3 x4 y0 y1 y2 y3 y4 r0 r1 r2 r3 r4
        obtain⟨x0,x1,x2,x3,x4⟩:=id X
        obtain⟨y0,y1,y2,y3,y4⟩:=id Y
        obtain⟨r0,r1,r2,r3,r4⟩:=id R)
     | (go_at_call_of 24 (Value.agg #[.float .f64 yl,.float .f64 yh]);refine (c2 _).mono ?_;rintro _ w1 ⟨rfl,hb1⟩;replace X:=X.keep hb1;replace Y:=Y.keep hb1;replace R:=R.keep hb1;replace HB:=later HB hb1;clear hb1 x0 x1 x2 x3 x4 y0 y1 y2 y3 y4 r0 r1 r2 r3 r4
        obtain⟨x0,x1,x2,x3,x4⟩:=id X
        obtain⟨y0,y1,y2,y3,y4⟩:=id Y
        obtain⟨r0,r1,r2,r3,r4⟩:=id R)
     | (go_at_call 38;refine (rempty_w _).mono ?_;rintro _ w1 ⟨rfl,hb1⟩;replace X:=X.keep hb1;replace Y:=Y.keep hb1;replace R:=R.keep hb1;replace HB:=later HB hb1;clear hb1 x0 x1 x2 x3 x4 y0 y1 y2 y3 y4 r0 r1 r2 r3 r4
        obtain⟨x0,x1,x2,x3,x4⟩:=id X
        obtain⟨y0,y1,y2,y3,y4⟩:=id Y
        obtain⟨r0,r1,r2,r3,r4⟩:=id R))
   refine bodyPost_ret (v:=.agg #[.float .f64 (infI 1),.float .f64 (infI (-1))]) (by simp [results,Tryz.results34,go_sem, *]) rfl ⟨rfl, ?_⟩
   repeat' (first | (with_reducible exact HB) | (with_reducible refine Below.setCell ?_ ?_ _) | go_size)
set_option maxHeartbeats 1000000 in
theorem radd_core (xl xh yl yh l u:Nat)
   (c1:∀w,Calls Tryz.prog 24 #[.agg #[.float .f64 xl,.float .f64 xh]] w fun e w'=>e=.returned (.bool false)∧Below w.heap.size w w')
   (c2:∀w,Calls Tryz.prog 24 #[.agg #[.float .f64 yl,.float .f64 yh]] w fun e w'=>e=.returned (.bool false)∧Below w.heap.size w w')
   (ca:∀w,Calls Tryz.prog 59 #[.float .f64 xl,.float .f64 yl,.int .i64 (-1)] w fun e w'=>e=.returned (.float .f64 l)∧Below w.heap.size w w')
   (cb:∀w,Calls Tryz.prog 59 #[.float .f64 xh,.float .f64 yh,.int .i64 1] w fun e w'=>e=.returned (.float .f64 u)∧Below w.heap.size w w')
   (ce:∀w,Calls Tryz.prog 58 #[.float .f64 l,.float .f64 u] w fun e w'=>e=.returned (.agg #[.float .f64 l,.float .f64 u])∧Below w.heap.size w w') (w:World) :
   Calls Tryz.prog 34 #[.agg #[.float .f64 xl,.float .f64 xh],.agg #[.float .f64 yl,.float .f64 yh]] w fun e w'=>e=.returned (.agg #[.float .f64 l,.float .f64 u])∧Below w.heap.size w w':=by
 obtain⟨X,Y,R,HB⟩:=enter2 w (.float .f64 xl) (.float .f64 xh) (.float .f64 yl) (.float .f64 yh) 40
 have ne1:w.heap.size+1+1≠w.heap.size:=by omega
 have ne2:w.heap.size≠w.heap.size+1+1:=by omega
 go_enter Tryz.func34,Tryz.ntmps34
 go_wp2_with fail
 generalize ((w.alloc (.cells #[.float .f64 xl,.float .f64 xh] 40)).alloc (.cells #[.float .f64 yl,.float .f64 yh] 40)).alloc (.cells #[.float .f64 0,.float .f64 0] 40)=V0 at *
 obtain⟨x0,x1,x2,x3,x4⟩:=id X
 obtain⟨y0,y1,y2,y3,y4⟩:=id Y
 obtain⟨r0,r1,r2,r3,r4⟩:=id R
 go_upto_region 3 with (first
     | (go_at_call_of 24 (Value.agg #[.float .f64 xl,.float .f64 xh]);refine (c1 _).mono ?_;rintro _ w1 ⟨rfl,hb1⟩;replace X:=X.keep hb1;replace Y:=Y.keep hb1;replace R:=R.keep hb1;replace HB:=later HB hb1;clear hb1 x0 x1 x2 x3 x4 y0 y1 y2 y3 y4 r0 r1 r2 r3 r4
        obtain⟨x0,x1,x2,x3,x4⟩:=id X
        obtain⟨y0,y1,y2,y3,y4⟩:=id Y
        obtain⟨r0,r1,r2,r3,r4⟩:=id R)
     | (go_at_call_of 24 (Value.agg #[.float .f64 yl,.float .f64 yh]);refine (c2 _).mono ?_;rintro _ w1 ⟨rfl,hb1⟩;replace X:=X.keep hb1;replace Y:=Y.keep hb1;replace R:=R.keep hb1;replace HB:=later HB hb1;clear hb1 x0 x1 x2 x3 x4 y0 y1 y2 y3 y4 r0 r1 r2 r3 r4
        obtain⟨x0,x1,x2,x3,x4⟩:=id X
        obtain⟨y0,y1,y2,y3,y4⟩:=id Y
        obtain⟨r0,r1,r2,r3,r4⟩:=id R))
 clear x0 x1 x2 x3 x4 y0 y1 y2 y3 y4 r0 r1 r2 r3 r4 c1 c2
 replace X:=X.drew
 replace Y:=Y.drew
 replace R:=R.drew
 replace HB:=HB.drew
 go_region_held3 (fun w'=>w'.cell? ⟨w.heap.size,0,none⟩=some (.float .f64 xl)∧w'.cell? ⟨w.heap.size,1,none⟩=some (.float .f64 xh)∧w'.cell? ⟨w.heap.size+1,0,none⟩=some (.float .f64 yl)∧w'.cell? ⟨w.heap.size+1,1,none⟩=some (.float .f64 yh)) (first | exact⟨X.1,X.2.1,Y.1,Y.2.1⟩ | go_keep)
   (first
     | (go_at_call_of 59 (Value.float .f64 xl);refine (ca _).mono ?_;rintro _ w2 ⟨rfl,hb1⟩;replace X:=X.keep hb1;replace Y:=Y.keep hb1;replace R:=R.keep hb1;replace HB:=later HB hb1;clear hb1)
     | (go_at_call_of 59 (Value.float .f64 xh);refine (cb _).mono ?_;rintro _ w2 ⟨rfl,hb1⟩;replace X:=X.keep hb1;replace Y:=Y.keep hb1;replace R:=R.keep hb1;replace HB:=later HB hb1;clear hb1)
     | (go_at_call 58;refine (ce _).mono ?_;rintro _ w3 ⟨rfl,hb1⟩;replace X:=X.keep hb1;replace Y:=Y.keep hb1;replace R:=R.keep hb1;replace HB:=later HB hb1;clear hb1;obtain⟨d0,d1,d2,d3,d4⟩:=R))
 all_goals
   go_wp2_with fail
   refine bodyPost_ret (v:=.agg #[.float .f64 l,.float .f64 u]) (by simp [results,Tryz.results34,go_sem, *]) rfl ⟨rfl, ?_⟩
   repeat' (first | (with_reducible exact HB) | (with_reducible refine Below.setCell ?_ ?_ _) | go_size)
theorem rAdd_w (xl xh yl yh:Nat) (h1:xl<18446744073709551616) (h2:xh<18446744073709551616) (h3:yl<18446744073709551616) (h4:yh<18446744073709551616) (w:World) :
   Calls Tryz.prog 34 #[.agg #[.float .f64 xl,.float .f64 xh],.agg #[.float .f64 yl,.float .f64 yh]] w fun e w'=>e=.returned (.agg #[.float .f64 (addP xl xh yl yh).1,.float .f64 (addP xl xh yl yh).2])∧Below w.heap.size w w':=by
 unfold addP
 cases hs:hsB xl xh&&hsB yl yh
 · exact radd_none xl xh yl yh _ _ (fun w=>none_w xl xh h1 h2 w) (fun w=>none_w yl yh h3 h4 w) hs w
 · obtain⟨hx,hy⟩:=Bool.and_eq_true_iff.1 hs
   obtain⟨l,u,e1,e2,S,e3,e4⟩:=add_some h1 h2 h3 h4 (hs_iff.1 hx) (hs_iff.1 hy)
   have c1:=fun w=>none_w xl xh h1 h2 w
   have c2:=fun w=>none_w yl yh h3 h4 w
   rw [hx] at c1
   rw [hy] at c2
   have ca:=told_calls e1 (fun w=>radd_w xl yl (-1) h1 h3 w)
   have cb:=told_calls e2 (fun w=>radd_w xh yh 1 h2 h4 w)
   rw [e1,e2]
   exact radd_core xl xh yl yh l u c1 c2 ca cb (fun w=>rends_w l u e3 e4 S w) w
def powW (v:Nat) (d:Int):Nat→Nat
 | 0=>v
 | n+1=>mulV (powW v d n) v d
theorem pow_num {v:Nat} (d:Int) (hv:v<18446744073709551616) (nv:nanB v=false) (n:Nat):nanB (powW v d n)=false∧powW v d n<18446744073709551616:=by
 induction n with
 | zero=>exact⟨nv,hv⟩
 | succ n ih=>exact mulV_facts d ih.1 nv
theorem pow_nz {v:Nat} (d:Int) (hv:v<18446744073709551616) (nv:nanB v=false) (zv:v≠9223372036854775808) (n:Nat):powW v d n≠9223372036854775808:=by
 cases n with
 | zero=>exact zv
 | succ n=>exact mulV_nz d (pow_num d hv nv n).1 nv
theorem mul_nneg {a b:Nat} (d:Int) (hd:d=-1∨d=1) (ha:a<18446744073709551616) (hb:b<18446744073709551616) (na:nanB a=false) (nb:nanB b=false) (ka:0≤key a) (kb:0≤key b):0≤key (mulV a b d):=by
 have z:∀e,mulV 0 b e=0:=fun e=>mulV_zl e (by decide) nb (by decide)
 have k0:key 0=0:=by decide
 rcases hd with rfl | rfl
 · have h:=mul_rise (p:=0) (by omega) ha hb (by decide) na nb kb (by rw [k0];exact ka)
   rw [z,k0] at h
   exact h
 · have n1:nanB (negB a)=false:=by rw [nanB_negB ha];exact na
   have h:=mul_rise (a:=0) (negB_lt ha) (by omega) hb n1 (by decide) nb kb (by rw [k0,key_negB ha];omega)
   rw [z,k0] at h
   have m:=mulV_mirror' ha na nb
   omega
theorem mul_updown {a b:Nat} (ha:a<18446744073709551616) (hb:b<18446744073709551616) (na:nanB a=false) (nb:nanB b=false):key (mulV a b (-1))≤key (mulV a b 1):=by
 cases fa:finB a
 · cases za:isZ a
   · cases zb:isZ b
     · rw [mulV_inf (-1) na nb za zb (by rw [fa];rfl),mulV_inf 1 na nb za zb (by rw [fa];rfl)]
       exact Int.le_refl _
     · rw [mulV_zr (-1) na nb zb,mulV_zr 1 na nb zb]
       exact Int.le_refl _
   · rw [mulV_zl (-1) na nb za,mulV_zl 1 na nb za]
     exact Int.le_refl _
 · cases fb:finB b
   · cases za:isZ a
     · cases zb:isZ b
       · rw [mulV_inf (-1) na nb za zb (by rw [fb,Bool.and_false]),mulV_inf 1 na nb za zb (by rw [fb,Bool.and_false])]
         exact Int.le_refl _
       · rw [mulV_zr (-1) na nb zb,mulV_zr 1 na nb zb]
         exact Int.le_refl _
     · rw [mulV_zl (-1) na nb za,mulV_zl 1 na nb za]
       exact Int.le_refl _
   · obtain⟨s1,s2, -, -⟩:=mulV_sides ha hb fa fb
     exact Int.le_trans s1.le s2.le
theorem pow_nneg {v:Nat} (d:Int) (hd:d=-1∨d=1) (hv:v<18446744073709551616) (nv:nanB v=false) (k0:0≤key v) (n:Nat):0≤key (powW v d n):=by
 induction n with
 | zero=>exact k0
 | succ n ih =>
   have f:=pow_num d hv nv n
   exact mul_nneg d hd f.2 hv f.1 nv ih k0
theorem fin_of {x:Nat} (hx:x<18446744073709551616) (nx:nanB x=false) (k0:0≤key x) (k1:key x≤9218868437227405311):finB x=true:=by
 cases h:finB x
 · rcases (key_inf hx nx).1 h with d | d <;> omega
 · rfl
theorem pow_top {v:Nat} (hv:v<18446744073709551616) (nv:nanB v=false) (k0:0≤key v) (k1:key v≤9218868437227405311) (n:Nat):key (powW v (-1) n)≤9218868437227405311:=by
 induction n with
 | zero=>exact k1
 | succ n ih =>
   have f:=pow_num (-1) hv nv n
   have g:=pow_nneg (-1) (Or.inl rfl) hv nv k0 n
   exact mul_top f.2 hv (fin_of f.2 f.1 g ih) (fin_of hv nv k0 k1) (mulV_is (-1) f.1 nv)
theorem pow_le {a b:Nat} (ha:a<18446744073709551616) (hb:b<18446744073709551616) (na:nanB a=false) (nb:nanB b=false) (k0:0≤key a) (k1:key a≤key b) (n:Nat):key (powW a (-1) n)≤key (powW b 1 n):=by
 induction n with
 | zero=>exact k1
 | succ n ih =>
   have f:=pow_num (-1) ha na n
   have g:=pow_num 1 hb nb n
   have q0:=pow_nneg 1 (Or.inr rfl) hb nb (by omega) n
   have s1:=mul_rise f.2 g.2 ha f.1 g.1 na k0 ih
   have s2:=mul_rise ha hb g.2 na nb g.1 q0 k1
   rw [mulV_comm a,mulV_comm b] at s2
   have s3:=mul_updown g.2 hb g.1 nb
   show key (mulV (powW a (-1) n) a (-1))≤key (mulV (powW b 1 n) b 1)
   omega
theorem mag_keys {lo hi:Nat} (hl:lo<18446744073709551616) (hh:hi<18446744073709551616) (S:Some2 lo hi):0≤key (migP lo hi)∧key (migP lo hi)≤9218868437227405311∧key (migP lo hi)≤key (magP lo hi)∧nanB (migP lo hi)=false∧nanB (magP lo hi)=false∧migP lo hi<9223372036854775808∧magP lo hi<9223372036854775808:=by
 have hs:=hs_iff.2 S
 have a1:=key_abs hl
 have a2:=key_abs hh
 have n1:=nan_abs lo
 have n2:=nan_abs hi
 rw [S.nl] at n1
 rw [S.nh] at n2
 have w1:lo%9223372036854775808<9223372036854775808:=Nat.mod_lt _ (by omega)
 have w2:hi%9223372036854775808<9223372036854775808:=Nat.mod_lt _ (by omega)
 have x1:=maxW_is (a:=lo%9223372036854775808) (b:=hi%9223372036854775808) (by omega) (by omega)
 have x2:=minW_is (a:=lo%9223372036854775808) (b:=hi%9223372036854775808) (by omega) (by omega)
 have kl:=S.le
 have k3:=S.lt
 have k4:=S.gt
 unfold migP magP
 rw [hs]
 simp only [if_true]
 rw [x1,x2]
 generalize lo%9223372036854775808=A at *
 generalize hi%9223372036854775808=B at *
 have kA:0≤key A:=by rw [a1];split <;> omega
 have kB:0≤key B:=by rw [a2];split <;> omega
 cases h:hasB lo hi 0
 · simp only [Bool.false_eq_true,if_false]
   have no:¬(key lo≤0∧0≤key hi):=fun c=>by
     have:hasB lo hi 0=true:=has_iff.2 ⟨S,by decide,by decide,c.1,c.2⟩
     rw [h] at this
     cases this
   refine⟨?_, ?_, ?_, ?_, ?_, ?_, ?_⟩
   · split <;> assumption
   · split <;> split at a1 <;> split at a2 <;> omega
   · split <;> split <;> omega
   · split <;> assumption
   · split <;> assumption
   · split <;> assumption
   · split <;> assumption
 · simp only [if_true]
   have e0:key 0=0:=by decide
   refine⟨by decide,by decide, ?_,by decide, ?_,by omega, ?_⟩
   · rw [e0];split <;> assumption
   · split <;> assumption
   · split <;> assumption
theorem even_some {lo hi:Nat} (hl:lo<18446744073709551616) (hh:hi<18446744073709551616) (S:Some2 lo hi) (n:Nat):Some2 (powW (migP lo hi) (-1) n) (powW (magP lo hi) 1 n):=by
 obtain⟨k1,k2,k3,n1,n2,w1,w2⟩:=mag_keys hl hh S
 have f:=pow_num (-1) (show migP lo hi<18446744073709551616 by omega) n1 n
 have g:=pow_num 1 (show magP lo hi<18446744073709551616 by omega) n2 n
 have t:=pow_top (by omega) n1 k1 k2 n
 have u:=pow_nneg 1 (Or.inr rfl) (show magP lo hi<18446744073709551616 by omega) n2 (by omega) n
 exact⟨f.1,g.1,pow_le (by omega) (by omega) n1 n2 k1 k3 n,by omega,by omega,pow_nz _ (by omega) n1 (by omega) n,pow_nz _ (by omega) n2 (by omega) n⟩
end Go.Proofs.YtnnfafilgiajoaaGreat
