/- The reference's Mul: the exact product, rounded. The walk of the statement UlpProducts. The reference's Add and Sub: the exact sum, rounded; the walk of the statement UlpSums. -/
import Derived.Test.YtopfabemfbdccaaGreatZe30
import Derived.Test.YtopfabemfbdccaaGreatZe29
namespace Go.Proofs.YtopfabemfbdccaaGreat
open Go.ChangeShapes Go.WideShapes Go.ChangeAt Go.RowKit
theorem ofKey_key {r:Nat} (hr:r<18446744073709551616) (hz:r≠9223372036854775808):ofKey (key r)=r:=by
 unfold key ofKey
 by_cases h:r<9223372036854775808
 · rw [if_pos h,if_neg (by omega)];omega
 · rw [if_neg h,if_pos (by omega)];omega
theorem sign_order {x:Nat} (hx:x<18446744073709551616) (hn:nanB x=false) (hz:isZ x=false):FloatKind.f64.format.order x 0=some .lt∧signB x=true∨FloatKind.f64.format.order x 0=some .gt∧signB x=false:=by
 unfold isZ at hz
 simp at hz
 unfold signB
 rcases cases0 x hx with ⟨h,_,_⟩ | ⟨_,ho,hc⟩ | ⟨_,ho,hc⟩ | ⟨_,ho,hc⟩
 · rw [hn] at h;cases h
 · omega
 · right;exact⟨ho,by simp;omega⟩
 · left;exact⟨ho,by simp;omega⟩
theorem V_sign {x:Nat} (hx:x<18446744073709551616) (hf:finB x=true):V (key x)=if splitG x then -(val (x%9223372036854775808):Int) else (val (x%9223372036854775808):Int):=by
 rw [signed_val hx hf,split_val hf]
theorem rmul_nan (a b:Nat) (dir:Int) (ha:a<18446744073709551616) (hb:b<18446744073709551616) (h:nanB a=true∨nanB a=false∧nanB b=true) (w:World) :
   Calls Tryz.prog 59 #[.float .f64 a,.float .f64 b,.int .i64 dir] w fun x w'=>Ans none x∧Below w.heap.size w w':=by
 rcases h with h | ⟨h1,h2⟩
 all_goals
   go_enter Tryz.func59,Tryz.ntmps59
   go_wp2_with (first | (go_at_call 41;refine (isNum_w _ (by assumption) _).mono ?_;rintro _ _ ⟨rfl,rfl⟩) | (go_at_call 116;refine (nan_w _).mono ?_;rintro _ _ ⟨rfl,rfl⟩))
   go_ret
   exact⟨ans_nan,Below.refl _ _⟩
theorem rmul_zero (a b:Nat) (dir:Int) (ha:a<18446744073709551616) (hb:b<18446744073709551616) (na:nanB a=false) (nb:nanB b=false) (h:(FloatKind.f64.format.order a 0==some .eq)=true∨(FloatKind.f64.format.order a 0==some .eq)=false∧(FloatKind.f64.format.order b 0==some .eq)=true) (w:World) :
   Calls Tryz.prog 59 #[.float .f64 a,.float .f64 b,.int .i64 dir] w fun x w'=>x=.returned (.float .f64 0)∧Below w.heap.size w w':=by
 rcases h with h | ⟨h1,h2⟩
 all_goals
   go_enter Tryz.func59,Tryz.ntmps59
   go_wp2_with (first | (go_at_call 41;refine (isNum_w _ (by assumption) _).mono ?_;rintro _ _ ⟨rfl,rfl⟩) | (go_at_call 116;refine (nan_w _).mono ?_;rintro _ _ ⟨rfl,rfl⟩))
   go_ret
   exact⟨rfl,Below.refl _ _⟩
set_option maxHeartbeats 400000 in
theorem rmul_inf (a b:Nat) (dir:Int) (ha:a<18446744073709551616) (hb:b<18446744073709551616) (na:nanB a=false) (nb:nanB b=false) (za:isZ a=false) (zb:isZ b=false) (hf:finB a=false∨finB a=true∧finB b=false) (w:World) :
   Calls Tryz.prog 59 #[.float .f64 a,.float .f64 b,.int .i64 dir] w fun x w'=>x=.returned (.float .f64 (infW (signB a != signB b)))∧Below w.heap.size w w':=by
 have ca:=fun w=>rfinite_w a ha w
 have cb:=fun w=>rfinite_w b hb w
 have HB:Below w.heap.size w w:=Below.refl _ _
 rcases sign_order ha na za with ⟨oa,sa⟩ | ⟨oa,sa⟩ <;> rcases sign_order hb nb zb with ⟨ob,sb⟩ | ⟨ob,sb⟩ <;> rcases hf with fa | ⟨fa,fb⟩
 all_goals
   rw [sa,sb]
   rw [fa] at ca
   try rw [fb] at cb
   clear sa sb za zb
   go_enter Tryz.func59,Tryz.ntmps59
   go_wp2_with (first | (go_at_call 41;refine (isNum_w _ (by assumption) _).mono ?_;rintro _ _ ⟨rfl,rfl⟩) | (go_at_call_of 117 (Value.float .f64 a);refine (ca _).mono ?_;rintro _ w1 ⟨rfl,hb1⟩;replace HB:=later HB hb1;clear hb1) | (go_at_call_of 117 (Value.float .f64 b);refine (cb _).mono ?_;rintro _ w2 ⟨rfl,hb1⟩;replace HB:=later HB hb1;clear hb1) | (go_at_call 118;refine (rinf_w' _ _).mono ?_;rintro _ _ ⟨rfl,rfl⟩))
   go_ret
   exact⟨rfl,HB⟩
set_option maxHeartbeats 1000000 in
theorem rmul_fin (a b:Nat) (dir:Int) (ha:a<18446744073709551616) (hb:b<18446744073709551616) (fa:finB a=true) (fb:finB b=true) (za:isZ a=false) (zb:isZ b=false) (w:World) :
   Calls Tryz.prog 59 #[.float .f64 a,.float .f64 b,.int .i64 dir] w fun x w'=>x=.returned (.float .f64 (mulF a b dir))∧Below w.heap.size w w':=by
 have ca:=fun w=>rfinite_w a ha w
 have cb:=fun w=>rfinite_w b hb w
 rw [fa] at ca
 rw [fb] at cb
 have na:=fin_num fa
 have nb:=fin_num fb
 have f0:=fun w=>float_z a ha fa w
 have f1:=fun w=>float_z b hb fb w
 have oa:=ord_zero ha na
 have ob:=ord_zero hb nb
 rw [za] at oa
 rw [zb] at ob
 obtain⟨u,hu⟩:∃u:Nat,u=1073:=⟨_,rfl⟩
 have hr:=mulF_is dir hu ha hb fa fb (splitM_zero za) (splitM_zero zb)
 have hfacts:nanB (mulF a b dir)=false∧mulF a b dir≠9223372036854775808∧mulF a b dir<18446744073709551616:=by
   have h1:=splitM_lt a
   have h2:=splitM_lt b
   exact roundN_facts _ _ _ dir (prodM_lt (splitM_zero za) (splitM_zero zb) (show splitM a<18446744073709551616 by omega) (show splitM b<18446744073709551616 by omega))
 have hok:=ofKey_key hfacts.2.2 hfacts.2.1
 clear hfacts
 generalize mulF a b dir=M at *
 have cp:=fun W v0 v1 (h0:NumZ (-1074) 971 53 W v0 (V (key a))) (h1:NumZ (-1074) 971 53 W v1 (V (key b)))=>prod_z (S:=-1074) (T:=971) (S':=-1074) (T':=971) (K:=53) (by omega) (by omega) (by omega) (by omega) h0 h1
 have cw:=fun W x (hx:NumZ (-1074+-1074) (971+971) (53+53) W x (V (key a)*V (key b)))=>whole_x (t:=u) (by omega) hr (x:=x) (w:=W) (by
   have:=hx.wide (T':=6000) (K':=20000) (by omega) (by omega)
   rw [show (-1074:Int)+-1074=-(u:Int)-1075 by omega] at this
   exact this)
 rw [hok] at cw
 clear hr hok hu
 generalize V (key a)=A at *
 generalize V (key b)=B at *
 have HB:Below w.heap.size w w:=Below.refl _ _
 go_enter Tryz.func59,Tryz.ntmps59
 go_wp2_with (first
   | (go_at_call 41;refine (isNum_w _ (by assumption) _).mono ?_;rintro _ _ ⟨rfl,rfl⟩)
   | (go_at_call_of 117 (Value.float .f64 a);refine (ca _).mono ?_;rintro _ w1 ⟨rfl,hb1⟩;replace HB:=later HB hb1;clear hb1)
   | (go_at_call_of 117 (Value.float .f64 b);refine (cb _).mono ?_;rintro _ w2 ⟨rfl,hb1⟩;replace HB:=later HB hb1;clear hb1)
   | (go_at_call_of 91 (Value.float .f64 a);refine (f0 _).mono ?_;rintro _ w3 ⟨⟨v0,rfl,hv0⟩,hb1⟩;replace HB:=later HB hb1;clear hb1)
   | (go_at_call_of 91 (Value.float .f64 b);refine (f1 _).mono ?_;rintro _ w4 ⟨⟨v1,rfl,hv1⟩,hb1⟩;replace HB:=later HB hb1;replace hv0:=hv0.keep hb1;clear hb1)
   | (go_at_call 120;refine (cp _ _ _ hv0 hv1).mono ?_;rintro _ w5 ⟨⟨v2,rfl,hv2⟩,hb1⟩;replace HB:=later HB hb1;clear hb1)
   | (go_at_call 119;refine (cw _ _ hv2).mono ?_;rintro _ w6 ⟨rfl,hb1⟩;replace HB:=later HB hb1;clear hb1))
 go_ret
 exact⟨rfl,HB⟩
theorem rmul_w (a b:Nat) (dir:Int) (ha:a<18446744073709551616) (hb:b<18446744073709551616) (w:World) :
   Calls Tryz.prog 59 #[.float .f64 a,.float .f64 b,.int .i64 dir] w fun x w'=>Ans (mulR a b dir) x∧Below w.heap.size w w':=by
 unfold mulR
 cases na:nanB a
 · cases nb:nanB b
   · simp only [Bool.or_self,Bool.false_eq_true,if_false]
     have oa:=ord_zero ha na
     have ob:=ord_zero hb nb
     cases za:isZ a
     · rw [za] at oa
       cases zb:isZ b
       · simp only [Bool.or_self,Bool.false_eq_true,if_false]
         cases fa:finB a
         · simp only [Bool.false_and,Bool.false_eq_true,if_false]
           exact (rmul_inf a b dir ha hb na nb za zb (Or.inl fa) w).mono fun x w' h=>⟨⟨_,h.1,infW_lt _,rfl⟩,h.2⟩
         · cases fb:finB b
           · simp only [Bool.and_false,Bool.false_eq_true,if_false]
             exact (rmul_inf a b dir ha hb na nb za zb (Or.inr ⟨fa,fb⟩) w).mono fun x w' h=>⟨⟨_,h.1,infW_lt _,rfl⟩,h.2⟩
           · simp only [Bool.and_self,if_true]
             have h1:=splitM_lt a
             have h2:=splitM_lt b
             have hm:=(roundN_facts (splitG a != splitG b) _ (prodE (splitM a) (splitE a) (splitM b) (splitE b)) dir (prodM_lt (splitM_zero za) (splitM_zero zb) (show splitM a<18446744073709551616 by omega) (show splitM b<18446744073709551616 by omega))).2.2
             exact (rmul_fin a b dir ha hb fa fb za zb w).mono fun x w' h=>⟨⟨_,h.1,hm,rfl⟩,h.2⟩
       · rw [zb] at ob
         simp only [Bool.or_true,if_true]
         exact (rmul_zero a b dir ha hb na nb (Or.inr ⟨oa,ob⟩) w).mono fun x w' h=>⟨⟨_,h.1,by omega,rfl⟩,h.2⟩
     · rw [za] at oa
       simp only [Bool.true_or,if_true]
       exact (rmul_zero a b dir ha hb na nb (Or.inl oa) w).mono fun x w' h=>⟨⟨_,h.1,by omega,rfl⟩,h.2⟩
   · simp only [Bool.or_true,if_true]
     exact rmul_nan a b dir ha hb (Or.inr ⟨na,nb⟩) w
 · simp only [Bool.true_or,if_true]
   exact rmul_nan a b dir ha hb (Or.inl na) w
theorem log2_mul_pow {m k:Nat} (h:m≠0):(m*2^k).log2=m.log2+k:=by
 have hp:=Nat.two_pow_pos k
 have h0:m*2^k≠0:=by
   intro c
   rcases Nat.mul_eq_zero.1 c with c | c
   · exact h c
   · omega
 have a:=Nat.log2_self_le h
 have b:=@Nat.lt_log2_self m
 have l1:m.log2+k≤(m*2^k).log2:=by
   rw [Nat.le_log2 h0,Nat.pow_add]
   exact Nat.mul_le_mul_right _ a
 have l2:(m*2^k).log2<m.log2+1+k:=by
   rw [Nat.log2_lt h0,Nat.pow_add]
   exact Nat.mul_lt_mul_of_pos_right b hp
 omega
theorem cut_pow (neg:Bool) (m k:Nat) (h:m≠0):Ieee.Toward.even.cut neg (m*2^k) k=m:=by
 unfold Ieee.Toward.cut
 have hl:=log2_mul_pow (k:=k) h
 have hp:=Nat.two_pow_pos k
 have e:min k ((m*2^k).log2+2)=k:=by omega
 simp only [e,Nat.one_shiftLeft]
 have e1:m*2^k/2^k=m:=Nat.mul_div_cancel _ hp
 have e2:m*2^k%2^k=0:=Nat.mul_mod_left _ _
 rw [e1,e2]
 have e3:(2^k<2*0 || (2^k==2*0&&m%2==1))=false:=by
   simp
 rw [e3]
 rfl
theorem nearest_parts {m k:Nat} (h:m≠0) (hm:m<9007199254740992) (hk:k≤2045) (hn:k=0∨4503599627370496≤m) (neg:Bool) :
   Ieee.double.nearest neg (m*2^k) (-1074)=if neg then 9223372036854775808+(k*4503599627370496+m) else k*4503599627370496+m:=by
 have hp:=Nat.two_pow_pos k
 have h0:m*2^k≠0:=by
   intro c
   rcases Nat.mul_eq_zero.1 c with c | c
   · exact h c
   · omega
 have hb:Ieee.double.binade=4503599627370496:=by decide
 have hi:Ieee.double.infRung=9218868437227405312:=by decide
 have hpl:Ieee.double.leastPlace=-1074:=by decide
 have hf:Ieee.double.fractionBits=52:=rfl
 have hs:Ieee.double.signWeight=9223372036854775808:=by decide
 have hl:=log2_mul_pow (k:=k) h
 have ll:m.log2<53:=(Nat.log2_lt h).2 hm
 have lk:k=0∨m.log2=52:=by
   rcases hn with c | c
   · exact Or.inl c
   · right
     have:=(Nat.le_log2 h).2 (show 2^52≤m from c)
     omega
 unfold Ieee.Format.nearest
 rw [if_neg h0]
 simp only [hb,hi,hpl,hf,hl]
 have l1:max ((-1074:Int)+((m.log2+k:Nat):Int)-((52:Nat):Int)) (-1074)=-1074+(k:Int):=by omega
 rw [l1]
 have l2:((-1074:Int)-(-1074+(k:Int))).toNat=0:=by omega
 have l3:((-1074:Int)+(k:Int) - -1074).toNat=k:=by omega
 rw [l2,l3,Nat.shiftLeft_zero,cut_pow neg m k h,Nat.min_eq_left (by omega)]
 unfold Ieee.Format.word
 rw [hs]
theorem radd_nan (a b:Nat) (dir:Int) (ha:a<18446744073709551616) (hb:b<18446744073709551616) (h:nanB a=true∨nanB a=false∧nanB b=true) (w:World) :
   Calls Tryz.prog 62 #[.float .f64 a,.float .f64 b,.int .i64 dir] w fun x w'=>Ans none x∧Below w.heap.size w w':=by
 rcases h with h | ⟨h1,h2⟩
 all_goals
   go_enter Tryz.func62,Tryz.ntmps62
   go_wp2_with (first | (go_at_call 41;refine (isNum_w _ (by assumption) _).mono ?_;rintro _ _ ⟨rfl,rfl⟩) | (go_at_call 116;refine (nan_w _).mono ?_;rintro _ _ ⟨rfl,rfl⟩))
   go_ret
   exact⟨ans_nan,Below.refl _ _⟩
set_option maxHeartbeats 400000 in
theorem radd_inf (a b:Nat) (dir:Int) (ha:a<18446744073709551616) (hb:b<18446744073709551616) (na:nanB a=false) (nb:nanB b=false) (R:Option Nat) (hR:∀r,R=some r→r<18446744073709551616)
   (h:finB a=true∧finB b=false∧R=some b∨finB a=false∧(FloatKind.f64.format.order a b==some .eq)=true∧R=some b∨finB a=false∧(FloatKind.f64.format.order a b==some .eq)=false∧finB b=true∧R=some a∨finB a=false∧(FloatKind.f64.format.order a b==some .eq)=false∧finB b=false∧R=none) (w:World) :
   Calls Tryz.prog 62 #[.float .f64 a,.float .f64 b,.int .i64 dir] w fun x w'=>Ans R x∧Below w.heap.size w w':=by
 have ca:=fun w=>rfinite_w a ha w
 have cb:=fun w=>rfinite_w b hb w
 have HB:Below w.heap.size w w:=Below.refl _ _
 rcases h with ⟨fa,fb,rfl⟩ | ⟨fa,ho,rfl⟩ | ⟨fa,ho,fb,rfl⟩ | ⟨fa,ho,fb,rfl⟩
 · rw [fa] at ca
   rw [fb] at cb
   go_enter Tryz.func62,Tryz.ntmps62
   go_wp2_with (first
     | (go_at_call 41;refine (isNum_w _ (by assumption) _).mono ?_;rintro _ _ ⟨rfl,rfl⟩)
     | (go_at_call_of 117 (Value.float .f64 a);refine (ca _).mono ?_;rintro _ w1 ⟨rfl,hb1⟩;replace HB:=later HB hb1;clear hb1)
     | (go_at_call_of 117 (Value.float .f64 b);refine (cb _).mono ?_;rintro _ w2 ⟨rfl,hb1⟩;replace HB:=later HB hb1;clear hb1)
     | (go_at_call 116;refine (nan_w _).mono ?_;rintro _ _ ⟨rfl,rfl⟩))
   go_ret
   exact⟨⟨_,rfl,hR _ rfl,rfl⟩,HB⟩
 · rw [fa] at ca
   go_enter Tryz.func62,Tryz.ntmps62
   go_wp2_with (first
     | (go_at_call 41;refine (isNum_w _ (by assumption) _).mono ?_;rintro _ _ ⟨rfl,rfl⟩)
     | (go_at_call_of 117 (Value.float .f64 a);refine (ca _).mono ?_;rintro _ w1 ⟨rfl,hb1⟩;replace HB:=later HB hb1;clear hb1)
     | (go_at_call_of 117 (Value.float .f64 b);refine (cb _).mono ?_;rintro _ w2 ⟨rfl,hb1⟩;replace HB:=later HB hb1;clear hb1)
     | (go_at_call 116;refine (nan_w _).mono ?_;rintro _ _ ⟨rfl,rfl⟩))
   go_ret
   exact⟨⟨_,rfl,hR _ rfl,rfl⟩,HB⟩
 · rw [fa] at ca
   rw [fb] at cb
   go_enter Tryz.func62,Tryz.ntmps62
   go_wp2_with (first
     | (go_at_call 41;refine (isNum_w _ (by assumption) _).mono ?_;rintro _ _ ⟨rfl,rfl⟩)
     | (go_at_call_of 117 (Value.float .f64 a);refine (ca _).mono ?_;rintro _ w1 ⟨rfl,hb1⟩;replace HB:=later HB hb1;clear hb1)
     | (go_at_call_of 117 (Value.float .f64 b);refine (cb _).mono ?_;rintro _ w2 ⟨rfl,hb1⟩;replace HB:=later HB hb1;clear hb1)
     | (go_at_call 116;refine (nan_w _).mono ?_;rintro _ _ ⟨rfl,rfl⟩))
   go_ret
   exact⟨⟨_,rfl,hR _ rfl,rfl⟩,HB⟩
 · rw [fa] at ca
   rw [fb] at cb
   go_enter Tryz.func62,Tryz.ntmps62
   go_wp2_with (first
     | (go_at_call 41;refine (isNum_w _ (by assumption) _).mono ?_;rintro _ _ ⟨rfl,rfl⟩)
     | (go_at_call_of 117 (Value.float .f64 a);refine (ca _).mono ?_;rintro _ w1 ⟨rfl,hb1⟩;replace HB:=later HB hb1;clear hb1)
     | (go_at_call_of 117 (Value.float .f64 b);refine (cb _).mono ?_;rintro _ w2 ⟨rfl,hb1⟩;replace HB:=later HB hb1;clear hb1)
     | (go_at_call 116;refine (nan_w _).mono ?_;rintro _ _ ⟨rfl,rfl⟩))
   go_ret
   exact⟨ans_nan,HB⟩
set_option maxHeartbeats 1000000 in
theorem radd_fin (a b:Nat) (dir:Int) (ha:a<18446744073709551616) (hb:b<18446744073709551616) (fa:finB a=true) (fb:finB b=true) (hlt:addF a b dir<18446744073709551616) (hnz:addF a b dir≠9223372036854775808) (w:World) :
   Calls Tryz.prog 62 #[.float .f64 a,.float .f64 b,.int .i64 dir] w fun x w'=>x=.returned (.float .f64 (addF a b dir))∧Below w.heap.size w w':=by
 have ca:=fun w=>rfinite_w a ha w
 have cb:=fun w=>rfinite_w b hb w
 rw [fa] at ca
 rw [fb] at cb
 have na:=fin_num fa
 have nb:=fin_num fb
 have f0:=fun w=>float_z a ha fa w
 have f1:=fun w=>float_z b hb fb w
 have hr:=addF_is dir ha hb fa fb
 have hok:=ofKey_key hlt hnz
 clear hlt hnz
 generalize addF a b dir=M at *
 obtain⟨L,hL⟩:∃L:Nat,L=2099:=⟨_,rfl⟩
 have cp:=fun W v0 v1 (h0:NumZ (-1074) 971 53 W v0 (V (key a))) (h1:NumZ (-1074) 971 53 W v1 (V (key b)))=>sum_z (S:=-1074) (T:=971) (K:=53) (L:=L) (by omega) (by omega) (by omega) (by omega) h0 h1
 have cw:∀W x,NumZ (-1074) 971 L W x (V (key a)+V (key b))→Calls Tryz.prog 119 #[x,.int .i64 dir] W fun r w'=>r=.returned (.float .f64 (ofKey (key M)))∧Below W.heap.size W w':=fun W x hx=>by
   have h1:=(hx.scale (S':=-1075) (t:=1) (by omega)).wide (T':=6000) (K':=20000) (by omega) (by omega)
   rw [show (V (key a)+V (key b))*((2^1:Nat):Int)=2*(V (key a)+V (key b)) by simp;omega] at h1
   exact whole_x (t:=0) (by omega) (by rw [Nat.pow_zero];exact hr) h1
 rw [hok] at cw
 clear hr hok hL
 generalize V (key a)=A at *
 generalize V (key b)=B at *
 have HB:Below w.heap.size w w:=Below.refl _ _
 go_enter Tryz.func62,Tryz.ntmps62
 go_wp2_with (first
   | (go_at_call 41;refine (isNum_w _ (by assumption) _).mono ?_;rintro _ _ ⟨rfl,rfl⟩)
   | (go_at_call_of 117 (Value.float .f64 a);refine (ca _).mono ?_;rintro _ w1 ⟨rfl,hb1⟩;replace HB:=later HB hb1;clear hb1)
   | (go_at_call_of 117 (Value.float .f64 b);refine (cb _).mono ?_;rintro _ w2 ⟨rfl,hb1⟩;replace HB:=later HB hb1;clear hb1)
   | (go_at_call_of 91 (Value.float .f64 a);refine (f0 _).mono ?_;rintro _ w3 ⟨⟨v0,rfl,hv0⟩,hb1⟩;replace HB:=later HB hb1;clear hb1)
   | (go_at_call_of 91 (Value.float .f64 b);refine (f1 _).mono ?_;rintro _ w4 ⟨⟨v1,rfl,hv1⟩,hb1⟩;replace HB:=later HB hb1;replace hv0:=hv0.keep hb1;clear hb1)
   | (go_at_call 86;refine (cp _ _ _ hv0 hv1).mono ?_;rintro _ w5 ⟨⟨v2,rfl,hv2⟩,hb1⟩;replace HB:=later HB hb1;clear hb1)
   | (go_at_call 119;refine (cw _ _ hv2).mono ?_;rintro _ w6 ⟨rfl,hb1⟩;replace HB:=later HB hb1;clear hb1))
 go_ret
 exact⟨rfl,HB⟩
theorem radd_facts (a b:Nat) (d:Int):nanB (addF a b d)=false∧addF a b d≠9223372036854775808∧addF a b d<18446744073709551616:=by
 have hm:=sumM_lt (splitG a) (splitM a) (splitE a) (splitG b) (splitM b) (splitE b) (splitM_lt a) (splitM_lt b)
 exact roundN_facts _ _ _ d hm
theorem radd_w (a b:Nat) (dir:Int) (ha:a<18446744073709551616) (hb:b<18446744073709551616) (w:World) :
   Calls Tryz.prog 62 #[.float .f64 a,.float .f64 b,.int .i64 dir] w fun x w'=>Ans (addR a b dir) x∧Below w.heap.size w w':=by
 unfold addR
 cases na:nanB a
 · cases nb:nanB b
   · simp only [Bool.or_self,Bool.false_eq_true,if_false]
     have ho:=order_eq a b ha hb
     rw [na,nb] at ho
     simp only [Bool.or_self,Bool.false_eq_true,if_false] at ho
     cases fa:finB a
     · have ea:=inf_word ha na fa
       cases fb:finB b
       · have eb:=inf_word hb nb fb
         have sd:(signB a != signB b)=true∨a=b:=by
           unfold signB
           generalize decide (9223372036854775808≤a)=s at *
           generalize decide (9223372036854775808≤b)=t at *
           cases s <;> cases t <;> simp_all
         have hne:(signB a != signB b)=true→(FloatKind.f64.format.order a b==some .eq)=false:=by
           intro h
           rw [ho]
           unfold signB at h
           have hk:compare (key a) (key b)≠.eq:=by
             intro c
             have c:=Int.compare_eq_eq.1 c
             generalize hs:decide (9223372036854775808≤a)=s at *
             generalize ht:decide (9223372036854775808≤b)=t at *
             cases s <;> cases t <;> simp at h <;> simp only [Bool.false_eq_true,if_false,if_true] at ea eb <;> subst ea <;> subst eb <;> exact absurd c (by decide)
           simp [hk]
         cases hs:(signB a != signB b)
         · rcases sd with h | h
           · rw [h] at hs;cases hs
           · subst h
             simp only [Bool.and_self,Bool.false_eq_true,if_false,Bool.not_false,Bool.and_false]
             exact radd_inf a a dir ha ha na na (some a) (fun r h=>by cases h;exact ha) (Or.inr (Or.inl ⟨fa,by rw [ho];simp,rfl⟩)) w
         · simp only [Bool.and_self,Bool.false_eq_true,if_false,Bool.not_false,if_true]
           exact radd_inf a b dir ha hb na nb none (fun r h=>by cases h) (Or.inr (Or.inr (Or.inr ⟨fa,hne hs,fb,rfl⟩))) w
       · have hne:(FloatKind.f64.format.order a b==some .eq)=false:=by
           rw [ho]
           have hk:compare (key a) (key b)≠.eq:=by
             intro c
             have c:=Int.compare_eq_eq.1 c
             have h1:¬a%9223372036854775808<9218868437227405312:=by simpa [finB] using fa
             have h2:b%9223372036854775808<9218868437227405312:=by simpa [finB] using fb
             unfold key at c
             split at c <;> split at c <;> omega
           simp [hk]
         simp only [Bool.false_and,Bool.false_eq_true,if_false,Bool.not_true,Bool.and_false]
         exact radd_inf a b dir ha hb na nb (some a) (fun r h=>by cases h;exact ha) (Or.inr (Or.inr (Or.inl ⟨fa,hne,fb,rfl⟩))) w
     · cases fb:finB b
       · simp only [Bool.and_false,Bool.false_eq_true,if_false,Bool.not_true,Bool.false_and,if_true]
         exact radd_inf a b dir ha hb na nb (some b) (fun r h=>by cases h;exact hb) (Or.inl ⟨fa,fb,rfl⟩) w
       · simp only [Bool.and_self,if_true]
         have hm:=radd_facts a b dir
         exact (radd_fin a b dir ha hb fa fb hm.2.2 hm.2.1 w).mono fun x w' h=>⟨⟨_,h.1,hm.2.2,rfl⟩,h.2⟩
   · simp only [Bool.or_true,if_true]
     exact radd_nan a b dir ha hb (Or.inr ⟨na,nb⟩) w
 · simp only [Bool.true_or,if_true]
   exact radd_nan a b dir ha hb (Or.inl na) w
def zminus (b:Nat):Nat:=if isZ b then 0 else negB b
theorem read_zero:Ieee.double.read 0=.number false 0 (-1074):=by decide
theorem sub_bits_fin {b:Nat} (hb:b<18446744073709551616) (fb:finB b=true):floatBits .sub .f64 0 b=some (zminus b):=by
 show ((Ieee.double.read 0).sum (Ieee.double.read b).opposite).map Ieee.double.write=_
 have hr:b%9223372036854775808<9218868437227405312:=by simpa [finB] using fb
 have em:b%4503599627370496=b%9223372036854775808%4503599627370496:=by omega
 rw [read_zero,read_eq b hb,if_pos hr,em]
 unfold zminus isZ
 have hneg:negB b=if b<9223372036854775808 then 9223372036854775808+b%9223372036854775808 else b%9223372036854775808:=by unfold negB;split <;> omega
 have hs:(!decide (9223372036854775808≤b))=decide (b<9223372036854775808):=by
   by_cases h:b<9223372036854775808
   · simp [h]
   · simp [h]
     omega
 have hsp:∃m k:Nat,(if b%9223372036854775808<4503599627370496 then b%9223372036854775808 else 4503599627370496+b%9223372036854775808%4503599627370496)=m∧b%9223372036854775808/4503599627370496-1=k∧(m=0↔b%9223372036854775808=0)∧m<9007199254740992∧k≤2045∧(k=0∨4503599627370496≤m)∧k*4503599627370496+m=b%9223372036854775808:=by
   refine⟨_,_,rfl,rfl, ?_⟩
   split <;> omega
 obtain⟨m,k,h1,h2,h3,h4,h5,h6,h7⟩:=hsp
 rw [h1,h2]
 simp only [Ieee.Datum.opposite,Ieee.Datum.sum,hs,Option.map]
 have hbase:min (-1074:Int) (-1074+(k:Int))=-1074:=by omega
 rw [hbase]
 have hk:((-1074:Int)+(k:Int) - -1074).toNat=k:=by omega
 have h0:Ieee.signed false 0 ((-1074:Int) - -1074).toNat=0:=by decide
 rw [hk,h0,Int.zero_add]
 have hab:(Ieee.signed (decide (b<9223372036854775808)) m k).natAbs=m*2^k:=by
   unfold Ieee.signed
   rw [Nat.shiftLeft_eq]
   generalize m*2^k=M
   split <;> omega
 have hp:=Nat.two_pow_pos k
 rw [hab]
 by_cases hz:b%9223372036854775808=0
 · have m0:=h3.2 hz
   subst m0
   have e0:Ieee.signed (decide (b<9223372036854775808)) 0 k=0:=by unfold Ieee.signed;simp
   rw [e0,Nat.zero_mul]
   simp only [hz,decide_true,if_true,Bool.false_and]
   rfl
 · have m0:m≠0:=fun c=>hz (h3.1 c)
   have mp:0<m*2^k:=Nat.mul_pos (by omega) hp
   have et:Ieee.signed (decide (b<9223372036854775808)) m k≠0:=by
     intro c;rw [c] at hab;simp at hab;omega
   have es:decide (Ieee.signed (decide (b<9223372036854775808)) m k<0)=decide (b<9223372036854775808):=by
     unfold Ieee.signed
     rw [Nat.shiftLeft_eq]
     generalize m*2^k=M at *
     by_cases h:b<9223372036854775808
     · simp [h];omega
     · simp [h]
   rw [if_neg et,es]
   show some (Ieee.double.nearest _ (m*2^k) (-1074))=_
   rw [nearest_parts m0 h4 h5 h6,h7,hneg]
   simp only [hz,decide_false,Bool.false_eq_true,if_false,decide_eq_true_eq]
theorem sub_bits_inf {b:Nat} (hb:b<18446744073709551616) (nb:nanB b=false) (fb:finB b=false):floatBits .sub .f64 0 b=some (zminus b):=by
 show ((Ieee.double.read 0).sum (Ieee.double.read b).opposite).map Ieee.double.write=_
 rw [read_zero,read_inf hb nb fb]
 have eb:=inf_word hb nb fb
 have hz:isZ b=false:=by unfold finB at fb;unfold isZ;simp at fb ⊢;omega
 unfold zminus
 rw [hz]
 simp only [Ieee.Datum.opposite,Ieee.Datum.sum,Option.map,Bool.false_eq_true,if_false]
 show some (Ieee.double.write (.infinity _))=_
 rw [write_inf]
 generalize decide (9223372036854775808≤b)=s at *
 cases s
 · simp only [Bool.false_eq_true,if_false] at eb
   subst eb
   rfl
 · simp only [if_true] at eb
   subst eb
   rfl
end Go.Proofs.YtopfabemfbdccaaGreat
