/- The reference's numbers of stage 11: how often a divisor is in a number, the greatest common divisor, amounts. -/
import Derived.Test.YtgocelaghggpmaaDoorKt16
namespace Go.Proofs.YtgocelaghggpmaaDoor
open Go.ChangeShapes Go.WideShapes Go.ChangeAt Go.RowKit
theorem gcd_step (a b:Nat):Nat.gcd b (a%b)=Nat.gcd a b:=by rw [Nat.gcd_comm b,←Nat.gcd_rec,Nat.gcd_comm]
set_option maxHeartbeats 4000000 in
theorem common_w {ao bo:Option Addr} {l ca k cb:Nat} (a b K:Nat) (hK:K≤100000) (ha:a<2^K) (hb:b<2^K) (w:World) (A:BigIs w (.slice ao l ca) a) (B:BigIs w (.slice bo k cb) b) :
   Calls Tryd.prog 57 #[.slice ao l ca,.slice bo k cb] w fun r w'=>(∃v,r=.returned v∧BigIs w' v (Nat.gcd a b))∧Below w.heap.size w w':=by
 have HK:Hid (a<2^K∧b<2^K):=⟨ha,hb⟩
 clear ha hb
 go_enter Tryd.func57,Tryd.ntmps57
 go_upto_region 1 with fail
 go_loopg [0,1] b (fun G s0 s1 wx=>∃(m n:Nat),n≤G∧Below w.heap.size w wx∧BigIs wx s0 m∧BigIs wx s1 n∧Hid (Nat.gcd m n=Nat.gcd a b∧m<2^K∧n<2^K))
 case atStart=>exact⟨a,b,Nat.le_refl _,Below.refl _ _,A,B,rfl,HK.out.1,HK.out.2⟩
 case round =>
   clear A B HK
   obtain⟨m,n,hG,HB,M,N,H⟩:=hrel
   obtain⟨o0,k0,c0,rfl, -⟩:=M.shape
   obtain⟨o1,k1,c1,rfl,hk⟩:=N.shape
   by_cases cn:n=0
   · have z:k1=0:=hk.2 cn
     subst z
     have e:m=Nat.gcd a b:=by rw [←H.out.1,cn,Nat.gcd_zero_right]
     rw [e] at M
     clear e H hk
     go_wp2_with fail
     go_ret
     exact⟨⟨_,rfl,M⟩,HB⟩
   · have z:k1≠0:=fun q=>cn (hk.1 q)
     have z1:0<k1:=by omega
     have z2:(0:Int)<(k1:Int):=by omega
     have cr:=fun W (p:BigIs W (.slice o0 k0 c0) m) (q:BigIs W (.slice o1 k1 c1) n)=>rest_w m n K hK cn H.out.2.1 H.out.2.2 W p q
     have lt:=Nat.mod_lt m (show 0<n by omega)
     have H2:Hid (Nat.gcd n (m%n)=Nat.gcd a b∧n<2^K∧m%n<2^K):=⟨by rw [gcd_step];exact H.out.1,H.out.2.2,Nat.lt_trans lt H.out.2.2⟩
     clear H hk cn z
     generalize m%n=d at *
     go_wp2_with (go_at_call 109;(with_reducible refine (cr _ M N).mono ?_);rintro _ W1 ⟨⟨v1,rfl,D⟩,hb1⟩;replace N:=N.keep hb1;replace HB:=later HB hb1;clear hb1)
     (go_roundg d
      case measure=>omega
      case rel=>exact⟨n,d,Nat.le_refl _,HB,N,D,H2.out⟩)
theorem size_w (n:Int) (h1:-9223372036854775808≤n) (h2:n≤9223372036854775807) (w:World) :
   Calls Tryd.prog 63 #[.int .i64 n] w fun r w'=>(∃v,r=.returned v∧BigIs w' v n.natAbs)∧Below w.heap.size w w':=by
 have co:=fun W=>of_w n.natAbs (by omega) W
 have e1:n<0→IntKind.u64.wrap (-IntKind.u64.wrap n)=(n.natAbs:Int):=fun c=>by rw [IntKind.wrap_u64,IntKind.wrap_u64];omega
 have e2:¬n<0→IntKind.u64.wrap n=(n.natAbs:Int):=fun c=>by rw [IntKind.wrap_u64];omega
 generalize n.natAbs=m at *
 by_cases c:n<0
 · have e:=e1 c
   clear e1 e2
   go_enter Tryd.func63,Tryd.ntmps63
   go_wp2_with (go_at_call 26;(with_reducible refine (co _).mono ?_);rintro _ W1 ⟨⟨v1,rfl,D⟩,hb1⟩)
   go_ret
   exact⟨⟨_,rfl,D⟩,hb1⟩
 · have e:=e2 c
   clear e1 e2
   go_enter Tryd.func63,Tryd.ntmps63
   go_wp2_with (go_at_call 26;(with_reducible refine (co _).mono ?_);rintro _ W1 ⟨⟨v1,rfl,D⟩,hb1⟩)
   go_ret
   exact⟨⟨_,rfl,D⟩,hb1⟩
theorem one_w (w:World):Calls Tryd.prog 30 #[] w fun r w'=>(∃v,r=.returned v∧BigIs w' v 1)∧Below w.heap.size w w':=by
 have co:∀W,Calls Tryd.prog 26 #[.int .u64 1] W fun e w'=>(∃v',e=.returned v'∧BigIs w' v' 1)∧Below W.heap.size W w':=fun W=>of_w 1 (by omega) W
 go_enter Tryd.func30,Tryd.ntmps30
 go_wp2_with (go_at_call 26;(with_reducible refine (co _).mono ?_);rintro _ W1 ⟨⟨v1,rfl,D⟩,hb1⟩)
 go_ret
 exact⟨⟨_,rfl,D⟩,hb1⟩
end Go.Proofs.YtgocelaghggpmaaDoor
