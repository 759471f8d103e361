/- The reference's numbers of stage 11: powers of amounts. -/
import Derived.Test.YtgocelaghggpmaaGreatDoorKo08
import Derived.Deep.RegionHeld3
namespace Go.Proofs.YtgocelaghggpmaaGreatDoor
open Go.ChangeShapes Go.WideShapes Go.ChangeAt Go.RowKit
theorem pow_room {a K i:Nat} (ha:a<2^K):a^i<2^(K*i+1):=by
 have h:a^i≤(2^K)^i:=Nat.pow_le_pow_left (Nat.le_of_lt ha) i
 rw [←Nat.pow_mul] at h
 exact Nat.lt_of_le_of_lt h (Nat.pow_lt_pow_right (by omega) (by omega))
set_option maxHeartbeats 4000000 in
theorem power_w11 {ao:Option Addr} {l ca:Nat} (a n K:Nat) (hK:K≤100) (hn:n≤200) (ha:a<2^K) (w:World) (A:BigIs w (.slice ao l ca) a) :
   Calls Tryz.prog 39 #[.slice ao l ca,.int .i64 (n:Int)] w fun r w'=>(∃v,r=.returned v∧BigIs w' v (a^n))∧Below w.heap.size w w':=by
 have c1:=one_w
 have HK:Hid (a<2^K):=ha
 clear ha
 have hni:(n:Int)≤200:=by omega
 go_enter Tryz.func39,Tryz.ntmps39
 go_upto_region 3 with (go_at_call 40;(with_reducible refine (c1 _).mono ?_);rintro _ V1 ⟨⟨v1,rfl,O⟩,HB⟩)
 clear c1
 go_loopg [5,6] n (fun G s5 s6 wx=>∃i:Nat,s6=.int .i64 (i:Int)∧i+G=n∧Below w.heap.size w wx∧BigIs wx s5 (a^i))
 case atStart=>exact⟨0,rfl,by omega,HB,O⟩
 case round =>
   clear HB O
   obtain⟨i,rfl,hi,HB,P⟩:=hrel
   obtain⟨o5,k5,u5,rfl, -⟩:=P.shape
   by_cases ci:i=n
   · subst ci
     have c2:¬(i:Int)<(i:Int):=by omega
     clear HK
     go_wp2_with fail
     go_ret
     exact⟨⟨_,rfl,P⟩,HB⟩
   · have hlt:(i:Int)<(n:Int):=by omega
     have hq:K*i+1≤100*200+1:=Nat.add_le_add_right (Nat.mul_le_mul hK (by omega)) 1
     have cb:=fun W v (p:BigIs W v (a^i)) (q:BigIs W (.slice ao l ca) a)=>by_w v (.slice ao l ca) (a^i) a (K*i+1+K) (by omega) (pow_up (pow_room HK.out)) (Nat.lt_of_lt_of_le HK.out (Nat.pow_le_pow_right (by omega) (by omega))) W p q
     have AA:=A.keep HB
     have E1:Hid (a^i*a=a^(i+1)):=(Nat.pow_succ ..).symm
     clear HK hq
     generalize a^i=pi at *
     go_wp2_with (go_at_call 38;(with_reducible refine (cb _ _ P AA).mono ?_);rintro _ W1 ⟨⟨v2,rfl,Q⟩,hb1⟩;replace HB:=later HB hb1;clear hb1)
     rw [E1.out] at Q
     (go_roundg (n-i-1)
      case measure=>omega
      case rel=>exact⟨i+1,by go_num,by omega,HB,Q⟩)
end Go.Proofs.YtgocelaghggpmaaGreatDoor
