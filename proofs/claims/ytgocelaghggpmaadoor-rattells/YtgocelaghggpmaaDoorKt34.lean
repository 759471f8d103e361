/- The walk of the reference's Down: the place of the greatest float that is not above an exact number. The walks of the reference's grid and Rounded: the document's rounding of an exact number. -/
import Derived.Test.YtgocelaghggpmaaDoorKt32
import Derived.Test.YtgocelaghggpmaaDoorKt33
namespace Go.Proofs.YtgocelaghggpmaaDoor
open Go.ChangeShapes Go.WideShapes Go.ChangeAt Go.RowKit
theorem tdiv2 (a:Int):a=2*a.tdiv 2+a.tmod 2∧(0≤a→0≤a.tmod 2∧a.tmod 2≤1)∧(a<0→-1≤a.tmod 2∧a.tmod 2≤0):=by
 refine⟨(Int.mul_tdiv_add_tmod a 2).symm,fun h=>?_,fun h=>?_⟩
 · have h1:=Int.tmod_nonneg 2 h
   have h2:=Int.tmod_lt_of_pos a (show (0:Int)<2 by omega)
   omega
 · have h1:=Int.tmod_nonneg 2 (show 0≤-a by omega)
   have h2:=Int.tmod_lt_of_pos (-a) (show (0:Int)<2 by omega)
   rw [Int.neg_tmod] at h1 h2
   omega
theorem mid_facts {lo hi:Int} (h:lo<hi):lo<lo.tdiv 2+hi.tdiv 2+(lo.tmod 2+hi.tmod 2+1).tdiv 2∧lo.tdiv 2+hi.tdiv 2+(lo.tmod 2+hi.tmod 2+1).tdiv 2≤hi∧-1≤(lo.tmod 2+hi.tmod 2+1).tdiv 2∧(lo.tmod 2+hi.tmod 2+1).tdiv 2≤1:=by
 obtain⟨a1,a2,a3⟩:=tdiv2 lo
 obtain⟨b1,b2,b3⟩:=tdiv2 hi
 obtain⟨c1,c2,c3⟩:=tdiv2 (lo.tmod 2+hi.tmod 2+1)
 generalize lo.tdiv 2=qa at *
 generalize hi.tdiv 2=qb at *
 generalize lo.tmod 2=ra at *
 generalize hi.tmod 2=rb at *
 generalize (ra+rb+1).tdiv 2=u at *
 generalize (ra+rb+1).tmod 2=v at *
 omega
theorem NumZ.halves {w:World} {x:Value} {z:Int} (h:NumZ (-1074) 971 53 w x z):NumZ (-1075) 1024 3000 w x (2*z):=by
 have:=(h.scale (S':=-1075) (t:=1) (by omega)).wide (T':=1024) (K':=3000) (by omega) (by omega)
 rw [show 2*z=z*((2^1:Nat):Int) by simp;omega]
 exact this
theorem ofKey_facts {M:Int} (h:-9218868437227405311≤M∧M≤9218868437227405311):ofKey M<18446744073709551616∧finB (ofKey M)=true∧key (ofKey M)=M:=by
 unfold ofKey finB key
 by_cases c:M<0
 · rw [if_pos c]
   refine⟨by omega,by simp;omega, ?_⟩
   rw [if_neg (by omega)]
   omega
 · rw [if_neg c]
   refine⟨by omega,by simp;omega, ?_⟩
   rw [if_pos (by omega)]
   omega
set_option maxHeartbeats 1000000 in
theorem down_w (x:Value) (X:Ex) (w:World) (hx:XIs w x X) :
   Calls Tryd.prog 79 #[x] w fun e w'=>(∃k,e=.returned (.int .i64 k)∧KDown X k)∧Below w.heap.size w w':=by
 have hx':=hx
 obtain⟨ga,ao,la,ca',ea,gb,bo,lb,cb,eb,root,rfl, -⟩:=hx'
 go_enter Tryd.func79,Tryd.ntmps79
 go_wp2
 go_loopg [3,4,5] 18446744073709551616 (fun G s3 s4 _ wx=>Below w.heap.size w wx∧Has7 wx w.heap.size (.bool ga) (.slice ao la ca') (.int .i64 ea) (.bool gb) (.slice bo lb cb) (.int .i64 eb) (.bool root) ∧
   ∃lo hi:Int,s3=.int .i64 lo∧s4=.int .i64 hi∧-9218868437227405312≤lo∧hi≤9218868437227405311∧lo≤hi∧hi-lo<G∧Hid (lo=-9218868437227405312∨X.le (2*V lo))∧Hid (hi=9218868437227405311∨¬X.le (2*V (hi+1))))
 case atStart=>exact⟨by go_grown,⟨by go_simp,by go_simp,by go_simp,by go_simp,by go_simp,by go_simp,by go_simp,by go_size⟩, -9218868437227405312,9218868437227405311,rfl,rfl,by omega,by omega,by omega,by omega,Or.inl rfl,Or.inl rfl⟩
 case round =>
   obtain⟨HB,Y,lo,hi,rfl,rfl,b1,b2,b3,bG,low,up⟩:=hrel
   by_cases hlh:lo<hi
   · obtain⟨m1,m2,m3,m4⟩:=mid_facts hlh
     obtain⟨t1,t2,t3⟩:=tdiv2 lo
     obtain⟨t4,t5,t6⟩:=tdiv2 hi
     obtain⟨qa,e1⟩:∃q,lo.tdiv 2=q:=⟨_,rfl⟩
     obtain⟨qb,e2⟩:∃q,hi.tdiv 2=q:=⟨_,rfl⟩
     obtain⟨ra,e3⟩:∃q,lo.tmod 2=q:=⟨_,rfl⟩
     obtain⟨rb,e4⟩:∃q,hi.tmod 2=q:=⟨_,rfl⟩
     rw [e1,e2,e3,e4] at m1 m2
     rw [e3,e4] at m3 m4
     rw [e1,e3] at t1
     rw [e3] at t2 t3
     rw [e2,e4] at t4
     rw [e4] at t5 t6
     obtain⟨u,e5⟩:∃q,(ra+rb+1).tdiv 2=q:=⟨_,rfl⟩
     rw [e5] at m1 m2 m3 m4
     obtain⟨M,hM⟩:∃q,qa+qb+u=q:=⟨_,rfl⟩
     rw [hM] at m1 m2
     have r1:-1≤ra∧ra≤1:=by omega
     have r2:-1≤rb∧rb≤1:=by omega
     have q1:-4609434218613702656≤qa∧qa≤4609434218613702656:=by omega
     have q2:-4609434218613702656≤qb∧qb≤4609434218613702656:=by omega
     have HM:¬M≤lo:=by omega
     have hMb:-9218868437227405311≤M∧M≤9218868437227405311:=by omega
     have HG:Hid (hi-lo<(gk:Int)):=bG
     clear t1 t2 t3 t4 t5 t6 bG
     go_upto_region 7 with fail
     obtain⟨k1,k2,k3⟩:=ofKey_facts hMb
     have ca:=fun w=>at_w M (by omega) (by omega) w
     have cf:=fun w=>float_z (ofKey M) k1 k2 w
     rw [k3] at cf
     generalize ofKey M=F at *
     replace Y:=Y.drew
     replace HB:=HB.drew
     go_region_held3 (fun w'=>w'.cell? ⟨w.heap.size,0,none⟩=some (.bool ga)∧w'.cell? ⟨w.heap.size,1,none⟩=some (.slice ao la ca')∧w'.cell? ⟨w.heap.size,2,none⟩=some (.int .i64 ea)∧w'.cell? ⟨w.heap.size,3,none⟩=some (.bool gb)∧w'.cell? ⟨w.heap.size,4,none⟩=some (.slice bo lb cb)∧w'.cell? ⟨w.heap.size,5,none⟩=some (.int .i64 eb)∧w'.cell? ⟨w.heap.size,6,none⟩=some (.bool root)) (first | exact⟨Y.1,Y.2.1,Y.2.2.1,Y.2.2.2.1,Y.2.2.2.2.1,Y.2.2.2.2.2.1,Y.2.2.2.2.2.2.1⟩ | go_keep)
       (first
         | (go_at_call 82;refine (ca _).mono ?_;rintro _ _ ⟨rfl,rfl⟩)
         | (go_at_call 81;refine (cf _).mono ?_;rintro _ w2 ⟨⟨v,rfl,hv⟩,hb1⟩;replace Y:=Y.keep hb1;replace HB:=later HB hb1;clear hb1)
         | (go_at_call 85;refine (below_x hv.halves (hx.keep HB)).mono ?_;rintro _ w3 ⟨⟨b,rfl,hbt⟩,hb1⟩;replace Y:=Y.keep hb1;replace HB:=later HB hb1;clear hb1))
     all_goals
       have HT:Hid _:=hbt
       clear hbt
       have hG:=HG.out
       cases b
       · go_wp2_with fail
         go_roundg (gk-1)
         case measure=>omega
         case rel=>exact⟨HB,Y,lo,M-1,rfl,by go_num,b1,by omega,by omega,by omega,low,Or.inr (by rw [Int.sub_add_cancel];have:=HT.out;simpa using this)⟩
       · go_wp2_with fail
         go_roundg (gk-1)
         case measure=>omega
         case rel=>exact⟨HB,Y,M,hi,rfl,rfl,by omega,b2,m2,by omega,Or.inr (by have:=HT.out;simpa using this),up⟩
   · have:lo=hi:=by omega
     subst this
     have hk:KDown X lo:=⟨b1,b2,low.out,up.out⟩
     go_wp2_with fail
     go_ret
     exact⟨⟨_,rfl,hk⟩,HB⟩
theorem NumZ.put {S T:Int} {K:Nat} {w:World} {x:Value} {z:Int} (h:NumZ S T K w x z) {b:Nat} (hb:Boxed w b) (o:Nat) (y:Value):NumZ S T K (w.setCell ⟨b,o,none⟩ y) x z:=by
 obtain⟨g,v,m,e,h1,h2,h3⟩:=h
 exact⟨g,v,m,e,h1,h2.put hb o y,h3⟩
theorem val_top {u:Nat} (hu:u=2046):val 9218868437227405312=2^(52+u):=by
 unfold val
 rw [if_neg (by omega),show 9218868437227405312/4503599627370496-1=2046 from rfl,←hu,show 4503599627370496+9218868437227405312%4503599627370496=2^52 from rfl,←Nat.pow_add]
theorem V_top {t:Nat} (ht:t=2098):V 9218868437227405312=((2^t:Nat):Int):=by
 obtain⟨u,hu⟩:∃u:Nat,u=2046:=⟨_,rfl⟩
 have h:=V_nat 9218868437227405312
 rw [show ((9218868437227405312:Nat):Int)=9218868437227405312 from rfl,val_top hu] at h
 rw [h,show t=52+u by omega]
theorem V_bot {t:Nat} (ht:t=2098):V (-9218868437227405312)=-((2^t:Nat):Int):=by
 rw [V_neg,V_top ht]
set_option maxHeartbeats 1000000 in
theorem grid_z (i:Int) (h:-9218868437227405312≤i∧i≤9218868437227405312) (w:World) :
   Calls Tryd.prog 84 #[.int .i64 i] w fun r w'=>(∃v,r=.returned v∧NumZ (-1074) 1024 53 w' v (V i))∧Below w.heap.size w w':=by
 have co:=fun w=>of_w 1 (by omega) w
 by_cases h1:9218868437227405311<i
 · have:i=9218868437227405312:=by omega
   subst this
   obtain⟨t,ht⟩:∃t:Nat,t=2098:=⟨_,rfl⟩
   have hV:=V_top ht
   generalize V 9218868437227405312=Z at *
   have HV:Hid _:=hV
   have HT:Hid (t=2098):=ht
   clear hV h1 ht
   go_enter Tryd.func84,Tryd.ntmps84
   go_wp2_with
    (go_at_call 26;refine (co _).mono ?_;rintro _ w6 ⟨⟨v3,rfl,hv3⟩,hb6⟩
     obtain⟨o3,l3,p3,rfl, -⟩:=hv3.shape
     have R:Has3 w6 w.heap.size (.bool false) (.slice none 0 0) (.int .i64 0):=Has3.keep ⟨by go_simp,by go_simp,by go_simp,by go_simp,by go_simp,by go_simp,by go_size⟩ hb6
     have B:=(Boxed.new w #[.bool false,.slice none 0 0,.int .i64 0]).keep hb6
     have HB:Below w.heap.size w w6:=later (by go_grown) hb6
     obtain⟨z0,z1,z2,z3,z4,z5,z6⟩:=R)
   refine bodyPost_ret (v:=.agg #[.bool false,.slice o3 l3 p3,.int .i64 1024]) (by simp [results,Tryd.results84,go_sem, *]) rfl ⟨⟨_,rfl,false,_,1,1024,rfl, ?_,by omega,by omega,by omega, ?_⟩, ?_⟩
   rotate_left
   · rw [HV.out,Nat.one_mul,show (1024 - -1074:Int).toNat=t by rw [HT.out];rfl];rfl
   all_goals repeat' (first | (with_reducible exact hv3) | (with_reducible exact HB) | (with_reducible exact B) | (with_reducible refine BigIs.put ?_ ?_ _ _) | (with_reducible refine Boxed.set ?_ _ _ _) | (with_reducible refine Below.setCell ?_ ?_ _) | go_size)
 · by_cases h2:i < -9218868437227405311
   · have:i=-9218868437227405312:=by omega
     subst this
     obtain⟨t,ht⟩:∃t:Nat,t=2098:=⟨_,rfl⟩
     have hV:=V_bot ht
     generalize V (-9218868437227405312)=Z at *
     have HV:Hid _:=hV
     have HT:Hid (t=2098):=ht
     clear hV h1 h2 ht
     go_enter Tryd.func84,Tryd.ntmps84
     go_wp2_with
      (go_at_call 26;refine (co _).mono ?_;rintro _ w6 ⟨⟨v3,rfl,hv3⟩,hb6⟩
       obtain⟨o3,l3,p3,rfl, -⟩:=hv3.shape
       have R:Has3 w6 w.heap.size (.bool false) (.slice none 0 0) (.int .i64 0):=Has3.keep ⟨by go_simp,by go_simp,by go_simp,by go_simp,by go_simp,by go_simp,by go_size⟩ hb6
       have B:=(Boxed.new w #[.bool false,.slice none 0 0,.int .i64 0]).keep hb6
       have HB:Below w.heap.size w w6:=later (by go_grown) hb6
       obtain⟨z0,z1,z2,z3,z4,z5,z6⟩:=R)
     refine bodyPost_ret (v:=.agg #[.bool true,.slice o3 l3 p3,.int .i64 1024]) (by simp [results,Tryd.results84,go_sem, *]) rfl ⟨⟨_,rfl,true,_,1,1024,rfl, ?_,by omega,by omega,by omega, ?_⟩, ?_⟩
     rotate_left
     · rw [HV.out,Nat.one_mul,show (1024 - -1074:Int).toNat=t by rw [HT.out];rfl];rfl
     all_goals repeat' (first | (with_reducible exact hv3) | (with_reducible exact HB) | (with_reducible exact B) | (with_reducible refine BigIs.put ?_ ?_ _ _) | (with_reducible refine Boxed.set ?_ _ _ _) | (with_reducible refine Below.setCell ?_ ?_ _) | go_size)
   · obtain⟨k1,k2,k3⟩:=ofKey_facts (M:=i) (by omega)
     have ca:=fun w=>at_w i (by omega) (by omega) w
     have cf:=fun w=>float_z (ofKey i) k1 k2 w
     rw [k3] at cf
     generalize ofKey i=F at *
     go_enter Tryd.func84,Tryd.ntmps84
     go_wp2_with (first
       | (go_at_call 82;refine (ca _).mono ?_;rintro _ _ ⟨rfl,rfl⟩)
       | (go_at_call 81;refine (cf _).mono ?_;rintro _ w6 ⟨⟨v3,rfl,hv3⟩,hb6⟩
          obtain⟨g3,o3,l3,p3,e3,rfl⟩:=hv3.shape
          have R:Has3 w6 w.heap.size (.bool false) (.slice none 0 0) (.int .i64 0):=Has3.keep ⟨by go_simp,by go_simp,by go_simp,by go_simp,by go_simp,by go_simp,by go_size⟩ hb6
          have B:=(Boxed.new w #[.bool false,.slice none 0 0,.int .i64 0]).keep hb6
          have HB:Below w.heap.size w w6:=later (by go_grown) hb6
          obtain⟨z0,z1,z2,z3,z4,z5,z6⟩:=R))
     refine bodyPost_ret (v:=.agg #[.bool g3,.slice o3 l3 p3,.int .i64 e3]) (by simp [results,Tryd.results84,go_sem, *]) rfl ⟨⟨_,rfl, ?_⟩, ?_⟩
     · refine NumZ.wide ?_ (by omega) (Nat.le_refl 53) (T:=971)
       repeat' (first | (with_reducible exact hv3) | (with_reducible exact B) | (with_reducible refine NumZ.put ?_ ?_ _ _) | (with_reducible refine Boxed.set ?_ _ _ _))
     · repeat' (first | (with_reducible exact HB) | (with_reducible refine Below.setCell ?_ ?_ _) | go_size)
end Go.Proofs.YtgocelaghggpmaaDoor
