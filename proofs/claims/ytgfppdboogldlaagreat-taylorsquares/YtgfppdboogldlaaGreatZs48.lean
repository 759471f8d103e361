/- The reference's factorials; a product of numbers of different length. -/
import Derived.Test.YtgfppdboogldlaaGreatZs47
import Derived.Test.YtgfppdboogldlaaGreatZs30
namespace Go.Proofs.YtgfppdboogldlaaGreat
open Go.ChangeShapes Go.WideShapes Go.ChangeAt Go.RowKit
theorem prod2_z {S T S' T':Int} {K K':Nat} {w:World} {x y:Value} {a b:Int} (hK:K≤100000) (hK':K'≤100000) (hS:-25000≤S∧T≤25000) (hS':-25000≤S'∧T'≤25000) (h0:S+S'≤0∧0≤T+T') (h1:NumZ S T K w x a) (h2:NumZ S' T' K' w y b) :
   Calls Tryz.prog 17 #[x,y] w fun r w'=>(∃v,r=.returned v∧NumZ (S+S') (T+T') (K+K') w' v (a*b))∧Below w.heap.size w w':=by
 obtain⟨g,v,m,e,rfl,a2,a3,a4,a5,rfl⟩:=h1
 obtain⟨h,u,n,f,rfl,b2,b3,b4,b5,rfl⟩:=h2
 refine (prod_w g h v u m n (K+K') e f (by omega) (Nat.lt_of_lt_of_le a3 (Nat.pow_le_pow_right (by omega) (by omega))) (Nat.lt_of_lt_of_le b3 (Nat.pow_le_pow_right (by omega) (by omega))) (by omega) (by omega) w a2 b2).mono ?_
 rintro _ w' ⟨⟨s,v',E,rfl,hv,z1,z2⟩,hb⟩
 refine⟨⟨_,rfl,s,v',m*n,E,rfl,hv, ?_, ?_⟩,hb⟩
 · rw [Nat.pow_add];exact Nat.mul_lt_mul'' a3 b3
 · by_cases c:m*n=0
   · obtain⟨rfl,rfl⟩:=z1 c
     refine⟨by omega,by omega, ?_⟩
     rw [←sgnd_prod]
     have e1:m*2^(e-S).toNat*(n*2^(f-S').toNat)=m*n*(2^(e-S).toNat*2^(f-S').toNat):=by
       rw [Nat.mul_mul_mul_comm]
     rw [e1,c,Nat.zero_mul,Nat.zero_mul]
     unfold sgnd
     cases (g != h) <;> rfl
   · obtain⟨rfl,rfl⟩:=z2 c
     refine⟨by omega,by omega, ?_⟩
     rw [←sgnd_prod]
     have e2:(e+f-(S+S')).toNat=(e-S).toNat+(f-S').toNat:=by omega
     rw [e2,Nat.pow_add,Nat.mul_mul_mul_comm]
set_option maxHeartbeats 1000000 in
theorem intn_z (n:Nat) (hn:n<65536) (w:World) :
   Calls Tryz.prog 16 #[.int .i64 (n:Int)] w fun r w'=>(∃v,r=.returned v∧NumZ 0 0 16 w' v (n:Int))∧Below w.heap.size w w':=by
 have co:=fun w=>of_w n (by omega) w
 have hn0:¬(n:Int)<0:=by omega
 have hn1:(n:Int)<65536:=by omega
 have hw:IntKind.u64.wrap (n:Int)=(n:Int):=by rw [IntKind.wrap_u64];omega
 go_enter Tryz.func16,Tryz.ntmps16
 go_wp2_with
  (go_at_call 24;refine (co _).mono ?_;rintro _ w6 ⟨⟨v3,rfl,hv3⟩,hb6⟩
   obtain⟨o3,l3,p3,rfl, -⟩:=hv3.shape
   have R:Has3 w6 w.heap.size (.bool false) (.slice none 0 0) (.int .i64 0):=Has3.keep ⟨by go_simp,by go_simp,by go_simp,by go_simp,by go_simp,by go_simp,by go_size⟩ hb6
   have B:=(Boxed.new w #[.bool false,.slice none 0 0,.int .i64 0]).keep hb6
   have HB:Below w.heap.size w w6:=later (by go_grown) hb6
   obtain⟨z0,z1,z2,z3,z4,z5,z6⟩:=R)
 refine bodyPost_ret (v:=.agg #[.bool false,.slice o3 l3 p3,.int .i64 0]) (by simp [results,Tryz.results16,go_sem, *]) rfl ⟨⟨_,rfl,false,_,n,0,rfl, ?_,by omega,by omega,by omega,by simp [sgnd]⟩, ?_⟩
 all_goals repeat' (first | (with_reducible exact hv3) | (with_reducible exact HB) | (with_reducible exact B) | (with_reducible refine BigIs.put ?_ ?_ _ _) | (with_reducible refine Boxed.set ?_ _ _ _) | (with_reducible refine Below.setCell ?_ ?_ _) | go_size)
structure NB (w:World) (b:Nat) (v:Nv) (S T:Int) (K:Nat) (z:Int):Prop where
 h:Has3 w b (.bool v.g) (.slice v.a v.l v.c) (.int .i64 v.e)
 bx:Boxed w b
 n:NumZ S T K w v.val z
variable {w:World} {b:Nat} {v:Nv} {S T:Int} {K:Nat} {z:Int}
theorem NB.keep {W:World} (h:NB w b v S T K z) (k:Below w.heap.size w W):NB W b v S T K z:=⟨h.h.keep k,h.bx.keep k,h.n.keep k⟩
theorem NB.put (h:NB w b v S T K z) (u:Nv) {S' T':Int} {K':Nat} {z':Int} (n:NumZ S' T' K' w u.val z'):NB (set3 w b (.bool u.g) (.slice u.a u.l u.c) (.int .i64 u.e)) b u S' T' K' z':=⟨h.h.set3 _ _ _,h.bx.set3 _ _ _ _,n.put3 h.bx _ _ _⟩
def facN:Nat→Nat
 | 0=>1
 | n+1=>facN n*(n+1)
set_option maxHeartbeats 4000000 in
theorem fac_w (n:Nat) (hn:n≤12) (w:World) :
   Calls Tryz.prog 14 #[.int .i64 (n:Int)] w fun r w'=>(∃v,r=.returned v∧NumZ 0 0 256 w' v (facN n:Int))∧Below w.heap.size w w':=by
 have c1:=fun W=>int_z W
 have ci:=fun (i:Nat) (h:i<65536) W=>intn_z i h W
 have R:Has3 (w.alloc (.cells #[.bool false,.slice none 0 0,.int .i64 0] 40)) w.heap.size (.bool false) (.slice none 0 0) (.int .i64 0):=h3_newQ w _ _ _ _
 have BR:Boxed (w.alloc (.cells #[.bool false,.slice none 0 0,.int .i64 0] 40)) w.heap.size:=Boxed.new w _
 have HB:=grewQ w (.cells #[.bool false,.slice none 0 0,.int .i64 0] 40)
 go_enter Tryz.func14,Tryz.ntmps14
 go_upto_region 1 with fail
 generalize (w.alloc (.cells #[.bool false,.slice none 0 0,.int .i64 0] 40))=V1 at *
 go_upto_region 3 with (go_at_call 16;(with_reducible refine (c1 _).mono ?_);rintro _ V2 ⟨⟨v2,rfl,N2⟩,hb1⟩;obtain⟨g2,a2,l2,k2,e2,rfl⟩:=N2.shape;replace R:=R.keep hb1;replace BR:=BR.keep hb1;replace HB:=later HB hb1;clear hb1)
 have hpb:w.heap.size<V2.heap.size:=R.2.2.2.2.2.2
 have g0:=grewQ V2 (.cells #[.bool g2,.slice a2 l2 k2,.int .i64 e2] 40)
 have P:NB (V2.alloc (.cells #[.bool g2,.slice a2 l2 k2,.int .i64 e2] 40)) V2.heap.size ⟨g2,a2,l2,k2,e2⟩ 0 0 (16*2) (facN (2-1):Int):=⟨h3_newQ V2 _ _ _ _,Boxed.new V2 _,(N2.wide (Int.le_refl _) (by omega)).keep g0⟩
 replace R:=R.keep g0;replace BR:=BR.keep g0;replace HB:=later HB g0
 clear g0 N2
 generalize V2.alloc (.cells #[.bool g2,.slice a2 l2 k2,.int .i64 e2] 40)=V3 at *
 generalize V2.heap.size=pb at *
 obtain⟨M,hM⟩:∃M:Nat,M=max (n+1) 2:=⟨_,rfl⟩
 have ltn:(n:Int)≤12:=by omega
 go_loopg [4] M (fun G s4 wx=>∃(i:Nat) (u:Nv),s4=.int .i64 (i:Int)∧2≤i∧i≤M∧i+G=M+2∧NB wx pb u 0 0 (16*i) (facN (i-1):Int)∧Has3 wx w.heap.size (.bool false) (.slice none 0 0) (.int .i64 0)∧Boxed wx w.heap.size∧Below w.heap.size w wx)
 case atStart=>exact⟨2,_,rfl,by omega,by omega,by omega,P,R,BR,HB⟩
 case round =>
   clear P R BR HB
   obtain⟨i,⟨ug,ua,ul,uc,ue⟩,rfl,i2,iM,hG,P,R,BR,HB⟩:=hrel
   by_cases c:i≤n
   · have ci':(i:Int)≤(n:Int):=by omega
     have cI:=ci i (by omega)
     clear ci c1
     go_upto_region 5 with fail
     have HD:Below wr.heap.size wr wr.drew:=(Below.refl _ _).drew
     replace P:=P.keep HD;replace R:=R.keep HD;replace BR:=BR.keep HD;replace HB:=later HB HD
     clear HD
     refine held_tail 4 (fun w'=>w'.cell? ⟨pb,0,none⟩=some (.bool ug)∧w'.cell? ⟨pb,1,none⟩=some (.slice ua ul uc)∧w'.cell? ⟨pb,2,none⟩=some (.int .i64 ue)) (by kernel_rfl) (by kernel_rfl) ⟨P.h.1,P.h.2.1,P.h.2.2.1⟩ (fun hHeld=>?_)
     generalize wr.drew=V4 at *
     simp only [List.take_succ_cons,List.take_zero]
     refine wpAnyH_take (i:=0) (v:=?_) rfl (by kernel_rfl) (by kernel_rfl) (by kernel_rfl) (fun _ _ _ h=>h) (Or.inl ⟨by rfl, ?_⟩) hHeld ?_;rotate_left;(focus ((intro w hSw;(try dsimp only at hSw);go_simp);try with_reducible rfl));simp only [List.getElem_toArray,List.getElem_cons_zero,Act.put,List.setIfInBounds_toArray,List.set_cons_zero,List.set_cons_succ];refine wpAnyH_take (i:=1) (v:=?_) rfl (by kernel_rfl) (by kernel_rfl) (by kernel_rfl) (fun _ _ _ h=>h) (Or.inl ⟨by rfl, ?_⟩) hHeld ?_;rotate_left;(focus ((intro w hSw;(try dsimp only at hSw);go_simp);try with_reducible rfl));simp only [List.getElem_toArray,List.getElem_cons_zero,List.getElem_cons_succ,Act.put,List.setIfInBounds_toArray,List.set_cons_zero,List.set_cons_succ]
     refine wpAnyH_ready (rs:=[2]) (by kernel_rfl) (by simp) ?_;refine AllReadyH.cons rfl (fun K hK=>?_) AllReadyH.nil;simp only [List.getElem_toArray,List.getElem_cons_zero,List.getElem_cons_succ,Act.put,List.setIfInBounds_toArray,List.set_cons_zero,List.set_cons_succ];go_simp
     go_at_call 16
     (with_reducible refine (cI _).mono ?_)
     rintro _ W1 ⟨⟨v4,rfl,N4⟩,hb1⟩
     obtain⟨g4,a4,l4,k4,e4,rfl⟩:=N4.shape
     replace P:=P.keep hb1;replace R:=R.keep hb1;replace BR:=BR.keep hb1;replace HB:=later HB hb1
     clear hb1
     dsimp only
     refine hK.out _ _ ⟨P.h.1,P.h.2.1,P.h.2.2.1⟩ (fun hHeld=>?_)
     clear hK K
     refine wpAnyH_ready (rs:=[3]) (by kernel_rfl) (by simp) ?_;refine AllReadyH.cons rfl (fun K hK=>?_) AllReadyH.nil;simp only [List.getElem_toArray,List.getElem_cons_zero,List.getElem_cons_succ,Act.put,List.setIfInBounds_toArray,List.set_cons_zero,List.set_cons_succ];go_simp
     have cp:=prod2_z (by omega) (by omega) (by omega) (by omega) (by omega) P.n N4
     dsimp only [Nv.val] at cp
     go_at_call 17
     (with_reducible refine cp.mono ?_)
     rintro _ W2 ⟨⟨v5,rfl,N5⟩,hb1⟩
     obtain⟨g5,a5,l5,k5,e5,rfl⟩:=N5.shape
     replace P:=P.keep hb1;replace R:=R.keep hb1;replace BR:=BR.keep hb1;replace HB:=later HB hb1
     clear hb1 N4 cp cI
     dsimp only
     refine hK.out _ _ ⟨P.h.1,P.h.2.1,P.h.2.2.1⟩ (fun hHeld=>?_)
     clear hK K
     refine wpAnyH_done (by kernel_rfl) ?_ _
     simp only [HeadQ,List.drop_succ_cons,List.drop_zero]
     obtain⟨p0,p1,p2,p3,p4,p5,p6⟩:=id P.h
     dsimp only at p0 p1 p2
     have P2:=P.put ⟨g5,a5,l5,k5,e5⟩ N5
     have R2:=R.far4 (c:=pb) (by omega) (.bool g5) (.slice a5 l5 k5) (.int .i64 e5)
     have BR2:=BR.set3 pb (.bool g5) (.slice a5 l5 k5) (.int .i64 e5)
     have HB2:=below_set3 HB (b:=pb) (by omega) (.bool g5) (.slice a5 l5 k5) (.int .i64 e5)
     clear P R BR HB N5
     dsimp only at P2
     go_wp2_with fail
     obtain⟨g,rfl⟩:∃g,gk=g+1:=⟨gk-1,by omega⟩
     go_roundg g
     case measure=>omega
     case rel =>
       refine⟨i+1,⟨g5,a5,l5,k5,e5⟩,by go_num,by omega,by omega,by omega, ?_,R2,BR2,HB2⟩
       obtain⟨j,rfl⟩:∃j,i=j+1:=⟨i-1,by omega⟩
       have e:((facN (j+1-1):Nat):Int)*((j+1:Nat):Int)=((facN (j+1+1-1):Nat):Int):=by
         rw [←Int.natCast_mul];rfl
       rw [e] at P2
       exact P2
   · have ci':¬(i:Int)≤(n:Int):=by omega
     obtain⟨p0,p1,p2,p3,p4,p5,p6⟩:=id P.h
     obtain⟨r0,r1,r2,r3,r4,r5,r6⟩:=id R
     dsimp only at p0 p1 p2
     have N:=P.n
     dsimp only [Nv.val] at N
     have e:facN (i-1)=facN n:=by
       by_cases c1:n=0
       · subst c1
         rw [show i-1=1 by omega];rfl
       · rw [show i-1=n by omega]
     rw [e] at N
     have N2:=(N.wide (K':=256) (Int.le_refl _) (by omega)).put3 BR (.bool ug) (.slice ua ul uc) (.int .i64 ue)
     have HB2:=below_set3 HB (b:=w.heap.size) (Nat.le_refl _) (.bool ug) (.slice ua ul uc) (.int .i64 ue)
     clear P N HB e
     go_wp2_with fail
     exact bodyPost_ret (v:=.agg #[.bool ug,.slice ua ul uc,.int .i64 ue]) (by simp [results,Tryz.results14,go_sem, *]) rfl ⟨⟨_,rfl,N2⟩,HB2⟩
end Go.Proofs.YtgfppdboogldlaaGreat
