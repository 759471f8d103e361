/- The walks of the reference's Product and Sum. The walk of the reference's Sum. The reference's numbers by what they are worth: Sign, Order, Product and Sum again. The walks of the reference's Index and At. -/
import Derived.Test.YtgfppdboogldlaaGreatZs14
import Derived.Test.YtgfppdboogldlaaGreatZs02
namespace Go.Proofs.YtgfppdboogldlaaGreat
open Go.ChangeShapes Go.WideShapes Go.ChangeAt Go.RowKit
theorem big_nil (w:World):BigIs w (.slice none 0 0) 0:=⟨[],Digs.nil,trimmed_nil,rfl,World.ownsRow_nil _ _ _ _⟩
set_option maxHeartbeats 1000000 in
theorem prod_w (g h:Bool) (va vb:Value) (m n K:Nat) (e f:Int) (hK:K≤1000000) (hm:m<2^K) (hn:n<2^K) (he:-100000≤e∧e≤100000) (hf:-100000≤f∧f≤100000) (w:World) (ha:BigIs w va m) (hb:BigIs w vb n) :
   Calls Tryz.prog 17 #[.agg #[.bool g,va,.int .i64 e],.agg #[.bool h,vb,.int .i64 f]] w fun r w' =>
     (∃s v E,r=.returned (.agg #[.bool s,v,.int .i64 E])∧BigIs w' v (m*n)∧(m*n=0→s=false∧E=0)∧(m*n≠0→s=(g != h)∧E=e+f))∧Below w.heap.size w w':=by
 obtain⟨ao,l,ca,rfl, -⟩:=ha.shape
 obtain⟨bo,k,cc,rfl, -⟩:=hb.shape
 have cb:=fun W (hW:Below w.heap.size w W)=>by_w _ _ m n K hK hm hn W (ha.keep hW) (hb.keep hW)
 clear hm hn
 generalize m*n=p at *
 by_cases h0:p=0
 · subst h0
   go_enter Tryz.func17,Tryz.ntmps17
   go_wp2_with
    (go_at_call 35;refine (cb _ (by go_grown)).mono ?_;rintro _ w1 ⟨⟨v,rfl,hv⟩,hb1⟩
     obtain⟨o1,l1,p1,rfl,hl⟩:=hv.shape
     have hl0:l1=0:=hl.2 rfl
     subst hl0
     have R:Has3 w1 (w.heap.size+1+1) (.bool false) (.slice none 0 0) (.int .i64 0):=Has3.keep ⟨by go_simp,by go_simp,by go_simp,by go_simp,by go_simp,by go_simp,by go_size⟩ hb1
     obtain⟨z0,z1,z2,z3,z4,z5,z6⟩:=R
     have HB:Below w.heap.size w w1:=later (by go_grown) hb1)
   refine bodyPost_ret (v:=.agg #[.bool false,.slice none 0 0,.int .i64 0]) (by simp [results,Tryz.results17,go_sem, *]) rfl ⟨⟨_,_,_,rfl,big_nil _,fun _=>⟨rfl,rfl⟩,fun c=>absurd rfl c⟩, ?_⟩
   repeat' (first | (with_reducible exact HB) | (with_reducible refine Below.setCell ?_ ?_ _) | go_size)
 · go_enter Tryz.func17,Tryz.ntmps17
   go_wp2_with
    (go_at_call 35;refine (cb _ (by go_grown)).mono ?_;rintro _ w1 ⟨⟨v,rfl,hv⟩,hb1⟩
     obtain⟨o1,l1,p1,rfl,hl⟩:=hv.shape
     have hl0:((l1:Int)==0)=false:=by rw [beq_eq_false_iff_ne];intro c;exact h0 (hl.1 (by omega))
     clear hl
     have X:Has3 w1 w.heap.size (.bool g) (.slice ao l ca) (.int .i64 e):=Has3.keep ⟨by go_simp,by go_simp,by go_simp,by go_simp,by go_simp,by go_simp,by go_size⟩ hb1
     have Y:Has3 w1 (w.heap.size+1) (.bool h) (.slice bo k cc) (.int .i64 f):=Has3.keep ⟨by go_simp,by go_simp,by go_simp,by go_simp,by go_simp,by go_simp,by go_size⟩ hb1
     have R:Has3 w1 (w.heap.size+1+1) (.bool false) (.slice none 0 0) (.int .i64 0):=Has3.keep ⟨by go_simp,by go_simp,by go_simp,by go_simp,by go_simp,by go_simp,by go_size⟩ hb1
     obtain⟨x0,x1,x2, -⟩:=X
     obtain⟨y0,y1,y2, -⟩:=Y
     obtain⟨z0,z1,z2,z3,z4,z5,z6⟩:=R
     obtain⟨-, -,B2⟩:=boxed3 w _ _ _
     replace B2:=B2.keep hb1
     have HB:Below w.heap.size w w1:=later (by go_grown) hb1)
   refine bodyPost_ret (v:=.agg #[.bool (!(g==h)),.slice o1 l1 p1,.int .i64 (e+f)]) (by simp [results,Tryz.results17,go_sem, *]) rfl ⟨⟨_,_,_,rfl, ?_,fun c=>absurd c h0,fun _=>⟨by cases g <;> cases h <;> rfl,rfl⟩⟩, ?_⟩
   all_goals repeat' (first | (with_reducible exact hv) | (with_reducible exact HB) | (with_reducible exact B2) | (with_reducible refine BigIs.put ?_ ?_ _ _) | (with_reducible refine Boxed.set ?_ _ _ _) | (with_reducible refine Below.setCell ?_ ?_ _) | go_size)
theorem sgnd_mul (g:Bool) (A t:Nat):sgnd g (A*t)=sgnd g A*(t:Int):=by
 unfold sgnd;cases g <;> simp [Int.neg_mul]
def NumZ (S T:Int) (K:Nat) (w:World) (x:Value) (z:Int):Prop :=
 ∃g v m e,x=.agg #[.bool g,v,.int .i64 e]∧BigIs w v m∧m<2^K∧S≤e∧e≤T∧sgnd g (m*2^(e-S).toNat)=z
theorem NumZ.keep {S T:Int} {K:Nat} {w w':World} {x:Value} {z:Int} (h:NumZ S T K w x z) (hb:Below w.heap.size w w'):NumZ S T K w' x z:=by
 obtain⟨g,v,m,e,h1,h2,h3⟩:=h
 exact⟨g,v,m,e,h1,h2.keep hb,h3⟩
theorem NumZ.wide {S T T':Int} {K K':Nat} {w:World} {x:Value} {z:Int} (h:NumZ S T K w x z) (hT:T≤T') (hK:K≤K'):NumZ S T' K' w x z:=by
 obtain⟨g,v,m,e,h1,h2,h3,h4,h5,h6⟩:=h
 exact⟨g,v,m,e,h1,h2,Nat.lt_of_lt_of_le h3 (Nat.pow_le_pow_right (by omega) hK),h4,by omega,h6⟩
theorem NumZ.scale {S T:Int} {K:Nat} {w:World} {x:Value} {z:Int} (h:NumZ S T K w x z) {S':Int} {t:Nat} (ht:S=S'+t):NumZ S' T K w x (z*((2^t:Nat):Int)):=by
 obtain⟨g,v,m,e,h1,h2,h3,h4,h5,h6⟩:=h
 refine⟨g,v,m,e,h1,h2,h3,by omega,h5, ?_⟩
 have e1:(e-S').toNat=(e-S).toNat+t:=by omega
 rw [e1,Nat.pow_add,←Nat.mul_assoc,sgnd_mul,h6]
theorem NumZ.shape {S T:Int} {K:Nat} {w:World} {x:Value} {z:Int} (h:NumZ S T K w x z):∃g ao l ca e,x=.agg #[.bool g,.slice ao l ca,.int .i64 e]:=by
 obtain⟨g,v,m,e,h1,h2, -⟩:=h
 obtain⟨ao,l,ca,rfl, -⟩:=h2.shape
 exact⟨g,ao,l,ca,e,h1⟩
theorem signZ_cmp {g:Bool} {m A:Nat} (h:A=0↔m=0):signZ g m=cmpZ (sgnd g A) 0:=by
 obtain⟨a1,a2,a3,a4⟩:=sgnd_sign (g:=g) h
 generalize sgnd g A=x at *
 unfold cmpZ
 by_cases c1:x<0
 · rw [if_pos c1];omega
 · rw [if_neg c1]
   by_cases c2:0<x
   · rw [if_pos c2];omega
   · rw [if_neg c2];omega
theorem sign_z {S T:Int} {K:Nat} {w:World} {x:Value} {z:Int} (h:NumZ S T K w x z) :
   Calls Tryz.prog 29 #[x] w fun r w'=>r=.returned (.int .i64 (cmpZ z 0))∧Below w.heap.size w w':=by
 obtain⟨g,v,m,e,rfl,h2,h3,h4,h5,rfl⟩:=h
 rw [←signZ_cmp (scale_zero m _)]
 exact sign_w g v m e w h2
theorem order_z {S T:Int} {K:Nat} {w:World} {x y:Value} {a b:Int} (hK:K≤500000) (hS:-50000≤S) (hT:T≤50000) (h1:NumZ S T K w x a) (h2:NumZ S T K w y b) :
   Calls Tryz.prog 31 #[x,y] w fun r w'=>r=.returned (.int .i64 (cmpZ a b))∧Below w.heap.size w w':=by
 obtain⟨g,v,m,e,rfl,a2,a3,a4,a5,rfl⟩:=h1
 obtain⟨h,u,n,f,rfl,b2,b3,b4,b5,rfl⟩:=h2
 exact order_w g h v u m n K e f S hK a3 b3 hS (by omega) (by omega) w a2 b2
theorem sgnd_prod (g h:Bool) (A B:Nat):sgnd (g != h) (A*B)=sgnd g A*sgnd h B:=by
 unfold sgnd
 cases g <;> cases h <;> simp [Int.neg_mul,Int.mul_neg]
theorem prod_z {S T S' T':Int} {K:Nat} {w:World} {x y:Value} {a b:Int} (hK:K≤200000) (hS:-25000≤S∧T≤25000) (hS':-25000≤S'∧T'≤25000) (h0:S+S'≤0∧0≤T+T') (h1:NumZ S T K w x a) (h2:NumZ S' T' K w y b) :
   Calls Tryz.prog 17 #[x,y] w fun r w'=>(∃v,r=.returned v∧NumZ (S+S') (T+T') (K+K) w' v (a*b))∧Below w.heap.size w w':=by
 obtain⟨g,v,m,e,rfl,a2,a3,a4,a5,rfl⟩:=h1
 obtain⟨h,u,n,f,rfl,b2,b3,b4,b5,rfl⟩:=h2
 refine (prod_w g h v u m n K e f (by omega) a3 b3 (by omega) (by omega) w a2 b2).mono ?_
 rintro _ w' ⟨⟨s,v',E,rfl,hv,z1,z2⟩,hb⟩
 refine⟨⟨_,rfl,s,v',m*n,E,rfl,hv, ?_, ?_⟩,hb⟩
 · rw [Nat.pow_add];exact Nat.mul_lt_mul'' a3 b3
 · by_cases c:m*n=0
   · obtain⟨rfl,rfl⟩:=z1 c
     refine⟨by omega,by omega, ?_⟩
     rw [←sgnd_prod]
     have e1:m*2^(e-S).toNat*(n*2^(f-S').toNat)=m*n*(2^(e-S).toNat*2^(f-S').toNat):=by
       rw [Nat.mul_mul_mul_comm]
     rw [e1,c,Nat.zero_mul,Nat.zero_mul]
     unfold sgnd
     cases (g != h) <;> rfl
   · obtain⟨rfl,rfl⟩:=z2 c
     refine⟨by omega,by omega, ?_⟩
     rw [←sgnd_prod]
     have e2:(e+f-(S+S')).toNat=(e-S).toNat+(f-S').toNat:=by omega
     rw [e2,Nat.pow_add,Nat.mul_mul_mul_comm]
theorem index_w (x:Nat) (hx:x<18446744073709551616) (w:World) :
   Calls Tryz.prog 47 #[.float .f64 x] w fun e w'=>e=.returned (.int .i64 (key x))∧w=w':=by
 unfold key
 by_cases h:x<9223372036854775808
 · have h':((x:Int)/9223372036854775808==1)=false:=by simp;omega
   rw [if_pos h]
   have hw:wrap64 (x:Int)=x:=by rw [wrap64];omega
   go_enter Tryz.func47,Tryz.ntmps47
   go_wp2
   all_goals (go_ret;exact⟨rfl,rfl⟩)
 · have h':((x:Int)/9223372036854775808==1)=true:=by simp;omega
   rw [if_neg h]
   go_enter Tryz.func47,Tryz.ntmps47
   go_wp2
   all_goals (go_ret;refine⟨?_,rfl⟩)
   all_goals
     show Ending.returned (Value.int IntKind.i64 _)=_
     congr 2
     omega
end Go.Proofs.YtgfppdboogldlaaGreat
