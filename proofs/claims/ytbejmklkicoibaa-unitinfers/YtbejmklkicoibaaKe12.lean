/- The reference's numbers of stage 11: products, quotients, powers, the order. -/
import Derived.Test.YtbejmklkicoibaaKe08
namespace Go.Proofs.Ytbejmklkicoibaa
open Go.ChangeShapes Go.WideShapes Go.ChangeAt Go.RowKit
theorem far_rt {w:World} {b c k:Nat} {v0 v1 u:Value} (h:c≠b) (hc:w.cell? ⟨c,k,none⟩=some u):((w.setCell ⟨b,0,none⟩ v0).setCell ⟨b,1,none⟩ v1).cell? ⟨c,k,none⟩=some u:=by
 rw [World.cell?_setCell_far _ _ _ _ (fun e=>h e.symm),World.cell?_setCell_far _ _ _ _ (fun e=>h e.symm),hc]
theorem nat64 {a b:Nat} (ha:a<2^64) (hb:b<2^64):a*b<2^128:=by
 have:=Nat.mul_lt_mul'' ha hb
 rw [<-Nat.pow_add] at this
 exact this
def mulV11 (aN aD bN bD:Int):Int×Int×Int:=if rightR aN aD&&rightR bN bD then ofV (!(decide (aN<0)==decide (bN<0))) (aN.natAbs*bN.natAbs) (aD.natAbs*bD.natAbs) else (0,0,1)
theorem rightR_D {N D:Int} (h:rightR N D=true):1<=D:=by
 unfold rightR at h
 simp only [Bool.and_eq_true,decide_eq_true_eq] at h
 exact h.1
set_option maxHeartbeats 4000000 in
theorem mul11_bad (aN aD bN bD:Int) (ha:I64 aN/\I64 aD) (hb:I64 bN/\I64 bD) (h:(rightR aN aD&&rightR bN bD)=false) (w:World) :
  Calls Try.prog 70 #[.agg #[.int .i64 aN,.int .i64 aD],.agg #[.int .i64 bN,.int .i64 bD]] w fun r w'=>r=.returned (.tuple #[.agg #[.int .i64 0,.int .i64 0],.int .i64 1])/\Below w.heap.size w w':=by
 have X:Rt2 (((w.alloc (.cells #[.int .i64 aN,.int .i64 aD] 27)).alloc (.cells #[.int .i64 bN,.int .i64 bD] 27)).alloc (.cells #[.int .i64 0,.int .i64 0] 27)) w.heap.size (.int .i64 aN) (.int .i64 aD):=⟨by go_simp,by go_simp,by go_simp,by go_simp,by go_size⟩
 have Y:Rt2 (((w.alloc (.cells #[.int .i64 aN,.int .i64 aD] 27)).alloc (.cells #[.int .i64 bN,.int .i64 bD] 27)).alloc (.cells #[.int .i64 0,.int .i64 0] 27)) (w.heap.size+1) (.int .i64 bN) (.int .i64 bD):=⟨by go_simp,by go_simp,by go_simp,by go_simp,by go_size⟩
 have R:Rt2 (((w.alloc (.cells #[.int .i64 aN,.int .i64 aD] 27)).alloc (.cells #[.int .i64 bN,.int .i64 bD] 27)).alloc (.cells #[.int .i64 0,.int .i64 0] 27)) (w.heap.size+1+1) (.int .i64 0) (.int .i64 0):=⟨by go_simp,by go_simp,by go_simp,by go_simp,by go_size⟩
 have HB:Below w.heap.size w (((w.alloc (.cells #[.int .i64 aN,.int .i64 aD] 27)).alloc (.cells #[.int .i64 bN,.int .i64 bD] 27)).alloc (.cells #[.int .i64 0,.int .i64 0] 27)):=by go_grown
 have c1:=fun W=>right11_w aN aD ha.1 ha.2 W
 have c2:=fun W=>right11_w bN bD hb.1 hb.2 W
 clear ha hb
 generalize rightR aN aD=r1 at *
 generalize rightR bN bD=r2 at *
 cases r1 <;> cases r2
 case true.true=>exact absurd h (by decide)
 all_goals
  clear h
  go_enter Try.func70,Try.ntmps70
  go_upto_region 1 with fail
  generalize (((w.alloc (.cells #[.int .i64 aN,.int .i64 aD] 27)).alloc (.cells #[.int .i64 bN,.int .i64 bD] 27)).alloc (.cells #[.int .i64 0,.int .i64 0] 27))=V1 at *
  obtain⟨x0,x1,x2,x3,x4⟩:=id X
  obtain⟨y0,y1,y2,y3,y4⟩:=id Y
  go_wp2_with (first
   | (go_at_call_of 42 (Value.agg #[.int .i64 aN,.int .i64 aD]);(with_reducible refine (c1 _).mono ?_);rintro _ W1 ⟨rfl,hb1⟩;replace X:=X.keep hb1;replace Y:=Y.keep hb1;replace R:=R.keep hb1;replace HB:=later HB hb1;clear hb1 x0 x1 x2 x3 x4 y0 y1 y2 y3 y4;obtain⟨y0,y1,y2,y3,y4⟩:=id Y;obtain⟨r0,r1,r2,r3,r4⟩:=id R)
   | (go_at_call_of 42 (Value.agg #[.int .i64 bN,.int .i64 bD]);(with_reducible refine (c2 _).mono ?_);rintro _ W2 ⟨rfl,hb1⟩;replace X:=X.keep hb1;replace Y:=Y.keep hb1;replace R:=R.keep hb1;replace HB:=later HB hb1;clear hb1 y0 y1 y2 y3 y4 r0 r1 r2 r3 r4;obtain⟨r0,r1,r2,r3,r4⟩:=id R))
  refine bodyPost_ret (v:=.tuple #[.agg #[.int .i64 0,.int .i64 0],.int .i64 1]) (by simp [results,Try.results70,go_sem, *]) rfl ⟨rfl, ?_⟩
  repeat' (first | (with_reducible exact HB) | (with_reducible refine Below.setCell ?_ ?_ _) | go_size)
set_option maxHeartbeats 4000000 in
theorem div11_bad (aN aD bN bD:Int) (ha:I64 aN/\I64 aD) (hb:I64 bN/\I64 bD) (h:(rightR aN aD&&rightR bN bD)=false) (w:World) :
  Calls Try.prog 47 #[.agg #[.int .i64 aN,.int .i64 aD],.agg #[.int .i64 bN,.int .i64 bD]] w fun r w'=>r=.returned (.tuple #[.agg #[.int .i64 0,.int .i64 0],.int .i64 1])/\Below w.heap.size w w':=by
 have X:Rt2 (((w.alloc (.cells #[.int .i64 aN,.int .i64 aD] 27)).alloc (.cells #[.int .i64 bN,.int .i64 bD] 27)).alloc (.cells #[.int .i64 0,.int .i64 0] 27)) w.heap.size (.int .i64 aN) (.int .i64 aD):=⟨by go_simp,by go_simp,by go_simp,by go_simp,by go_size⟩
 have Y:Rt2 (((w.alloc (.cells #[.int .i64 aN,.int .i64 aD] 27)).alloc (.cells #[.int .i64 bN,.int .i64 bD] 27)).alloc (.cells #[.int .i64 0,.int .i64 0] 27)) (w.heap.size+1) (.int .i64 bN) (.int .i64 bD):=⟨by go_simp,by go_simp,by go_simp,by go_simp,by go_size⟩
 have R:Rt2 (((w.alloc (.cells #[.int .i64 aN,.int .i64 aD] 27)).alloc (.cells #[.int .i64 bN,.int .i64 bD] 27)).alloc (.cells #[.int .i64 0,.int .i64 0] 27)) (w.heap.size+1+1) (.int .i64 0) (.int .i64 0):=⟨by go_simp,by go_simp,by go_simp,by go_simp,by go_size⟩
 have HB:Below w.heap.size w (((w.alloc (.cells #[.int .i64 aN,.int .i64 aD] 27)).alloc (.cells #[.int .i64 bN,.int .i64 bD] 27)).alloc (.cells #[.int .i64 0,.int .i64 0] 27)):=by go_grown
 have c1:=fun W=>right11_w aN aD ha.1 ha.2 W
 have c2:=fun W=>right11_w bN bD hb.1 hb.2 W
 clear ha hb
 generalize rightR aN aD=r1 at *
 generalize rightR bN bD=r2 at *
 cases r1 <;> cases r2
 case true.true=>exact absurd h (by decide)
 all_goals
  clear h
  go_enter Try.func47,Try.ntmps47
  go_upto_region 1 with fail
  generalize (((w.alloc (.cells #[.int .i64 aN,.int .i64 aD] 27)).alloc (.cells #[.int .i64 bN,.int .i64 bD] 27)).alloc (.cells #[.int .i64 0,.int .i64 0] 27))=V1 at *
  obtain⟨x0,x1,x2,x3,x4⟩:=id X
  obtain⟨y0,y1,y2,y3,y4⟩:=id Y
  go_wp2_with (first
   | (go_at_call_of 42 (Value.agg #[.int .i64 aN,.int .i64 aD]);(with_reducible refine (c1 _).mono ?_);rintro _ W1 ⟨rfl,hb1⟩;replace X:=X.keep hb1;replace Y:=Y.keep hb1;replace R:=R.keep hb1;replace HB:=later HB hb1;clear hb1 x0 x1 x2 x3 x4 y0 y1 y2 y3 y4;obtain⟨y0,y1,y2,y3,y4⟩:=id Y;obtain⟨r0,r1,r2,r3,r4⟩:=id R)
   | (go_at_call_of 42 (Value.agg #[.int .i64 bN,.int .i64 bD]);(with_reducible refine (c2 _).mono ?_);rintro _ W2 ⟨rfl,hb1⟩;replace X:=X.keep hb1;replace Y:=Y.keep hb1;replace R:=R.keep hb1;replace HB:=later HB hb1;clear hb1 y0 y1 y2 y3 y4 r0 r1 r2 r3 r4;obtain⟨r0,r1,r2,r3,r4⟩:=id R))
  refine bodyPost_ret (v:=.tuple #[.agg #[.int .i64 0,.int .i64 0],.int .i64 1]) (by simp [results,Try.results47,go_sem, *]) rfl ⟨rfl, ?_⟩
  repeat' (first | (with_reducible exact HB) | (with_reducible refine Below.setCell ?_ ?_ _) | go_size)
set_option maxHeartbeats 4000000 in
theorem add11_bad (aN aD bN bD:Int) (ha:I64 aN/\I64 aD) (hb:I64 bN/\I64 bD) (h:(rightR aN aD&&rightR bN bD)=false) (w:World) :
  Calls Try.prog 71 #[.agg #[.int .i64 aN,.int .i64 aD],.agg #[.int .i64 bN,.int .i64 bD]] w fun r w'=>r=.returned (.tuple #[.agg #[.int .i64 0,.int .i64 0],.int .i64 1])/\Below w.heap.size w w':=by
 have X:Rt2 (((w.alloc (.cells #[.int .i64 aN,.int .i64 aD] 27)).alloc (.cells #[.int .i64 bN,.int .i64 bD] 27)).alloc (.cells #[.int .i64 0,.int .i64 0] 27)) w.heap.size (.int .i64 aN) (.int .i64 aD):=⟨by go_simp,by go_simp,by go_simp,by go_simp,by go_size⟩
 have Y:Rt2 (((w.alloc (.cells #[.int .i64 aN,.int .i64 aD] 27)).alloc (.cells #[.int .i64 bN,.int .i64 bD] 27)).alloc (.cells #[.int .i64 0,.int .i64 0] 27)) (w.heap.size+1) (.int .i64 bN) (.int .i64 bD):=⟨by go_simp,by go_simp,by go_simp,by go_simp,by go_size⟩
 have R:Rt2 (((w.alloc (.cells #[.int .i64 aN,.int .i64 aD] 27)).alloc (.cells #[.int .i64 bN,.int .i64 bD] 27)).alloc (.cells #[.int .i64 0,.int .i64 0] 27)) (w.heap.size+1+1) (.int .i64 0) (.int .i64 0):=⟨by go_simp,by go_simp,by go_simp,by go_simp,by go_size⟩
 have HB:Below w.heap.size w (((w.alloc (.cells #[.int .i64 aN,.int .i64 aD] 27)).alloc (.cells #[.int .i64 bN,.int .i64 bD] 27)).alloc (.cells #[.int .i64 0,.int .i64 0] 27)):=by go_grown
 have c1:=fun W=>right11_w aN aD ha.1 ha.2 W
 have c2:=fun W=>right11_w bN bD hb.1 hb.2 W
 clear ha hb
 generalize rightR aN aD=r1 at *
 generalize rightR bN bD=r2 at *
 cases r1 <;> cases r2
 case true.true=>exact absurd h (by decide)
 all_goals
  clear h
  go_enter Try.func71,Try.ntmps71
  go_upto_region 1 with fail
  generalize (((w.alloc (.cells #[.int .i64 aN,.int .i64 aD] 27)).alloc (.cells #[.int .i64 bN,.int .i64 bD] 27)).alloc (.cells #[.int .i64 0,.int .i64 0] 27))=V1 at *
  obtain⟨x0,x1,x2,x3,x4⟩:=id X
  obtain⟨y0,y1,y2,y3,y4⟩:=id Y
  go_wp2_with (first
   | (go_at_call_of 42 (Value.agg #[.int .i64 aN,.int .i64 aD]);(with_reducible refine (c1 _).mono ?_);rintro _ W1 ⟨rfl,hb1⟩;replace X:=X.keep hb1;replace Y:=Y.keep hb1;replace R:=R.keep hb1;replace HB:=later HB hb1;clear hb1 x0 x1 x2 x3 x4 y0 y1 y2 y3 y4;obtain⟨y0,y1,y2,y3,y4⟩:=id Y;obtain⟨r0,r1,r2,r3,r4⟩:=id R)
   | (go_at_call_of 42 (Value.agg #[.int .i64 bN,.int .i64 bD]);(with_reducible refine (c2 _).mono ?_);rintro _ W2 ⟨rfl,hb1⟩;replace X:=X.keep hb1;replace Y:=Y.keep hb1;replace R:=R.keep hb1;replace HB:=later HB hb1;clear hb1 y0 y1 y2 y3 y4 r0 r1 r2 r3 r4;obtain⟨r0,r1,r2,r3,r4⟩:=id R))
  refine bodyPost_ret (v:=.tuple #[.agg #[.int .i64 0,.int .i64 0],.int .i64 1]) (by simp [results,Try.results71,go_sem, *]) rfl ⟨rfl, ?_⟩
  repeat' (first | (with_reducible exact HB) | (with_reducible refine Below.setCell ?_ ?_ _) | go_size)
set_option maxHeartbeats 8000000 in
theorem mul11_good (aN aD bN bD:Int) (ha:I64 aN/\I64 aD) (hb:I64 bN/\I64 bD) (h1:rightR aN aD=true) (h2:rightR bN bD=true)  (w:World) :
  Calls Try.prog 70 #[.agg #[.int .i64 aN,.int .i64 aD],.agg #[.int .i64 bN,.int .i64 bD]] w fun r w'=>r=.returned (.tuple #[.agg #[.int .i64 (ofV (!(decide (aN<0)==decide (bN<0))) (aN.natAbs*bN.natAbs) (aD.natAbs*bD.natAbs)).1,.int .i64 (ofV (!(decide (aN<0)==decide (bN<0))) (aN.natAbs*bN.natAbs) (aD.natAbs*bD.natAbs)).2.1],.int .i64 (ofV (!(decide (aN<0)==decide (bN<0))) (aN.natAbs*bN.natAbs) (aD.natAbs*bD.natAbs)).2.2])/\Below w.heap.size w w':=by
 have X:Rt2 (((w.alloc (.cells #[.int .i64 aN,.int .i64 aD] 27)).alloc (.cells #[.int .i64 bN,.int .i64 bD] 27)).alloc (.cells #[.int .i64 0,.int .i64 0] 27)) w.heap.size (.int .i64 aN) (.int .i64 aD):=⟨by go_simp,by go_simp,by go_simp,by go_simp,by go_size⟩
 have Y:Rt2 (((w.alloc (.cells #[.int .i64 aN,.int .i64 aD] 27)).alloc (.cells #[.int .i64 bN,.int .i64 bD] 27)).alloc (.cells #[.int .i64 0,.int .i64 0] 27)) (w.heap.size+1) (.int .i64 bN) (.int .i64 bD):=⟨by go_simp,by go_simp,by go_simp,by go_simp,by go_size⟩
 have R:Rt2 (((w.alloc (.cells #[.int .i64 aN,.int .i64 aD] 27)).alloc (.cells #[.int .i64 bN,.int .i64 bD] 27)).alloc (.cells #[.int .i64 0,.int .i64 0] 27)) (w.heap.size+1+1) (.int .i64 0) (.int .i64 0):=⟨by go_simp,by go_simp,by go_simp,by go_simp,by go_size⟩
 have HB:Below w.heap.size w (((w.alloc (.cells #[.int .i64 aN,.int .i64 aD] 27)).alloc (.cells #[.int .i64 bN,.int .i64 bD] 27)).alloc (.cells #[.int .i64 0,.int .i64 0] 27)):=by go_grown
 have c1:=fun W=>right11_w aN aD ha.1 ha.2 W
 have c2:=fun W=>right11_w bN bD hb.1 hb.2 W
 rw [h1] at c1
 rw [h2] at c2
 have p1:=rightR_D h1
 have p2:=rightR_D h2
 have s1:=fun W=>size_w aN ha.1.1 ha.1.2 W
 have s2:=fun W=>size_w bN hb.1.1 hb.1.2 W
 have s3:=fun W=>size_w aD ha.2.1 ha.2.2 W
 have s4:=fun W=>size_w bD hb.2.1 hb.2.2 W
 have l1:=ha.1.lt
 have l2:=hb.1.lt
 have l3:=ha.2.lt
 have l4:=hb.2.lt
 have q1:=nat64 l1 l2
 have q2:=nat64 l3 l4
 have q3:aD.natAbs*bD.natAbs≠0:=Nat.mul_ne_zero (by omega) (by omega)
 obtain⟨K,hK⟩:∃K:Nat,K=64:=⟨_,rfl⟩
 obtain⟨L,hL⟩:∃L:Nat,L=128:=⟨_,rfl⟩
 rw [<-hK] at l1 l2 l3 l4
 rw [<-hL] at q1 q2
 have m1:=fun W u v (p:BigIs W u aN.natAbs) (q:BigIs W v bN.natAbs)=>by_w u v aN.natAbs bN.natAbs K (by omega) l1 l2 W p q
 have m2:=fun W u v (p:BigIs W u aD.natAbs) (q:BigIs W v bD.natAbs)=>by_w u v aD.natAbs bD.natAbs K (by omega) l3 l4 W p q
 have cf:=fun W o1 k1 c1 o2 k2 c2 (p:BigIs W (.slice o1 k1 c1) (aN.natAbs*bN.natAbs)) (q:BigIs W (.slice o2 k2 c2) (aD.natAbs*bD.natAbs))=>ofr_w (!(decide (aN<0)==decide (bN<0))) (aN.natAbs*bN.natAbs) (aD.natAbs*bD.natAbs) L (by omega) (by omega) q1 q2 q3 W p q
 generalize ofV (!(decide (aN<0)==decide (bN<0))) (aN.natAbs*bN.natAbs) (aD.natAbs*bD.natAbs)=ov at *
 clear l1 l2 l3 l4 q1 q2 q3 p1 p2 h1 h2 ha hb hK hL
 generalize aN.natAbs*bN.natAbs=pn at *
 generalize aD.natAbs*bD.natAbs=pd at *
 generalize aN.natAbs=an at *
 generalize bN.natAbs=bn at *
 generalize aD.natAbs=ad at *
 generalize bD.natAbs=bd at *
 go_enter Try.func70,Try.ntmps70
 go_upto_region 1 with fail
 generalize (((w.alloc (.cells #[.int .i64 aN,.int .i64 aD] 27)).alloc (.cells #[.int .i64 bN,.int .i64 bD] 27)).alloc (.cells #[.int .i64 0,.int .i64 0] 27))=V1 at *
 obtain⟨x0,x1,x2,x3,x4⟩:=id X
 obtain⟨y0,y1,y2,y3,y4⟩:=id Y
 go_upto_region 3 with (first
   | (go_at_call_of 42 (Value.agg #[.int .i64 aN,.int .i64 aD]);(with_reducible refine (c1 _).mono ?_);rintro _ W1 ⟨rfl,hb1⟩;replace X:=X.keep hb1;replace Y:=Y.keep hb1;replace R:=R.keep hb1;replace HB:=later HB hb1;clear hb1 x0 x1 x2 x3 x4 y0 y1 y2 y3 y4;obtain⟨y0,y1,y2,y3,y4⟩:=id Y)
   | (go_at_call_of 42 (Value.agg #[.int .i64 bN,.int .i64 bD]);(with_reducible refine (c2 _).mono ?_);rintro _ W2 ⟨rfl,hb1⟩;replace X:=X.keep hb1;replace Y:=Y.keep hb1;replace R:=R.keep hb1;replace HB:=later HB hb1;clear hb1 y0 y1 y2 y3 y4;obtain⟨y0,y1,y2,y3,y4⟩:=id Y))
 clear y0 y1 y2 y3 y4 c1 c2
 have HD:Below W2.heap.size W2 W2.drew:=(Below.refl _ _).drew
 replace X:=X.keep HD
 replace Y:=Y.keep HD
 replace R:=R.keep HD
 replace HB:=later HB HD
 clear HD
 have ne1:w.heap.size≠w.heap.size+1+1:=by omega
 have ne2:w.heap.size+1≠w.heap.size+1+1:=by omega
 go_region_held3 (fun w'=>w'.cell? ⟨w.heap.size,0,none⟩=some (.int .i64 aN)/\w'.cell? ⟨w.heap.size,1,none⟩=some (.int .i64 aD)/\w'.cell? ⟨w.heap.size+1,0,none⟩=some (.int .i64 bN)/\w'.cell? ⟨w.heap.size+1,1,none⟩=some (.int .i64 bD)) (first | with_reducible exact⟨X.c0,X.c1,Y.c0,Y.c1⟩ | with_reducible exact⟨far_rt ne1 X.c0,far_rt ne1 X.c1,far_rt ne2 Y.c0,far_rt ne2 Y.c1⟩ | go_keep)
  (first
   | (go_at_call_of 68 (Value.int .i64 aN);(with_reducible refine (s1 _).mono ?_);rintro _ W3 ⟨⟨v3,rfl,A1⟩,hb1⟩;obtain⟨o3,k3,u3,rfl, -⟩:=A1.shape;replace X:=X.keep hb1;replace Y:=Y.keep hb1;replace R:=R.keep hb1;replace HB:=later HB hb1;clear hb1)
   | (go_at_call_of 68 (Value.int .i64 bN);(with_reducible refine (s2 _).mono ?_);rintro _ W4 ⟨⟨v4,rfl,A2⟩,hb1⟩;obtain⟨o4,k4,u4,rfl, -⟩:=A2.shape;replace X:=X.keep hb1;replace Y:=Y.keep hb1;replace R:=R.keep hb1;replace A1:=A1.keep hb1;replace HB:=later HB hb1;clear hb1)
   | (go_at_call_of 68 (Value.int .i64 aD);(with_reducible refine (s3 _).mono ?_);rintro _ W5 ⟨⟨v5,rfl,A3⟩,hb1⟩;obtain⟨o5,k5,u5,rfl, -⟩:=A3.shape;replace X:=X.keep hb1;replace Y:=Y.keep hb1;replace R:=R.keep hb1;replace M1:=M1.keep hb1;replace HB:=later HB hb1;clear hb1)
   | (go_at_call_of 68 (Value.int .i64 bD);(with_reducible refine (s4 _).mono ?_);rintro _ W6 ⟨⟨v6,rfl,A4⟩,hb1⟩;obtain⟨o6,k6,u6,rfl, -⟩:=A4.shape;replace X:=X.keep hb1;replace Y:=Y.keep hb1;replace R:=R.keep hb1;replace M1:=M1.keep hb1;replace A3:=A3.keep hb1;replace HB:=later HB hb1;clear hb1)
   | (go_at_call 73;(with_reducible refine (m1 _ _ _ A1 A2).mono ?_);rintro _ W7 ⟨⟨v7,rfl,M1⟩,hb1⟩;obtain⟨o7,k7,u7,rfl, -⟩:=M1.shape;replace X:=X.keep hb1;replace Y:=Y.keep hb1;replace R:=R.keep hb1;replace HB:=later HB hb1;clear hb1)
   | (go_at_call 73;(with_reducible refine (m2 _ _ _ A3 A4).mono ?_);rintro _ W8 ⟨⟨v8,rfl,M2⟩,hb1⟩;obtain⟨o8,k8,u8,rfl, -⟩:=M2.shape;replace X:=X.keep hb1;replace Y:=Y.keep hb1;replace R:=R.keep hb1;replace M1:=M1.keep hb1;replace HB:=later HB hb1;clear hb1)
   | (go_at_call 72;(with_reducible refine (cf _ _ _ _ _ _ _ M1 M2).mono ?_);rintro _ W9 ⟨rfl,hb1⟩;replace X:=X.keep hb1;replace Y:=Y.keep hb1;replace R:=R.keep hb1;replace HB:=later HB hb1;clear hb1;obtain⟨r0,r1,r2,r3,r4⟩:=id R))
 all_goals
  go_wp2_with fail
  refine bodyPost_ret (v:=.tuple #[.agg #[.int .i64 ov.1,.int .i64 ov.2.1],.int .i64 ov.2.2]) (by simp [results,Try.results70,go_sem, *]) rfl ⟨rfl, ?_⟩
  repeat' (first | (with_reducible exact HB) | (with_reducible refine Below.setCell ?_ ?_ _) | go_size)
set_option maxHeartbeats 8000000 in
theorem div11_good (aN aD bN bD:Int) (ha:I64 aN/\I64 aD) (hb:I64 bN/\I64 bD) (h1:rightR aN aD=true) (h2:rightR bN bD=true) (h3:(bN==0)=false) (h4:bN.natAbs≠0) (w:World) :
  Calls Try.prog 47 #[.agg #[.int .i64 aN,.int .i64 aD],.agg #[.int .i64 bN,.int .i64 bD]] w fun r w'=>r=.returned (.tuple #[.agg #[.int .i64 (ofV (!(decide (aN<0)==decide (bN<0))) (aN.natAbs*bD.natAbs) (aD.natAbs*bN.natAbs)).1,.int .i64 (ofV (!(decide (aN<0)==decide (bN<0))) (aN.natAbs*bD.natAbs) (aD.natAbs*bN.natAbs)).2.1],.int .i64 (ofV (!(decide (aN<0)==decide (bN<0))) (aN.natAbs*bD.natAbs) (aD.natAbs*bN.natAbs)).2.2])/\Below w.heap.size w w':=by
 have X:Rt2 (((w.alloc (.cells #[.int .i64 aN,.int .i64 aD] 27)).alloc (.cells #[.int .i64 bN,.int .i64 bD] 27)).alloc (.cells #[.int .i64 0,.int .i64 0] 27)) w.heap.size (.int .i64 aN) (.int .i64 aD):=⟨by go_simp,by go_simp,by go_simp,by go_simp,by go_size⟩
 have Y:Rt2 (((w.alloc (.cells #[.int .i64 aN,.int .i64 aD] 27)).alloc (.cells #[.int .i64 bN,.int .i64 bD] 27)).alloc (.cells #[.int .i64 0,.int .i64 0] 27)) (w.heap.size+1) (.int .i64 bN) (.int .i64 bD):=⟨by go_simp,by go_simp,by go_simp,by go_simp,by go_size⟩
 have R:Rt2 (((w.alloc (.cells #[.int .i64 aN,.int .i64 aD] 27)).alloc (.cells #[.int .i64 bN,.int .i64 bD] 27)).alloc (.cells #[.int .i64 0,.int .i64 0] 27)) (w.heap.size+1+1) (.int .i64 0) (.int .i64 0):=⟨by go_simp,by go_simp,by go_simp,by go_simp,by go_size⟩
 have HB:Below w.heap.size w (((w.alloc (.cells #[.int .i64 aN,.int .i64 aD] 27)).alloc (.cells #[.int .i64 bN,.int .i64 bD] 27)).alloc (.cells #[.int .i64 0,.int .i64 0] 27)):=by go_grown
 have c1:=fun W=>right11_w aN aD ha.1 ha.2 W
 have c2:=fun W=>right11_w bN bD hb.1 hb.2 W
 rw [h1] at c1
 rw [h2] at c2
 have p1:=rightR_D h1
 have p2:=rightR_D h2
 have s1:=fun W=>size_w aN ha.1.1 ha.1.2 W
 have s2:=fun W=>size_w bN hb.1.1 hb.1.2 W
 have s3:=fun W=>size_w aD ha.2.1 ha.2.2 W
 have s4:=fun W=>size_w bD hb.2.1 hb.2.2 W
 have l1:=ha.1.lt
 have l2:=hb.1.lt
 have l3:=ha.2.lt
 have l4:=hb.2.lt
 have q1:=nat64 l1 l4
 have q2:=nat64 l3 l2
 have q3:aD.natAbs*bN.natAbs≠0:=Nat.mul_ne_zero (by omega) (by omega)
 obtain⟨K,hK⟩:∃K:Nat,K=64:=⟨_,rfl⟩
 obtain⟨L,hL⟩:∃L:Nat,L=128:=⟨_,rfl⟩
 rw [<-hK] at l1 l2 l3 l4
 rw [<-hL] at q1 q2
 have m1:=fun W u v (p:BigIs W u aN.natAbs) (q:BigIs W v bD.natAbs)=>by_w u v aN.natAbs bD.natAbs K (by omega) l1 l4 W p q
 have m2:=fun W u v (p:BigIs W u aD.natAbs) (q:BigIs W v bN.natAbs)=>by_w u v aD.natAbs bN.natAbs K (by omega) l3 l2 W p q
 have cf:=fun W o1 k1 c1 o2 k2 c2 (p:BigIs W (.slice o1 k1 c1) (aN.natAbs*bD.natAbs)) (q:BigIs W (.slice o2 k2 c2) (aD.natAbs*bN.natAbs))=>ofr_w (!(decide (aN<0)==decide (bN<0))) (aN.natAbs*bD.natAbs) (aD.natAbs*bN.natAbs) L (by omega) (by omega) q1 q2 q3 W p q
 generalize ofV (!(decide (aN<0)==decide (bN<0))) (aN.natAbs*bD.natAbs) (aD.natAbs*bN.natAbs)=ov at *
 clear l1 l2 l3 l4 q1 q2 q3 p1 p2 h1 h2 ha hb hK hL
 generalize aN.natAbs*bD.natAbs=pn at *
 generalize aD.natAbs*bN.natAbs=pd at *
 generalize aN.natAbs=an at *
 generalize bN.natAbs=bn at *
 generalize aD.natAbs=ad at *
 generalize bD.natAbs=bd at *
 go_enter Try.func47,Try.ntmps47
 go_upto_region 1 with fail
 generalize (((w.alloc (.cells #[.int .i64 aN,.int .i64 aD] 27)).alloc (.cells #[.int .i64 bN,.int .i64 bD] 27)).alloc (.cells #[.int .i64 0,.int .i64 0] 27))=V1 at *
 obtain⟨x0,x1,x2,x3,x4⟩:=id X
 obtain⟨y0,y1,y2,y3,y4⟩:=id Y
 go_upto_region 5 with (first
   | (go_at_call_of 42 (Value.agg #[.int .i64 aN,.int .i64 aD]);(with_reducible refine (c1 _).mono ?_);rintro _ W1 ⟨rfl,hb1⟩;replace X:=X.keep hb1;replace Y:=Y.keep hb1;replace R:=R.keep hb1;replace HB:=later HB hb1;clear hb1 x0 x1 x2 x3 x4 y0 y1 y2 y3 y4;obtain⟨y0,y1,y2,y3,y4⟩:=id Y)
   | (go_at_call_of 42 (Value.agg #[.int .i64 bN,.int .i64 bD]);(with_reducible refine (c2 _).mono ?_);rintro _ W2 ⟨rfl,hb1⟩;replace X:=X.keep hb1;replace Y:=Y.keep hb1;replace R:=R.keep hb1;replace HB:=later HB hb1;clear hb1 y0 y1 y2 y3 y4;obtain⟨y0,y1,y2,y3,y4⟩:=id Y))
 clear y0 y1 y2 y3 y4 c1 c2
 have HD:Below W2.heap.size W2 W2.drew:=(Below.refl _ _).drew
 replace X:=X.keep HD
 replace Y:=Y.keep HD
 replace R:=R.keep HD
 replace HB:=later HB HD
 clear HD
 have ne1:w.heap.size≠w.heap.size+1+1:=by omega
 have ne2:w.heap.size+1≠w.heap.size+1+1:=by omega
 go_region_held3 (fun w'=>w'.cell? ⟨w.heap.size,0,none⟩=some (.int .i64 aN)/\w'.cell? ⟨w.heap.size,1,none⟩=some (.int .i64 aD)/\w'.cell? ⟨w.heap.size+1,0,none⟩=some (.int .i64 bN)/\w'.cell? ⟨w.heap.size+1,1,none⟩=some (.int .i64 bD)) (first | with_reducible exact⟨X.c0,X.c1,Y.c0,Y.c1⟩ | with_reducible exact⟨far_rt ne1 X.c0,far_rt ne1 X.c1,far_rt ne2 Y.c0,far_rt ne2 Y.c1⟩ | go_keep)
  (first
   | (go_at_call_of 68 (Value.int .i64 aN);(with_reducible refine (s1 _).mono ?_);rintro _ W3 ⟨⟨v3,rfl,A1⟩,hb1⟩;obtain⟨o3,k3,u3,rfl, -⟩:=A1.shape;replace X:=X.keep hb1;replace Y:=Y.keep hb1;replace R:=R.keep hb1;replace HB:=later HB hb1;clear hb1)
   | (go_at_call_of 68 (Value.int .i64 bN);(with_reducible refine (s2 _).mono ?_);rintro _ W4 ⟨⟨v4,rfl,A2⟩,hb1⟩;obtain⟨o4,k4,u4,rfl, -⟩:=A2.shape;replace X:=X.keep hb1;replace Y:=Y.keep hb1;replace R:=R.keep hb1;replace M1:=M1.keep hb1;replace A3:=A3.keep hb1;replace HB:=later HB hb1;clear hb1)
   | (go_at_call_of 68 (Value.int .i64 aD);(with_reducible refine (s3 _).mono ?_);rintro _ W5 ⟨⟨v5,rfl,A3⟩,hb1⟩;obtain⟨o5,k5,u5,rfl, -⟩:=A3.shape;replace X:=X.keep hb1;replace Y:=Y.keep hb1;replace R:=R.keep hb1;replace M1:=M1.keep hb1;replace HB:=later HB hb1;clear hb1)
   | (go_at_call_of 68 (Value.int .i64 bD);(with_reducible refine (s4 _).mono ?_);rintro _ W6 ⟨⟨v6,rfl,A4⟩,hb1⟩;obtain⟨o6,k6,u6,rfl, -⟩:=A4.shape;replace X:=X.keep hb1;replace Y:=Y.keep hb1;replace R:=R.keep hb1;replace A1:=A1.keep hb1;replace HB:=later HB hb1;clear hb1)
   | (go_at_call 73;(with_reducible refine (m1 _ _ _ A1 A4).mono ?_);rintro _ W7 ⟨⟨v7,rfl,M1⟩,hb1⟩;obtain⟨o7,k7,u7,rfl, -⟩:=M1.shape;replace X:=X.keep hb1;replace Y:=Y.keep hb1;replace R:=R.keep hb1;replace HB:=later HB hb1;clear hb1)
   | (go_at_call 73;(with_reducible refine (m2 _ _ _ A3 A2).mono ?_);rintro _ W8 ⟨⟨v8,rfl,M2⟩,hb1⟩;obtain⟨o8,k8,u8,rfl, -⟩:=M2.shape;replace X:=X.keep hb1;replace Y:=Y.keep hb1;replace R:=R.keep hb1;replace M1:=M1.keep hb1;replace HB:=later HB hb1;clear hb1)
   | (go_at_call 72;(with_reducible refine (cf _ _ _ _ _ _ _ M1 M2).mono ?_);rintro _ W9 ⟨rfl,hb1⟩;replace X:=X.keep hb1;replace Y:=Y.keep hb1;replace R:=R.keep hb1;replace HB:=later HB hb1;clear hb1;obtain⟨r0,r1,r2,r3,r4⟩:=id R))
 all_goals
  go_wp2_with fail
  refine bodyPost_ret (v:=.tuple #[.agg #[.int .i64 ov.1,.int .i64 ov.2.1],.int .i64 ov.2.2]) (by simp [results,Try.results47,go_sem, *]) rfl ⟨rfl, ?_⟩
  repeat' (first | (with_reducible exact HB) | (with_reducible refine Below.setCell ?_ ?_ _) | go_size)
def divV11 (aN aD bN bD:Int):Int×Int×Int:=if rightR aN aD&&rightR bN bD then (if bN=0 then (0,0,6) else ofV (!(decide (aN<0)==decide (bN<0))) (aN.natAbs*bD.natAbs) (aD.natAbs*bN.natAbs)) else (0,0,1)
theorem mul11_w (aN aD bN bD:Int) (ha:I64 aN/\I64 aD) (hb:I64 bN/\I64 bD) (w:World) :
  Calls Try.prog 70 #[.agg #[.int .i64 aN,.int .i64 aD],.agg #[.int .i64 bN,.int .i64 bD]] w fun r w'=>r=.returned (.tuple #[.agg #[.int .i64 (mulV11 aN aD bN bD).1,.int .i64 (mulV11 aN aD bN bD).2.1],.int .i64 (mulV11 aN aD bN bD).2.2])/\Below w.heap.size w w':=by
 cases h:(rightR aN aD&&rightR bN bD)
 ·have e:mulV11 aN aD bN bD=(0,0,1):=by unfold mulV11;rw [h];rfl
  rw [e]
  exact mul11_bad aN aD bN bD ha hb h w
 ·have e:mulV11 aN aD bN bD=ofV (!(decide (aN<0)==decide (bN<0))) (aN.natAbs*bN.natAbs) (aD.natAbs*bD.natAbs):=by unfold mulV11;rw [h];rfl
  rw [e]
  obtain⟨h1,h2⟩:=Bool.and_eq_true_iff.1 h
  exact mul11_good aN aD bN bD ha hb h1 h2 w
set_option maxHeartbeats 4000000 in
theorem div11_zero (aN aD bD:Int) (ha:I64 aN/\I64 aD) (hb:I64 0/\I64 bD) (h1:rightR aN aD=true) (h2:rightR 0 bD=true) (w:World) :
  Calls Try.prog 47 #[.agg #[.int .i64 aN,.int .i64 aD],.agg #[.int .i64 0,.int .i64 bD]] w fun r w'=>r=.returned (.tuple #[.agg #[.int .i64 0,.int .i64 0],.int .i64 6])/\Below w.heap.size w w':=by
 have X:Rt2 (((w.alloc (.cells #[.int .i64 aN,.int .i64 aD] 27)).alloc (.cells #[.int .i64 0,.int .i64 bD] 27)).alloc (.cells #[.int .i64 0,.int .i64 0] 27)) w.heap.size (.int .i64 aN) (.int .i64 aD):=⟨by go_simp,by go_simp,by go_simp,by go_simp,by go_size⟩
 have Y:Rt2 (((w.alloc (.cells #[.int .i64 aN,.int .i64 aD] 27)).alloc (.cells #[.int .i64 0,.int .i64 bD] 27)).alloc (.cells #[.int .i64 0,.int .i64 0] 27)) (w.heap.size+1) (.int .i64 0) (.int .i64 bD):=⟨by go_simp,by go_simp,by go_simp,by go_simp,by go_size⟩
 have R:Rt2 (((w.alloc (.cells #[.int .i64 aN,.int .i64 aD] 27)).alloc (.cells #[.int .i64 0,.int .i64 bD] 27)).alloc (.cells #[.int .i64 0,.int .i64 0] 27)) (w.heap.size+1+1) (.int .i64 0) (.int .i64 0):=⟨by go_simp,by go_simp,by go_simp,by go_simp,by go_size⟩
 have HB:Below w.heap.size w (((w.alloc (.cells #[.int .i64 aN,.int .i64 aD] 27)).alloc (.cells #[.int .i64 0,.int .i64 bD] 27)).alloc (.cells #[.int .i64 0,.int .i64 0] 27)):=by go_grown
 have c1:=fun W=>right11_w aN aD ha.1 ha.2 W
 have c2:=fun W=>right11_w 0 bD hb.1 hb.2 W
 rw [h1] at c1
 rw [h2] at c2
 clear ha hb h1 h2
 go_enter Try.func47,Try.ntmps47
 go_upto_region 1 with fail
 generalize (((w.alloc (.cells #[.int .i64 aN,.int .i64 aD] 27)).alloc (.cells #[.int .i64 0,.int .i64 bD] 27)).alloc (.cells #[.int .i64 0,.int .i64 0] 27))=V1 at *
 obtain⟨x0,x1,x2,x3,x4⟩:=id X
 obtain⟨y0,y1,y2,y3,y4⟩:=id Y
 go_wp2_with (first
   | (go_at_call_of 42 (Value.agg #[.int .i64 aN,.int .i64 aD]);(with_reducible refine (c1 _).mono ?_);rintro _ W1 ⟨rfl,hb1⟩;replace X:=X.keep hb1;replace Y:=Y.keep hb1;replace R:=R.keep hb1;replace HB:=later HB hb1;clear hb1 x0 x1 x2 x3 x4 y0 y1 y2 y3 y4;obtain⟨y0,y1,y2,y3,y4⟩:=id Y)
   | (go_at_call_of 42 (Value.agg #[.int .i64 0,.int .i64 bD]);(with_reducible refine (c2 _).mono ?_);rintro _ W2 ⟨rfl,hb1⟩;replace X:=X.keep hb1;replace Y:=Y.keep hb1;replace R:=R.keep hb1;replace HB:=later HB hb1;clear hb1 y0 y1 y2 y3 y4;obtain⟨y0,y1,y2,y3,y4⟩:=id Y;obtain⟨r0,r1,r2,r3,r4⟩:=id R))
 refine bodyPost_ret (v:=.tuple #[.agg #[.int .i64 0,.int .i64 0],.int .i64 6]) (by simp [results,Try.results47,go_sem, *]) rfl ⟨rfl, ?_⟩
 repeat' (first | (with_reducible exact HB) | (with_reducible refine Below.setCell ?_ ?_ _) | go_size)
theorem div11_w (aN aD bN bD:Int) (ha:I64 aN/\I64 aD) (hb:I64 bN/\I64 bD) (w:World) :
  Calls Try.prog 47 #[.agg #[.int .i64 aN,.int .i64 aD],.agg #[.int .i64 bN,.int .i64 bD]] w fun r w'=>r=.returned (.tuple #[.agg #[.int .i64 (divV11 aN aD bN bD).1,.int .i64 (divV11 aN aD bN bD).2.1],.int .i64 (divV11 aN aD bN bD).2.2])/\Below w.heap.size w w':=by
 cases h:(rightR aN aD&&rightR bN bD)
 ·have e:divV11 aN aD bN bD=(0,0,1):=by unfold divV11;rw [h];rfl
  rw [e]
  exact div11_bad aN aD bN bD ha hb h w
 ·obtain⟨h1,h2⟩:=Bool.and_eq_true_iff.1 h
  by_cases c:bN=0
  ·subst c
   have e:divV11 aN aD 0 bD=(0,0,6):=by unfold divV11;rw [h];rfl
   rw [e]
   exact div11_zero aN aD bD ha hb h1 h2 w
  ·have e:divV11 aN aD bN bD=ofV (!(decide (aN<0)==decide (bN<0))) (aN.natAbs*bD.natAbs) (aD.natAbs*bN.natAbs):=by unfold divV11;rw [h,if_neg c];rfl
   rw [e]
   exact div11_good aN aD bN bD ha hb h1 h2 (by simpa using c) (by omega) w
end Go.Proofs.Ytbejmklkicoibaa
