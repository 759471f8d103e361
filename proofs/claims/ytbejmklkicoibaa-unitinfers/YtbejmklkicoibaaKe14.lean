/- The reference's numbers of stage 11: sums and differences. -/
import Derived.Test.YtbejmklkicoibaaKe13
namespace Go.Proofs.Ytbejmklkicoibaa
open Go.ChangeShapes Go.WideShapes Go.ChangeAt Go.RowKit
theorem grew (w:World) (o:Obj):Below w.heap.size w (w.alloc o):=by go_grown
theorem T0 {w:World} {b:Nat} {x y z:Value} (h:Has3 w b x y z):w.cell? ⟨b,0,none⟩=some x:=h.1
theorem T1 {w:World} {b:Nat} {x y z:Value} (h:Has3 w b x y z):w.cell? ⟨b,1,none⟩=some y:=h.2.1
theorem boxedD (w:World):Boxed (w.alloc (.cells #[.bool false,.slice none 0 0,.int .i64 0] 125)).drew w.heap.size:=(Boxed.new w #[.bool false,.slice none 0 0,.int .i64 0]).keep ((Below.refl _ _).drew)
theorem grewD (w:World) (o:Obj):Below w.heap.size w (w.alloc o).drew:=by go_grown
theorem h3_newD (w:World) (x y z:Value) (T:TypeId):Has3 (w.alloc (.cells #[x,y,z] T)).drew w.heap.size x y z:=⟨by go_simp,by go_simp,by go_simp,by go_simp,by go_simp,by go_simp,by go_size⟩
theorem h3_new (w:World) (x y z:Value) (T:TypeId):Has3 (w.alloc (.cells #[x,y,z] T)) w.heap.size x y z:=⟨by go_simp,by go_simp,by go_simp,by go_simp,by go_simp,by go_simp,by go_size⟩
theorem h3_put {w:World} {b:Nat} {x y z:Value} (h:Has3 w b x y z) (x' y' z':Value):Has3 (((w.setCell ⟨b,0,none⟩ x').setCell ⟨b,1,none⟩ y').setCell ⟨b,2,none⟩ z') b x' y' z':=by
 obtain⟨a0,a1,a2,f0,f1,f2,l⟩:=h
 exact⟨by go_simp,by go_simp,by go_simp,by go_simp,by go_simp,by go_simp,by go_size⟩
theorem rt2_block {w W:World} {b:Nat} {x y:Value} (h:Rt2 w b x y) (hb:W.heap[b]?=w.heap[b]?) (hs:w.heap.size<=W.heap.size):Rt2 W b x y :=
 ⟨(World.cell?_of_block hb).trans h.1,(World.cell?_of_block hb).trans h.2.1,(World.frozen?_of_block hb).trans h.2.2.1,(World.frozen?_of_block hb).trans h.2.2.2.1,Nat.lt_of_lt_of_le h.2.2.2.2 hs⟩
theorem rt2_far3 {w:World} {b c:Nat} {x y:Value} (h:Rt2 w b x y) (hne:b≠c) (v0 v1 v2:Value):Rt2 (((w.setCell ⟨c,0,none⟩ v0).setCell ⟨c,1,none⟩ v1).setCell ⟨c,2,none⟩ v2) b x y :=
 rt2_block h (by rw [Below.heap_setCell _ _ _ _ hne,Below.heap_setCell _ _ _ _ hne,Below.heap_setCell _ _ _ _ hne]) (by simp only [World.size_setCell];exact Nat.le_refl _)
theorem Rt2.lt {w:World} {b:Nat} {x y:Value} (h:Rt2 w b x y):b<w.heap.size:=h.2.2.2.2
def addV11 (aN aD bN bD:Int):Int×Int×Int:=if rightR aN aD&&rightR bN bD then ofV (decide (aN*bD+bN*aD<0)) (aN*bD+bN*aD).natAbs (aD.natAbs*bD.natAbs) else (0,0,1)
def AddS (w wx:World) (aN aD bN bD:Int) (ss:Nm) (s6:Value):Prop:=∃(sb:Nat) (o:Option Addr) (k u:Nat),s6=.pointer (some ⟨sb,0,none⟩)/\Below w.heap.size w wx/\Rt2 wx w.heap.size (.int .i64 aN) (.int .i64 aD)/\Rt2 wx (w.heap.size+1) (.int .i64 bN) (.int .i64 bD)/\Rt2 wx (w.heap.size+1+1) (.int .i64 0) (.int .i64 0)/\Has3 wx sb (.bool ss.g) (.slice o k u) (.int .i64 ss.e)/\BigIs wx (.slice o k u) ss.m/\sb≠w.heap.size+1+1
theorem ofV_sign {g:Bool} {n d:Nat} {z:Int} (hn:n=z.natAbs) (hg:z≠0->g=decide (z<0)):ofV g n d=ofV (decide (z<0)) z.natAbs d:=by
 subst hn
 by_cases c:z=0
 ·unfold ofV
  rw [if_pos (by omega),if_pos (by omega)]
 ·rw [hg c]
set_option maxRecDepth 4000 in
set_option maxHeartbeats 16000000 in
theorem add11_good (aN aD bN bD:Int) (ha:I64 aN/\I64 aD) (hb:I64 bN/\I64 bD) (h1:rightR aN aD=true) (h2:rightR bN bD=true) (w:World) :
  Calls Try.prog 71 #[.agg #[.int .i64 aN,.int .i64 aD],.agg #[.int .i64 bN,.int .i64 bD]] w fun r w'=>(∃ov:Int×Int×Int,r=.returned (.tuple #[.agg #[.int .i64 ov.1,.int .i64 ov.2.1],.int .i64 ov.2.2])/\ov=ofV (decide (aN*bD+bN*aD<0)) (aN*bD+bN*aD).natAbs (aD.natAbs*bD.natAbs))/\Below w.heap.size w w':=by
 have X:Rt2 (((w.alloc (.cells #[.int .i64 aN,.int .i64 aD] 27)).alloc (.cells #[.int .i64 bN,.int .i64 bD] 27)).alloc (.cells #[.int .i64 0,.int .i64 0] 27)) w.heap.size (.int .i64 aN) (.int .i64 aD):=⟨by go_simp,by go_simp,by go_simp,by go_simp,by go_size⟩
 have Y:Rt2 (((w.alloc (.cells #[.int .i64 aN,.int .i64 aD] 27)).alloc (.cells #[.int .i64 bN,.int .i64 bD] 27)).alloc (.cells #[.int .i64 0,.int .i64 0] 27)) (w.heap.size+1) (.int .i64 bN) (.int .i64 bD):=⟨by go_simp,by go_simp,by go_simp,by go_simp,by go_size⟩
 have R:Rt2 (((w.alloc (.cells #[.int .i64 aN,.int .i64 aD] 27)).alloc (.cells #[.int .i64 bN,.int .i64 bD] 27)).alloc (.cells #[.int .i64 0,.int .i64 0] 27)) (w.heap.size+1+1) (.int .i64 0) (.int .i64 0):=⟨by go_simp,by go_simp,by go_simp,by go_simp,by go_size⟩
 have HB:Below w.heap.size w (((w.alloc (.cells #[.int .i64 aN,.int .i64 aD] 27)).alloc (.cells #[.int .i64 bN,.int .i64 bD] 27)).alloc (.cells #[.int .i64 0,.int .i64 0] 27)):=by go_grown
 have c1:=fun W=>right11_w aN aD ha.1 ha.2 W
 have c2:=fun W=>right11_w bN bD hb.1 hb.2 W
 rw [h1] at c1
 rw [h2] at c2
 have p1:=rightR_D h1
 have p2:=rightR_D h2
 have s1:=fun W=>num11_w aN ha.1 W
 have s2:=fun W=>num11_w bN hb.1 W
 have s3:=fun W=>num11_w aD ha.2 W
 have s4:=fun W=>num11_w bD hb.2 W
 have l1:=ha.1.lt
 have l2:=hb.1.lt
 have l3:=ha.2.lt
 have l4:=hb.2.lt
 have f1:=sm_whl (whl_num aN) (t:=64) (by omega) l1
 have f2:=sm_whl (whl_num bN) (t:=64) (by omega) l2
 have f3:=sm_whl (whl_num aD) (t:=64) (by omega) l3
 have f4:=sm_whl (whl_num bD) (t:=64) (by omega) l4
 have P1:=whl_prod (whl_num aN) (whl_num bD)
 have P2:=whl_prod (whl_num bN) (whl_num aD)
 have g1:=sm_whl P1 (t:=128) (by omega) (nat64z l1 l4)
 have g2:=sm_whl P2 (t:=128) (by omega) (nat64z l2 l3)
 have pr1:=fun W u v (p:NI W u (numR aN)) (q:NI W v (numR bD))=>prod_m p q f1 f4
 have pr2:=fun W u v (p:NI W u (numR bN)) (q:NI W v (numR aD))=>prod_m p q f2 f3
 have su:=fun W u v (p:NI W u (prodX (numR aN) (numR bD))) (q:NI W v (prodX (numR bN) (numR aD)))=>sum_m p q g1 g2
 have PS:=whl_sum P1 P2
 have z1:=fun W=>size_w aD ha.2.1 ha.2.2 W
 have z2:=fun W=>size_w bD hb.2.1 hb.2.2 W
 have q1:=nat129 (nat64z l1 l4) (nat64z l2 l3)
 have q2:=nat64 l3 l4
 have q3:aD.natAbs*bD.natAbs≠0:=Nat.mul_ne_zero (by omega) (by omega)
 obtain⟨K,hK⟩:∃K:Nat,K=64:=⟨_,rfl⟩
 obtain⟨L,hL⟩:∃L:Nat,L=129:=⟨_,rfl⟩
 rw [<-hK] at l3 l4
 rw [<-hL] at q1
 have q2':aD.natAbs*bD.natAbs<2^L:=Nat.lt_of_lt_of_le q2 (Nat.pow_le_pow_right (by omega) (by omega))
 have mb:=fun W u v (p:BigIs W u aD.natAbs) (q:BigIs W v bD.natAbs)=>by_w u v aD.natAbs bD.natAbs K (by omega) l3 l4 W p q
 have q1':(sumX (prodX (numR aN) (numR bD)) (prodX (numR bN) (numR aD))).m<2^L:=by rw [PS.m];exact q1
 have cf:=fun W o1 k1 c1 o2 k2 c2 (p:BigIs W (.slice o1 k1 c1) (sumX (prodX (numR aN) (numR bD)) (prodX (numR bN) (numR aD))).m) (q:BigIs W (.slice o2 k2 c2) (aD.natAbs*bD.natAbs))=>ofr_w (sumX (prodX (numR aN) (numR bD)) (prodX (numR bN) (numR aD))).g (sumX (prodX (numR aN) (numR bD)) (prodX (numR bN) (numR aD))).m (aD.natAbs*bD.natAbs) L (by omega) (by omega) q1' q2' q3 W p q
 have OV:Hid (ofV (sumX (prodX (numR aN) (numR bD)) (prodX (numR bN) (numR aD))).g (sumX (prodX (numR aN) (numR bD)) (prodX (numR bN) (numR aD))).m (aD.natAbs*bD.natAbs)=ofV (decide (aN*bD+bN*aD<0)) (aN*bD+bN*aD).natAbs (aD.natAbs*bD.natAbs)):=ofV_sign PS.m PS.g
 clear h1 h2 ha hb l1 l2 l3 l4 f1 f2 f3 f4 P1 P2 g1 g2 p1 p2 PS q1 q2 q3 q1' q2' hK hL
 obtain⟨tv,et⟩:∃tv,tv=ofV (decide (aN*bD+bN*aD<0)) (aN*bD+bN*aD).natAbs (aD.natAbs*bD.natAbs):=⟨_,rfl⟩
 rw [<-et] at OV ⊢
 clear et
 generalize aD.natAbs*bD.natAbs=pd at *
 generalize aD.natAbs=ad at *
 generalize bD.natAbs=bd at *
 generalize sumX (prodX (numR aN) (numR bD)) (prodX (numR bN) (numR aD))=ss at *
 generalize prodX (numR aN) (numR bD)=q1 at *
 generalize prodX (numR bN) (numR aD)=q2 at *
 generalize ofV ss.g ss.m pd=ov at *
 generalize numR aN=n1 at *
 generalize numR bN=n2 at *
 generalize numR aD=n3 at *
 generalize numR bD=n4 at *
 go_enter Try.func71,Try.ntmps71
 go_upto_region 1 with fail
 generalize (((w.alloc (.cells #[.int .i64 aN,.int .i64 aD] 27)).alloc (.cells #[.int .i64 bN,.int .i64 bD] 27)).alloc (.cells #[.int .i64 0,.int .i64 0] 27))=V1 at *
 obtain⟨x0,x1,x2,x3,x4⟩:=id X
 obtain⟨y0,y1,y2,y3,y4⟩:=id Y
 go_upto_region 3 with (first
    | (go_at_call_of 42 (Value.agg #[.int .i64 aN,.int .i64 aD]);(with_reducible refine (c1 _).mono ?_);rintro _ W1 ⟨rfl,hb1⟩;replace X:=X.keep hb1;replace Y:=Y.keep hb1;replace R:=R.keep hb1;replace HB:=later HB hb1;clear hb1 x0 x1 x2 x3 x4 y0 y1 y2 y3 y4;obtain⟨y0,y1,y2,y3,y4⟩:=id Y)
    | (go_at_call_of 42 (Value.agg #[.int .i64 bN,.int .i64 bD]);(with_reducible refine (c2 _).mono ?_);rintro _ W2 ⟨rfl,hb1⟩;replace X:=X.keep hb1;replace Y:=Y.keep hb1;replace R:=R.keep hb1;replace HB:=later HB hb1;clear hb1 y0 y1 y2 y3 y4;obtain⟨y0,y1,y2,y3,y4⟩:=id Y))
 clear y0 y1 y2 y3 y4 c1 c2
 have X0:=X
 have Y0:=Y
 have R0:=R
 have HB0:=HB
 have HD:Below W2.heap.size W2 W2.drew:=(Below.refl _ _).drew
 replace X:=X.keep HD
 replace Y:=Y.keep HD
 replace R:=R.keep HD
 replace HB:=later HB HD
 clear HD
 go_cut [6] from 16 to 30 (fun s6 wx=>AddS w wx aN aD bN bD ss s6)
 case first =>
  go_region_held3 (fun w'=>w'.cell? ⟨w.heap.size,0,none⟩=some (.int .i64 aN)/\w'.cell? ⟨w.heap.size,1,none⟩=some (.int .i64 aD)/\w'.cell? ⟨w.heap.size+1,0,none⟩=some (.int .i64 bN)/\w'.cell? ⟨w.heap.size+1,1,none⟩=some (.int .i64 bD)) (first | with_reducible exact⟨X.c0,X.c1,Y.c0,Y.c1⟩ | with_reducible exact⟨(X.keep (grew _ _)).c0,(X.keep (grew _ _)).c1,(Y.keep (grew _ _)).c0,(Y.keep (grew _ _)).c1⟩ | with_reducible exact⟨(rt2_far3 X nz1 _ _ _).c0,(rt2_far3 X nz1 _ _ _).c1,(rt2_far3 Y nz2 _ _ _).c0,(rt2_far3 Y nz2 _ _ _).c1⟩ | with_reducible exact⟨(X0.keep (grewD _ _)).c0,(X0.keep (grewD _ _)).c1,(Y0.keep (grewD _ _)).c0,(Y0.keep (grewD _ _)).c1⟩ | go_keep)
   (first
    | (go_at_call_of 87 (Value.int .i64 aN);((with_reducible refine (s1 _).mono ?_));rintro _ W3 ⟨⟨v0,rfl,A1⟩,hb1⟩;obtain⟨o0,k0,u0,rfl, -, -⟩:=id A1.shape;(first | (replace X:=X.keep hb1;replace Y:=Y.keep hb1;replace R:=R.keep hb1;replace HB:=later HB hb1;(first | (replace Z:=Z.keep hb1;replace BZ:=BZ.keep hb1) | skip);clear hb1) | (have zt0:=trivial;have hb2:=later (grewD W2 (.cells #[.bool false,.slice none 0 0,.int .i64 0] 125)) hb1;have nz1:=Nat.ne_of_lt X0.lt;have nz2:=Nat.ne_of_lt Y0.lt;have nz3:=Nat.ne_of_lt R0.lt;have zle:=HB0.size;have BZ:=(boxedD W2).keep hb1;have Z:=(h3_newD W2 (.bool false) (.slice none 0 0) (.int .i64 0) 125).keep hb1;replace X:=X0.keep hb2;replace Y:=Y0.keep hb2;replace R:=R0.keep hb2;replace HB:=later HB0 hb2;clear hb1 hb2)))
    | (go_at_call_of 87 (Value.int .i64 bD);((with_reducible refine (s4 _).mono ?_));rintro _ W4 ⟨⟨v1,rfl,A4⟩,hb1⟩;obtain⟨o1,k1,u1,rfl, -, -⟩:=id A4.shape;(first | (replace X:=X.keep hb1;replace Y:=Y.keep hb1;replace R:=R.keep hb1;replace A1:=A1.keep hb1;replace HB:=later HB hb1;(first | (replace Z:=Z.keep hb1;replace BZ:=BZ.keep hb1) | skip);clear hb1) | (have zt1:=trivial;have hb2:=later (grew W3 (.cells #[.bool false,.slice none 0 0,.int .i64 0] 125)) hb1;have nz1:=Nat.ne_of_lt X.lt;have nz2:=Nat.ne_of_lt Y.lt;have nz3:=Nat.ne_of_lt R.lt;have zle:=HB.size;have BZ:=(Boxed.new W3 #[.bool false,.slice none 0 0,.int .i64 0]).keep hb1;have Z:=(h3_new W3 (.bool false) (.slice none 0 0) (.int .i64 0) 125).keep hb1;replace X:=X.keep hb2;replace Y:=Y.keep hb2;replace R:=R.keep hb2;replace A1:=A1.keep hb2;replace HB:=later HB hb2;clear hb1 hb2)))
    | (go_at_call 86;(first | (with_reducible refine (pr1 _ _ _ A1 A4).mono ?_) | (with_reducible refine (pr1 _ _ _ (A1.keep (grew W4 (.cells #[.bool false,.slice none 0 0,.int .i64 0] 125))) (A4.keep (grew W4 (.cells #[.bool false,.slice none 0 0,.int .i64 0] 125)))).mono ?_));rintro _ W5 ⟨⟨v2,rfl,Q1⟩,hb1⟩;obtain⟨o2,k2,u2,rfl, -, -⟩:=id Q1.shape;(first | (replace X:=X.keep hb1;replace Y:=Y.keep hb1;replace R:=R.keep hb1;replace HB:=later HB hb1;(first | (replace Z:=Z.keep hb1;replace BZ:=BZ.keep hb1) | skip);clear hb1) | (have zt2:=trivial;have hb2:=later (grew W4 (.cells #[.bool false,.slice none 0 0,.int .i64 0] 125)) hb1;have nz1:=Nat.ne_of_lt X.lt;have nz2:=Nat.ne_of_lt Y.lt;have nz3:=Nat.ne_of_lt R.lt;have zle:=HB.size;have BZ:=(Boxed.new W4 #[.bool false,.slice none 0 0,.int .i64 0]).keep hb1;have Z:=(h3_new W4 (.bool false) (.slice none 0 0) (.int .i64 0) 125).keep hb1;replace X:=X.keep hb2;replace Y:=Y.keep hb2;replace R:=R.keep hb2;replace HB:=later HB hb2;clear hb1 hb2)))
    | (go_at_call_of 87 (Value.int .i64 bN);((with_reducible refine (s2 _).mono ?_));rintro _ W6 ⟨⟨v3,rfl,A2⟩,hb1⟩;obtain⟨o3,k3,u3,rfl, -, -⟩:=id A2.shape;(first | (replace X:=X.keep hb1;replace Y:=Y.keep hb1;replace R:=R.keep hb1;replace Q1:=Q1.keep hb1;replace HB:=later HB hb1;(first | (replace Z:=Z.keep hb1;replace BZ:=BZ.keep hb1) | skip);clear hb1) | (have zt3:=trivial;have hb2:=later (grew W5 (.cells #[.bool false,.slice none 0 0,.int .i64 0] 125)) hb1;have nz1:=Nat.ne_of_lt X.lt;have nz2:=Nat.ne_of_lt Y.lt;have nz3:=Nat.ne_of_lt R.lt;have zle:=HB.size;have BZ:=(Boxed.new W5 #[.bool false,.slice none 0 0,.int .i64 0]).keep hb1;have Z:=(h3_new W5 (.bool false) (.slice none 0 0) (.int .i64 0) 125).keep hb1;replace X:=X.keep hb2;replace Y:=Y.keep hb2;replace R:=R.keep hb2;replace Q1:=Q1.keep hb2;replace HB:=later HB hb2;clear hb1 hb2)))
    | (go_at_call_of 87 (Value.int .i64 aD);((with_reducible refine (s3 _).mono ?_));rintro _ W7 ⟨⟨v4,rfl,A3⟩,hb1⟩;obtain⟨o4,k4,u4,rfl, -, -⟩:=id A3.shape;(first | (replace X:=X.keep hb1;replace Y:=Y.keep hb1;replace R:=R.keep hb1;replace Q1:=Q1.keep hb1;replace A2:=A2.keep hb1;replace HB:=later HB hb1;(first | (replace Z:=Z.keep hb1;replace BZ:=BZ.keep hb1) | skip);clear hb1) | (have zt4:=trivial;have hb2:=later (grew W6 (.cells #[.bool false,.slice none 0 0,.int .i64 0] 125)) hb1;have nz1:=Nat.ne_of_lt X.lt;have nz2:=Nat.ne_of_lt Y.lt;have nz3:=Nat.ne_of_lt R.lt;have zle:=HB.size;have BZ:=(Boxed.new W6 #[.bool false,.slice none 0 0,.int .i64 0]).keep hb1;have Z:=(h3_new W6 (.bool false) (.slice none 0 0) (.int .i64 0) 125).keep hb1;replace X:=X.keep hb2;replace Y:=Y.keep hb2;replace R:=R.keep hb2;replace Q1:=Q1.keep hb2;replace A2:=A2.keep hb2;replace HB:=later HB hb2;clear hb1 hb2)))
    | (go_at_call 86;(first | (with_reducible refine (pr2 _ _ _ A2 A3).mono ?_) | (with_reducible refine (pr2 _ _ _ (A2.keep (grew W7 (.cells #[.bool false,.slice none 0 0,.int .i64 0] 125))) (A3.keep (grew W7 (.cells #[.bool false,.slice none 0 0,.int .i64 0] 125)))).mono ?_));rintro _ W8 ⟨⟨v5,rfl,Q2⟩,hb1⟩;obtain⟨o5,k5,u5,rfl, -, -⟩:=id Q2.shape;(first | (replace X:=X.keep hb1;replace Y:=Y.keep hb1;replace R:=R.keep hb1;replace Q1:=Q1.keep hb1;replace HB:=later HB hb1;(first | (replace Z:=Z.keep hb1;replace BZ:=BZ.keep hb1) | skip);clear hb1) | (have zt5:=trivial;have hb2:=later (grew W7 (.cells #[.bool false,.slice none 0 0,.int .i64 0] 125)) hb1;have nz1:=Nat.ne_of_lt X.lt;have nz2:=Nat.ne_of_lt Y.lt;have nz3:=Nat.ne_of_lt R.lt;have zle:=HB.size;have BZ:=(Boxed.new W7 #[.bool false,.slice none 0 0,.int .i64 0]).keep hb1;have Z:=(h3_new W7 (.bool false) (.slice none 0 0) (.int .i64 0) 125).keep hb1;replace X:=X.keep hb2;replace Y:=Y.keep hb2;replace R:=R.keep hb2;replace Q1:=Q1.keep hb2;replace HB:=later HB hb2;clear hb1 hb2)))
    | (go_at_call 85;(first | (with_reducible refine (su _ _ _ Q1 Q2).mono ?_) | (with_reducible refine (su _ _ _ (Q1.keep (grew W8 (.cells #[.bool false,.slice none 0 0,.int .i64 0] 125))) (Q2.keep (grew W8 (.cells #[.bool false,.slice none 0 0,.int .i64 0] 125)))).mono ?_));rintro _ W9 ⟨⟨v6,rfl,SS⟩,hb1⟩;obtain⟨o6,k6,u6,rfl, -, -⟩:=id SS.shape;(first | (replace X:=X.keep hb1;replace Y:=Y.keep hb1;replace R:=R.keep hb1;replace HB:=later HB hb1;(first | (replace Z:=Z.keep hb1;replace BZ:=BZ.keep hb1;obtain⟨t0,t1,t2,t3,t4,t5,t6⟩:=id Z) | skip);clear hb1) | (have zt6:=trivial;have hb2:=later (grew W8 (.cells #[.bool false,.slice none 0 0,.int .i64 0] 125)) hb1;have nz1:=Nat.ne_of_lt X.lt;have nz2:=Nat.ne_of_lt Y.lt;have nz3:=Nat.ne_of_lt R.lt;have zle:=HB.size;have BZ:=(Boxed.new W8 #[.bool false,.slice none 0 0,.int .i64 0]).keep hb1;have Z:=(h3_new W8 (.bool false) (.slice none 0 0) (.int .i64 0) 125).keep hb1;replace X:=X.keep hb2;replace Y:=Y.keep hb2;replace R:=R.keep hb2;replace HB:=later HB hb2;clear hb1 hb2;obtain⟨t0,t1,t2,t3,t4,t5,t6⟩:=id Z))))
  all_goals
   clear X0 Y0 R0 HB0 s1 s2 s3 s4 pr1 pr2 su
   have SB:BigIs W9 (.slice o6 k6 u6) ss.m:=by
    obtain⟨_,e,q⟩:=SS
    cases e
    exact q
   clear SS
   (first
    | (have qz:=zt0;clear qz zt0;have T3:Has3 (((W9.setCell ⟨W2.heap.size,0,none⟩ (.bool ss.g)).setCell ⟨W2.heap.size,1,none⟩ (.slice o6 k6 u6)).setCell ⟨W2.heap.size,2,none⟩ (.int .i64 ss.e)) W2.heap.size (.bool ss.g) (.slice o6 k6 u6) (.int .i64 ss.e):=h3_put Z _ _ _;have SB2:BigIs (((W9.setCell ⟨W2.heap.size,0,none⟩ (.bool ss.g)).setCell ⟨W2.heap.size,1,none⟩ (.slice o6 k6 u6)).setCell ⟨W2.heap.size,2,none⟩ (.int .i64 ss.e)) (.slice o6 k6 u6) ss.m:=((SB.put BZ 0 _).put (BZ.set _ 0 _) 1 _).put ((BZ.set _ 0 _).set _ 1 _) 2 _;have nzR:W2.heap.size≠w.heap.size+1+1:=Ne.symm nz3;have zl:w.heap.size<=W2.heap.size:=zle;replace X:=rt2_far3 X nz1 (.bool ss.g) (.slice o6 k6 u6) (.int .i64 ss.e);replace Y:=rt2_far3 Y nz2 (.bool ss.g) (.slice o6 k6 u6) (.int .i64 ss.e);replace R:=rt2_far3 R nz3 (.bool ss.g) (.slice o6 k6 u6) (.int .i64 ss.e);replace HB:Below w.heap.size w (((W9.setCell ⟨W2.heap.size,0,none⟩ (.bool ss.g)).setCell ⟨W2.heap.size,1,none⟩ (.slice o6 k6 u6)).setCell ⟨W2.heap.size,2,none⟩ (.int .i64 ss.e)):=((HB.setCell (p:=⟨W2.heap.size,0,none⟩) zl _).setCell (p:=⟨W2.heap.size,1,none⟩) zl _).setCell (p:=⟨W2.heap.size,2,none⟩) zl _;clear Z BZ nz1 nz2 nz3 zl zle t0 t1 t2 t3 t4 t5 t6 SB;generalize (((W9.setCell ⟨W2.heap.size,0,none⟩ (.bool ss.g)).setCell ⟨W2.heap.size,1,none⟩ (.slice o6 k6 u6)).setCell ⟨W2.heap.size,2,none⟩ (.int .i64 ss.e))=VF at *;generalize W2.heap.size=sb at *)
    | (have qz:=zt1;clear qz zt1;have T3:Has3 (((W9.setCell ⟨W3.heap.size,0,none⟩ (.bool ss.g)).setCell ⟨W3.heap.size,1,none⟩ (.slice o6 k6 u6)).setCell ⟨W3.heap.size,2,none⟩ (.int .i64 ss.e)) W3.heap.size (.bool ss.g) (.slice o6 k6 u6) (.int .i64 ss.e):=h3_put Z _ _ _;have SB2:BigIs (((W9.setCell ⟨W3.heap.size,0,none⟩ (.bool ss.g)).setCell ⟨W3.heap.size,1,none⟩ (.slice o6 k6 u6)).setCell ⟨W3.heap.size,2,none⟩ (.int .i64 ss.e)) (.slice o6 k6 u6) ss.m:=((SB.put BZ 0 _).put (BZ.set _ 0 _) 1 _).put ((BZ.set _ 0 _).set _ 1 _) 2 _;have nzR:W3.heap.size≠w.heap.size+1+1:=Ne.symm nz3;have zl:w.heap.size<=W3.heap.size:=zle;replace X:=rt2_far3 X nz1 (.bool ss.g) (.slice o6 k6 u6) (.int .i64 ss.e);replace Y:=rt2_far3 Y nz2 (.bool ss.g) (.slice o6 k6 u6) (.int .i64 ss.e);replace R:=rt2_far3 R nz3 (.bool ss.g) (.slice o6 k6 u6) (.int .i64 ss.e);replace HB:Below w.heap.size w (((W9.setCell ⟨W3.heap.size,0,none⟩ (.bool ss.g)).setCell ⟨W3.heap.size,1,none⟩ (.slice o6 k6 u6)).setCell ⟨W3.heap.size,2,none⟩ (.int .i64 ss.e)):=((HB.setCell (p:=⟨W3.heap.size,0,none⟩) zl _).setCell (p:=⟨W3.heap.size,1,none⟩) zl _).setCell (p:=⟨W3.heap.size,2,none⟩) zl _;clear Z BZ nz1 nz2 nz3 zl zle t0 t1 t2 t3 t4 t5 t6 SB;generalize (((W9.setCell ⟨W3.heap.size,0,none⟩ (.bool ss.g)).setCell ⟨W3.heap.size,1,none⟩ (.slice o6 k6 u6)).setCell ⟨W3.heap.size,2,none⟩ (.int .i64 ss.e))=VF at *;generalize W3.heap.size=sb at *)
    | (have qz:=zt2;clear qz zt2;have T3:Has3 (((W9.setCell ⟨W4.heap.size,0,none⟩ (.bool ss.g)).setCell ⟨W4.heap.size,1,none⟩ (.slice o6 k6 u6)).setCell ⟨W4.heap.size,2,none⟩ (.int .i64 ss.e)) W4.heap.size (.bool ss.g) (.slice o6 k6 u6) (.int .i64 ss.e):=h3_put Z _ _ _;have SB2:BigIs (((W9.setCell ⟨W4.heap.size,0,none⟩ (.bool ss.g)).setCell ⟨W4.heap.size,1,none⟩ (.slice o6 k6 u6)).setCell ⟨W4.heap.size,2,none⟩ (.int .i64 ss.e)) (.slice o6 k6 u6) ss.m:=((SB.put BZ 0 _).put (BZ.set _ 0 _) 1 _).put ((BZ.set _ 0 _).set _ 1 _) 2 _;have nzR:W4.heap.size≠w.heap.size+1+1:=Ne.symm nz3;have zl:w.heap.size<=W4.heap.size:=zle;replace X:=rt2_far3 X nz1 (.bool ss.g) (.slice o6 k6 u6) (.int .i64 ss.e);replace Y:=rt2_far3 Y nz2 (.bool ss.g) (.slice o6 k6 u6) (.int .i64 ss.e);replace R:=rt2_far3 R nz3 (.bool ss.g) (.slice o6 k6 u6) (.int .i64 ss.e);replace HB:Below w.heap.size w (((W9.setCell ⟨W4.heap.size,0,none⟩ (.bool ss.g)).setCell ⟨W4.heap.size,1,none⟩ (.slice o6 k6 u6)).setCell ⟨W4.heap.size,2,none⟩ (.int .i64 ss.e)):=((HB.setCell (p:=⟨W4.heap.size,0,none⟩) zl _).setCell (p:=⟨W4.heap.size,1,none⟩) zl _).setCell (p:=⟨W4.heap.size,2,none⟩) zl _;clear Z BZ nz1 nz2 nz3 zl zle t0 t1 t2 t3 t4 t5 t6 SB;generalize (((W9.setCell ⟨W4.heap.size,0,none⟩ (.bool ss.g)).setCell ⟨W4.heap.size,1,none⟩ (.slice o6 k6 u6)).setCell ⟨W4.heap.size,2,none⟩ (.int .i64 ss.e))=VF at *;generalize W4.heap.size=sb at *)
    | (have qz:=zt3;clear qz zt3;have T3:Has3 (((W9.setCell ⟨W5.heap.size,0,none⟩ (.bool ss.g)).setCell ⟨W5.heap.size,1,none⟩ (.slice o6 k6 u6)).setCell ⟨W5.heap.size,2,none⟩ (.int .i64 ss.e)) W5.heap.size (.bool ss.g) (.slice o6 k6 u6) (.int .i64 ss.e):=h3_put Z _ _ _;have SB2:BigIs (((W9.setCell ⟨W5.heap.size,0,none⟩ (.bool ss.g)).setCell ⟨W5.heap.size,1,none⟩ (.slice o6 k6 u6)).setCell ⟨W5.heap.size,2,none⟩ (.int .i64 ss.e)) (.slice o6 k6 u6) ss.m:=((SB.put BZ 0 _).put (BZ.set _ 0 _) 1 _).put ((BZ.set _ 0 _).set _ 1 _) 2 _;have nzR:W5.heap.size≠w.heap.size+1+1:=Ne.symm nz3;have zl:w.heap.size<=W5.heap.size:=zle;replace X:=rt2_far3 X nz1 (.bool ss.g) (.slice o6 k6 u6) (.int .i64 ss.e);replace Y:=rt2_far3 Y nz2 (.bool ss.g) (.slice o6 k6 u6) (.int .i64 ss.e);replace R:=rt2_far3 R nz3 (.bool ss.g) (.slice o6 k6 u6) (.int .i64 ss.e);replace HB:Below w.heap.size w (((W9.setCell ⟨W5.heap.size,0,none⟩ (.bool ss.g)).setCell ⟨W5.heap.size,1,none⟩ (.slice o6 k6 u6)).setCell ⟨W5.heap.size,2,none⟩ (.int .i64 ss.e)):=((HB.setCell (p:=⟨W5.heap.size,0,none⟩) zl _).setCell (p:=⟨W5.heap.size,1,none⟩) zl _).setCell (p:=⟨W5.heap.size,2,none⟩) zl _;clear Z BZ nz1 nz2 nz3 zl zle t0 t1 t2 t3 t4 t5 t6 SB;generalize (((W9.setCell ⟨W5.heap.size,0,none⟩ (.bool ss.g)).setCell ⟨W5.heap.size,1,none⟩ (.slice o6 k6 u6)).setCell ⟨W5.heap.size,2,none⟩ (.int .i64 ss.e))=VF at *;generalize W5.heap.size=sb at *)
    | (have qz:=zt4;clear qz zt4;have T3:Has3 (((W9.setCell ⟨W6.heap.size,0,none⟩ (.bool ss.g)).setCell ⟨W6.heap.size,1,none⟩ (.slice o6 k6 u6)).setCell ⟨W6.heap.size,2,none⟩ (.int .i64 ss.e)) W6.heap.size (.bool ss.g) (.slice o6 k6 u6) (.int .i64 ss.e):=h3_put Z _ _ _;have SB2:BigIs (((W9.setCell ⟨W6.heap.size,0,none⟩ (.bool ss.g)).setCell ⟨W6.heap.size,1,none⟩ (.slice o6 k6 u6)).setCell ⟨W6.heap.size,2,none⟩ (.int .i64 ss.e)) (.slice o6 k6 u6) ss.m:=((SB.put BZ 0 _).put (BZ.set _ 0 _) 1 _).put ((BZ.set _ 0 _).set _ 1 _) 2 _;have nzR:W6.heap.size≠w.heap.size+1+1:=Ne.symm nz3;have zl:w.heap.size<=W6.heap.size:=zle;replace X:=rt2_far3 X nz1 (.bool ss.g) (.slice o6 k6 u6) (.int .i64 ss.e);replace Y:=rt2_far3 Y nz2 (.bool ss.g) (.slice o6 k6 u6) (.int .i64 ss.e);replace R:=rt2_far3 R nz3 (.bool ss.g) (.slice o6 k6 u6) (.int .i64 ss.e);replace HB:Below w.heap.size w (((W9.setCell ⟨W6.heap.size,0,none⟩ (.bool ss.g)).setCell ⟨W6.heap.size,1,none⟩ (.slice o6 k6 u6)).setCell ⟨W6.heap.size,2,none⟩ (.int .i64 ss.e)):=((HB.setCell (p:=⟨W6.heap.size,0,none⟩) zl _).setCell (p:=⟨W6.heap.size,1,none⟩) zl _).setCell (p:=⟨W6.heap.size,2,none⟩) zl _;clear Z BZ nz1 nz2 nz3 zl zle t0 t1 t2 t3 t4 t5 t6 SB;generalize (((W9.setCell ⟨W6.heap.size,0,none⟩ (.bool ss.g)).setCell ⟨W6.heap.size,1,none⟩ (.slice o6 k6 u6)).setCell ⟨W6.heap.size,2,none⟩ (.int .i64 ss.e))=VF at *;generalize W6.heap.size=sb at *)
    | (have qz:=zt5;clear qz zt5;have T3:Has3 (((W9.setCell ⟨W7.heap.size,0,none⟩ (.bool ss.g)).setCell ⟨W7.heap.size,1,none⟩ (.slice o6 k6 u6)).setCell ⟨W7.heap.size,2,none⟩ (.int .i64 ss.e)) W7.heap.size (.bool ss.g) (.slice o6 k6 u6) (.int .i64 ss.e):=h3_put Z _ _ _;have SB2:BigIs (((W9.setCell ⟨W7.heap.size,0,none⟩ (.bool ss.g)).setCell ⟨W7.heap.size,1,none⟩ (.slice o6 k6 u6)).setCell ⟨W7.heap.size,2,none⟩ (.int .i64 ss.e)) (.slice o6 k6 u6) ss.m:=((SB.put BZ 0 _).put (BZ.set _ 0 _) 1 _).put ((BZ.set _ 0 _).set _ 1 _) 2 _;have nzR:W7.heap.size≠w.heap.size+1+1:=Ne.symm nz3;have zl:w.heap.size<=W7.heap.size:=zle;replace X:=rt2_far3 X nz1 (.bool ss.g) (.slice o6 k6 u6) (.int .i64 ss.e);replace Y:=rt2_far3 Y nz2 (.bool ss.g) (.slice o6 k6 u6) (.int .i64 ss.e);replace R:=rt2_far3 R nz3 (.bool ss.g) (.slice o6 k6 u6) (.int .i64 ss.e);replace HB:Below w.heap.size w (((W9.setCell ⟨W7.heap.size,0,none⟩ (.bool ss.g)).setCell ⟨W7.heap.size,1,none⟩ (.slice o6 k6 u6)).setCell ⟨W7.heap.size,2,none⟩ (.int .i64 ss.e)):=((HB.setCell (p:=⟨W7.heap.size,0,none⟩) zl _).setCell (p:=⟨W7.heap.size,1,none⟩) zl _).setCell (p:=⟨W7.heap.size,2,none⟩) zl _;clear Z BZ nz1 nz2 nz3 zl zle t0 t1 t2 t3 t4 t5 t6 SB;generalize (((W9.setCell ⟨W7.heap.size,0,none⟩ (.bool ss.g)).setCell ⟨W7.heap.size,1,none⟩ (.slice o6 k6 u6)).setCell ⟨W7.heap.size,2,none⟩ (.int .i64 ss.e))=VF at *;generalize W7.heap.size=sb at *)
    | (have qz:=zt6;clear qz zt6;have T3:Has3 (((W9.setCell ⟨W8.heap.size,0,none⟩ (.bool ss.g)).setCell ⟨W8.heap.size,1,none⟩ (.slice o6 k6 u6)).setCell ⟨W8.heap.size,2,none⟩ (.int .i64 ss.e)) W8.heap.size (.bool ss.g) (.slice o6 k6 u6) (.int .i64 ss.e):=h3_put Z _ _ _;have SB2:BigIs (((W9.setCell ⟨W8.heap.size,0,none⟩ (.bool ss.g)).setCell ⟨W8.heap.size,1,none⟩ (.slice o6 k6 u6)).setCell ⟨W8.heap.size,2,none⟩ (.int .i64 ss.e)) (.slice o6 k6 u6) ss.m:=((SB.put BZ 0 _).put (BZ.set _ 0 _) 1 _).put ((BZ.set _ 0 _).set _ 1 _) 2 _;have nzR:W8.heap.size≠w.heap.size+1+1:=Ne.symm nz3;have zl:w.heap.size<=W8.heap.size:=zle;replace X:=rt2_far3 X nz1 (.bool ss.g) (.slice o6 k6 u6) (.int .i64 ss.e);replace Y:=rt2_far3 Y nz2 (.bool ss.g) (.slice o6 k6 u6) (.int .i64 ss.e);replace R:=rt2_far3 R nz3 (.bool ss.g) (.slice o6 k6 u6) (.int .i64 ss.e);replace HB:Below w.heap.size w (((W9.setCell ⟨W8.heap.size,0,none⟩ (.bool ss.g)).setCell ⟨W8.heap.size,1,none⟩ (.slice o6 k6 u6)).setCell ⟨W8.heap.size,2,none⟩ (.int .i64 ss.e)):=((HB.setCell (p:=⟨W8.heap.size,0,none⟩) zl _).setCell (p:=⟨W8.heap.size,1,none⟩) zl _).setCell (p:=⟨W8.heap.size,2,none⟩) zl _;clear Z BZ nz1 nz2 nz3 zl zle t0 t1 t2 t3 t4 t5 t6 SB;generalize (((W9.setCell ⟨W8.heap.size,0,none⟩ (.bool ss.g)).setCell ⟨W8.heap.size,1,none⟩ (.slice o6 k6 u6)).setCell ⟨W8.heap.size,2,none⟩ (.int .i64 ss.e))=VF at *;generalize W8.heap.size=sb at *)
    | (have T3:=h3_new W9 (.bool ss.g) (.slice o6 k6 u6) (.int .i64 ss.e) 125;have nzR:W9.heap.size≠w.heap.size+1+1:=Ne.symm (Nat.ne_of_lt R.lt);have hbF:=grew W9 (.cells #[.bool ss.g,.slice o6 k6 u6,.int .i64 ss.e] 125);have SB2:=SB.keep hbF;replace X:=X.keep hbF;replace Y:=Y.keep hbF;replace R:=R.keep hbF;replace HB:=later HB hbF;clear hbF SB;generalize W9.alloc (.cells #[.bool ss.g,.slice o6 k6 u6,.int .i64 ss.e] 125)=VF at *;generalize W9.heap.size=sb at *))
   go_wp2_with fail
   go_meet
   case rel=>exact⟨_,_,_,_,rfl,HB,X,Y,R,T3,SB2,nzR⟩
 case rest =>
  clear X Y R HB X0 Y0 R0 HB0 s1 s2 s3 s4 pr1 pr2 su
  obtain⟨sb,o6,k6,u6,rfl,HB,X,Y,R,T3,SB2,nzR⟩:=hcut
  have ne1:w.heap.size≠w.heap.size+1+1:=by omega
  have ne2:w.heap.size+1≠w.heap.size+1+1:=by omega
  go_upto_region 4 with fail
  have HD:Below wc.heap.size wc wc.drew:=(Below.refl _ _).drew
  replace X:=X.keep HD
  replace Y:=Y.keep HD
  replace R:=R.keep HD
  replace T3:=T3.keep HD
  replace SB2:=SB2.keep HD
  replace HB:=later HB HD
  clear HD
  go_region_held3 (fun w'=>w'.cell? ⟨sb,0,none⟩=some (.bool ss.g)/\w'.cell? ⟨sb,1,none⟩=some (.slice o6 k6 u6)/\w'.cell? ⟨w.heap.size,1,none⟩=some (.int .i64 aD)/\w'.cell? ⟨w.heap.size+1,1,none⟩=some (.int .i64 bD)) (first | with_reducible exact⟨T0 T3,T1 T3,X.c1,Y.c1⟩ | with_reducible exact⟨far_rt nzR (T0 T3),far_rt nzR (T1 T3),far_rt ne1 X.c1,far_rt ne2 Y.c1⟩ | go_keep)
   (first
    | (go_at_call_of 68 (Value.int .i64 aD);(with_reducible refine (z1 _).mono ?_);rintro _ Wa ⟨⟨va,rfl,A1⟩,hb1⟩;obtain⟨oa,ka,ua,rfl, -⟩:=A1.shape;replace X:=X.keep hb1;replace Y:=Y.keep hb1;replace R:=R.keep hb1;replace T3:=T3.keep hb1;replace SB2:=SB2.keep hb1;replace HB:=later HB hb1;clear hb1)
    | (go_at_call_of 68 (Value.int .i64 bD);(with_reducible refine (z2 _).mono ?_);rintro _ Wb ⟨⟨vb,rfl,A2⟩,hb1⟩;obtain⟨ob,kb,ub,rfl, -⟩:=A2.shape;replace A1:=A1.keep hb1;replace X:=X.keep hb1;replace Y:=Y.keep hb1;replace R:=R.keep hb1;replace T3:=T3.keep hb1;replace SB2:=SB2.keep hb1;replace HB:=later HB hb1;clear hb1)
    | (go_at_call 73;(with_reducible refine (mb _ _ _ A1 A2).mono ?_);rintro _ Wc ⟨⟨vc,rfl,M⟩,hb1⟩;obtain⟨oc,kc,uc,rfl, -⟩:=M.shape;replace X:=X.keep hb1;replace Y:=Y.keep hb1;replace R:=R.keep hb1;replace T3:=T3.keep hb1;replace SB2:=SB2.keep hb1;replace HB:=later HB hb1;clear hb1)
    | (go_at_call 72;(with_reducible refine (cf _ _ _ _ _ _ _ SB2 M).mono ?_);rintro _ Wd ⟨rfl,hb1⟩;replace X:=X.keep hb1;replace Y:=Y.keep hb1;replace R:=R.keep hb1;replace T3:=T3.keep hb1;replace HB:=later HB hb1;clear hb1;obtain⟨r0,r1,r2,r3,r4⟩:=id R))
  all_goals
   go_wp2_with fail
   refine bodyPost_ret (v:=.tuple #[.agg #[.int .i64 ov.1,.int .i64 ov.2.1],.int .i64 ov.2.2]) (by simp [results,Try.results71,go_sem, *]) rfl ⟨⟨ov,rfl,OV.out⟩, ?_⟩
   repeat' (first | (with_reducible exact HB) | (with_reducible refine Below.setCell ?_ ?_ _) | go_size)
end Go.Proofs.Ytbejmklkicoibaa
