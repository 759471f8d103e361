/- Slopes: slopeRule of any operation that may be. -/
import Derived.Test.YtopfabemfbdccaaGreatZk41
import Derived.Test.YtopfabemfbdccaaGreatZk38
namespace Go.Proofs.YtopfabemfbdccaaGreat
open Go.ChangeShapes Go.WideShapes Go.ChangeAt Go.RowKit
theorem cRows {o:Opw} {i:Nat} (A:Option Addr) (C m:Nat) (RA:Nat->Option Addr) (RC:Nat->Nat) (R:Nat->Nat->Nat×Nat) (h1:1<=arI o.k->0<=o.a/\o.a<(i:Int)) (h2:arI o.k=2->0<=o.b/\o.b<(i:Int)) (w:World) (x:Nat) (hoff:∀r,r<i->Off (RA r) m x) (U:Rws w A i RA (fun _=>m) RC R) :
  ∃Da na Ca Db nb Cb,(1<=arI o.k->na=m/\Off Da na x/\Ivs w Da na (rowA o R))/\(arI o.k=2->nb=m/\Off Db nb x/\Ivs w Db nb (rowB o R))/\∀W,Below w.heap.size w W->Calls Tryz.prog 193 #[o.val,.slice A i C] W fun e w'=>e=.returned (.tuple #[.slice Da na Ca,.slice Db nb Cb])/\Below W.heap.size W w':=by
 obtain⟨k,oa,ob,n,lo,hi⟩:=o
 simp only at h1 h2
 have ar:=ar_le k
 have ca:=fun w=>arity_w k w
 unfold rowA rowB
 simp only
 have hh:arI k=0\/arI k=1\/arI k=2:=by omega
 rcases hh with e | e | e
 ·rw [e] at ca
  exact⟨none,0,0,none,0,0,fun c=>by omega,fun c=>by omega,fun W _=>ar_0 k oa ob n (lo,hi) _ ca W⟩
 ·obtain⟨a0,a1⟩:=h1 (by omega)
  obtain⟨j,rfl⟩:∃j:Nat,oa=(j:Int):=⟨oa.toNat,by omega⟩
  obtain⟨xb,xo,rfl,hl,x0, -,V⟩:=U j (by omega)
  rw [e] at ca
  refine⟨RA j,m,RC j,none,0,0,fun c=>⟨rfl,hoff j (by omega), ?_⟩,fun c=>by omega,fun W hW=>ar_1 k ob n j i C xb xo (lo,hi) _ (RA j) m (RC j) rfl (by omega) ca W (Nat.lt_of_lt_of_le hl hW.size) (keepsC hW x0 hl)⟩
  rw [if_pos (by omega)]
  exact V
 ·obtain⟨a0,a1⟩:=h1 (by omega)
  obtain⟨b0,b1⟩:=h2 e
  obtain⟨j,rfl⟩:∃j:Nat,oa=(j:Int):=⟨oa.toNat,by omega⟩
  obtain⟨t,rfl⟩:∃t:Nat,ob=(t:Int):=⟨ob.toNat,by omega⟩
  obtain⟨xb,xo,hB,hl,x0, -,V⟩:=U j (by omega)
  obtain⟨yb,yo,hB2,hl2,y0, -,V2⟩:=U t (by omega)
  rw [hB] at hB2 ⊢
  cases hB2
  rw [e] at ca
  refine⟨RA j,m,RC j,RA t,m,RC t,fun c=>⟨rfl,hoff j (by omega), ?_⟩,fun c=>⟨rfl,hoff t (by omega), ?_⟩,fun W hW=>ar_2 k n j t i C xb xo (lo,hi) _ _ (RA j) (RA t) m (RC j) m (RC t) rfl rfl (by omega) (by omega) ca W (Nat.lt_of_lt_of_le hl hW.size) (keepsC hW x0 hl) (keepsC hW y0 hl)⟩
  ·rw [if_pos (by omega)]
   exact V
  ·rw [if_pos e]
   exact V2
theorem sinQ_W2 {a:Nat×Nat} (h:W2 a):W2 (sinQ a):=waveQ_W2 h 0
theorem cosQ_W2 {a:Nat×Nat} (h:W2 a):W2 (cosQ a):=waveQ_W2 h 1
theorem Rule.congr {x:Nat} {w:World} {fv:Value} {m:Nat} {G H:Nat->Nat×Nat} (h:Rule x w fv m G) (e:∀j,G j=H j):Rule x w fv m H:=by
 have:G=H:=funext e
 rw [<-this]
 exact h
set_option maxHeartbeats 1000000 in
theorem sr_any {o:Opw} {i:Nat} {vars:Int} (h:opB o (i:Int) vars=true) (v:Nat×Nat) (hv:W2 v) (B:Option Addr) (D:Nat) (V:Nat->Nat×Nat) (A:Option Addr) (C m:Nat) (RA:Nat->Option Addr) (RC:Nat->Nat) (R:Nat->Nat->Nat×Nat) (w:World) (x:Nat) (hx:x<w.heap.size) (hoff:∀r,r<i->Off (RA r) m x) (UV:Ivs w B i V) (U:Rws w A i RA (fun _=>m) RC R) :
  Calls Tryz.prog 137 #[o.val,.agg #[.float .f64 v.1,.float .f64 v.2],.slice B i D,.slice A i C] w fun e w'=>(∃fv,e=.returned fv/\Rule x w' fv m (slQ o v (argA o V) (argB o V) (rowA o R) (rowB o R)))/\Below w.heap.size w w':=by
 obtain⟨hk,g1,g2,g3,g4⟩:=opB_says h
 obtain⟨wa,wb⟩:=args_W2 g1 g2 UV
 have cA:=fun W (hW:Below w.heap.size w W)=>cOps B D V g1 g2 W (UV.keep hW)
 obtain⟨Da,na,Ca,Db,nb,Cb,r1,r2,cB⟩:=cRows A C m RA RC R g1 g2 w x hoff U
 have hn:o.k=8->-64<=o.n/\o.n<=64:=fun e=>by
  unfold opB at h
  simp only [Bool.and_eq_true] at h
  have:=h.2
  unfold restB at this
  rw [if_neg (by omega),if_neg (by omega),if_pos e] at this
  exact of_decide_eq_true this
 generalize argA o V=a at *
 generalize argB o V=b at *
 generalize rowA o R=da at *
 generalize rowB o R=db at *
 obtain⟨k,oa,ob,n,lo,hi⟩:=o
 unfold Opw.val at *
 simp only at *
 have hh:k=1\/k=2\/k=3\/k=4\/k=5\/k=6\/k=7\/k=8\/k=9\/k=10\/k=11\/k=12\/k=13\/k=14:=by omega
 have z0:=fun w=>cPoint (a:=0) (by omega) w
 have z1:=fun w=>cPoint (a:=4607182418800017408) (by omega) w
 have z2:=fun w=>cPoint (a:=4611686018427387904) (by omega) w
 have p0:W2 (ptQ 0):=ptQ_W2 (by omega)
 have p1:W2 (ptQ 4607182418800017408):=ptQ_W2 (by omega)
 have p2:W2 (ptQ 4611686018427387904):=ptQ_W2 (by omega)
 rcases hh with rfl | rfl | rfl | rfl | rfl | rfl | rfl | rfl | rfl | rfl | rfl | rfl | rfl | rfl
 ·exact sr_1 x oa ob n (lo,hi) v a b _ _ Da Db na Ca nb Cb m _ z0 w hx cA cB
 ·exact sr_2 x oa ob n (lo,hi) v a b _ _ Da Db na Ca nb Cb m _ _ z0 z1 w hx cA cB
 ·obtain⟨rfl,fa,ua⟩:=r1 (by decide)
  obtain⟨hnb,fb,ub⟩:=r2 (by decide)
  have xa:=ivs_words ua
  have xb:=ivs_words ub
  exact sr_3 x oa ob n (lo,hi) v a b _ _ Da Db na Ca nb Cb na da db _ (by omega) (by omega) (fun j hj w=>cAdd (xa j (by omega)) (xb j (by omega)) w) w hx fa ua fb ub cA cB
 ·obtain⟨rfl,fa,ua⟩:=r1 (by decide)
  obtain⟨hnb,fb,ub⟩:=r2 (by decide)
  have xa:=ivs_words ua
  have xb:=ivs_words ub
  exact sr_4 x oa ob n (lo,hi) v a b _ _ Da Db na Ca nb Cb na da db _ (by omega) (by omega) (fun j hj w=>cSub (xa j (by omega)) (xb j (by omega)) w) w hx fa ua fb ub cA cB
 ·obtain⟨rfl,fa,ua⟩:=r1 (by decide)
  obtain⟨hnb,fb,ub⟩:=r2 (by decide)
  have xa:=ivs_words ua
  have xb:=ivs_words ub
  exact sr_5 x oa ob n (lo,hi) v a b _ _ Da Db na Ca nb Cb na da db _ _ _ (by omega) (by omega) (fun j hj w=>cMul (xa j (by omega)) wb w) (fun j hj w=>cMul wa (xb j (by omega)) w) (fun j hj w=>cAdd (mulQ_W2 (xa j (by omega)) wb) (mulQ_W2 wa (xb j (by omega))) w) w hx fa ua fb ub cA cB
 ·obtain⟨rfl,fa,ua⟩:=r1 (by decide)
  obtain⟨hnb,fb,ub⟩:=r2 (by decide)
  have xa:=ivs_words ua
  have xb:=ivs_words ub
  exact sr_6 x oa ob n (lo,hi) v a b _ _ Da Db na Ca nb Cb na da db _ _ _ (by omega) (by omega) (fun j hj w=>cMul hv (xb j (by omega)) w) (fun j hj w=>cSub (xa j (by omega)) (mulQ_W2 hv (xb j (by omega))) w) (fun j hj w=>cDiv (subQ_W2 (xa j (by omega)) (mulQ_W2 hv (xb j (by omega)))) wb w) w hx fa ua fb ub cA cB
 ·obtain⟨rfl,fa,ua⟩:=r1 (by decide)
  have xa:=ivs_words ua
  exact sr_7 x oa ob n (lo,hi) v a b _ _ Da Db na Ca nb Cb na da _ (by omega) (fun j hj w=>cNeg (xa j (by omega)) w) w hx fa ua cA cB
 ·obtain⟨rfl,fa,ua⟩:=r1 (by decide)
  have xa:=ivs_words ua
  obtain⟨n1,n2⟩:=hn rfl
  by_cases c:n=0
  ·subst c
   exact sr_8 x oa ob 0 (lo,hi) v a b _ _ Da Db na Ca nb Cb na _ w hx (fun W hW=>pr_zero x a Da na Ca _ z0 W) cA cB
  ·have c2:=fun w=>cPow wa (n-1) w
   have pf:W2 (ptQ (floatOfInt .f64 n)):=ptQ_W2 (foi_lt n)
   have e:∀j,slQ ⟨8,oa,ob,n,lo,hi⟩ v a b da db j=mulQ (mulQ (ptQ (floatOfInt .f64 n)) (powQ a (n-1))) (da j):=fun j=>by
    show (if n=0 then _ else _)=_
    rw [if_neg c]
   refine (sr_8 x oa ob n (lo,hi) v a b _ _ Da Db na Ca nb Cb na _ w hx (fun W hW=>pr_some x a n c (by omega) (by omega) Da na Ca da _ _ _ _ (fun w=>cPoint (foi_lt n) w) c2 (fun w=>cMul pf (powQ_W2 wa _) w) (fun j hj w=>cMul (mulQ_W2 pf (powQ_W2 wa _)) (xa j hj) w) W (Nat.lt_of_lt_of_le hx hW.size) fa (ua.keep hW)) cA cB).mono ?_
   rintro _ w' ⟨⟨fv,rfl,hR⟩,hb⟩
   exact⟨⟨fv,rfl,hR.congr fun j=>(e j).symm⟩,hb⟩
 ·obtain⟨rfl,fa,ua⟩:=r1 (by decide)
  have xa:=ivs_words ua
  exact sr_9 x oa ob n (lo,hi) v a b _ _ Da Db na Ca nb Cb da _ _ _ z2 (fun w=>cMul p2 hv w) (fun j hj w=>cDiv (xa j hj) (mulQ_W2 p2 hv) w) w hx fa ua cA cB
 ·obtain⟨rfl,fa,ua⟩:=r1 (by decide)
  have xa:=ivs_words ua
  exact sr_10 x oa ob n (lo,hi) v a b _ _ Da Db na Ca nb Cb da _ (fun j hj w=>cMul hv (xa j hj) w) w hx fa ua cA cB
 ·obtain⟨rfl,fa,ua⟩:=r1 (by decide)
  have xa:=ivs_words ua
  exact sr_11 x oa ob n (lo,hi) v a b _ _ Da Db na Ca nb Cb da _ (fun j hj w=>cDiv (xa j hj) wa w) w hx fa ua cA cB
 ·obtain⟨rfl,fa,ua⟩:=r1 (by decide)
  have xa:=ivs_words ua
  exact sr_12 x oa ob n (lo,hi) v a b _ _ Da Db na Ca nb Cb da _ _ (fun w=>cCos wa w) (fun j hj w=>cMul (cosQ_W2 wa) (xa j hj) w) w hx fa ua cA cB
 ·obtain⟨rfl,fa,ua⟩:=r1 (by decide)
  have xa:=ivs_words ua
  exact sr_13 x oa ob n (lo,hi) v a b _ _ Da Db na Ca nb Cb da _ _ _ (fun w=>cSin wa w) (fun j hj w=>cMul (sinQ_W2 wa) (xa j hj) w) (fun j hj w=>cNeg (mulQ_W2 (sinQ_W2 wa) (xa j hj)) w) w hx fa ua cA cB
 ·obtain⟨rfl,fa,ua⟩:=r1 (by decide)
  have xa:=ivs_words ua
  exact sr_14 x oa ob n (lo,hi) v a b _ _ Da Db na Ca nb Cb da _ _ _ _ z1 (fun w=>cSqr wa w) (fun w=>cAdd p1 (sqrQ_W2 wa) w) (fun j hj w=>cDiv (xa j hj) (addQ_W2 p1 (sqrQ_W2 wa)) w) w hx fa ua cA cB
theorem slQ_W2 {o:Opw} {v a b:Nat×Nat} {da db:Nat->Nat×Nat} (hv:W2 v) (ha:W2 a) (hb:W2 b) {j:Nat} (h1:1<=arI o.k->W2 (da j)) (h2:arI o.k=2->W2 (db j)) (hk:1<=o.k/\o.k<=14):W2 (slQ o v a b da db j):=by
 obtain⟨k,oa,ob,n,lo,hi⟩:=o
 simp only at *
 have hh:k=1\/k=2\/k=3\/k=4\/k=5\/k=6\/k=7\/k=8\/k=9\/k=10\/k=11\/k=12\/k=13\/k=14:=by omega
 have p0:W2 (ptQ 0):=ptQ_W2 (by omega)
 have p1:W2 (ptQ 4607182418800017408):=ptQ_W2 (by omega)
 have p2:W2 (ptQ 4611686018427387904):=ptQ_W2 (by omega)
 rcases hh with rfl | rfl | rfl | rfl | rfl | rfl | rfl | rfl | rfl | rfl | rfl | rfl | rfl | rfl
 ·exact p0
 ·show W2 (if (j:Int)=n then ptQ 4607182418800017408 else ptQ 0)
  by_cases c:(j:Int)=n
  ·rw [if_pos c];exact p1
  ·rw [if_neg c];exact p0
 ·exact addQ_W2 (h1 (by decide)) (h2 (by decide))
 ·exact subQ_W2 (h1 (by decide)) (h2 (by decide))
 ·exact addQ_W2 (mulQ_W2 (h1 (by decide)) hb) (mulQ_W2 ha (h2 (by decide)))
 ·exact divQ_W2 (subQ_W2 (h1 (by decide)) (mulQ_W2 hv (h2 (by decide)))) hb
 ·exact negQ_W2 (h1 (by decide))
 ·show W2 (if n=0 then ptQ 0 else mulQ (mulQ (ptQ (floatOfInt .f64 n)) (powQ a (n-1))) (da j))
  by_cases c:n=0
  ·rw [if_pos c];exact p0
  ·rw [if_neg c];exact mulQ_W2 (mulQ_W2 (ptQ_W2 (foi_lt n)) (powQ_W2 ha _)) (h1 (by decide))
 ·exact divQ_W2 (h1 (by decide)) (mulQ_W2 p2 hv)
 ·exact mulQ_W2 hv (h1 (by decide))
 ·exact divQ_W2 (h1 (by decide)) ha
 ·exact mulQ_W2 (cosQ_W2 ha) (h1 (by decide))
 ·exact negQ_W2 (mulQ_W2 (sinQ_W2 ha) (h1 (by decide)))
 ·exact divQ_W2 (h1 (by decide)) (addQ_W2 p1 (sqrQ_W2 ha))
end Go.Proofs.YtopfabemfbdccaaGreat
