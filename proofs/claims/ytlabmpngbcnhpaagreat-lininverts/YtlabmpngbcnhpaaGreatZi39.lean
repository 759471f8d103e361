/- lin.Inverse: what it inverts is regular. A regular matrix has no two rows that are the same; up to three rows its determinant is not 0. -/
import Derived.Test.YtlabmpngbcnhpaaGreatZi37
import Derived.Test.YtlabmpngbcnhpaaGreatZi38
namespace Go.Proofs.YtlabmpngbcnhpaaGreat
open Go.ChangeShapes Go.WideShapes Go.ChangeAt Go.RowKit
theorem twQ_add (a b:Int):twQ (a+b)=twQ a*twQ b:=by
 have h:pwU (a+b)*pwU (-a)*pwU (-b)=pwU a*pwU b*pwU (-(a+b)):=by
   unfold pwU
   rw [←Nat.pow_add,←Nat.pow_add,←Nat.pow_add,←Nat.pow_add]
   congr 1
   omega
 have h2:((pwU (a+b):Int):Rat)*((pwU (-a):Int):Rat)*((pwU (-b):Int):Rat)=((pwU a:Int):Rat)*((pwU b:Int):Rat)*((pwU (-(a+b)):Int):Rat):=by
   rw [←Rat.intCast_mul,←Rat.intCast_mul,←Rat.intCast_mul,←Rat.intCast_mul]
   congr 1
   rw [←Int.natCast_mul,←Int.natCast_mul,←Int.natCast_mul,←Int.natCast_mul,h]
 have i1:=pwU_inv (-a)
 have i2:=pwU_inv (-b)
 have i3:=pwU_inv (-(a+b))
 unfold twQ
 generalize ((pwU (a+b):Int):Rat)=s at *
 generalize ((pwU (-(a+b)):Int):Rat)=t at *
 generalize ((pwU a:Int):Rat)=x at *
 generalize ((pwU b:Int):Rat)=y at *
 generalize ((pwU (-a):Int):Rat)=u at *
 generalize ((pwU (-b):Int):Rat)=v at *
 generalize t⁻¹=t' at *
 generalize u⁻¹=u' at *
 generalize v⁻¹=v' at *
 have e1:s*t'=s*u*v*(u'*v'*t'):=by
   have:s*u*v*(u'*v'*t')=s*t'*(u*u')*(v*v'):=by grind
   rw [this,i1,i2];grind
 have e2:x*u'*(y*v')=x*y*t*(u'*v'*t'):=by
   have:x*y*t*(u'*v'*t')=x*u'*(y*v')*(t*t'):=by grind
   rw [this,i3];grind
 rw [e1,e2,h2]
def sclQ (X:Nat→Nat→Nat) (P Q:Nat→Int) (r c:Nat):Rat:=vq (key (X r c))*twQ (-(P r)-Q c)
def RegQ (n:Nat) (X:Nat→Nat→Nat):Prop:=∀u:Nat→Rat,(∀r,r<n→sumQ (fun c=>vq (key (X r c))*u c) n=0)→∀c,c<n→u c=0
def oneQ (i j:Nat):Rat:=if i=j then 1 else 0
def prodQ (n:Nat) (x y:Nat→Nat→Rat) (i j:Nat):Rat:=sumQ (fun k=>x i k*y k j) n
def lessQ (x y:Nat→Nat→Rat) (i j:Nat):Rat:=x i j-y i j
theorem reg_of {n:Nat} {X:Nat→Nat→Nat} {P Q:Nat→Int} {R:Nat→Nat→Rat} (h:∀i,i<n→sumQ (fun c=>absQ (lessQ oneQ (prodQ n R (sclQ X P Q)) i c)) n<1):RegQ n X:=by
 intro u hu c hc
 have g:=regular (n:=n) (R:=R) (B:=sclQ X P Q) h (v:=fun c=>twQ (Q c)*u c) (fun r hr=>?_) c hc
 · have p:=twQ_pos (Q c)
   generalize twQ (Q c)=t at *
   have i:=Rat.mul_inv_cancel t (by grind)
   have g2:t*u c=0:=g
   have:u c=(t*u c)*t⁻¹:=by grind
   rw [this,g2]
   grind
 · have e:∀c,sclQ X P Q r c*(twQ (Q c)*u c)=twQ (-(P r))*(vq (key (X r c))*u c):=fun c=>by
     unfold sclQ
     have a:=twQ_add (-(P r)-Q c) (Q c)
     rw [show -(P r)-Q c+Q c=-(P r) by omega] at a
     rw [a]
     grind
   rw [sumQ_congr (fun c _=>e c),sumQ_mul,hu r hr]
   grind
theorem hq_nought:Hq (0,0) 0:=by
 have h:=am_hq (a:=0) (x:=0) (Nat.zero_le _) Rat.le_refl (Or.inr (by rw [show ((0:Nat):Int)=0 from rfl,vq_zero];exact Rat.le_refl))
 exact h
theorem hq_dot {X Y:Nat→Nat×Nat} {x y:Nat→Rat}:∀n,(∀k,k<n→Hq (X k) (x k))→(∀k,k<n→Hq (Y k) (y k))→Hq (dotP X Y n) (sumQ (fun k=>x k*y k) n):=by
 intro n
 induction n with
 | zero=>intro _ _;exact hq_nought
 | succ n ih =>
   intro h k
   exact hq_add (ih (fun j hj=>h j (by omega)) (fun j hj=>k j (by omega))) (hq_mul (h n (by omega)) (k n (by omega)))
theorem hq_one (i j:Nat):Hq (oneP i j) (oneQ i j):=by
 unfold oneP oneQ
 by_cases h:i=j
 · rw [if_pos h,if_pos h]
   have:=hq_point (a:=4607182418800017408) (by omega) (by decide)
   rw [show key 4607182418800017408=4607182418800017408 by decide,vq_one] at this
   exact this
 · rw [if_neg h,if_neg h]
   exact hq_nought
def SqH (w:World) (A:Option Addr) (n:Nat) (x:Nat→Nat→Rat):Prop:=∃g h F,A=some ⟨g,0,none⟩∧Grd w g n n h F∧∀r,r<n→∀c,c<n→Hq (F r c) (x r c)
theorem SqH.keep {w w2:World} {A:Option Addr} {n:Nat} {x:Nat→Nat→Rat} (h:SqH w A n x) (hb:Below w.heap.size w w2):SqH w2 A n x:=by
 obtain⟨g,k,F,e,G,l⟩:=h
 exact⟨g,k,F,e,G.keep hb,l⟩
theorem SqH.sq {w:World} {A:Option Addr} {n:Nat} {x:Nat→Nat→Rat} (h:SqH w A n x):Sq w A n:=by
 obtain⟨g,k,F,e,G,l⟩:=h
 exact⟨g,k,F,e,G,fun r hr c hc=>⟨(l r hr c hc).l1,(l r hr c hc).l2⟩⟩
theorem SqH.rws {w:World} {A:Option Addr} {n:Nat} {x:Nat→Nat→Rat} (h:SqH w A n x) (hn:n≤24):∃RA RC X,Rws w A n RA (fun _=>n) RC X∧∀r,r<n→∀c,c<n→Hq (X r c) (x r c):=by
 obtain⟨g,k,F,rfl,G,l⟩:=h
 exact⟨_,_,_,G.rws (by omega) (fun r hr c hc=>⟨(l r hr c hc).l1,(l r hr c hc).l2⟩),l⟩
theorem prod_sqH (A B:Option Addr) (n:Nat) (n1:1≤n) (n2:n≤24) (x y:Nat→Nat→Rat) (w:World) (V:SqH w A n x) (U:SqH w B n y) :
   Calls Tryz.prog 19 #[.slice A n n,.slice B n n] w fun e w'=>(∃C,e=.returned (.slice C n n)∧SqH w' C n (prodQ n x y))∧Below w.heap.size w w':=by
 obtain⟨RA,RC,X,V,hx⟩:=V.rws n2
 obtain⟨SA,SC,Y,U,hy⟩:=U.rws n2
 refine (prodM_w A B n n n n n RA SA _ RC _ SC X Y n2 n2 n1 n2 (fun _ _=>rfl) (fun _ _=>rfl) w V U).mono fun e w' ⟨g,h,a,b,c⟩=>⟨⟨_,a,g,h,_,rfl,b,fun r hr c hc=>?_⟩,c⟩
 exact hq_dot n (fun k hk=>hx r hr k hk) (fun k hk=>hy k hk c hc)
theorem less_sqH (A B:Option Addr) (n:Nat) (n1:1≤n) (n2:n≤24) (x y:Nat→Nat→Rat) (w:World) (V:SqH w A n x) (U:SqH w B n y) :
   Calls Tryz.prog 17 #[.slice A n n,.slice B n n] w fun e w'=>(∃C,e=.returned (.slice C n n)∧SqH w' C n (lessQ x y))∧Below w.heap.size w w':=by
 obtain⟨RA,RC,X,V,hx⟩:=V.rws n2
 obtain⟨SA,SC,Y,U,hy⟩:=U.rws n2
 refine (mless_w A B n n n n RA SA _ RC _ SC X Y n2 n1 n2 (fun _ _=>rfl) (fun _ _=>rfl) w V U).mono fun e w' ⟨⟨g,h,a,b⟩,c⟩=>⟨⟨_,a,g,h,_,rfl,b,fun r hr c hc=>?_⟩,c⟩
 exact hq_sub (hx r hr c hc) (hy r hr c hc)
theorem one_sqH (n:Nat) (n1:1≤n) (n2:n≤24) (w:World):Calls Tryz.prog 18 #[.int .i64 (n:Int)] w fun e w'=>(∃C,e=.returned (.slice C n n)∧SqH w' C n oneQ)∧Below w.heap.size w w' :=
 (One_good n n1 n2 w).mono fun _ _ ⟨g,k,he,G,hb⟩=>⟨⟨_,he,g,k,_,rfl,G,fun r _ c _=>hq_one r c⟩,hb⟩
theorem pts_nrH (A:Option Addr) (l n C:Nat) (hn:n≤24) (w:World) (V:Nr w A l n) :
   Calls Tryz.prog 14 #[.slice A l C] w fun e w'=>(∃B L D,e=.returned (.slice B L D)∧((B=none∧L=0∧D=0)∨(n=L∧n=D∧∃R,SqH w' B n R)))∧Below w.heap.size w w':=by
 obtain⟨RA,RL,RC,X,V,hl,hr⟩:=V
 cases hf:fltB l RL X
 · exact (Points_bad A l C RA RL RC X (by omega) hf w V).mono fun e w' ⟨a,b⟩=>⟨⟨none,0,0,a,Or.inl ⟨rfl,rfl,rfl⟩⟩,b⟩
 · obtain⟨m1,m2,m3,m4,m5⟩:=fltB_parts hf
   have e1:l=n:=by omega
   subst e1
   have e2:RL 0=l:=by rcases hr 0 (by omega) with e | e <;> omega
   have c:=Points_good A l C RA RL RC X (by omega) hf w V
   rw [e2] at c
   refine c.mono fun e w' ⟨g,h,a,b,d⟩=>⟨⟨_,_,_,a,Or.inr ⟨rfl,rfl,fun r c=>vq (key (X r c)),g,h,_,rfl,b,fun r hr' c hc=>?_⟩⟩,d⟩
   exact hq_point (rfs_words V hr' (by rw [m3 r hr',e2];exact hc)) (fltB_fin hf hr' (by rw [m3 r hr',e2];exact hc))
def RegG (n:Nat) (a:Nat→Nat→Rat):Prop:=∀u:Nat→Rat,(∀r,r<n→sumQ (fun c=>a r c*u c) n=0)→∀c,c<n→u c=0
theorem RegQ.g {n:Nat} {X:Nat→Nat→Nat} (h:RegQ n X):RegG n (fun r c=>vq (key (X r c))):=h
theorem mul_zero_of {x y:Rat} (h:x≠0) (k:x*y=0):y=0:=by
 have i:=Rat.mul_inv_cancel x h
 have:y=(x*y)*x⁻¹:=by grind
 rw [this,k]
 grind
theorem rank_one {n:Nat} {a:Nat→Nat→Rat} (hn:2≤n) (e:∀r,r<n→∀s,s<n→∀c,c<n→∀d,d<n→a r c*a s d=a r d*a s c):¬RegG n a:=by
 intro h
 by_cases z:∃r,r<n∧∃c,c<n∧a r c≠0
 · obtain⟨r,hr,c,hc,ne⟩:=z
   obtain⟨v,⟨k,hk,kv⟩,hv⟩:=fewer (m:=1) (n:=n) (by omega) (fun _ c=>a r c)
   refine kv (h v (fun s hs=>?_) k hk)
   refine mul_zero_of ne ?_
   rw [←sumQ_mul,sumQ_congr (g:=fun d=>a s c*(a r d*v d)) (fun d hd=>?_),sumQ_mul,hv 0 (by omega)]
   · grind
   · have:=e r hr s hs c hc d hd
     rw [show a r c*(a s d*v d)=a r c*a s d*v d by grind,this]
     grind
 · have one:=h (fun _=>1) (fun r hr=>?_) 0 (by omega)
   · exact absurd one (by decide)
   · rw [sumQ_congr (g:=fun _=>0) (fun c hc=>?_),sumQ_zero]
     have:a r c=0:=Classical.byContradiction fun q=>z ⟨r,hr,c,hc,q⟩
     rw [this]
     grind
theorem sumQ_2 (f:Nat→Rat):sumQ f 2=f 0+f 1:=by show 0+f 0+f 1=_;grind
theorem sumQ_3 (f:Nat→Rat):sumQ f 3=f 0+f 1+f 2:=by show 0+f 0+f 1+f 2=_;grind
def det2Q (a:Nat→Nat→Rat):Rat:=a 0 0*a 1 1-a 0 1*a 1 0
def det3Q (a:Nat→Nat→Rat):Rat:=a 0 0*(a 1 1*a 2 2-a 1 2*a 2 1)-a 0 1*(a 1 0*a 2 2-a 1 2*a 2 0)+a 0 2*(a 1 0*a 2 1-a 1 1*a 2 0)
theorem reg_1 {a:Nat→Nat→Rat} (h:RegG 1 a):a 0 0≠0:=by
 intro z
 have one:=h (fun _=>1) (fun r hr=>?_) 0 (by omega)
 · exact absurd one (by decide)
 · obtain rfl:r=0:=by omega
   show 0+a 0 0*1=0
   rw [z]
   grind
theorem reg_2 {a:Nat→Nat→Rat} (h:RegG 2 a):det2Q a≠0:=by
 intro z
 unfold det2Q at z
 have two:∀r,r<2→r=0∨r=1:=by omega
 have h1:=h (fun c=>if c=0 then a 1 1 else -(a 1 0)) (fun r hr=>by
   rw [sumQ_2]
   rcases two r hr with rfl | rfl <;> simp <;> grind)
 have h2:=h (fun c=>if c=0 then -(a 0 1) else a 0 0) (fun r hr=>by
   rw [sumQ_2]
   rcases two r hr with rfl | rfl <;> simp <;> grind)
 have e1:a 1 1=0:=h1 0 (by omega)
 have e2:-(a 1 0)=0:=h1 1 (by omega)
 have e3:-(a 0 1)=0:=h2 0 (by omega)
 have e4:a 0 0=0:=h2 1 (by omega)
 refine rank_one (n:=2) (by omega) (fun r hr s hs c hc d hd=>?_) h
 have z:∀r,r<2→∀c,c<2→a r c=0:=fun r hr c hc=>by
   rcases two r hr with rfl | rfl <;> rcases two c hc with rfl | rfl <;> grind
 rw [z r hr c hc,z r hr d hd]
 grind
theorem reg_3 {a:Nat→Nat→Rat} (h:RegG 3 a):det3Q a≠0:=by
 intro z
 unfold det3Q at z
 have tri:∀r,r<3→r=0∨r=1∨r=2:=by omega
 have k0:=h (fun c=>if c=0 then a 1 1*a 2 2-a 1 2*a 2 1 else if c=1 then a 1 2*a 2 0-a 1 0*a 2 2 else a 1 0*a 2 1-a 1 1*a 2 0) (fun r hr=>by
   rw [sumQ_3]
   rcases tri r hr with rfl | rfl | rfl <;> simp <;> grind)
 have k1:=h (fun c=>if c=0 then a 2 1*a 0 2-a 2 2*a 0 1 else if c=1 then a 2 2*a 0 0-a 2 0*a 0 2 else a 2 0*a 0 1-a 2 1*a 0 0) (fun r hr=>by
   rw [sumQ_3]
   rcases tri r hr with rfl | rfl | rfl <;> simp <;> grind)
 have k2:=h (fun c=>if c=0 then a 0 1*a 1 2-a 0 2*a 1 1 else if c=1 then a 0 2*a 1 0-a 0 0*a 1 2 else a 0 0*a 1 1-a 0 1*a 1 0) (fun r hr=>by
   rw [sumQ_3]
   rcases tri r hr with rfl | rfl | rfl <;> simp <;> grind)
 have a0:a 1 1*a 2 2-a 1 2*a 2 1=0:=k0 0 (by omega)
 have a1:a 1 2*a 2 0-a 1 0*a 2 2=0:=k0 1 (by omega)
 have a2:a 1 0*a 2 1-a 1 1*a 2 0=0:=k0 2 (by omega)
 have b0:a 2 1*a 0 2-a 2 2*a 0 1=0:=k1 0 (by omega)
 have b1:a 2 2*a 0 0-a 2 0*a 0 2=0:=k1 1 (by omega)
 have b2:a 2 0*a 0 1-a 2 1*a 0 0=0:=k1 2 (by omega)
 have c0:a 0 1*a 1 2-a 0 2*a 1 1=0:=k2 0 (by omega)
 have c1:a 0 2*a 1 0-a 0 0*a 1 2=0:=k2 1 (by omega)
 have c2:a 0 0*a 1 1-a 0 1*a 1 0=0:=k2 2 (by omega)
 clear k0 k1 k2
 refine rank_one (n:=3) (by omega) (fun r hr s hs c hc d hd=>?_) h
 clear h
 rcases tri r hr with rfl | rfl | rfl <;> rcases tri s hs with rfl | rfl | rfl <;> rcases tri c hc with rfl | rfl | rfl <;> rcases tri d hd with rfl | rfl | rfl <;> first | rfl | grind
end Go.Proofs.YtlabmpngbcnhpaaGreat
