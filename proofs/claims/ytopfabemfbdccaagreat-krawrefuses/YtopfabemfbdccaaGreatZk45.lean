/- What an operation makes is an interval or none; the laws' value, Bounded and Vars answer the program's functions of words. The laws' run without slopes. kraw: what operations make is an interval or none; the values and the slopes of a question that may be. -/
import Derived.Test.YtopfabemfbdccaaGreatZk37
import Derived.Test.YtopfabemfbdccaaGreatZk16
import Derived.Test.YtopfabemfbdccaaGreatZk26
import Derived.Test.YtopfabemfbdccaaGreatZk25
import Derived.Test.YtopfabemfbdccaaGreatZk22
import Derived.Deep.AppendLies
import Derived.Deep.RegionLaw
import Derived.Test.YtopfabemfbdccaaGreatZk39
import Derived.Test.YtopfabemfbdccaaGreatZk44
namespace Go.Proofs.YtopfabemfbdccaaGreat
open Go.ChangeShapes Go.WideShapes Go.ChangeAt Go.RowKit
def Shp (p:Nat×Nat):Prop:=p=noneQ\/Some2 p.1 p.2
theorem Gr.shp {p q:Nat×Nat} (h:Gr p q):Shp p:=by
 rcases h with ⟨e, -⟩ | ⟨S, -⟩
 ·exact Or.inl e
 ·exact Or.inr S
theorem mk_shp (a b:Nat):Shp (mkQ a b):=by
 unfold mkQ makeP
 split
 ·rename_i h
  exact Or.inr (hs_iff.1 h)
 ·exact Or.inl rfl
theorem ris_shp (f:Nat->Nat×Nat) (x:Nat×Nat):Shp (risQ f x):=by
 unfold risQ
 split
 ·exact Or.inl rfl
 ·exact mk_shp _ _
theorem log_shp (x:Nat×Nat):Shp (logQ x):=by
 unfold logQ
 split
 ·exact Or.inl rfl
 ·exact ris_shp _ _
theorem wave_shp (x:Nat×Nat) (a:Int):Shp (waveQ x a):=by
 unfold waveQ
 split
 ·exact Or.inl rfl
 ·split
  ·exact mk_shp _ _
  ·exact meet_ways _ _
theorem evalQ_shp {o:Opw} {a b:Nat×Nat} {X:Nat->Nat×Nat} (ho:o.k=1->hsB o.lo o.hi=true) (hX:o.k=2->hsB (X o.n.toNat).1 (X o.n.toNat).2=true) (wa:W2 a) (wb:W2 b) (A:Some2 a.1 a.2) (B:Some2 b.1 b.2):Shp (evalQ o a b X):=by
 have ia:=In.refl wa.1 wa.2 A
 have ib:=In.refl wb.1 wb.2 B
 unfold evalQ
 by_cases h1:o.k=1
 ·rw [if_pos h1];exact Or.inr (hs_iff.1 (ho h1))
 rw [if_neg h1]
 by_cases h2:o.k=2
 ·rw [if_pos h2];exact Or.inr (hs_iff.1 (hX h2))
 rw [if_neg h2]
 clear h1 h2
 split
 ·exact Gr.shp (add_gr ia ib)
 split
 ·exact Gr.shp (add_gr ia (neg_in ib))
 split
 ·exact Gr.shp (mul_gr ia wb.1 wb.2 B)
 split
 ·exact Gr.shp (div_gr ia ib)
 split
 ·exact Or.inr (neg_in ia).S
 split
 ·exact Gr.shp (pow_gr ia _)
 split
 ·exact Gr.shp (sqrt_gr ia)
 split
 ·exact ris_shp _ _
 split
 ·exact log_shp _
 split
 ·exact wave_shp _ 0
 split
 ·exact wave_shp _ 1
 ·exact ris_shp _ _
theorem noneQ_wide:bndB noneQ=false:=by decide
theorem vals_some {O:Nat->Opw} {X:Nat->Nat×Nat} {n:Nat} {vars:Int} (hr:∀i,i<n->opB (O i) (i:Int) vars=true) (hl:∀i,i<n->W2 ((O i).lo,(O i).hi)) (hX:∀i:Nat,(i:Int)<vars->W2 (X i)/\hsB (X i).1 (X i).2=true):∀k,k<=n->(∀j,j<k->errI O X j=0)->∀p∈vsL O X k,Some2 p.1 p.2:=by
 intro k
 induction k with
 | zero=>intro _ _ p hp;cases hp
 | succ i ih =>
  intro hi he p hp
  have ih':=ih (by omega) (fun j hj=>he j (by omega))
  have w':=vsL_W2 hr hl (fun j hj=>(hX j hj).1) i (by omega)
  rw [vsL_step] at hp
  rcases List.mem_append.1 hp with h | h
  ·exact ih' p h
  ·have e:p=valI O X i:=by simpa using h
   rw [e]
   obtain⟨-,g1,g2,g3,g4⟩:=opB_says (hr i (by omega))
   have at_:∀j:Nat,j<i->W2 (vAt O X i j)/\Some2 (vAt O X i j).1 (vAt O X i j).2:=fun j hj=>by
    have lj:j<(vsL O X i).length:=by rw [vsL_len];exact hj
    have:vAt O X i j=(vsL O X i)[j]:=by unfold vAt;simp [lj]
    rw [this]
    exact⟨w' _ (List.getElem_mem lj),ih' _ (List.getElem_mem lj)⟩
   have zs:W2 zz/\Some2 zz.1 zz.2:=⟨zz_W2,hs_iff.1 (by decide)⟩
   have ha:W2 (argA (O i) (vAt O X i))/\Some2 (argA (O i) (vAt O X i)).1 (argA (O i) (vAt O X i)).2:=by
    unfold argA
    split
    ·rename_i c
     exact at_ _ (by have:=g1 c;omega)
    ·exact zs
   have hb:W2 (argB (O i) (vAt O X i))/\Some2 (argB (O i) (vAt O X i)).1 (argB (O i) (vAt O X i)).2:=by
    unfold argB
    split
    ·rename_i c
     exact at_ _ (by have:=g2 c;omega)
    ·exact zs
   have sh:Shp (valI O X i):=evalQ_shp g4 (fun e=>(hX _ (by have:=g3 e;omega)).2) ha.1 hb.1 ha.2 hb.2
   have e0:=he i (by omega)
   rcases sh with q | S
   ·exfalso
    unfold errI errQ at e0
    have q':evalQ (O i) (argA (O i) (vAt O X i)) (argB (O i) (vAt O X i)) X=noneQ:=q
    rw [q',noneQ_wide] at e0
    split at e0 <;> simp at e0
   ·exact S
theorem some_or {a:Nat×Nat}:hsB a.1 a.2=false\/Some2 a.1 a.2:=by
 cases h:hsB a.1 a.2
 ·exact Or.inl rfl
 ·exact Or.inr (hs_iff.1 h)
theorem add_shp {a b:Nat×Nat} (wa:W2 a) (wb:W2 b):Shp (addQ a b):=by
 rcases some_or (a:=a) with h | A
 ·left;unfold addQ addP;rw [h];rfl
 ·rcases some_or (a:=b) with h | B
  ·left;unfold addQ addP;rw [h,Bool.and_false];rfl
  ·exact Gr.shp (add_gr (In.refl wa.1 wa.2 A) (In.refl wb.1 wb.2 B))
theorem neg_shp {a:Nat×Nat} (wa:W2 a):Shp (negQ a):=by
 rcases some_or (a:=a) with h | A
 ·left
  unfold negQ negP
  simp only [h]
  rfl
 ·exact Or.inr (neg_in (In.refl wa.1 wa.2 A)).S
theorem sub_shp {a b:Nat×Nat} (wa:W2 a) (wb:W2 b):Shp (subQ a b):=add_shp wa (negQ_W2 wb)
theorem mul_shp {a b:Nat×Nat} (wa:W2 a) (wb:W2 b):Shp (mulQ a b):=by
 rcases some_or (a:=a) with h | A
 ·left;unfold mulQ mulP;rw [h];rfl
 ·rcases some_or (a:=b) with h | B
  ·left;unfold mulQ mulP;rw [h,Bool.and_false];rfl
  ·exact Gr.shp (mul_gr (In.refl wa.1 wa.2 A) wb.1 wb.2 B)
theorem div_shp {a b:Nat×Nat} (wa:W2 a) (wb:W2 b):Shp (divQ a b):=by
 rcases some_or (a:=a) with h | A
 ·left;unfold divQ divP;rw [h];rfl
 ·rcases some_or (a:=b) with h | B
  ·left;unfold divQ divP;rw [h,Bool.and_false];rfl
  ·exact Gr.shp (div_gr (In.refl wa.1 wa.2 A) (In.refl wb.1 wb.2 B))
theorem slQ_shp {o:Opw} {v a b:Nat×Nat} {da db:Nat->Nat×Nat} (hv:W2 v) (ha:W2 a) (hb:W2 b) {j:Nat} (h1:1<=arI o.k->W2 (da j)) (h2:arI o.k=2->W2 (db j)) (hk:1<=o.k/\o.k<=14):Shp (slQ o v a b da db j):=by
 obtain⟨k,oa,ob,n,lo,hi⟩:=o
 simp only at *
 have hh:k=1\/k=2\/k=3\/k=4\/k=5\/k=6\/k=7\/k=8\/k=9\/k=10\/k=11\/k=12\/k=13\/k=14:=by omega
 have p1:W2 (ptQ 4607182418800017408):=ptQ_W2 (by omega)
 have p2:W2 (ptQ 4611686018427387904):=ptQ_W2 (by omega)
 rcases hh with rfl | rfl | rfl | rfl | rfl | rfl | rfl | rfl | rfl | rfl | rfl | rfl | rfl | rfl
 ·exact mk_shp 0 0
 ·show Shp (if (j:Int)=n then ptQ 4607182418800017408 else ptQ 0)
  split
  ·exact mk_shp _ _
  ·exact mk_shp _ _
 ·exact add_shp (h1 (by decide)) (h2 (by decide))
 ·exact sub_shp (h1 (by decide)) (h2 (by decide))
 ·exact add_shp (mulQ_W2 (h1 (by decide)) hb) (mulQ_W2 ha (h2 (by decide)))
 ·exact div_shp (subQ_W2 (h1 (by decide)) (mulQ_W2 hv (h2 (by decide)))) hb
 ·exact neg_shp (h1 (by decide))
 ·show Shp (if n=0 then ptQ 0 else mulQ (mulQ (ptQ (floatOfInt .f64 n)) (powQ a (n-1))) (da j))
  split
  ·exact mk_shp _ _
  ·exact mul_shp (mulQ_W2 (ptQ_W2 (foi_lt n)) (powQ_W2 ha _)) (h1 (by decide))
 ·exact div_shp (h1 (by decide)) (mulQ_W2 p2 hv)
 ·exact mul_shp hv (h1 (by decide))
 ·exact div_shp (h1 (by decide)) ha
 ·exact mul_shp (cosQ_W2 ha) (h1 (by decide))
 ·exact neg_shp (mulQ_W2 (sinQ_W2 ha) (h1 (by decide)))
 ·exact div_shp (h1 (by decide)) (addQ_W2 p1 (sqrQ_W2 ha))
theorem shp_right {p:Nat×Nat} (h:Shp p):rightB p.1 p.2=true:=by
 rcases h with rfl | S
 ·decide
 ·unfold rightB
  rw [hs_iff.2 S,Bool.or_true]
theorem kmid_fin {lo hi:Nat} (hl:lo<18446744073709551616) (hh:hi<18446744073709551616):finB (midP lo hi)=true:=by
 unfold midP
 cases h:hsB lo hi
 ·rw [if_neg (by simp)];decide
 ·rw [if_pos rfl]
  obtain⟨-, -,f1,f2,l1,l2, -, -, -⟩:=mid_ends hl hh (hs_iff.1 h)
  have A:=midM_facts lo hi
  split
  ·exact f1
  ·split
   ·exact f2
   ·rename_i c1 c2
    have g1:=fin_key l1 f1
    have g2:=fin_key l2 f2
    have n1:=A.1
    unfold nanB at n1
    unfold finB
    simp only [decide_eq_false_iff_not,decide_eq_true_eq] at *
    generalize midM lo hi=x at *
    have k:key x<9218868437227405312/\-9218868437227405312<key x:=by omega
    unfold key at k
    split at k <;> omega
structure Qn (w:World) (v:Int) (A:Option Addr) (n:Nat) (D:Option Addr) (nx:Nat) (AP:Option Addr) (np:Nat) (O:Nat->Opw) (Y:Nat->Int) (P:Nat->Nat×Nat):Prop where
 ops:Ops w A n O
 outs:Ins w D nx Y
 par:Ivs w AP np P
 right:rightT v n O nx Y=true
 vars:v=((nx+np:Nat):Int)
 x1:1<=nx
 x2:nx<=24
 hp:∀i,i<np->hsB (P i).1 (P i).2=true
theorem Qn.keep {w w2:World} {v:Int} {A:Option Addr} {n:Nat} {D:Option Addr} {nx:Nat} {AP:Option Addr} {np:Nat} {O:Nat->Opw} {Y:Nat->Int} {P:Nat->Nat×Nat} (h:Qn w v A n D nx AP np O Y P) (hb:Below w.heap.size w w2):Qn w2 v A n D nx AP np O Y P :=
 ⟨h.ops.keep hb,h.outs.keep hb,h.par.keep hb,h.right,h.vars,h.x1,h.x2,h.hp⟩
def VaAns (w:World) (m:Nat) (VV:Nat->Nat×Nat) (Gd:Prop) (vb:Value) (er:Int):Prop :=
 (∃g,vb=.slice (some ⟨g,0,none⟩) m m/\er=0/\Img w g m VV/\Gd)\/(vb=.slice none 0 0/\er≠0)
theorem cat_hs {nx np:Nat} {X P:Nat->Nat×Nat} (hX:∀i,i<nx->hsB (X i).1 (X i).2=true) (hP:∀i,i<np->hsB (P i).1 (P i).2=true) (i:Nat) (hi:i<nx+np):hsB (catI nx X P i).1 (catI nx X P i).2=true:=by
 unfold catI
 split
 ·exact hX i (by assumption)
 ·exact hP _ (by omega)
theorem qn_ref {w:World} {v:Int} {A:Option Addr} {n C:Nat} {D:Option Addr} {nx E:Nat} {AP:Option Addr} {np:Nat} {O:Nat->Opw} {Y:Nat->Int} {P X:Nat->Nat×Nat} (Q:Qn w v A n D nx AP np O Y P) (hX:∀i,i<nx->hsB (X i).1 (X i).2=true) (AX:Option Addr) (CX:Nat) (V:Ivs w AX (nx+np) (catI nx X P)) :
  Calls Tryz.prog 69 #[tapeV v A n C D nx E,.slice AX (nx+np) CX] w fun e w'=>e=.returned (.int .i64 0)/\Below w.heap.size w w':=by
 obtain⟨h1,h2,h3⟩:=right_all Q.right
 have hv:=Q.vars
 have c:=ref_say v A n C D nx E O Y Q.right AX (nx+np) CX (catI nx X P) (by omega) w Q.ops Q.outs V
 rw [if_pos ⟨hv.symm,all_upto.2 fun i hi=>cat_hs hX Q.hp i hi⟩] at c
 exact c
theorem kval_w {w:World} {v:Int} {A:Option Addr} {n C:Nat} {D:Option Addr} {nx E:Nat} {AP:Option Addr} {np CP:Nat} {O:Nat->Opw} {Y:Nat->Int} {P X:Nat->Nat×Nat} (Q:Qn w v A n D nx AP np O Y P) (AX:Option Addr) (CX:Nat) (V:Ivs w AX nx X) (hX:∀i,i<nx->hsB (X i).1 (X i).2=true) :
  Calls Tryz.prog 182 #[qnV v A n C D nx E AP np CP,.slice AX nx CX] w fun e w'=>(∃vb er,e=.returned (.tuple #[vb,.int .i64 er])/\VaAns w' nx (fun i=>vAt O (catI nx X P) n (Y i).toNat) (∀j,j<n->errI O (catI nx X P) j=0) vb er)/\Below w.heap.size w w':=by
 obtain⟨h1,h2,h3⟩:=right_all Q.right
 have hv:=Q.vars
 have x1:=Q.x1
 have x2:=Q.x2
 refine kval_core v A n C D nx E AP np CP AX nx CX (nx+np) (catI nx X P) (fun w' vb er=>VaAns w' nx _ _ vb er) w ?_ ?_
 ·intro W g0 hW S
  exact concat_w g0 AX AP nx np CX CP X P x1 (by omega) W S (V.keep hW) (Q.par.keep hW)
 ·intro W g C' hW U
  refine (eval_t v A n C D nx E O Y (some ⟨g,0,none⟩) (nx+np) C' (catI nx X P) (by omega) (by omega) hv (by rw [<-hv];exact h2) h3 W (Q.ops.keep hW) (Q.outs.keep hW) U (fun W' hW'=>qn_ref ((Q.keep hW).keep hW') hX _ C' (U.keep hW'))).mono ?_
  rintro e w' ⟨a,b⟩
  refine⟨?_,b⟩
  rcases a with ⟨g',e1,e2,e3⟩ | ⟨k,k1,k2,k3,k4⟩
  ·exact⟨_,_,e1,Or.inl ⟨g',rfl,rfl,e2,e3⟩⟩
  ·exact⟨_,_,k4,Or.inr ⟨rfl,k3⟩⟩
def FirstG (O:Nat->Opw) (X:Nat->Nat×Nat) (vars n:Nat) (er:Int):Prop:=∃k,k<n/\(∀j,j<k->errG O X vars j=0)/\errG O X vars k≠0/\er=errG O X vars k
theorem FirstG.same {O:Nat->Opw} {X:Nat->Nat×Nat} {vars n:Nat} {a b:Int} (h:FirstG O X vars n a) (g:FirstG O X vars n b):a=b:=by
 obtain⟨k,k1,k2,k3,rfl⟩:=h
 obtain⟨l,l1,l2,l3,rfl⟩:=g
 rcases Nat.lt_trichotomy k l with q | q | q
 ·exact absurd (l2 k q) k3
 ·rw [q]
 ·exact absurd (k2 l q) l3
theorem kgrad_w {w:World} {v:Int} {A:Option Addr} {n C:Nat} {D:Option Addr} {nx E:Nat} {AP:Option Addr} {np:Nat} {O:Nat->Opw} {Y:Nat->Int} {P X:Nat->Nat×Nat} (Q:Qn w v A n D nx AP np O Y P) (AX:Option Addr) (CX:Nat) (U:Ivs w AX (nx+np) (catI nx X P)) (hX:∀i,i<nx->hsB (X i).1 (X i).2=true) :
  Calls Tryz.prog 29 #[tapeV v A n C D nx E,.slice AX (nx+np) CX] w fun e w'=>(∃vb vd er,e=.returned (.tuple #[vb,vd,.int .i64 er])/\GrAns w.heap.size w' nx (nx+np) (fun i=>vAt O (catI nx X P) n (Y i).toNat) (fun i=>dAt O (catI nx X P) n (Y i).toNat) (∀j,j<n->errG O (catI nx X P) (nx+np) j=0) (FirstG O (catI nx X P) (nx+np) n) vb vd er)/\Below w.heap.size w w':=by
 obtain⟨h1,h2,h3⟩:=right_all Q.right
 have hv:=Q.vars
 have x1:=Q.x1
 have x2:=Q.x2
 refine (grad_new v A n C D nx E O Y AX (nx+np) CX (catI nx X P) (by omega) (by omega) (by omega) hv (by rw [<-hv];exact h2) h3 w Q.ops Q.outs U (fun W' hW'=>qn_ref (Q.keep hW') hX _ CX (U.keep hW'))).mono ?_
 rintro e w' ⟨a,b⟩
 refine⟨?_,b⟩
 rcases a with ⟨g,h,SA,SC,e1,e2,e3,e4,e5⟩ | ⟨k,k1,k2,k3,k4⟩
 ·exact⟨_,_,_,e1,Or.inl ⟨g,h,SA,SC,rfl,rfl,rfl,e2,e3,e4,e5⟩⟩
 ·exact⟨_,_,_,k4,Or.inr ⟨rfl,rfl,k,k1,k2,k3,rfl⟩⟩
theorem kslope_w {w:World} {v:Int} {A:Option Addr} {n C:Nat} {D:Option Addr} {nx E:Nat} {AP:Option Addr} {np CP:Nat} {O:Nat->Opw} {Y:Nat->Int} {P X:Nat->Nat×Nat} (Q:Qn w v A n D nx AP np O Y P) (AX:Option Addr) (CX:Nat) (V:Ivs w AX nx X) (hX:∀i,i<nx->hsB (X i).1 (X i).2=true) :
  Calls Tryz.prog 65 #[qnV v A n C D nx E AP np CP,.slice AX nx CX] w fun e w'=>(∃vb vd er,e=.returned (.tuple #[vb,vd,.int .i64 er])/\SpAns w' nx nx (fun i=>vAt O (catI nx X P) n (Y i).toNat) (fun i=>dAt O (catI nx X P) n (Y i).toNat) (∀j,j<n->errG O (catI nx X P) (nx+np) j=0) (FirstG O (catI nx X P) (nx+np) n) vb vd er)/\Below w.heap.size w w':=by
 obtain⟨h1,h2,h3⟩:=right_all Q.right
 have hv:=Q.vars
 have x1:=Q.x1
 have x2:=Q.x2
 refine kslope_core v A n C D nx E AP np CP AX nx CX (nx+np) (catI nx X P) _ _ _ _ (by omega) (by omega) (by omega) w ?_ ?_
 ·intro W g0 hW S
  exact concat_w g0 AX AP nx np CX CP X P x1 (by omega) W S (V.keep hW) (Q.par.keep hW)
 ·intro W g C' hW U
  exact kgrad_w (Q.keep hW) (some ⟨g,0,none⟩) C' U hX
theorem errG_ok {O:Nat->Opw} {X:Nat->Nat×Nat} {vars n:Nat} (h:∀j,j<n->errG O X vars j=0) (j:Nat) (hj:j<n):errI O X j=0:=by
 have:=h j hj
 unfold errG at this
 split at this
 ·assumption
 ·contradiction
theorem qn_words {w:World} {v:Int} {A:Option Addr} {n:Nat} {D:Option Addr} {nx:Nat} {AP:Option Addr} {np:Nat} {O:Nat->Opw} {Y:Nat->Int} {P X:Nat->Nat×Nat} (Q:Qn w v A n D nx AP np O Y P) (AX:Option Addr) (V:Ivs w AX nx X):(∀i,i<n->W2 ((O i).lo,(O i).hi))/\∀i:Nat,(i:Int)<v->W2 (catI nx X P i):=by
 refine⟨fun i hi=>by obtain⟨b,o,e,l,c0,c1,c2,c3,c4,c5,r⟩:=Q.ops i hi;exact r,fun i hi=>?_⟩
 have hv:=Q.vars
 unfold catI
 split
 ·exact ivs_words V i (by assumption)
 ·exact ivs_words Q.par _ (by omega)
theorem kvals_good {w:World} {v:Int} {A:Option Addr} {n:Nat} {D:Option Addr} {nx:Nat} {AP:Option Addr} {np:Nat} {O:Nat->Opw} {Y:Nat->Int} {P X:Nat->Nat×Nat} (Q:Qn w v A n D nx AP np O Y P) (AX:Option Addr) (V:Ivs w AX nx X) (hX:∀i,i<nx->hsB (X i).1 (X i).2=true) (he:∀j,j<n->errI O (catI nx X P) j=0) (i:Nat) (hi:i<nx) :
  W2 (vAt O (catI nx X P) n (Y i).toNat)/\Some2 (vAt O (catI nx X P) n (Y i).toNat).1 (vAt O (catI nx X P) n (Y i).toNat).2:=by
 obtain⟨h1,h2,h3⟩:=right_all Q.right
 obtain⟨q1,q2⟩:=qn_words Q AX V
 have hv:=Q.vars
 have hy:=h3 i hi
 have lj:(Y i).toNat<(vsL O (catI nx X P) n).length:=by rw [vsL_len];omega
 have e:vAt O (catI nx X P) n (Y i).toNat=(vsL O (catI nx X P) n)[(Y i).toNat]:=by unfold vAt;simp [lj]
 rw [e]
 exact⟨vsL_W2 h2 q1 q2 n (Nat.le_refl _) _ (List.getElem_mem lj),vals_some h2 q1 (fun j hj=>⟨q2 j hj,cat_hs hX Q.hp j (by omega)⟩) n (Nat.le_refl _) he _ (List.getElem_mem lj)⟩
theorem krows_good {w:World} {v:Int} {A:Option Addr} {n:Nat} {D:Option Addr} {nx:Nat} {AP:Option Addr} {np:Nat} {O:Nat->Opw} {Y:Nat->Int} {P X:Nat->Nat×Nat} (Q:Qn w v A n D nx AP np O Y P) (AX:Option Addr) (V:Ivs w AX nx X) (i:Nat) (hi:i<nx) (j:Nat) :
  rightB (dAt O (catI nx X P) n (Y i).toNat j).1 (dAt O (catI nx X P) n (Y i).toNat j).2=true:=by
 obtain⟨h1,h2,h3⟩:=right_all Q.right
 obtain⟨q1,q2⟩:=qn_words Q AX V
 have hy:=h3 i hi
 obtain⟨y,ey⟩:∃y,y=(Y i).toNat:=⟨_,rfl⟩
 have hyn:y<n:=by omega
 rw [<-ey,dAt_row O (catI nx X P) hyn]
 refine shp_right ?_
 unfold rowI
 obtain⟨g0,g1,g2, -, -⟩:=opB_says (h2 y hyn)
 have hw:=vsL_W2 h2 q1 q2
 have at_:∀t:Nat,t<n->W2 (valI O (catI nx X P) t):=fun t ht=>by
  have lj:t<(vsL O (catI nx X P) n).length:=by rw [vsL_len];exact ht
  have e:vAt O (catI nx X P) n t=(vsL O (catI nx X P) n)[t]:=by unfold vAt;simp [lj]
  rw [<-vAt_val O (catI nx X P) ht,e]
  exact hw n (Nat.le_refl _) _ (List.getElem_mem lj)
 have va:∀t:Nat,t<y->W2 (vAt O (catI nx X P) y t):=fun t ht=>by rw [vAt_val O (catI nx X P) ht];exact at_ t (by omega)
 have da:∀t:Nat,t<y->W2 (dAt O (catI nx X P) y t j):=fun t ht=>by rw [dAt_row O (catI nx X P) ht];exact rowI_W2 h2 q1 q2 j (t+1) t (by omega) (by omega)
 refine slQ_shp (at_ y hyn) ?_ ?_ ?_ ?_ g0
 ·unfold argA
  split
  ·rename_i c
   exact va _ (by have:=g1 c;omega)
  ·exact zz_W2
 ·unfold argB
  split
  ·rename_i c
   exact va _ (by have:=g2 c;omega)
  ·exact zz_W2
 ·intro c
  unfold rowA
  rw [if_pos c]
  exact da _ (by have:=g1 c;omega)
 ·intro c
  unfold rowB
  rw [if_pos c]
  exact da _ (by have:=g2 c;omega)
end Go.Proofs.YtopfabemfbdccaaGreat
