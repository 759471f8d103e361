/- What Div, Sqr and Sqrt of intervals that hold numbers answer: ends with the quotient, the square, the root between them. The statement IvalHolds, walked: at every input it answers true. Whole numbers as floats: what is exact is rounded to itself, to whichever side; the walk of the statement UlpWhole. -/
import Derived.Test.YtgfppdboogldlaaGreatZs09
import Derived.Test.YtgfppdboogldlaaGreatZs10
namespace Go.Proofs.YtgfppdboogldlaaGreat
open Go.ChangeShapes Go.WideShapes Go.ChangeAt Go.RowKit
theorem mulV_nz {p q:Nat} (d:Int) (np:nanB p=false) (nq:nanB q=false):mulV p q d≠9223372036854775808:=by
 have e:=mulV_is d np nq
 unfold mulR at e
 rw [np,nq] at e
 simp only [Bool.or_self,Bool.false_eq_true,if_false] at e
 split at e
 · injection e with e;rw [←e];decide
 · rename_i z
   split at e
   · injection e with e
     rw [←e]
     have z':(isZ p || isZ q)=false:=by simpa using z
     have z2:=Bool.or_eq_false_iff.1 z'
     have h1:=splitM_lt p
     have h2:=splitM_lt q
     exact (roundN_facts (splitG p != splitG q) (prodM (splitM p) (splitM q)) (prodE (splitM p) (splitE p) (splitM q) (splitE q)) d (prodM_lt (splitM_zero z2.1) (splitM_zero z2.2) (by omega) (by omega))).2.1
   · injection e with e
     rw [←e]
     exact (infW_facts _).2.1
theorem order_key {x:Nat} (hx:x<18446744073709551616) (hn:nanB x=false):FloatKind.f64.format.order x 0=some (if key x<0 then .lt else if key x=0 then .eq else .gt):=by
 have h0:nanB 0=false:=by decide
 have k0:key 0=0:=rfl
 rw [order_eq x 0 hx (by omega),hn,h0,k0]
 rfl
theorem divR_fin {a b:Nat} (d:Int) (fa:finB a=true) (fb:finB b=true) (zb:isZ b=false):divR a b d=some (divF a b d):=by
 unfold divR
 rw [fin_not_nan fa,fin_not_nan fb,zb,fa,fb]
 simp
theorem divF_facts {a b:Nat} (d:Int) (zb:isZ b=false):nanB (divF a b d)=false∧divF a b d≠9223372036854775808∧divF a b d<18446744073709551616:=roundN_facts _ _ _ d (divM_lt zb)
theorem div_mirror {a b:Nat} (hb:b<18446744073709551616) (fa:finB a=true) (fb:finB b=true) (zb:isZ b=false):key (divF a b 1)=- key (divF a (negB b) (-1)):=by
 have m:=divR_mirror (a:=a) (b:=negB b) (negB_lt hb)
 rw [negB_negB hb,divR_fin (-1) fa (by rw [finB_negB hb];exact fb) (by rw [isZ_negB hb];exact zb),divR_fin 1 fa fb zb] at m
 rcases m with ⟨c, -⟩ | ⟨x,y,e1,e2, -, -,k⟩
 · cases c
 · injection e1 with e1
   injection e2 with e2
   rw [e1,e2];exact k
theorem div_sides {a b:Nat} (ha:a<18446744073709551616) (hb:b<18446744073709551616) (fa:finB a=true) (fb:finB b=true) (zb:isZ b=false) :
   Le (divF a b (-1)) (divF a b 0)∧Le (divF a b 0) (divF a b 1)∧key (divF a b (-1))≤9218868437227405311∧-9218868437227405311≤key (divF a b 1):=by
 obtain⟨u,hu⟩:∃u:Nat,u=1075:=⟨_,rfl⟩
 have s:=divR_sides a b
 rw [divR_fin (-1) fa fb zb,divR_fin 0 fa fb zb,divR_fin 1 fa fb zb] at s
 have t1:=(div_bot hu ha fa fb zb).2
 have t2:=(div_bot hu ha fa (b:=negB b) (by rw [finB_negB hb];exact fb) (by rw [isZ_negB hb];exact zb)).2
 have t3:=div_mirror hb fa fb zb
 rcases s with ⟨c, -, -⟩ | ⟨d,n,v,e1,e2,e3,ok⟩
 · cases c
 · injection e1 with e1
   injection e2 with e2
   injection e3 with e3
   obtain⟨⟨nd,nn,nu⟩, -,⟨ld,ln,lu⟩,k1,k2, -⟩:=ok
   rw [e1] at t1 ⊢
   rw [e3] at t3 ⊢
   rw [e2]
   exact⟨⟨ld,ln,nd,nn,k1⟩,⟨ln,lu,nn,nu,k2⟩,t1,by omega⟩
theorem isZ_pos {b:Nat} (hb:b<18446744073709551616) (h:key b≠0):isZ b=false:=by
 cases c:isZ b
 · rfl
 · exact absurd ((key_zero hb).1 c) h
theorem le00 {x:Nat} (hn:nanB x=false):leB 0 x=decide (0≤key x):=by
 unfold leB
 have h0:nanB 0=false:=by decide
 have k0:key 0=0:=rfl
 rw [hn,h0,k0];simp
theorem eq00 {x:Nat} (hn:nanB x=false):eqB x 0=decide (key x=0):=by
 unfold eqB
 have h0:nanB 0=false:=by decide
 have k0:key 0=0:=rfl
 rw [hn,h0,k0];simp
theorem lq_some {t dl dh a b:Nat} (ht:t<18446744073709551616) (h1:dl<18446744073709551616) (h2:dh<18446744073709551616) (ha:a<18446744073709551616) (hb:b<18446744073709551616) (nt:nanB t=false) (n1:nanB dl=false) (n2:nanB dh=false) (fa:finB a=true) (fb:finB b=true)
   (k0:0≤key dl) (kt:key t≤key a) (k1:key dl≤key b) (k2:key b≤key dh) (kb:0<key b) :
   (leB 0 t=true→∃r,divR t dh (-1)=some r)∧(leB 0 t=false→eqB dl 0=false→∃r,divR t dl (-1)=some r)∧Le (lqP t dl dh) (divF a b (-1)):=by
 have fa':=fin_key ha fa
 have fb':=fin_key hb fb
 have zb:=isZ_pos hb (by omega)
 have zh:=isZ_pos h2 (show key dh≠0 by omega)
 have fm:=divF_facts (a:=a) (-1) zb
 have v0:=V_nonneg k0
 have vt:=V_mono_le kt
 have v1:=V_mono_le k1
 have v2:=V_mono_le k2
 have vb:=V_pos kb
 obtain⟨u,hu⟩:∃u:Nat,u=1075:=⟨_,rfl⟩
 have kbot:=(div_bot hu ha fa fb zb).1
 clear hu
 unfold lqP
 rw [le00 nt,eq00 n1]
 by_cases c:0≤key t
 · have ft:finB t=true:=by
     cases h:finB t
     · rcases (key_inf ht nt).1 h with d | d <;> omega
     · rfl
   have vt0:=V_nonneg c
   simp only [c,decide_true,if_true]
   cases fh:finB dh
   · have e:divR t dh (-1)=some 0:=by unfold divR;rw [nt,n2,zh,ft,fh];simp
     refine⟨fun _=>⟨_,e⟩,(fun h=>by cases h), ?_⟩
     have e2:divD t dh=0:=by unfold divD;rw [e,Option.getD_some]
     rw [e2]
     have kk:key 0≤key (divF a b (-1)):=div_nonneg ha hb fa fb (by omega) kb
     exact⟨by omega,fm.2.2,by decide,fm.1,kk⟩
   · have e:divR t dh (-1)=some (divF t dh (-1)):=divR_fin (-1) ft fh zh
     refine⟨fun _=>⟨_,e⟩,(fun h=>by cases h), ?_⟩
     have e2:divD t dh=divF t dh (-1):=by unfold divD;rw [e,Option.getD_some]
     rw [e2]
     have g:=divF_facts (a:=t) (-1) zh
     refine⟨g.2.2,fm.2.2,g.1,fm.1,div_le ht h2 ha hb ft fh fa fb (by omega) kb ?_⟩
     exact Int.mul_le_mul vt v2 (by omega) (by omega)
 · simp only [c,decide_false,Bool.false_eq_true,if_false]
   refine⟨(fun h=>by cases h), ?_⟩
   by_cases cz:key dl=0
   · simp only [cz,decide_true,if_true]
     exact⟨(fun _ h=>by cases h),infI_lt _,fm.2.2,nan_inf _,fm.1,by rw [key_down];exact kbot⟩
   · simp only [cz,decide_false,Bool.false_eq_true,if_false]
     have zl:=isZ_pos h1 cz
     have fl:finB dl=true:=by
       cases h:finB dl
       · rcases (key_inf h1 n1).1 h with d | d <;> omega
       · rfl
     have vl:=V_pos (show 0<key dl by omega)
     have vt0:=V_lt0 (show key t<0 by omega)
     cases ft:finB t
     · have zt:=isZ_pos ht (show key t≠0 by omega)
       have e:divR t dl (-1)=some (infW (signB t != signB dl)):=by unfold divR;rw [nt,n1,zl,ft,fl];simp
       refine⟨fun _ _=>⟨_,e⟩, ?_⟩
       have e2:divD t dl=infW (signB t != signB dl):=by unfold divD;rw [e,Option.getD_some]
       rw [e2]
       have i:=infW_facts (signB t != signB dl)
       refine⟨i.2.2.1,fm.2.2,i.1,fm.1, ?_⟩
       rw [infW_key,sign_key ht zt,sign_key h1 zl]
       have q1:key t<0:=by omega
       have q2:¬key dl<0:=by omega
       simp only [q1,q2,decide_true,decide_false]
       simpa using kbot
     · have e:divR t dl (-1)=some (divF t dl (-1)):=divR_fin (-1) ft fl zl
       refine⟨fun _ _=>⟨_,e⟩, ?_⟩
       have e2:divD t dl=divF t dl (-1):=by unfold divD;rw [e,Option.getD_some]
       rw [e2]
       have g:=divF_facts (a:=t) (-1) zl
       refine⟨g.2.2,fm.2.2,g.1,fm.1,div_le ht h1 ha hb ft fl fa fb (by omega) kb ?_⟩
       generalize V (key t)=T at *
       generalize V (key dl)=L at *
       generalize V (key a)=A at *
       generalize V (key b)=B at *
       rcases Int.lt_or_le A 0 with ca | ca
       · have s1:T*B≤A*B:=Int.mul_le_mul_of_nonneg_right vt (by omega)
         have s2:A*B≤A*L:=Int.mul_le_mul_of_nonpos_left (by omega) v1
         omega
       · have s1:T*B≤0:=Int.mul_nonpos_of_nonpos_of_nonneg (by omega) (by omega)
         have s2:0≤A*L:=Int.mul_nonneg ca (by omega)
         omega
theorem point0_w (w:World):Calls Tryz.prog 98 #[.float .f64 0] w fun e w'=>e=.returned (.agg #[.float .f64 0,.float .f64 0])∧Below w.heap.size w w':=by
 have h:=point_w 0 (by omega) w
 have e:makeP 0 0=(0,0):=by
   have h1:pz 0=0:=rfl
   have h2:hsB 0 0=true:=by decide
   unfold makeP
   rw [h1,if_pos h2]
 rw [e] at h
 exact h
theorem both {k:Int} (h:-9218868437227405311≤k∧k≤9218868437227405311):(-9218868437227405312≤k∧k≤9218868437227405311)∧(-9218868437227405312≤-k∧-k≤9218868437227405311):=by omega
theorem addF_facts (a b:Nat) (d:Int):nanB (addF a b d)=false∧addF a b d≠9223372036854775808∧addF a b d<18446744073709551616:=by
 unfold addF
 exact roundN_facts _ _ _ d (sumM_lt (splitG a) (splitM a) (splitE a) (splitG b) (splitM b) (splitE b) (splitM_lt a) (splitM_lt b))
theorem addR_fin {a b:Nat} (d:Int) (fa:finB a=true) (fb:finB b=true):addR a b d=some (addF a b d):=by
 unfold addR
 rw [fin_not_nan fa,fin_not_nan fb,fa,fb,if_neg (by decide),if_pos (by decide)]
end Go.Proofs.YtgfppdboogldlaaGreat
