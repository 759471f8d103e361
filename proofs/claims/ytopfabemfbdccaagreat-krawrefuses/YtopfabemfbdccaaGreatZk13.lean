/- The walk of Div, of intervals that hold some number. What Div, Sqr and Sqrt of intervals that hold numbers answer: ends with the quotient, the square, the root between them. The statement IvalHolds, walked: at every input it answers true. Whole numbers as floats: what is exact is rounded to itself, to whichever side; the walk of the statement UlpWhole. -/
import Derived.Test.YtopfabemfbdccaaGreatZk12
namespace Go.Proofs.YtopfabemfbdccaaGreat
open Go.ChangeShapes Go.WideShapes Go.ChangeAt Go.RowKit
set_option maxHeartbeats 2000000 in
theorem div_b (xl xh yl yh m1 m2:Nat) (oL oH:Nat->Nat->Nat) (b3 b4:Bool) (h1:xl<18446744073709551616) (h2:xh<18446744073709551616) (h3:yl<18446744073709551616) (h4:yh<18446744073709551616) (c0:∀b W,b<W.heap.size->W.cell? ⟨b,0,none⟩=some (.float .f64 xl)->W.cell? ⟨b,1,none⟩=some (.float .f64 xh)->W.cell? ⟨b,2,none⟩=some (.float .f64 yl)->W.cell? ⟨b,3,none⟩=some (.float .f64 yh)->Calls Tryz.prog 103 #[.slice (some ⟨b,0,none⟩) 2 2] W fun e w'=>e=.returned (.bool false)/\Below W.heap.size W w')
   (cz:(∀w,Calls Tryz.prog 55 #[.float .f64 0] w fun e w'=>e=.returned (.agg #[.float .f64 0,.float .f64 0])/\Below w.heap.size w w'))
   (oy:FloatKind.f64.format.order yl 0=some .lt) (hy:FloatKind.f64.format.order yh 0=some .lt\/FloatKind.f64.format.order yh 0=some .eq) (ex1:(FloatKind.f64.format.order xl 0==some .eq)=b3) (ex2:(FloatKind.f64.format.order xh 0==some .eq)=b4) (hx:b3=false\/b3=true/\b4=false)
   (cM:∀a b,a<18446744073709551616->b<18446744073709551616->∀w,Calls Tryz.prog 105 #[.agg #[.float .f64 a,.float .f64 b]] w fun e w'=>e=.returned (.agg #[.float .f64 (oL a b),.float .f64 (oH a b)])/\Below w.heap.size w w') (c1:(∀w,Calls Tryz.prog 104 #[.agg #[.float .f64 (oL xl xh),.float .f64 (oH xl xh)],.agg #[.float .f64 (oL yl yh),.float .f64 (oH yl yh)]] w fun e w'=>e=.returned (.agg #[.float .f64 m1,.float .f64 m2])/\Below w.heap.size w w')) (w:World) :
   Calls Tryz.prog 50 #[.agg #[.float .f64 xl,.float .f64 xh],.agg #[.float .f64 yl,.float .f64 yh]] w fun e w'=>e=.returned (.agg #[.float .f64 m1,.float .f64 m2])/\Below w.heap.size w w':=by
 rcases hy with oy2 | oy2 <;> rcases hx with rfl | ⟨rfl,rfl⟩
 all_goals
   go_enter Tryz.func50,Tryz.ntmps50
   go_upto_region 2 with
    (go_at_call 55;refine (cz _).mono ?_;rintro _ w1 ⟨rfl,hb1⟩
     have R:Has2 w1 (w.heap.size+1+1) (.float .f64 0) (.float .f64 0):=Has2.keep ⟨by go_simp,by go_simp,by go_simp,by go_simp,by go_size⟩ hb1
     have X:Has2 w1 w.heap.size (.float .f64 xl) (.float .f64 xh):=Has2.keep ⟨by go_simp,by go_simp,by go_simp,by go_simp,by go_size⟩ hb1
     have Y:Has2 w1 (w.heap.size+1) (.float .f64 yl) (.float .f64 yh):=Has2.keep ⟨by go_simp,by go_simp,by go_simp,by go_simp,by go_size⟩ hb1
     have HB:Below w.heap.size w w1:=later (by go_grown) hb1)
   clear hb1 cz
   have Z:Has2 (w1.alloc (Obj.cells #[Value.float FloatKind.f64 0,Value.float FloatKind.f64 0] 24)) w1.heap.size (.float .f64 0) (.float .f64 0):=⟨by go_simp,by go_simp,by go_simp,by go_simp,by go_size⟩
   have BL:Below w1.heap.size w1 (w1.alloc (Obj.cells #[Value.float FloatKind.f64 0,Value.float FloatKind.f64 0] 24)):=(Below.refl _ _).alloc (Nat.le_refl _) _
   replace X:=X.keep BL
   replace Y:=Y.keep BL
   replace R:=R.keep BL
   replace HB:=later HB BL
   clear BL
   generalize w1.heap.size=zb at *
   generalize (w1.alloc (Obj.cells #[Value.float FloatKind.f64 0,Value.float FloatKind.f64 0] 24))=W1 at *
   have x0:=X.1
   have x1:=X.2.1
   have y0:=Y.1
   have y1:=Y.2.1
   have ne1:w.heap.size+1+1≠w.heap.size:=by omega
   have ne2:w.heap.size≠w.heap.size+1+1:=by omega
   go_upto_region 9 with
    (go_at_call 103;refine (c0 W1.heap.size _ (by go_size) (by go_simp) (by go_simp) (by go_simp) (by go_simp)).mono ?_;rintro _ w2 ⟨rfl,hb2⟩
     replace HB:Below w.heap.size w w2:=later (HB.alloc HB.size _) hb2
     replace R:=(R.keep ((Below.refl _ _).alloc (Nat.le_refl _) _)).keep hb2
     replace X:=(X.keep ((Below.refl _ _).alloc (Nat.le_refl _) _)).keep hb2
     replace Y:=(Y.keep ((Below.refl _ _).alloc (Nat.le_refl _) _)).keep hb2
     replace Z:=(Z.keep ((Below.refl _ _).alloc (Nat.le_refl _) _)).keep hb2
     replace x0:=X.1
     replace x1:=X.2.1
     replace y0:=Y.1
     replace y1:=Y.2.1
     have w0:=Z.1
     have w1':=Z.2.1
     clear hb2)
   have X:Has2 w2.drew w.heap.size (.float .f64 xl) (.float .f64 xh):=X
   have Y:Has2 w2.drew (w.heap.size+1) (.float .f64 yl) (.float .f64 yh):=Y
   have R:Has2 w2.drew (w.heap.size+1+1) (.float .f64 0) (.float .f64 0):=R
   have HB:Below w.heap.size w w2.drew:=HB.drew
   go_region_held3 (fun w'=>w'.cell? ⟨w.heap.size,0,none⟩=some (.float .f64 xl)/\w'.cell? ⟨w.heap.size,1,none⟩=some (.float .f64 xh)/\w'.cell? ⟨w.heap.size+1,0,none⟩=some (.float .f64 yl)/\w'.cell? ⟨w.heap.size+1,1,none⟩=some (.float .f64 yh)) (first | exact⟨X.1,X.2.1,Y.1,Y.2.1⟩ | go_keep)
     (first
       | (go_at_call 105;refine (cM _ _ (by assumption) (by assumption) _).mono ?_;rintro _ w3 ⟨rfl,hb1⟩;replace X:=X.keep hb1;replace Y:=Y.keep hb1;replace R:=R.keep hb1;replace HB:=later HB hb1;clear hb1)
       | (go_at_call 104;refine (c1 _).mono ?_;rintro _ w3 ⟨rfl,hb1⟩;replace X:=X.keep hb1;replace Y:=Y.keep hb1;replace R:=R.keep hb1;replace HB:=later HB hb1;clear hb1;obtain⟨d0,d1,d2,d3,d4⟩:=R))
   all_goals
     go_wp2_with fail
     refine bodyPost_ret (v:=.agg #[.float .f64 m1,.float .f64 m2]) (by simp [results,Tryz.results50,go_sem, *]) rfl ⟨rfl, ?_⟩
     repeat' (first | (with_reducible exact HB) | (with_reducible refine Below.setCell ?_ ?_ _) | go_size)
set_option maxHeartbeats 2000000 in
theorem div_whole (xl xh yl yh:Nat) (b3 b4:Bool) (c0:∀b W,b<W.heap.size->W.cell? ⟨b,0,none⟩=some (.float .f64 xl)->W.cell? ⟨b,1,none⟩=some (.float .f64 xh)->W.cell? ⟨b,2,none⟩=some (.float .f64 yl)->W.cell? ⟨b,3,none⟩=some (.float .f64 yh)->Calls Tryz.prog 103 #[.slice (some ⟨b,0,none⟩) 2 2] W fun e w'=>e=.returned (.bool false)/\Below W.heap.size W w')
   (cz:(∀w,Calls Tryz.prog 55 #[.float .f64 0] w fun e w'=>e=.returned (.agg #[.float .f64 0,.float .f64 0])/\Below w.heap.size w w'))
   (oy:FloatKind.f64.format.order yl 0=some .lt) (oy2:FloatKind.f64.format.order yh 0=some .gt) (ex1:(FloatKind.f64.format.order xl 0==some .eq)=b3) (ex2:(FloatKind.f64.format.order xh 0==some .eq)=b4) (hx:b3=false\/b3=true/\b4=false)
    (w:World) :
   Calls Tryz.prog 50 #[.agg #[.float .f64 xl,.float .f64 xh],.agg #[.float .f64 yl,.float .f64 yh]] w fun e w'=>e=.returned (.agg #[.float .f64 (infI (-1)),.float .f64 (infI 1)])/\Below w.heap.size w w':=by
 rcases hx with rfl | ⟨rfl,rfl⟩
 all_goals
   go_enter Tryz.func50,Tryz.ntmps50
   go_upto_region 2 with
    (go_at_call 55;refine (cz _).mono ?_;rintro _ w1 ⟨rfl,hb1⟩
     have R:Has2 w1 (w.heap.size+1+1) (.float .f64 0) (.float .f64 0):=Has2.keep ⟨by go_simp,by go_simp,by go_simp,by go_simp,by go_size⟩ hb1
     have X:Has2 w1 w.heap.size (.float .f64 xl) (.float .f64 xh):=Has2.keep ⟨by go_simp,by go_simp,by go_simp,by go_simp,by go_size⟩ hb1
     have Y:Has2 w1 (w.heap.size+1) (.float .f64 yl) (.float .f64 yh):=Has2.keep ⟨by go_simp,by go_simp,by go_simp,by go_simp,by go_size⟩ hb1
     have HB:Below w.heap.size w w1:=later (by go_grown) hb1)
   clear hb1 cz
   have Z:Has2 (w1.alloc (Obj.cells #[Value.float FloatKind.f64 0,Value.float FloatKind.f64 0] 24)) w1.heap.size (.float .f64 0) (.float .f64 0):=⟨by go_simp,by go_simp,by go_simp,by go_simp,by go_size⟩
   have BL:Below w1.heap.size w1 (w1.alloc (Obj.cells #[Value.float FloatKind.f64 0,Value.float FloatKind.f64 0] 24)):=(Below.refl _ _).alloc (Nat.le_refl _) _
   replace X:=X.keep BL
   replace Y:=Y.keep BL
   replace R:=R.keep BL
   replace HB:=later HB BL
   clear BL
   generalize w1.heap.size=zb at *
   generalize (w1.alloc (Obj.cells #[Value.float FloatKind.f64 0,Value.float FloatKind.f64 0] 24))=W1 at *
   have x0:=X.1
   have x1:=X.2.1
   have y0:=Y.1
   have y1:=Y.2.1
   have ne1:w.heap.size+1+1≠w.heap.size:=by omega
   have ne2:w.heap.size≠w.heap.size+1+1:=by omega
   go_wp2_with (first
    | (go_at_call 103;refine (c0 W1.heap.size _ (by go_size) (by go_simp) (by go_simp) (by go_simp) (by go_simp)).mono ?_;rintro _ w2 ⟨rfl,hb2⟩
       replace HB:Below w.heap.size w w2:=later (HB.alloc HB.size _) hb2
       replace R:=(R.keep ((Below.refl _ _).alloc (Nat.le_refl _) _)).keep hb2
       replace X:=(X.keep ((Below.refl _ _).alloc (Nat.le_refl _) _)).keep hb2
       replace Y:=(Y.keep ((Below.refl _ _).alloc (Nat.le_refl _) _)).keep hb2
       replace Z:=(Z.keep ((Below.refl _ _).alloc (Nat.le_refl _) _)).keep hb2
       replace x0:=X.1
       replace x1:=X.2.1
       replace y0:=Y.1
       replace y1:=Y.2.1
       have w0:=Z.1
       have w1':=Z.2.1
       clear hb2)
    | (go_at_call 106;refine (whole_w _).mono ?_;rintro _ w3 ⟨rfl,hb1⟩;replace X:=X.keep hb1;replace Y:=Y.keep hb1;replace R:=R.keep hb1;replace HB:=later HB hb1;clear hb1;obtain⟨d0,d1,d2,d3,d4⟩:=R))
   all_goals
     refine bodyPost_ret (v:=.agg #[.float .f64 (infI (-1)),.float .f64 (infI 1)]) (by simp [results,Tryz.results50,go_sem, *]) rfl ⟨rfl, ?_⟩
     repeat' (first | (with_reducible exact HB) | (with_reducible refine Below.setCell ?_ ?_ _) | go_size)
theorem mulV_nz {p q:Nat} (d:Int) (np:nanB p=false) (nq:nanB q=false):mulV p q d≠9223372036854775808:=by
 have e:=mulV_is d np nq
 unfold mulR at e
 rw [np,nq] at e
 simp only [Bool.or_self,Bool.false_eq_true,if_false] at e
 split at e
 ·injection e with e;rw [<-e];decide
 ·rename_i z
  split at e
  ·injection e with e
   rw [<-e]
   have z':(isZ p || isZ q)=false:=by simpa using z
   have z2:=Bool.or_eq_false_iff.1 z'
   have h1:=splitM_lt p
   have h2:=splitM_lt q
   exact (roundN_facts (splitG p != splitG q) (prodM (splitM p) (splitM q)) (prodE (splitM p) (splitE p) (splitM q) (splitE q)) d (prodM_lt (splitM_zero z2.1) (splitM_zero z2.2) (by omega) (by omega))).2.1
  ·injection e with e
   rw [<-e]
   exact (infW_facts _).2.1
theorem order_key {x:Nat} (hx:x<18446744073709551616) (hn:nanB x=false):FloatKind.f64.format.order x 0=some (if key x<0 then .lt else if key x=0 then .eq else .gt):=by
 have h0:nanB 0=false:=by decide
 have k0:key 0=0:=rfl
 rw [order_eq x 0 hx (by omega),hn,h0,k0]
 rfl
theorem divR_fin {a b:Nat} (d:Int) (fa:finB a=true) (fb:finB b=true) (zb:isZ b=false):divR a b d=some (divF a b d):=by
 unfold divR
 rw [fin_not_nan fa,fin_not_nan fb,zb,fa,fb]
 simp
theorem divF_facts {a b:Nat} (d:Int) (zb:isZ b=false):nanB (divF a b d)=false/\divF a b d≠9223372036854775808/\divF a b d<18446744073709551616:=roundN_facts _ _ _ d (divM_lt zb)
theorem div_mirror {a b:Nat} (hb:b<18446744073709551616) (fa:finB a=true) (fb:finB b=true) (zb:isZ b=false):key (divF a b 1)=- key (divF a (negB b) (-1)):=by
 have m:=divR_mirror (a:=a) (b:=negB b) (negB_lt hb)
 rw [negB_negB hb,divR_fin (-1) fa (by rw [finB_negB hb];exact fb) (by rw [isZ_negB hb];exact zb),divR_fin 1 fa fb zb] at m
 rcases m with ⟨c, -⟩ | ⟨x,y,e1,e2, -, -,k⟩
 ·cases c
 ·injection e1 with e1
  injection e2 with e2
  rw [e1,e2];exact k
theorem div_sides {a b:Nat} (ha:a<18446744073709551616) (hb:b<18446744073709551616) (fa:finB a=true) (fb:finB b=true) (zb:isZ b=false) :
  Le (divF a b (-1)) (divF a b 0)/\Le (divF a b 0) (divF a b 1)/\key (divF a b (-1))<=9218868437227405311/\-9218868437227405311<=key (divF a b 1):=by
 obtain⟨u,hu⟩:∃u:Nat,u=1075:=⟨_,rfl⟩
 have s:=divR_sides a b
 rw [divR_fin (-1) fa fb zb,divR_fin 0 fa fb zb,divR_fin 1 fa fb zb] at s
 have t1:=(div_bot hu ha fa fb zb).2
 have t2:=(div_bot hu ha fa (b:=negB b) (by rw [finB_negB hb];exact fb) (by rw [isZ_negB hb];exact zb)).2
 have t3:=div_mirror hb fa fb zb
 rcases s with ⟨c, -, -⟩ | ⟨d,n,v,e1,e2,e3,ok⟩
 ·cases c
 ·injection e1 with e1
  injection e2 with e2
  injection e3 with e3
  obtain⟨⟨nd,nn,nu⟩, -,⟨ld,ln,lu⟩,k1,k2, -⟩:=ok
  rw [e1] at t1 ⊢
  rw [e3] at t3 ⊢
  rw [e2]
  exact⟨⟨ld,ln,nd,nn,k1⟩,⟨ln,lu,nn,nu,k2⟩,t1,by omega⟩
theorem isZ_pos {b:Nat} (hb:b<18446744073709551616) (h:key b≠0):isZ b=false:=by
 cases c:isZ b
 ·rfl
 ·exact absurd ((key_zero hb).1 c) h
theorem le00 {x:Nat} (hn:nanB x=false):leB 0 x=decide (0<=key x):=by
 unfold leB
 have h0:nanB 0=false:=by decide
 have k0:key 0=0:=rfl
 rw [hn,h0,k0];simp
theorem eq00 {x:Nat} (hn:nanB x=false):eqB x 0=decide (key x=0):=by
 unfold eqB
 have h0:nanB 0=false:=by decide
 have k0:key 0=0:=rfl
 rw [hn,h0,k0];simp
theorem lq_some {t dl dh a b:Nat} (ht:t<18446744073709551616) (h1:dl<18446744073709551616) (h2:dh<18446744073709551616) (ha:a<18446744073709551616) (hb:b<18446744073709551616) (nt:nanB t=false) (n1:nanB dl=false) (n2:nanB dh=false) (fa:finB a=true) (fb:finB b=true)
  (k0:0<=key dl) (kt:key t<=key a) (k1:key dl<=key b) (k2:key b<=key dh) (kb:0<key b) :
  (leB 0 t=true->∃r,divR t dh (-1)=some r)/\(leB 0 t=false->eqB dl 0=false->∃r,divR t dl (-1)=some r)/\Le (lqP t dl dh) (divF a b (-1)):=by
 have fa':=fin_key ha fa
 have fb':=fin_key hb fb
 have zb:=isZ_pos hb (by omega)
 have zh:=isZ_pos h2 (show key dh≠0 by omega)
 have fm:=divF_facts (a:=a) (-1) zb
 have v0:=V_nonneg k0
 have vt:=V_mono_le kt
 have v1:=V_mono_le k1
 have v2:=V_mono_le k2
 have vb:=V_pos kb
 obtain⟨u,hu⟩:∃u:Nat,u=1075:=⟨_,rfl⟩
 have kbot:=(div_bot hu ha fa fb zb).1
 clear hu
 unfold lqP
 rw [le00 nt,eq00 n1]
 by_cases c:0<=key t
 ·have ft:finB t=true:=by
   cases h:finB t
   ·rcases (key_inf ht nt).1 h with d | d <;> omega
   ·rfl
  have vt0:=V_nonneg c
  simp only [c,decide_true,if_true]
  cases fh:finB dh
  ·have e:divR t dh (-1)=some 0:=by unfold divR;rw [nt,n2,zh,ft,fh];simp
   refine⟨fun _=>⟨_,e⟩,(fun h=>by cases h), ?_⟩
   have e2:divD t dh=0:=by unfold divD;rw [e,Option.getD_some]
   rw [e2]
   have kk:key 0<=key (divF a b (-1)):=div_nonneg ha hb fa fb (by omega) kb
   exact⟨by omega,fm.2.2,by decide,fm.1,kk⟩
  ·have e:divR t dh (-1)=some (divF t dh (-1)):=divR_fin (-1) ft fh zh
   refine⟨fun _=>⟨_,e⟩,(fun h=>by cases h), ?_⟩
   have e2:divD t dh=divF t dh (-1):=by unfold divD;rw [e,Option.getD_some]
   rw [e2]
   have g:=divF_facts (a:=t) (-1) zh
   refine⟨g.2.2,fm.2.2,g.1,fm.1,div_le ht h2 ha hb ft fh fa fb (by omega) kb ?_⟩
   exact Int.mul_le_mul vt v2 (by omega) (by omega)
 ·simp only [c,decide_false,Bool.false_eq_true,if_false]
  refine⟨(fun h=>by cases h), ?_⟩
  by_cases cz:key dl=0
  ·simp only [cz,decide_true,if_true]
   exact⟨(fun _ h=>by cases h),infI_lt _,fm.2.2,nan_inf _,fm.1,by rw [key_down];exact kbot⟩
  ·simp only [cz,decide_false,Bool.false_eq_true,if_false]
   have zl:=isZ_pos h1 cz
   have fl:finB dl=true:=by
    cases h:finB dl
    ·rcases (key_inf h1 n1).1 h with d | d <;> omega
    ·rfl
   have vl:=V_pos (show 0<key dl by omega)
   have vt0:=V_lt0 (show key t<0 by omega)
   cases ft:finB t
   ·have zt:=isZ_pos ht (show key t≠0 by omega)
    have e:divR t dl (-1)=some (infW (signB t != signB dl)):=by unfold divR;rw [nt,n1,zl,ft,fl];simp
    refine⟨fun _ _=>⟨_,e⟩, ?_⟩
    have e2:divD t dl=infW (signB t != signB dl):=by unfold divD;rw [e,Option.getD_some]
    rw [e2]
    have i:=infW_facts (signB t != signB dl)
    refine⟨i.2.2.1,fm.2.2,i.1,fm.1, ?_⟩
    rw [infW_key,sign_key ht zt,sign_key h1 zl]
    have q1:key t<0:=by omega
    have q2:¬key dl<0:=by omega
    simp only [q1,q2,decide_true,decide_false]
    simpa using kbot
   ·have e:divR t dl (-1)=some (divF t dl (-1)):=divR_fin (-1) ft fl zl
    refine⟨fun _ _=>⟨_,e⟩, ?_⟩
    have e2:divD t dl=divF t dl (-1):=by unfold divD;rw [e,Option.getD_some]
    rw [e2]
    have g:=divF_facts (a:=t) (-1) zl
    refine⟨g.2.2,fm.2.2,g.1,fm.1,div_le ht h1 ha hb ft fl fa fb (by omega) kb ?_⟩
    generalize V (key t)=T at *
    generalize V (key dl)=L at *
    generalize V (key a)=A at *
    generalize V (key b)=B at *
    rcases Int.lt_or_le A 0 with ca | ca
    ·have s1:T*B<=A*B:=Int.mul_le_mul_of_nonneg_right vt (by omega)
     have s2:A*B<=A*L:=Int.mul_le_mul_of_nonpos_left (by omega) v1
     omega
    ·have s1:T*B<=0:=Int.mul_nonpos_of_nonpos_of_nonneg (by omega) (by omega)
     have s2:0<=A*L:=Int.mul_nonneg ca (by omega)
     omega
theorem point0_w (w:World):Calls Tryz.prog 55 #[.float .f64 0] w fun e w'=>e=.returned (.agg #[.float .f64 0,.float .f64 0])/\Below w.heap.size w w':=by
 have h:=point_w 0 (by omega) w
 have e:makeP 0 0=(0,0):=by
  have h1:pz 0=0:=rfl
  have h2:hsB 0 0=true:=by decide
  unfold makeP
  rw [h1,if_pos h2]
 rw [e] at h
 exact h
theorem key_abs {x:Nat} (hx:x<18446744073709551616):key (x%9223372036854775808)=if key x<0 then-key x else key x:=by
 unfold key
 rw [if_pos (by omega)]
 by_cases c:x<9223372036854775808
 ·rw [if_pos c,if_neg (by omega)];omega
 ·rw [if_neg c]
  split <;> omega
theorem sqrtR_fin {a:Nat} (d:Int) (fa:finB a=true) (ga:splitG a=false):sqrtR a d=some (sqrtF a d):=by
 unfold sqrtR
 rw [fin_not_nan fa,ga,fa,if_neg (by decide),if_pos rfl]
theorem sqrtR_infinite {a:Nat} (d:Int) (na:nanB a=false) (fa:finB a=false) (ga:splitG a=false):sqrtR a d=some a:=by
 unfold sqrtR
 rw [na,ga,fa,if_neg (by decide),if_neg (by decide)]
theorem sqrtV_fin {a:Nat} (d:Int) (fa:finB a=true) (ga:splitG a=false):sqrtV a d=sqrtF a d:=by
 have h:=sqrtV_is d (fin_not_nan fa) ga
 rw [sqrtR_fin d fa ga] at h
 injection h with h
 exact h.symm
theorem sqrtF_facts {a:Nat} (d:Int):nanB (sqrtF a d)=false/\sqrtF a d≠9223372036854775808/\sqrtF a d<18446744073709551616 :=
 by unfold sqrtF;exact roundN_facts false (rootM (splitM a) (splitE a)) (rootE (splitM a) (splitE a)) d (rootM_lt (by have:=splitM_lt a;omega))
theorem nneg_G {x:Nat} (hx:x<18446744073709551616) (h:0<=key x):splitG x=false:=by
 unfold splitG
 unfold key at h
 simp only [decide_eq_false_iff_not]
 split at h <;> omega
theorem told_calls {f:FuncId} {args:Array Value} {o:Option Nat} {v:Nat} (h:o=some v) (c:∀w,Calls Tryz.prog f args w fun x w'=>Ans o x/\Below w.heap.size w w') :
  ∀w,Calls Tryz.prog f args w fun e w'=>e=.returned (.float .f64 v)/\Below w.heap.size w w':=fun w=>by
 have c:=c w
 rw [h] at c
 refine c.mono ?_
 rintro _ _ ⟨⟨r,rfl, -,e⟩,hb⟩
 have e:r=v:=e
 rw [e]
 exact⟨rfl,hb⟩
theorem kdown_exact {x:Ex} (ok:x.Ok) {k l:Int} (h1:-9218868437227405312<=k) (h2:k<=9218868437227405311) (le:x.le (2*V k)) (ge:x.ge (2*V k)) (h:KDown x l):l=k:=by
 have hk:KDown x k:=⟨h1,h2,Or.inr le,Or.inr fun c=>by
  have:=ok.sep ge c
  have:=V_mono (show k<k+1 by omega)
  omega⟩
 exact Int.le_antisymm (kdown_mono ok (fun _ c=>c) h hk) (kdown_mono ok (fun _ c=>c) hk h)
theorem side_dir (dir:Int) (g:Bool):(dir<0->sideN dir g=sideN (-1) g)/\(dir=0->sideN dir g=sideN 0 g)/\(0<dir->sideN dir g=sideN 1 g):=by
 unfold sideN
 refine⟨fun h=>?_,fun h=>by rw [h],fun h=>?_⟩
 ·have h1:¬dir=0:=by omega
  have h2:¬0<dir:=by omega
  simp [h1,h2]
 ·have h1:¬dir=0:=by omega
  simp [h1,h]
theorem round_dir (g:Bool) (m:Nat) (e dir:Int):(dir<0/\roundN g m e dir=roundN g m e (-1))\/(dir=0/\roundN g m e dir=roundN g m e 0)\/(0<dir/\roundN g m e dir=roundN g m e 1):=by
 have s:=side_dir dir g
 unfold roundN
 rcases Int.lt_trichotomy dir 0 with c | c | c
 ·left;exact⟨c,by rw [s.1 c]⟩
 ·right;left;exact⟨c,by rw [s.2.1 c]⟩
 ·right;right;exact⟨c,by rw [s.2.2 c]⟩
theorem all_sides {f:Int->Nat} {k:Int} (hd:∀d,(d<0/\f d=f (-1))\/(d=0/\f d=f 0)\/(0<d/\f d=f 1)) (h1:key (f (-1))=k) (h2:key (f 1)=k) (h3:key (f (-1))<=key (f 0)) (h4:key (f 0)<=key (f 1)) (d:Int):key (f d)=k:=by
 rcases hd d with ⟨-,e⟩ | ⟨-,e⟩ | ⟨-,e⟩ <;> rw [e] <;> omega
theorem both {k:Int} (h:-9218868437227405311<=k/\k<=9218868437227405311):(-9218868437227405312<=k/\k<=9218868437227405311)/\(-9218868437227405312<=-k/\-k<=9218868437227405311):=by omega
theorem div_exact {u:Nat} (hu:u=1075) {a b c:Nat} (ha:a<18446744073709551616) (hb:b<18446744073709551616) (hc:c<18446744073709551616) (fa:finB a=true) (fb:finB b=true) (fc:finB c=true) (zb:isZ b=false)
  (h:V (key a)*((2^u:Nat):Int)=2*V (key c)*V (key b)) (dir:Int):key (divF a b dir)=key c:=by
 have kc:=fin_key hc fc
 have core:∀{a b c:Nat},a<18446744073709551616->b<18446744073709551616->finB a=true->finB b=true->isZ b=false->-9218868437227405312<=key c->key c<=9218868437227405311->V (key a)*((2^u:Nat):Int)=2*V (key c)*V (key b)->key (divF a b (-1))=key c:=by
  intro a b c ha hb fa fb zb k1 k2 h
  have kv:=key_val hb
  have e:(if splitG b then -V (key a) else V (key a))*((2^u:Nat):Int)=2*V (key c)*((val (b%9223372036854775808):Nat):Int):=by
   cases g:splitG b
   ·rw [g] at kv
    simp only [Bool.false_eq_true,if_false] at kv ⊢
    rw [h,kv]
   ·rw [g] at kv
    simp only [if_true] at kv ⊢
    rw [Int.neg_mul,h,kv,Int.mul_neg,Int.neg_neg]
  exact kdown_exact (exQ_ok _ (valz zb)) k1 k2 (by show 2*V (key c)*_<=_;rw [e];exact Int.le_refl _) (by show _<=2*V (key c)*_;rw [e];exact Int.le_refl _) (divF_down hu ha fa fb zb)
 have h1:=core ha hb fa fb zb (both kc).1.1 (both kc).1.2 h
 have h2:=core (c:=negB c) ha (negB_lt hb) fa (by rw [finB_negB hb];exact fb) (by rw [isZ_negB hb];exact zb) (by rw [key_negB hc];exact (both kc).2.1) (by rw [key_negB hc];exact (both kc).2.2) (by rw [key_negB hb,key_negB hc,V_neg,V_neg,h,Int.mul_neg 2,Int.neg_mul_neg])
 have m:=div_mirror hb fa fb zb
 rw [h2,key_negB hc] at m
 obtain⟨s1,s2, -, -⟩:=div_sides ha hb fa fb zb
 exact all_sides (f:=divF a b) (fun d=>round_dir _ _ _ d) h1 (by rw [m,Int.neg_neg]) s1.le s2.le dir
theorem sqrt_exact {u:Nat} (hu:u=1076) {a c:Nat} (hc:c<18446744073709551616) (fa:finB a=true) (fc:finB c=true) (kc0:0<=key c)
  (h:val (a%9223372036854775808)*2^u=(2*val (c%9223372036854775808))*(2*val (c%9223372036854775808))) (dir:Int):key (sqrtF a dir)=key c:=by
 have kc:=fin_key hc fc
 have kv:=key_val hc
 rw [nneg_G hc kc0] at kv
 simp only [Bool.false_eq_true,if_false] at kv
 have le:(exS (val (a%9223372036854775808)*2^u)).le (2*V (key c)):=by
  right
  rw [kv,h]
  simp
 have ge:(exS (val (a%9223372036854775808)*2^u)).ge (2*V (key c)):=by
  refine⟨by rw [kv];exact Int.mul_nonneg (by decide) (Int.natCast_nonneg _), ?_⟩
  rw [kv,h]
  simp
 have h1:=kdown_exact (exS_ok _) (both kc).1.1 (both kc).1.2 le ge (sqrtF_down hu fa)
 have ku:KUp (exS (val (a%9223372036854775808)*2^u)) (key c):=⟨Or.inr ge,fun g=>by
  have q1:=(exS_ok _).sep g le
  have q2:=V_mono (show key c-1<key c from Int.sub_lt_self _ (by decide))
  clear hu h le ge g h1
  omega,Int.le_trans (both kc).1.2 (by decide)⟩
 have su:=sqrtF_up hu fa
 have h2:key (sqrtF a 1)=key c:=Int.le_antisymm (kup_mono (exS_ok _) (fun _ c=>c) su ku) (kup_mono (exS_ok _) (fun _ c=>c) ku su)
 have hm:rootM (splitM a) (splitE a)<18446744073709551616:=rootM_lt (by have:=splitM_lt a;omega)
 have s:=round_sides false (rootM (splitM a) (splitE a)) (rootE (splitM a) (splitE a)) hm
 have s1:key (sqrtF a (-1))<=key (sqrtF a 0):=by unfold sqrtF;exact s.2.2.2.1
 have s2:key (sqrtF a 0)<=key (sqrtF a 1):=by unfold sqrtF;exact s.2.2.2.2.1
 exact all_sides (f:=sqrtF a) (fun d=>by unfold sqrtF;exact round_dir _ _ _ d) h1 h2 s1 s2 dir
theorem addF_facts (a b:Nat) (d:Int):nanB (addF a b d)=false/\addF a b d≠9223372036854775808/\addF a b d<18446744073709551616:=by
 unfold addF
 exact roundN_facts _ _ _ d (sumM_lt (splitG a) (splitM a) (splitE a) (splitG b) (splitM b) (splitE b) (splitM_lt a) (splitM_lt b))
theorem addR_fin {a b:Nat} (d:Int) (fa:finB a=true) (fb:finB b=true):addR a b d=some (addF a b d):=by
 unfold addR
 rw [fin_not_nan fa,fin_not_nan fb,fa,fb,if_neg (by decide),if_pos (by decide)]
end Go.Proofs.YtopfabemfbdccaaGreat
