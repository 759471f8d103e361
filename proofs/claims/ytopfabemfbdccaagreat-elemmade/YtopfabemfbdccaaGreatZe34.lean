/- Quotients of intervals: what the program's Div answers, word for word, and what the reference's Div, as a function, is: the same. The reference's products, amounts and even powers of intervals answer as the program's; IvalProducts' walk. Middles and widths: the program's and the reference's are the same; IvalSizes' walk. The greater the intervals are, the greater are sums and products: plain facts, end by end. The reference's Div: the exact quotient, rounded; the walk of the statement UlpQuotients. -/
import Derived.Test.YtopfabemfbdccaaGreatZe32
import Derived.Test.YtopfabemfbdccaaGreatZe33
import Derived.Test.YtopfabemfbdccaaGreatZe31
namespace Go.Proofs.YtopfabemfbdccaaGreat
open Go.ChangeShapes Go.WideShapes Go.ChangeAt Go.RowKit
def shrinkP (xl xh dl dh:Nat):Nat×Nat:=makeP (lqP xl dl dh) (negB (lqP (negB xh) dl dh))
def divP (xl xh yl yh:Nat):Nat×Nat :=
 if (hsB xl xh&&hsB yl yh)=false then (infI 1,infI (-1)) else if key yl=0∧key yh=0 then (infI 1,infI (-1)) else if key xl=0∧key xh=0 then (0,0)
 else if 0≤key yl then shrinkP xl xh yl yh else if key yh≤0 then shrinkP (mirrorP (xl,xh)).1 (mirrorP (xl,xh)).2 (mirrorP (yl,yh)).1 (mirrorP (yl,yh)).2 else (infI (-1),infI 1)
theorem held_pos {lo hi:Nat} (hl:lo<18446744073709551616) (hh:hi<18446744073709551616) (S:Some2 lo hi) (k0:0≤key lo) (k1:0<key hi):∃b,Held lo hi b∧0<key b:=by
 obtain⟨b,H,hb⟩:=held_nonzero hl hh S (by omega)
 have:=H.kl
 exact⟨b,H,by omega⟩
theorem shrink_w {xl xh dl dh:Nat} (h1:xl<18446744073709551616) (h2:xh<18446744073709551616) (h3:dl<18446744073709551616) (h4:dh<18446744073709551616) (S:Some2 xl xh) (T:Some2 dl dh) (k0:0≤key dl) (k1:0<key dh) :
   (∀w,Calls Tryz.prog 104 #[.agg #[.float .f64 xl,.float .f64 xh],.agg #[.float .f64 dl,.float .f64 dh]] w fun e w'=>e=.returned (.agg #[.float .f64 (shrinkP xl xh dl dh).1,.float .f64 (shrinkP xl xh dl dh).2])∧Below w.heap.size w w') ∧
   key (lqP xl dl dh)≤9218868437227405311∧key (lqP (negB xh) dl dh)≤9218868437227405311∧lqP xl dl dh<18446744073709551616∧lqP (negB xh) dl dh<18446744073709551616∧nanB (lqP xl dl dh)=false∧nanB (lqP (negB xh) dl dh)=false:=by
 obtain⟨a,X⟩:=held_some h1 h2 S
 obtain⟨b,D,kb⟩:=held_pos h3 h4 T k0 k1
 have zb:=isZ_pos D.hv (by omega)
 obtain⟨p1,p2,l1⟩:=lq_some X.hl D.hl D.hh X.hv D.hv X.nl D.nl D.nh X.fv D.fv k0 X.kl D.kl D.kh kb
 have n5:nanB (negB xh)=false:=by rw [nanB_negB X.hh];exact X.nh
 have fn:finB (negB a)=true:=by rw [finB_negB X.hv];exact X.fv
 obtain⟨q1,q2,l2⟩:=lq_some (negB_lt X.hh) D.hl D.hh (negB_lt X.hv) D.hv n5 D.nl D.nh fn D.fv k0 (by rw [key_negB X.hh,key_negB X.hv];have:=X.kh;omega) D.kl D.kh kb
 obtain⟨u,hu⟩:∃u:Nat,u=1075:=⟨_,rfl⟩
 have t1:=(div_bot hu X.hv X.fv D.fv zb).2
 have t2:=(div_bot hu (negB_lt X.hv) fn D.fv zb).2
 have r1:=l1.le
 have r2:=l2.le
 refine⟨fun w=>shrink_core xl xh dl dh (negB xh) (lqP xl dl dh) (lqP (negB xh) dl dh) (negB (lqP (negB xh) dl dh)) _ _ (negFloat_eq xh X.hh) (negFloat_eq _ l2.r1)
   (fun w=>lq_w xl dl dh X.hl D.hl D.hh p1 p2 w) (fun w=>lq_w (negB xh) dl dh (negB_lt X.hh) D.hl D.hh q1 q2 w) (fun w=>make_w _ _ l1.r1 (negB_lt l2.r1) w) w,Int.le_trans r1 t1,Int.le_trans r2 t2,l1.r1,l2.r1,l1.r2,l2.r2⟩
theorem mirror_some {lo hi:Nat} (hl:lo<18446744073709551616) (hh:hi<18446744073709551616) (S:Some2 lo hi):Some2 (mirrorP (lo,hi)).1 (mirrorP (lo,hi)).2∧key (mirrorP (lo,hi)).1=- key hi∧key (mirrorP (lo,hi)).2=- key lo∧(mirrorP (lo,hi)).1<18446744073709551616∧(mirrorP (lo,hi)).2<18446744073709551616:=by
 obtain⟨a,X⟩:=held_some hl hh S
 obtain⟨N,k1,k2⟩:=held_neg X
 have w:=mirror_words X
 have e1:(mirrorP (lo,hi)).1=pz (negB hi):=by rw [w]
 have e2:(mirrorP (lo,hi)).2=pz (negB lo):=by rw [w]
 refine⟨⟨N.nl,N.nh,by rw [k1,k2];have:=S.le;omega,by rw [k1];have:=S.gt;omega,by rw [k2];have:=S.lt;omega,by rw [e1];exact pz_ne _,by rw [e2];exact pz_ne _⟩,k1,k2,N.hl,N.hh⟩
theorem o_key {x:Nat} (hx:x<18446744073709551616) (hn:nanB x=false):(key x<0→FloatKind.f64.format.order x 0=some .lt)∧(key x=0→FloatKind.f64.format.order x 0=some .eq)∧(0<key x→FloatKind.f64.format.order x 0=some .gt):=by
 have o:=order_key hx hn
 refine⟨fun h=>by rw [o,if_pos h],fun h=>by rw [o,if_neg (by omega),if_pos h],fun h=>by rw [o,if_neg (by omega),if_neg (by omega)]⟩
set_option maxHeartbeats 2000000 in
theorem div_none (xl xh yl yh:Nat) (h1:xl<18446744073709551616) (h2:xh<18446744073709551616) (h3:yl<18446744073709551616) (h4:yh<18446744073709551616) (hs:(hsB xl xh&&hsB yl yh)=false) (w:World) :
   Calls Tryz.prog 50 #[.agg #[.float .f64 xl,.float .f64 xh],.agg #[.float .f64 yl,.float .f64 yh]] w fun e w'=>e=.returned (.agg #[.float .f64 (infI 1),.float .f64 (infI (-1))])∧Below w.heap.size w w':=by
 have c0:=fun b W hlt c0 c1 c2 c3=>someEmpty2_w b xl xh yl yh h1 h2 h3 h4 W hlt c0 c1 c2 c3
 rw [hs] at c0
 clear hs h1 h2 h3 h4
 have cz:=point0_w
 go_enter Tryz.func50,Tryz.ntmps50
 go_upto_region 2 with
  (go_at_call 55;refine (cz _).mono ?_;rintro _ w1 ⟨rfl,hb1⟩
   have R:Has2 w1 (w.heap.size+1+1) (.float .f64 0) (.float .f64 0):=Has2.keep ⟨by go_simp,by go_simp,by go_simp,by go_simp,by go_size⟩ hb1
   have X:Has2 w1 w.heap.size (.float .f64 xl) (.float .f64 xh):=Has2.keep ⟨by go_simp,by go_simp,by go_simp,by go_simp,by go_size⟩ hb1
   have Y:Has2 w1 (w.heap.size+1) (.float .f64 yl) (.float .f64 yh):=Has2.keep ⟨by go_simp,by go_simp,by go_simp,by go_simp,by go_size⟩ hb1
   have HB:Below w.heap.size w w1:=later (by go_grown) hb1)
 clear hb1 cz
 have Z:Has2 (w1.alloc (Obj.cells #[Value.float FloatKind.f64 0,Value.float FloatKind.f64 0] 24)) w1.heap.size (.float .f64 0) (.float .f64 0):=⟨by go_simp,by go_simp,by go_simp,by go_simp,by go_size⟩
 have BL:Below w1.heap.size w1 (w1.alloc (Obj.cells #[Value.float FloatKind.f64 0,Value.float FloatKind.f64 0] 24)):=(Below.refl _ _).alloc (Nat.le_refl _) _
 replace X:=X.keep BL
 replace Y:=Y.keep BL
 replace R:=R.keep BL
 replace HB:=later HB BL
 clear BL
 generalize w1.heap.size=zb at *
 generalize (w1.alloc (Obj.cells #[Value.float FloatKind.f64 0,Value.float FloatKind.f64 0] 24))=W1 at *
 have x0:=X.1
 have x1:=X.2.1
 have y0:=Y.1
 have y1:=Y.2.1
 have ne1:w.heap.size+1+1≠w.heap.size:=by omega
 have ne2:w.heap.size≠w.heap.size+1+1:=by omega
 go_wp2_with (first
  | (go_at_call 103;refine (c0 W1.heap.size _ (by go_size) (by go_simp) (by go_simp) (by go_simp) (by go_simp)).mono ?_;rintro _ w2 ⟨rfl,hb2⟩
     replace HB:Below w.heap.size w w2:=later (HB.alloc HB.size _) hb2
     replace R:=(R.keep ((Below.refl _ _).alloc (Nat.le_refl _) _)).keep hb2
     replace X:=(X.keep ((Below.refl _ _).alloc (Nat.le_refl _) _)).keep hb2
     replace Y:=(Y.keep ((Below.refl _ _).alloc (Nat.le_refl _) _)).keep hb2
     replace Z:=(Z.keep ((Below.refl _ _).alloc (Nat.le_refl _) _)).keep hb2
     replace x0:=X.1
     replace x1:=X.2.1
     replace y0:=Y.1
     replace y1:=Y.2.1
     have w0:=Z.1
     have w1':=Z.2.1
     clear hb2)
  | (go_at_call 76;refine (empty_w _).mono ?_;rintro _ w3 ⟨rfl,hb1⟩;replace X:=X.keep hb1;replace Y:=Y.keep hb1;replace R:=R.keep hb1;replace HB:=later HB hb1;clear hb1;obtain⟨d0,d1,d2,d3,d4⟩:=R))
 all_goals
   refine bodyPost_ret (v:=.agg #[.float .f64 (infI 1),.float .f64 (infI (-1))]) (by simp [results,Tryz.results50,go_sem, *]) rfl ⟨rfl, ?_⟩
   repeat' (first | (with_reducible exact HB) | (with_reducible refine Below.setCell ?_ ?_ _) | go_size)
theorem Div_w (xl xh yl yh:Nat) (h1:xl<18446744073709551616) (h2:xh<18446744073709551616) (h3:yl<18446744073709551616) (h4:yh<18446744073709551616) (w:World) :
   Calls Tryz.prog 50 #[.agg #[.float .f64 xl,.float .f64 xh],.agg #[.float .f64 yl,.float .f64 yh]] w fun e w'=>e=.returned (.agg #[.float .f64 (divP xl xh yl yh).1,.float .f64 (divP xl xh yl yh).2])∧Below w.heap.size w w':=by
 unfold divP
 cases hs:hsB xl xh&&hsB yl yh
 · rw [if_pos rfl]
   exact div_none xl xh yl yh h1 h2 h3 h4 hs w
 · rw [if_neg (by simp)]
   obtain⟨hx,hy⟩:=Bool.and_eq_true_iff.1 hs
   have S:=hs_iff.1 hx
   have T:=hs_iff.1 hy
   obtain⟨a,X⟩:=held_some h1 h2 S
   obtain⟨b,Y⟩:=held_some h3 h4 T
   have c0:=some2 X Y
   obtain⟨oa,ob,oc⟩:=o_key h3 T.nl
   obtain⟨od,oe,of⟩:=o_key h4 T.nh
   have x1:=o_eq h1 (show 0<18446744073709551616 by omega)
   have x2:=o_eq h2 (show 0<18446744073709551616 by omega)
   rw [eq00 S.nl] at x1
   rw [eq00 S.nh] at x2
   have ky:=T.le
   by_cases cy:key yl=0∧key yh=0
   · rw [if_pos cy]
     exact div_e xl xh yl yh c0 point0_w (ob cy.1) (oe cy.2) w
   · rw [if_neg cy]
     have hy:FloatKind.f64.format.order yl 0=some .gt∨FloatKind.f64.format.order yl 0=some .lt∨FloatKind.f64.format.order yl 0=some .eq∧FloatKind.f64.format.order yh 0=some .gt:=by
       rcases Int.lt_trichotomy (key yl) 0 with c | c | c
       · exact Or.inr (Or.inl (oa c))
       · exact Or.inr (Or.inr ⟨ob c,of (by omega)⟩)
       · exact Or.inl (oc c)
     by_cases cx:key xl=0∧key xh=0
     · rw [if_pos cx]
       exact div_z xl xh yl yh c0 point0_w hy (by rw [x1];simp [cx.1]) (by rw [x2];simp [cx.2]) w
     · rw [if_neg cx]
       have hx:(decide (key xl=0))=false∨(decide (key xl=0))=true∧(decide (key xh=0))=false:=by
         by_cases c:key xl=0
         · right
           refine⟨by simp [c], ?_⟩
           have:¬key xh=0:=fun h=>cx ⟨c,h⟩
           simp [this]
         · left;simp [c]
       by_cases p1:0≤key yl
       · rw [if_pos p1]
         have cs:=(shrink_w h1 h2 h3 h4 S T p1 (by omega)).1
         have hy':FloatKind.f64.format.order yl 0=some .gt∨FloatKind.f64.format.order yl 0=some .eq∧FloatKind.f64.format.order yh 0=some .gt:=by
           by_cases c:key yl=0
           · exact Or.inr ⟨ob c,of (by omega)⟩
           · exact Or.inl (oc (by omega))
         exact div_a xl xh yl yh _ _ _ _ c0 point0_w hy' x1 x2 hx cs w
       · rw [if_neg p1]
         have oy:=oa (by omega)
         by_cases p2:key yh≤0
         · rw [if_pos p2]
           obtain⟨S',k1,k2,l1,l2⟩:=mirror_some h1 h2 S
           obtain⟨T',k3,k4,l3,l4⟩:=mirror_some h3 h4 T
           have cs:=(shrink_w l1 l2 l3 l4 S' T' (by omega) (by omega)).1
           have hy':FloatKind.f64.format.order yh 0=some .lt∨FloatKind.f64.format.order yh 0=some .eq:=by
             by_cases c:key yh=0
             · exact Or.inr (oe c)
             · exact Or.inl (od (by omega))
           obtain⟨oL,oH,hL,hH⟩:∃oL oH:Nat→Nat→Nat,(∀p q,oL p q=(mirrorP (p,q)).1)∧(∀p q,oH p q=(mirrorP (p,q)).2):=⟨fun p q=>(mirrorP (p,q)).1,fun p q=>(mirrorP (p,q)).2,fun _ _=>rfl,fun _ _=>rfl⟩
           rw [←hL xl xh,←hH xl xh,←hL yl yh,←hH yl yh] at cs ⊢
           have cM:∀p q,p<18446744073709551616→q<18446744073709551616→∀w,Calls Tryz.prog 105 #[.agg #[.float .f64 p,.float .f64 q]] w fun e w'=>e=.returned (.agg #[.float .f64 (oL p q),.float .f64 (oH p q)])∧Below w.heap.size w w':=fun p q hp hq w=>by
             rw [hL,hH];exact mirror_w p q hp hq w
           exact div_b xl xh yl yh _ _ oL oH _ _ h1 h2 h3 h4 c0 point0_w oy hy' x1 x2 hx cM cs w
         · rw [if_neg p2]
           exact div_whole xl xh yl yh _ _ c0 point0_w oy (of (by omega)) x1 x2 hx w
def leastP (a b:Nat):Nat:=if eqB b 0 || eqB a (infI (-1)) then infI (-1) else divD a b
def greatP (a b:Nat):Nat:=if eqB b (infI 1) then 0 else divD a b
def lowP (yl:Nat):Nat:=if ltB yl 0 then 0 else yl
def overLo (xl yl yh:Nat):Nat:=if ltB xl 0 then leastP xl (lowP yl) else greatP xl yh
def overHi (xh yl yh:Nat):Nat:=if ltB 0 xh then zminus (leastP (zminus xh) (lowP yl)) else zminus (greatP (zminus xh) yh)
def overP (xl xh yl yh:Nat):Nat×Nat:=if eqB xl 0&&eqB xh 0 then (xl,xh) else rendsP (overLo xl yl yh) (overHi xh yl yh)
theorem gt0 {x:Nat} (hn:nanB x=false):ltB 0 x=decide (0<key x):=by
 rw [lt_is (by decide) hn]
 rfl
theorem zminus_key {b:Nat} (hb:b<18446744073709551616):key (zminus b)=- key b:=by
 rw [←key_pz (zminus b),pz_zminus hb,key_pz,key_negB hb]
theorem zminus_nan {b:Nat} (hb:b<18446744073709551616):nanB (zminus b)=nanB b:=by
 rw [←nan_pz (zminus b),pz_zminus hb,nan_pz,nanB_negB hb]
theorem zminus_is {b:Nat} (hb:b<18446744073709551616) (h:key b≠0):zminus b=negB b:=by
 unfold zminus
 rw [isZ_pos hb h]
 simp
theorem divD_zero {a b:Nat} (ha:a<18446744073709551616) (na:nanB a=false) (nb:nanB b=false) (ka:key a=0) (zb:isZ b=false):divD a b=0:=by
 have z:=(key_zero ha).2 ka
 have h:a%9223372036854775808=0:=by simpa [isZ] using z
 have fa:finB a=true:=by unfold finB;rw [h];simp
 have zm:splitM a=0:=by unfold splitM;rw [if_pos (by omega),h]
 have e:divF a b (-1)=0:=by
   unfold divF
   rw [zm,quoM_zero]
   unfold roundN
   rw [if_pos rfl]
 unfold divD divR
 rw [na,nb,zb,fa]
 generalize divF a b (-1)=q at *
 subst e
 cases finB b <;> rfl
theorem lq_ref {t dl dh:Nat} (ht:t<18446744073709551616) (h1:dl<18446744073709551616) (h2:dh<18446744073709551616) (nt:nanB t=false) (n1:nanB dl=false) (n2:nanB dh=false) (kt:key t<9218868437227405312) (kd:key dl<9218868437227405312) (k0:0≤key dl) :
   (if ltB t 0 then leastP t dl else greatP t dh)=lqP t dl dh:=by
 unfold lqP leastP greatP
 rw [lt0 nt,le00 nt,eq00 n1]
 have ei:eqB t (infI (-1))=decide (key t=-9218868437227405312):=by unfold eqB;rw [nt,nan_inf,key_down];rfl
 have ej:eqB dh (infI 1)=decide (key dh=9218868437227405312):=by unfold eqB;rw [n2,nan_inf,key_up];rfl
 rw [ei,ej]
 by_cases c:key t<0
 · have c':¬0≤key t:=by omega
   simp only [c,c',decide_true,decide_false,if_true,Bool.false_eq_true,if_false]
   by_cases cz:key dl=0
   · simp only [cz,decide_true,Bool.true_or,if_true]
   · simp only [cz,decide_false,Bool.false_or,Bool.false_eq_true,if_false]
     by_cases ci:key t=-9218868437227405312
     · simp only [ci,decide_true,if_true]
       have ft:finB t=false:=(key_inf ht nt).2 (Or.inr ci)
       have fl:finB dl=true:=by
         cases h:finB dl
         · rcases (key_inf h1 n1).1 h with d | d <;> omega
         · rfl
       have zl:=isZ_pos h1 cz
       have zt:=isZ_pos ht (show key t≠0 by omega)
       have q2:¬key dl<0:=by omega
       have e:divR t dl (-1)=some (infW (signB t != signB dl)):=by unfold divR;rw [nt,n1,zl,ft,fl];simp
       unfold divD
       rw [e,sign_key ht zt,sign_key h1 zl]
       simp only [c,q2,decide_true,decide_false,Option.getD_some]
       rfl
     · simp only [ci,decide_false,Bool.false_eq_true,if_false]
 · have c':0≤key t:=by omega
   simp only [c,c',decide_true,decide_false,if_true,Bool.false_eq_true,if_false]
   by_cases ci:key dh=9218868437227405312
   · simp only [ci,decide_true,if_true]
     have fh:finB dh=false:=(key_inf h2 n2).2 (Or.inl ci)
     have ft:finB t=true:=by
       cases h:finB t
       · rcases (key_inf ht nt).1 h with d | d <;> omega
       · rfl
     have zh:=isZ_pos h2 (show key dh≠0 by omega)
     have e:divR t dh (-1)=some 0:=by unfold divR;rw [nt,n2,zh,ft,fh];simp
     unfold divD
     rw [e,Option.getD_some]
   · simp only [ci,decide_false,Bool.false_eq_true,if_false]
theorem lq_zminus {t dl dh:Nat} (ht:t<18446744073709551616) (h2:dh<18446744073709551616) (nt:nanB t=false) (n2:nanB dh=false) (k1:0<key dh):lqP (zminus t) dl dh=lqP (negB t) dl dh:=by
 by_cases c:key t=0
 · have zh:=isZ_pos h2 (show key dh≠0 by omega)
   have n3:nanB (zminus t)=false:=by rw [zminus_nan ht];exact nt
   have n4:nanB (negB t)=false:=by rw [nanB_negB ht];exact nt
   have k3:key (zminus t)=0:=by rw [zminus_key ht];omega
   have k4:key (negB t)=0:=by rw [key_negB ht];omega
   unfold lqP
   rw [le00 n3,le00 n4,k3,k4,divD_zero (zminus_lt ht) n3 n2 k3 zh,divD_zero (negB_lt ht) n4 n2 k4 zh]
   simp
 · rw [zminus_is ht c]
theorem rends_make {lo hi:Nat} (nl:nanB lo=false) (nh:nanB hi=false) (kl:key lo≤9218868437227405311) (kh:-9218868437227405311≤key hi):rendsP lo hi=makeP lo hi:=by
 unfold rendsP
 have k1:key 9218868437227405311=9218868437227405311:=by decide
 have k2:key 18442240474082181119=-9218868437227405311:=by decide
 rw [lt_is (by decide) nl,lt_is nh (by decide),k1,k2,if_neg (by simp;omega),if_neg (by simp;omega)]
theorem makeP_congr {a b c d:Nat} (h:pz a=pz c) (k:pz b=pz d):makeP a b=makeP c d:=by
 unfold makeP
 rw [h,k]
theorem over_is {xl xh yl yh:Nat} (h1:xl<18446744073709551616) (h2:xh<18446744073709551616) (h3:yl<18446744073709551616) (h4:yh<18446744073709551616) (S:Some2 xl xh) (T:Some2 yl yh) (k0:0≤key yl) (k1:0<key yh) (hx:¬(key xl=0∧key xh=0)) :
   overP xl xh yl yh=shrinkP xl xh yl yh:=by
 obtain⟨-,b1,b2,b3,b4,b5,b6⟩:=shrink_w h1 h2 h3 h4 S T k0 k1
 have el:lowP yl=yl:=by unfold lowP;rw [lt0 T.nl,if_neg (by simp;omega)]
 have n5:nanB (zminus xh)=false:=by rw [zminus_nan h2];exact S.nh
 have z5:=zminus_key h2
 have e1:overLo xl yl yh=lqP xl yl yh:=by
   unfold overLo
   rw [el]
   exact lq_ref h1 h3 h4 S.nl T.nl T.nh S.lt T.lt k0
 have e2:overHi xh yl yh=zminus (lqP (negB xh) yl yh):=by
   unfold overHi
   rw [el,←lq_zminus h2 h4 S.nh T.nh k1,←lq_ref (zminus_lt h2) h3 h4 n5 T.nl T.nh (by rw [z5];have:=S.gt;omega) T.lt k0,gt0 S.nh,lt0 n5,z5]
   by_cases c:0<key xh
   · have c':- key xh<0:=by omega
     simp only [c,c',decide_true,if_true]
   · have c':¬- key xh<0:=by omega
     simp only [c,c',decide_false,Bool.false_eq_true,if_false]
 have ex:(eqB xl 0&&eqB xh 0)=false:=by
   rw [eq00 S.nl,eq00 S.nh]
   simp only [Bool.and_eq_false_iff,decide_eq_false_iff_not]
   by_cases c:key xl=0
   · exact Or.inr fun h=>hx ⟨c,h⟩
   · exact Or.inl c
 unfold overP shrinkP
 rw [ex,e1,e2]
 simp only [Bool.false_eq_true,if_false]
 rw [rends_make b5 (by rw [zminus_nan b4];exact b6) b1 (by rw [zminus_key b4];omega)]
 exact makeP_congr rfl (pz_zminus b4)
theorem hull_none (a b:Nat):hullP (infI 1) (infI (-1)) a b=if hsB a b then (a,b) else (infI 1,infI (-1)):=by
 rw [←rhull_is]
 unfold rhullP
 have e:hsB (infI 1) (infI (-1))=false:=by decide
 rw [e]
 cases hsB a b <;> rfl
theorem hull_make (p q:Nat):hullP (infI 1) (infI (-1)) (makeP p q).1 (makeP p q).2=makeP p q:=by
 rw [hull_none]
 unfold makeP
 have e:hsB (infI 1) (infI (-1))=false:=by decide
 cases h:hsB (pz p) (pz q)
 · simp only [Bool.false_eq_true,if_false,e]
 · simp only [if_true,h]
theorem great_facts {t dh:Nat} (ht:t<18446744073709551616) (h2:dh<18446744073709551616) (nt:nanB t=false) (n2:nanB dh=false) (k0:0≤key t) (kt:key t<9218868437227405312) (k1:0<key dh) :
   nanB (greatP t dh)=false∧0≤key (greatP t dh)∧key (greatP t dh)≤9218868437227405311∧greatP t dh<18446744073709551616:=by
 unfold greatP
 have ej:eqB dh (infI 1)=decide (key dh=9218868437227405312):=by unfold eqB;rw [n2,nan_inf,key_up];rfl
 rw [ej]
 by_cases c:key dh=9218868437227405312
 · simp only [c,decide_true,if_true]
   exact⟨by decide,by decide,by decide,by omega⟩
 · simp only [c,decide_false,Bool.false_eq_true,if_false]
   have ft:finB t=true:=by
     cases h:finB t
     · rcases (key_inf ht nt).1 h with d | d <;> omega
     · rfl
   have fh:finB dh=true:=by
     cases h:finB dh
     · rcases (key_inf h2 n2).1 h with d | d <;> omega
     · rfl
   have zh:=isZ_pos h2 (show key dh≠0 by omega)
   have e:divD t dh=divF t dh (-1):=by unfold divD;rw [divR_fin (-1) ft fh zh,Option.getD_some]
   rw [e]
   have f:=divF_facts (a:=t) (-1) zh
   obtain⟨u,hu⟩:∃u:Nat,u=1075:=⟨_,rfl⟩
   exact⟨f.1,div_nonneg ht h2 ft fh k0 k1,(div_bot hu ht ft fh zh).2,f.2.2⟩
theorem over_mid {xl xh yl yh:Nat} (h1:xl<18446744073709551616) (h2:xh<18446744073709551616) (h4:yh<18446744073709551616) (S:Some2 xl xh) (T:Some2 yl yh) (k0:key yl<0) (k1:0<key yh) (hx:¬(key xl=0∧key xh=0)) :
   ∃a b,overP xl xh yl yh=(a,b)∧Some2 a b∧a<18446744073709551616∧b<18446744073709551616∧(key xl<0→a=infI (-1))∧(0<key xh→b=infI 1):=by
 have el:lowP yl=0:=by unfold lowP;rw [lt0 T.nl,if_pos (by simp;omega)]
 have ez:∀t,leastP t 0=infI (-1):=fun t=>by
   unfold leastP
   have:eqB 0 0=true:=by decide
   rw [this];rfl
 have n5:nanB (zminus xh)=false:=by rw [zminus_nan h2];exact S.nh
 have z5:=zminus_key h2
 have ex:(eqB xl 0&&eqB xh 0)=false:=by
   rw [eq00 S.nl,eq00 S.nh]
   simp only [Bool.and_eq_false_iff,decide_eq_false_iff_not]
   by_cases c:key xl=0
   · exact Or.inr fun h=>hx ⟨c,h⟩
   · exact Or.inl c
 have A:nanB (overLo xl yl yh)=false∧overLo xl yl yh<18446744073709551616∧(key xl<0→overLo xl yl yh=infI (-1))∧(0≤key xl→0≤key (overLo xl yl yh))∧key (overLo xl yl yh)≤9218868437227405311:=by
   unfold overLo
   rw [el,ez,lt0 S.nl]
   by_cases c:key xl<0
   · simp only [c,decide_true,if_true]
     exact⟨nan_inf _,infI_lt _,fun _=>by first | rfl | trivial,fun h=>by omega,by rw [key_down];omega⟩
   · have g:=great_facts h1 h4 S.nl T.nh (by omega) S.lt k1
     simp only [c,decide_false,Bool.false_eq_true,if_false]
     exact⟨g.1,g.2.2.2,fun h=>h.elim,fun _=>g.2.1,g.2.2.1⟩
 have B:nanB (overHi xh yl yh)=false∧overHi xh yl yh<18446744073709551616∧(0<key xh→overHi xh yl yh=infI 1)∧(key xh≤0→key (overHi xh yl yh)≤0)∧-9218868437227405311≤key (overHi xh yl yh):=by
   unfold overHi
   rw [el,ez,gt0 S.nh]
   have zi:zminus (infI (-1))=infI 1:=by decide
   by_cases c:0<key xh
   · simp only [c,decide_true,if_true]
     rw [zi]
     exact⟨nan_inf _,infI_lt _,fun _=>by first | rfl | trivial,fun h=>by omega,by rw [key_up];omega⟩
   · have g:=great_facts (zminus_lt h2) h4 n5 T.nh (by omega) (by rw [z5];have:=S.gt;omega) k1
     simp only [c,decide_false,Bool.false_eq_true,if_false]
     have zk:=zminus_key g.2.2.2
     exact⟨by rw [zminus_nan g.2.2.2];exact g.1,zminus_lt g.2.2.2,fun h=>h.elim,fun _=>by rw [zk];omega,by rw [zk];omega⟩
 obtain⟨a1,a2,a3,a4,a5⟩:=A
 obtain⟨b1,b2,b3,b4,b5⟩:=B
 have ka:key xl<0→key (overLo xl yl yh)=-9218868437227405312:=fun h=>by rw [a3 h];exact key_down
 have kb:0<key xh→key (overHi xh yl yh)=9218868437227405312:=fun h=>by rw [b3 h];exact key_up
 have r1:=key_range a2 a1
 have r2:=key_range b2 b1
 have kx:=S.le
 have S2:Some2 (pz (overLo xl yl yh)) (pz (overHi xh yl yh)):=by
   refine⟨by rw [nan_pz];exact a1,by rw [nan_pz];exact b1, ?_,by rw [key_pz];omega,by rw [key_pz];omega,pz_ne _,pz_ne _⟩
   rw [key_pz,key_pz]
   by_cases c:key xl<0
   · have:=ka c;omega
   · have:=kb (by omega);omega
 refine⟨pz (overLo xl yl yh),pz (overHi xh yl yh), ?_,S2,pz_lt a2,pz_lt b2,fun h=>by rw [a3 h];decide,fun h=>by rw [b3 h];decide⟩
 unfold overP
 rw [ex]
 simp only [Bool.false_eq_true,if_false]
 rw [rends_make a1 b1 a5 b5]
 unfold makeP
 rw [hs_iff.2 S2,if_pos rfl]
theorem hull_whole {a b c d:Nat} (S:Some2 a b) (T:Some2 c d) (ha:a<18446744073709551616) (hb:b<18446744073709551616) (hc:c<18446744073709551616) (hd:d<18446744073709551616) (h:a=infI (-1)∨c=infI (-1)) (k:b=infI 1∨d=infI 1):hullP a b c d=(infI (-1),infI 1):=by
 rw [←rhull_is]
 unfold rhullP
 rw [hs_iff.2 S,hs_iff.2 T,lt_is T.nl S.nl,lt_is S.nh T.nh]
 simp only [Bool.not_true,Bool.and_self,Bool.false_eq_true,if_false,decide_eq_true_eq]
 have r1:=key_range ha S.nl
 have r2:=key_range hb S.nh
 have r3:=key_range hc T.nl
 have r4:=key_range hd T.nh
 have e1:(if key c<key a then c else a)=infI (-1):=by
   refine key_one (by by_cases q:key c<key a <;> simp only [q,if_true,if_false] <;> first | exact T.zl | exact S.zl) dn_ne ?_
   rw [key_down]
   rcases h with rfl | rfl
   · rw [key_down] at *;split <;> first | omega | exact key_down
   · rw [key_down] at *;split <;> first | omega | exact key_down
 have e2:(if key b<key d then d else b)=infI 1:=by
   refine key_one (by by_cases q:key b<key d <;> simp only [q,if_true,if_false] <;> first | exact T.zh | exact S.zh) up_ne ?_
   rw [key_up]
   rcases k with rfl | rfl
   · rw [key_up] at *;split <;> first | omega | exact key_up
   · rw [key_up] at *;split <;> first | omega | exact key_up
 rw [e1,e2]
def rdiv1 (xl xh yl yh:Nat):Nat×Nat:=if ltB 0 yh then hullP (infI 1) (infI (-1)) (overP xl xh yl yh).1 (overP xl xh yl yh).2 else (infI 1,infI (-1))
def rdiv2 (p:Nat×Nat) (xl xh yl yh:Nat):Nat×Nat:=if ltB yl 0 then hullP p.1 p.2 (overP (negP (xl,xh)).1 (negP (xl,xh)).2 (negP (yl,yh)).1 (negP (yl,yh)).2).1 (overP (negP (xl,xh)).1 (negP (xl,xh)).2 (negP (yl,yh)).1 (negP (yl,yh)).2).2 else p
def rdivP (xl xh yl yh:Nat):Nat×Nat:=if (hsB xl xh&&hsB yl yh)=false then (infI 1,infI (-1)) else rdiv2 (rdiv1 xl xh yl yh) xl xh yl yh
theorem word_zero {x:Nat} (h:key x=0) (z:x≠9223372036854775808):x=0:=by
 unfold key at h
 split at h <;> omega
theorem rdiv_is {xl xh yl yh:Nat} (h1:xl<18446744073709551616) (h2:xh<18446744073709551616) (h3:yl<18446744073709551616) (h4:yh<18446744073709551616):rdivP xl xh yl yh=divP xl xh yl yh:=by
 unfold rdivP divP
 cases hs:hsB xl xh&&hsB yl yh
 · rfl
 · rw [if_neg (by simp),if_neg (by simp)]
   obtain⟨hx,hy⟩:=Bool.and_eq_true_iff.1 hs
   have S:=hs_iff.1 hx
   have T:=hs_iff.1 hy
   have ky:=T.le
   have kx:=S.le
   obtain⟨S',k1,k2,l1,l2⟩:=mirror_some h1 h2 S
   obtain⟨T',k3,k4,l3,l4⟩:=mirror_some h3 h4 T
   have nx:negP (xl,xh)=mirrorP (xl,xh):=by unfold negP;rw [if_pos hx]
   have ny:negP (yl,yh)=mirrorP (yl,yh):=by unfold negP;rw [if_pos hy]
   unfold rdiv1 rdiv2
   rw [nx,ny,gt0 T.nh,lt0 T.nl]
   by_cases cy:key yl=0∧key yh=0
   · rw [if_pos cy,cy.1,cy.2]
     simp
   · rw [if_neg cy]
     by_cases cx:key xl=0∧key xh=0
     · rw [if_pos cx]
       have e1:=word_zero cx.1 S.zl
       have e2:=word_zero cx.2 S.zh
       subst e1 e2
       have o1:∀p q,overP 0 0 p q=(0,0):=fun p q=>by
         unfold overP
         rw [if_pos (by decide)]
       have m0:mirrorP (0,0)=(0,0):=by decide
       have g1:hullP (infI 1) (infI (-1)) 0 0=(0,0):=by decide
       have g2:hullP 0 0 0 0=(0,0):=by decide
       rw [m0,o1,o1]
       simp only [g1]
       by_cases p1:0<key yh
       · by_cases p2:key yl<0
         · simp only [p1,p2,decide_true,if_true,g2]
         · simp only [p1,p2,decide_true,decide_false,if_true,Bool.false_eq_true,if_false]
       · have p2:key yl<0:=by omega
         simp only [p1,p2,decide_true,decide_false,if_true,Bool.false_eq_true,if_false,g1]
     · rw [if_neg cx]
       by_cases p1:0≤key yl
       · have p2:¬key yl<0:=by omega
         have p3:0<key yh:=by omega
         rw [if_pos p1]
         simp only [p2,p3,decide_true,decide_false,if_true,Bool.false_eq_true,if_false]
         rw [over_is h1 h2 h3 h4 S T p1 p3 cx]
         exact hull_make _ _
       · have p2:key yl<0:=by omega
         rw [if_neg p1]
         by_cases p3:key yh≤0
         · have p4:¬0<key yh:=by omega
           rw [if_pos p3]
           simp only [p2,p4,decide_true,decide_false,if_true,Bool.false_eq_true,if_false]
           rw [over_is l1 l2 l3 l4 S' T' (by omega) (by omega) (by omega)]
           exact hull_make _ _
         · have p4:0<key yh:=by omega
           rw [if_neg p3]
           simp only [p2,p4,decide_true,if_true]
           obtain⟨a,b,e,Sa,q1,q2,q3,q4⟩:=over_mid h1 h2 h4 S T p2 p4 cx
           obtain⟨c,d,f,Sc,q5,q6,q7,q8⟩:=over_mid l1 l2 l4 S' T' (by omega) (by omega) (by omega)
           rw [e,f]
           simp only
           rw [hull_none,hs_iff.2 Sa,if_pos rfl]
           simp only
           refine hull_whole Sa Sc q1 q2 q5 q6 ?_ ?_
           · by_cases c:key xl<0
             · exact Or.inl (q3 c)
             · exact Or.inr (q7 (by omega))
           · by_cases c:0<key xh
             · exact Or.inl (q4 c)
             · exact Or.inr (q8 (by omega))
theorem rmulV_w (a b:Nat) (d:Int) (ha:a<18446744073709551616) (hb:b<18446744073709551616) (na:nanB a=false) (nb:nanB b=false) (w:World) :
   Calls Tryz.prog 59 #[.float .f64 a,.float .f64 b,.int .i64 d] w fun e w'=>e=.returned (.float .f64 (mulV a b d))∧Below w.heap.size w w' :=
 told_calls (mulV_is d na nb) (fun w=>rmul_w a b d ha hb w) w
set_option maxHeartbeats 1000000 in
theorem rmul_none (xl xh yl yh:Nat) (b1 b2:Bool)
   (c1:∀w,Calls Tryz.prog 30 #[.agg #[.float .f64 xl,.float .f64 xh]] w fun e w'=>e=.returned (.bool (!b1))∧Below w.heap.size w w')
   (c2:∀w,Calls Tryz.prog 30 #[.agg #[.float .f64 yl,.float .f64 yh]] w fun e w'=>e=.returned (.bool (!b2))∧Below w.heap.size w w')
   (hb:(b1&&b2)=false) (w:World) :
   Calls Tryz.prog 21 #[.agg #[.float .f64 xl,.float .f64 xh],.agg #[.float .f64 yl,.float .f64 yh]] w fun e w'=>e=.returned (.agg #[.float .f64 (infI 1),.float .f64 (infI (-1))])∧Below w.heap.size w w':=by
 obtain⟨X,Y,R,HB⟩:=enter2 w (.float .f64 xl) (.float .f64 xh) (.float .f64 yl) (.float .f64 yh) 24
 cases b1
 case' true=>cases b2
 case true.true=>cases hb
 all_goals
   simp only [Bool.not_true,Bool.not_false] at c1 c2
   go_enter Tryz.func21,Tryz.ntmps21
   go_wp2_with fail
   generalize ((w.alloc (.cells #[.float .f64 xl,.float .f64 xh] 24)).alloc (.cells #[.float .f64 yl,.float .f64 yh] 24)).alloc (.cells #[.float .f64 0,.float .f64 0] 24)=V0 at *
   obtain⟨x0,x1,x2,x3,x4⟩:=id X
   obtain⟨y0,y1,y2,y3,y4⟩:=id Y
   obtain⟨r0,r1,r2,r3,r4⟩:=id R
   go_wp2_with (first
     | (go_at_call_of 30 (Value.agg #[.float .f64 xl,.float .f64 xh]);refine (c1 _).mono ?_;rintro _ w1 ⟨rfl,hb1⟩;replace X:=X.keep hb1;replace Y:=Y.keep hb1;replace R:=R.keep hb1;replace HB:=later HB hb1;clear hb1 x0 x1 x2 x3 x4 y0 y1 y2 y3 y4 r0 r1 r2 r3 r4
        obtain⟨x0,x1,x2,x3,x4⟩:=id X
        obtain⟨y0,y1,y2,y3,y4⟩:=id Y
        obtain⟨r0,r1,r2,r3,r4⟩:=id R)
     | (go_at_call_of 30 (Value.agg #[.float .f64 yl,.float .f64 yh]);refine (c2 _).mono ?_;rintro _ w1 ⟨rfl,hb1⟩;replace X:=X.keep hb1;replace Y:=Y.keep hb1;replace R:=R.keep hb1;replace HB:=later HB hb1;clear hb1 x0 x1 x2 x3 x4 y0 y1 y2 y3 y4 r0 r1 r2 r3 r4
        obtain⟨x0,x1,x2,x3,x4⟩:=id X
        obtain⟨y0,y1,y2,y3,y4⟩:=id Y
        obtain⟨r0,r1,r2,r3,r4⟩:=id R)
     | (go_at_call 46;refine (rempty_w _).mono ?_;rintro _ w1 ⟨rfl,hb1⟩;replace X:=X.keep hb1;replace Y:=Y.keep hb1;replace R:=R.keep hb1;replace HB:=later HB hb1;clear hb1 x0 x1 x2 x3 x4 y0 y1 y2 y3 y4 r0 r1 r2 r3 r4
        obtain⟨x0,x1,x2,x3,x4⟩:=id X
        obtain⟨y0,y1,y2,y3,y4⟩:=id Y
        obtain⟨r0,r1,r2,r3,r4⟩:=id R))
   refine bodyPost_ret (v:=.agg #[.float .f64 (infI 1),.float .f64 (infI (-1))]) (by simp [results,Tryz.results21,go_sem, *]) rfl ⟨rfl, ?_⟩
   repeat' (first | (with_reducible exact HB) | (with_reducible refine Below.setCell ?_ ?_ _) | go_size)
def mulP (xl xh yl yh:Nat):Nat×Nat:=if hsB xl xh&&hsB yl yh then rmulP xl xh yl yh else (infI 1,infI (-1))
theorem mul_both {xl xh yl yh:Nat} (h1:xl<18446744073709551616) (h2:xh<18446744073709551616) (h3:yl<18446744073709551616) (h4:yh<18446744073709551616) (S:Some2 xl xh) (T:Some2 yl yh) :
   (∀w,Calls Tryz.prog 54 #[.agg #[.float .f64 xl,.float .f64 xh],.agg #[.float .f64 yl,.float .f64 yh]] w fun e w'=>e=.returned (.agg #[.float .f64 (rmulP xl xh yl yh).1,.float .f64 (rmulP xl xh yl yh).2])∧Below w.heap.size w w')∧(rmulP xl xh yl yh).1<18446744073709551616∧(rmulP xl xh yl yh).2<18446744073709551616:=by
 obtain⟨a,X⟩:=held_some h1 h2 S
 obtain⟨b,Y⟩:=held_some h3 h4 T
 obtain⟨m1,m2,c,Z,l1,l2,k1,k2⟩:=mul_ends X Y
 rw [rmul_is S.nl S.nh T.nl T.nh Z k1 k2]
 exact⟨c,l1,l2⟩
theorem mulP_lt {xl xh yl yh:Nat} (h1:xl<18446744073709551616) (h2:xh<18446744073709551616) (h3:yl<18446744073709551616) (h4:yh<18446744073709551616):(mulP xl xh yl yh).1<18446744073709551616∧(mulP xl xh yl yh).2<18446744073709551616:=by
 unfold mulP
 cases hs:hsB xl xh&&hsB yl yh
 · rw [if_neg (by simp)];exact⟨infI_lt 1,infI_lt (-1)⟩
 · rw [if_pos rfl]
   obtain⟨hx,hy⟩:=Bool.and_eq_true_iff.1 hs
   exact (mul_both h1 h2 h3 h4 (hs_iff.1 hx) (hs_iff.1 hy)).2
theorem Mul_w (xl xh yl yh:Nat) (h1:xl<18446744073709551616) (h2:xh<18446744073709551616) (h3:yl<18446744073709551616) (h4:yh<18446744073709551616) (w:World) :
   Calls Tryz.prog 54 #[.agg #[.float .f64 xl,.float .f64 xh],.agg #[.float .f64 yl,.float .f64 yh]] w fun e w'=>e=.returned (.agg #[.float .f64 (mulP xl xh yl yh).1,.float .f64 (mulP xl xh yl yh).2])∧Below w.heap.size w w':=by
 unfold mulP
 cases hs:hsB xl xh&&hsB yl yh
 · rw [if_neg (by simp)]
   exact mul_none xl xh yl yh h1 h2 h3 h4 hs w
 · rw [if_pos rfl]
   obtain⟨hx,hy⟩:=Bool.and_eq_true_iff.1 hs
   exact (mul_both h1 h2 h3 h4 (hs_iff.1 hx) (hs_iff.1 hy)).1 w
theorem rMul_w (xl xh yl yh:Nat) (h1:xl<18446744073709551616) (h2:xh<18446744073709551616) (h3:yl<18446744073709551616) (h4:yh<18446744073709551616) (w:World) :
   Calls Tryz.prog 21 #[.agg #[.float .f64 xl,.float .f64 xh],.agg #[.float .f64 yl,.float .f64 yh]] w fun e w'=>e=.returned (.agg #[.float .f64 (mulP xl xh yl yh).1,.float .f64 (mulP xl xh yl yh).2])∧Below w.heap.size w w':=by
 unfold mulP
 cases hs:hsB xl xh&&hsB yl yh
 · rw [if_neg (by simp)]
   exact rmul_none xl xh yl yh _ _ (fun w=>none_w xl xh h1 h2 w) (fun w=>none_w yl yh h3 h4 w) hs w
 · rw [if_pos rfl]
   obtain⟨hx,hy⟩:=Bool.and_eq_true_iff.1 hs
   have S:=hs_iff.1 hx
   have T:=hs_iff.1 hy
   have c1:=fun w=>none_w xl xh h1 h2 w
   have c2:=fun w=>none_w yl yh h3 h4 w
   rw [hx] at c1
   rw [hy] at c2
   have o1:∀{a b:Nat},a<18446744073709551616→b<18446744073709551616→out1 a b<18446744073709551616:=fun {a b} ha hb=>by unfold out1;split <;> assumption
   have o2:∀{a b:Nat},a<18446744073709551616→b<18446744073709551616→out2 a b<18446744073709551616:=fun {a b} ha hb=>by unfold out2;split <;> assumption
   have i1:=infI_lt 1
   have i2:=infI_lt (-1)
   have d1:=(mulV_facts (-1) S.nl T.nl).2
   have d2:=(mulV_facts (-1) S.nl T.nh).2
   have d3:=(mulV_facts (-1) S.nh T.nl).2
   have d4:=(mulV_facts (-1) S.nh T.nh).2
   have e1:=(mulV_facts 1 S.nl T.nl).2
   have e2:=(mulV_facts 1 S.nl T.nh).2
   have e3:=(mulV_facts 1 S.nh T.nl).2
   have e4:=(mulV_facts 1 S.nh T.nh).2
   unfold rmulP
   have q1:=o1 i1 d1
   have q2:=o1 q1 d2
   have q3:=o1 q2 d3
   have q4:=o1 q3 d4
   have p1:=o2 i2 e1
   have p2:=o2 p1 e2
   have p3:=o2 p2 e3
   have p4:=o2 p3 e4
   have ce:=fun w=>rends_core _ _ _ _ _ _ (rendsP _ _) (o_gt q4 (show 9218868437227405311<18446744073709551616 by omega)) (o_lt p4 (show 18442240474082181119<18446744073709551616 by omega)) rfl rfl (fun w=>rmake_w _ _ (by split <;> omega) (by split <;> omega) w) w
   exact rmul_core xl xh yl yh _ _ _ _ _ _ _ _ _ _ _ _ _ _ _ _ _ _ _ _ c1 c2 (fun w=>rempty_w w) (fun w=>rmulV_w _ _ _ h1 h3 S.nl T.nl w) (fun w=>rmulV_w _ _ _ h1 h3 S.nl T.nl w) (fun w=>rmulV_w _ _ _ h1 h4 S.nl T.nh w) (fun w=>rmulV_w _ _ _ h1 h4 S.nl T.nh w)
     (fun w=>rmulV_w _ _ _ h2 h3 S.nh T.nl w) (fun w=>rmulV_w _ _ _ h2 h3 S.nh T.nl w) (fun w=>rmulV_w _ _ _ h2 h4 S.nh T.nh w) (fun w=>rmulV_w _ _ _ h2 h4 S.nh T.nh w)
     (fun w=>rwider_w _ _ _ _ i1 i2 d1 e1 w) (fun w=>rwider_w _ _ _ _ q1 p1 d2 e2 w) (fun w=>rwider_w _ _ _ _ q2 p2 d3 e3 w) (fun w=>rwider_w _ _ _ _ q3 p3 d4 e4 w) ce w
def sqrP (lo hi:Nat):Nat×Nat:=if hsB lo hi then (mulV (migP lo hi) (migP lo hi) (-1),mulV (magP lo hi) (magP lo hi) 1) else (infI 1,infI (-1))
theorem sqrP_lt {lo hi:Nat} (hl:lo<18446744073709551616) (hh:hi<18446744073709551616):(sqrP lo hi).1<18446744073709551616∧(sqrP lo hi).2<18446744073709551616:=by
 unfold sqrP
 cases hs:hsB lo hi
 · rw [if_neg (by simp)];exact⟨infI_lt 1,infI_lt (-1)⟩
 · rw [if_pos rfl]
   obtain⟨-, -, -,n1,n2, -, -⟩:=mag_keys hl hh (hs_iff.1 hs)
   exact⟨(mulV_facts (-1) n1 n1).2,(mulV_facts 1 n2 n2).2⟩
set_option maxHeartbeats 1000000 in
theorem sqr_none (lo hi:Nat) (hl:lo<18446744073709551616) (hh:hi<18446744073709551616) (hs:hsB lo hi=false) (w:World) :
   Calls Tryz.prog 206 #[.agg #[.float .f64 lo,.float .f64 hi]] w fun e w'=>e=.returned (.agg #[.float .f64 (infI 1),.float .f64 (infI (-1))])∧Below w.heap.size w w':=by
 have c0:=fun b W c0 c1=>someEmpty1_w b lo hi hl hh W c0 c1
 rw [hs] at c0
 go_enter Tryz.func206,Tryz.ntmps206
 go_wp2_with (first
   | (go_at_call 103;refine (c0 (w.heap.size+1+1) _ (by go_simp) (by go_simp)).mono ?_;rintro _ w1 ⟨rfl,hb1⟩
      have R:Has2 w1 (w.heap.size+1) (.float .f64 0) (.float .f64 0):=Has2.keep ⟨by go_simp,by go_simp,by go_simp,by go_simp,by go_size⟩ hb1
      have HB:Below w.heap.size w w1:=later (by go_grown) hb1)
   | (go_at_call 76;refine (empty_w _).mono ?_;rintro _ w2 ⟨rfl,hb1⟩;replace R:=R.keep hb1;replace HB:=later HB hb1;clear hb1
      obtain⟨k0,k1,k2,k3,k4⟩:=id R))
 refine bodyPost_ret (v:=.agg #[.float .f64 (infI 1),.float .f64 (infI (-1))]) (by simp [results,Tryz.results206,go_sem, *]) rfl ⟨rfl, ?_⟩
 repeat' (first | (with_reducible exact HB) | (with_reducible refine Below.setCell ?_ ?_ _) | go_size)
theorem Sqr_w (lo hi:Nat) (hl:lo<18446744073709551616) (hh:hi<18446744073709551616) (w:World) :
   Calls Tryz.prog 206 #[.agg #[.float .f64 lo,.float .f64 hi]] w fun e w'=>e=.returned (.agg #[.float .f64 (sqrP lo hi).1,.float .f64 (sqrP lo hi).2])∧Below w.heap.size w w':=by
 unfold sqrP
 cases hs:hsB lo hi
 · rw [if_neg (by simp)]
   exact sqr_none lo hi hl hh hs w
 · rw [if_pos rfl]
   obtain⟨-, -, -,n1,n2,m1,m2⟩:=mag_keys hl hh (hs_iff.1 hs)
   have c0:=fun b W c0 c1=>someEmpty1_w b lo hi hl hh W c0 c1
   rw [hs] at c0
   exact sqr_core lo hi _ _ _ _ c0 (fun w=>mig_w lo hi hl hh w) (fun w=>mag_w lo hi hl hh w) (fun w=>mulV_w _ _ _ (by omega) (by omega) n1 n1 w) (fun w=>mulV_w _ _ _ (by omega) (by omega) n2 n2 w) w
def halfF (a:Nat):Nat:=divF a 4611686018427387904 0
theorem half_div {a:Nat} (fa:finB a=true):divR a 4611686018427387904 0=some (halfF a):=divR_fin 0 fa (by decide) (by decide)
theorem half_low {a:Nat} (ha:a<18446744073709551616) (fa:finB a=true) (k:key a≤0):key a≤key (divF a 4611686018427387904 (-1)):=by
 obtain⟨u,hu⟩:∃u:Nat,u=1074:=⟨_,rfl⟩
 obtain⟨u3,hu3⟩:∃u:Nat,u=1075:=⟨_,rfl⟩
 have r3:2^u3=2*2^u:=by rw [show u3=u+1 by omega,Nat.pow_succ,Nat.mul_comm]
 have i3:((2^u3:Nat):Int)=2*((2^u:Nat):Int):=by rw [r3];simp
 have ov:=one_val hu
 have e:=div_exact hu3 ha (b:=4607182418800017408) (by omega) ha fa (by decide) fa (by decide) (by rw [ov,i3,Int.mul_comm 2 (V (key a)),Int.mul_assoc]) (-1)
 have m:V (key 4607182418800017408)≤V (key 4611686018427387904):=V_mono_le (by decide)
 have n:=V_npos k
 clear hu hu3 r3 i3 ov
 rw [←e]
 refine div_le ha (by omega) ha (by omega) fa (by decide) fa (by decide) (by decide) (by decide) ?_
 exact Int.mul_le_mul_of_nonpos_left n m
theorem half_up {a:Nat} (ha:a<18446744073709551616) (fa:finB a=true):key (divF a 4611686018427387904 1)=- key (divF (negB a) 4611686018427387904 (-1)):=by
 have m:=div_mirror (a:=a) (b:=4611686018427387904) (by omega) fa (by decide) (by decide)
 have f:=div_flip (a:=negB a) (b:=4611686018427387904) (negB_lt ha) (by omega) (by rw [finB_negB ha];exact fa) (by decide) (by decide)
 rw [negB_negB ha] at f
 rw [m,f]
theorem half_key {a:Nat} (ha:a<18446744073709551616) (fa:finB a=true):(0≤key a→0≤key (halfF a)∧key (halfF a)≤key a)∧(key a≤0→key a≤key (halfF a)∧key (halfF a)≤0):=by
 have s:=div_sides (a:=a) (b:=4611686018427387904) ha (by omega) fa (by decide) (by decide)
 have u:=half_up ha fa
 have s1:=s.1.le
 have s2:=s.2.1.le
 have kn:=key_negB ha
 have fn:finB (negB a)=true:=by rw [finB_negB ha];exact fa
 unfold halfF
 refine⟨fun k=>⟨?_, ?_⟩,fun k=>⟨?_, ?_⟩⟩
 · have:=div_nonneg (a:=a) (b:=4611686018427387904) ha (by omega) fa (by decide) k (by decide)
   exact Int.le_trans this s1
 · have:=half_low (negB_lt ha) fn (by omega)
   omega
 · have:=half_low ha fa k
   exact Int.le_trans this s1
 · have:=div_nonneg (a:=negB a) (b:=4611686018427387904) (negB_lt ha) (by omega) fn (by decide) (by omega) (by decide)
   omega
theorem half_facts {a:Nat} (ha:a<18446744073709551616) (fa:finB a=true):nanB (halfF a)=false∧halfF a<18446744073709551616∧finB (halfF a)=true:=by
 have f:=divF_facts (a:=a) (b:=4611686018427387904) 0 (by decide)
 have k:=half_key ha fa
 have g:=fin_key ha fa
 have hd:divF a 4611686018427387904 0=halfF a:=rfl
 rw [hd] at f
 refine⟨f.1,f.2.2, ?_⟩
 cases h:finB (halfF a)
 · have:=(key_inf f.2.2 f.1).1 h
   rcases Int.le_total 0 (key a) with c | c
   · have:=k.1 c;omega
   · have:=k.2 c;omega
 · rfl
def midLo (lo:Nat):Nat:=maxW lo 18442240474082181119
def midHi (hi:Nat):Nat:=minW hi 9218868437227405311
def midM (lo hi:Nat):Nat:=addF (halfF (midLo lo)) (halfF (midHi hi)) 0
def midP (lo hi:Nat):Nat:=if hsB lo hi then (if key (midM lo hi)<key (midLo lo) then midLo lo else if key (midHi hi)<key (midM lo hi) then midHi hi else midM lo hi) else 0
theorem midM_facts (lo hi:Nat):nanB (midM lo hi)=false∧midM lo hi≠9223372036854775808∧midM lo hi<18446744073709551616:=by
 unfold midM
 exact addF_facts _ _ 0
theorem midM_is {lo hi:Nat} (f1:finB (halfF (midLo lo))=true) (f2:finB (halfF (midHi hi))=true):addR (halfF (midLo lo)) (halfF (midHi hi)) 0=some (midM lo hi):=by
 unfold midM
 exact addR_fin 0 f1 f2
theorem mid_ends {lo hi:Nat} (hl:lo<18446744073709551616) (hh:hi<18446744073709551616) (S:Some2 lo hi):(midLo lo=if eqB lo (infI (-1)) then 18442240474082181119 else lo)∧(midHi hi=if eqB hi (infI 1) then 9218868437227405311 else hi)∧finB (midLo lo)=true∧finB (midHi hi)=true∧midLo lo<18446744073709551616∧midHi hi<18446744073709551616∧midLo lo≠9223372036854775808∧midHi hi≠9223372036854775808∧key (midLo lo)≤key (midHi hi):=by
 have ei:eqB lo (infI (-1))=decide (key lo=-9218868437227405312):=by unfold eqB;rw [S.nl,nan_inf,key_down];rfl
 have ej:eqB hi (infI 1)=decide (key hi=9218868437227405312):=by unfold eqB;rw [S.nh,nan_inf,key_up];rfl
 have k1:key 18442240474082181119=-9218868437227405311:=by decide
 have k2:key 9218868437227405311=9218868437227405311:=by decide
 have g1:=nanB_key hl S.nl
 have g2:=nanB_key hh S.nh
 have sl:=S.lt
 have sg:=S.gt
 have sle:=S.le
 have F:∀{x:Nat},x<18446744073709551616→nanB x=false→key x≠9218868437227405312→key x≠-9218868437227405312→finB x=true:=fun {x} hx nx n1 n2=>by
   cases h:finB x
   · rcases (key_inf hx nx).1 h with c | c
     · exact absurd c n1
     · exact absurd c n2
   · rfl
 unfold midLo midHi
 rw [maxW_is S.zl (by omega),minW_is S.zh (by omega),ei,ej,k1,k2]
 by_cases c1:key lo < -9218868437227405311
 · have q:key lo=-9218868437227405312:=by omega
   rw [if_pos c1,decide_eq_true q,if_pos rfl]
   by_cases c2:9218868437227405311<key hi
   · have q2:key hi=9218868437227405312:=by omega
     rw [if_pos c2,decide_eq_true q2,if_pos rfl]
     exact⟨rfl,rfl,by decide,by decide,by omega,by omega,by omega,by omega,by rw [k1,k2];omega⟩
   · have q2:¬key hi=9218868437227405312:=by omega
     rw [if_neg c2,decide_eq_false q2,if_neg (by simp)]
     exact⟨rfl,rfl,by decide,F hh S.nh q2 (by omega),by omega,hh,by omega,S.zh,by rw [k1];omega⟩
 · have q:¬key lo=-9218868437227405312:=by omega
   rw [if_neg c1,decide_eq_false q,if_neg (by simp)]
   by_cases c2:9218868437227405311<key hi
   · have q2:key hi=9218868437227405312:=by omega
     rw [if_pos c2,decide_eq_true q2,if_pos rfl]
     exact⟨rfl,rfl,F hl S.nl (by omega) q,by decide,hl,by omega,S.zl,by omega,by rw [k2];omega⟩
   · have q2:¬key hi=9218868437227405312:=by omega
     rw [if_neg c2,decide_eq_false q2,if_neg (by simp)]
     exact⟨rfl,rfl,F hl S.nl (by omega) q,F hh S.nh q2 (by omega),hl,hh,S.zl,S.zh,sle⟩
set_option maxHeartbeats 1000000 in
theorem mid_core (lo hi l h p q m x r:Nat) (b:Bool)
   (c0:∀b' W,W.cell? ⟨b',0,none⟩=some (.float .f64 lo)→W.cell? ⟨b',1,none⟩=some (.float .f64 hi)→Calls Tryz.prog 103 #[.slice (some ⟨b',0,none⟩) 1 1] W fun e w'=>e=.returned (.bool (!b))∧Below W.heap.size W w')
   (m1:b=true→∀ts t w,(Builtin.max_ ts t #[.float .f64 lo,.float .f64 18442240474082181119]).run Tryz.prog w=.ok (.float .f64 l) w)
   (m2:b=true→∀ts t w,(Builtin.min_ ts t #[.float .f64 hi,.float .f64 9218868437227405311]).run Tryz.prog w=.ok (.float .f64 h) w)
   (c1:b=true→∀w,Calls Tryz.prog 210 #[.float .f64 l,.float .f64 4611686018427387904,.int .i64 0] w fun e w'=>e=.returned (.float .f64 p)∧Below w.heap.size w w')
   (c2:b=true→∀w,Calls Tryz.prog 210 #[.float .f64 h,.float .f64 4611686018427387904,.int .i64 0] w fun e w'=>e=.returned (.float .f64 q)∧Below w.heap.size w w')
   (c3:b=true→∀w,Calls Tryz.prog 121 #[.float .f64 p,.float .f64 q,.int .i64 0] w fun e w'=>e=.returned (.float .f64 m)∧Below w.heap.size w w')
   (m3:b=true→∀ts t w,(Builtin.max_ ts t #[.float .f64 m,.float .f64 l]).run Tryz.prog w=.ok (.float .f64 x) w)
   (m4:b=true→∀ts t w,(Builtin.min_ ts t #[.float .f64 x,.float .f64 h]).run Tryz.prog w=.ok (.float .f64 r) w) (w:World) :
   Calls Tryz.prog 150 #[.agg #[.float .f64 lo,.float .f64 hi]] w fun e w'=>e=.returned (.float .f64 (if b then r else 0))∧Below w.heap.size w w':=by
 cases b
 · clear m1 m2 m3 m4 c1 c2 c3
   simp only [Bool.not_false,Bool.false_eq_true,if_false] at c0 ⊢
   go_enter Tryz.func150,Tryz.ntmps150
   go_wp2_with (go_at_call 103;refine (c0 (w.heap.size+1) _ (by go_simp) (by go_simp)).mono ?_;rintro _ w1 ⟨rfl,hb1⟩)
   go_ret
   exact⟨rfl,later (by go_grown) hb1⟩
 · replace m1:=m1 rfl
   replace m2:=m2 rfl
   replace m3:=m3 rfl
   replace m4:=m4 rfl
   replace c1:=c1 rfl
   replace c2:=c2 rfl
   replace c3:=c3 rfl
   simp only [Bool.not_true,if_true] at c0 ⊢
   go_enter Tryz.func150,Tryz.ntmps150
   go_upto_region 3 with
    (go_at_call 103;refine (c0 (w.heap.size+1) _ (by go_simp) (by go_simp)).mono ?_;rintro _ w1 ⟨rfl,hb1⟩
     have X:Has2 w1 w.heap.size (.float .f64 lo) (.float .f64 hi):=Has2.keep ⟨by go_simp,by go_simp,by go_simp,by go_simp,by go_size⟩ hb1
     have HB:Below w.heap.size w w1:=later (by go_grown) hb1)
   clear hb1 c0
   have kx0:=fun n:Behind w1=>n.cell X.1 X.2.2.2.2
   have kx1:=fun n:Behind w1=>n.cell X.2.1 X.2.2.2.2
   refine region_behind (by kernel_rfl) (by kernel_rfl) ?_
   repeat (go_big_quiet_step (fail))
   refine wpQuiet_nil ?_
   rintro _ ⟨n,rfl⟩
   obtain⟨W,hb1⟩:=n
   dsimp only
   clear kx0 kx1
   replace HB:=later HB hb1
   clear hb1
   go_wp2_with (first
     | (go_at_call_of 210 (Value.float .f64 l);refine (c1 _).mono ?_;rintro _ w2 ⟨rfl,hb1⟩;replace HB:=later HB hb1;clear hb1)
     | (go_at_call 210;refine (c2 _).mono ?_;rintro _ w2 ⟨rfl,hb1⟩;replace HB:=later HB hb1;clear hb1)
     | (go_at_call 121;refine (c3 _).mono ?_;rintro _ w2 ⟨rfl,hb1⟩;replace HB:=later HB hb1;clear hb1))
   go_ret
   exact⟨rfl,HB⟩
theorem Mid_w (lo hi:Nat) (hl:lo<18446744073709551616) (hh:hi<18446744073709551616) (w:World):Calls Tryz.prog 150 #[.agg #[.float .f64 lo,.float .f64 hi]] w fun e w'=>e=.returned (.float .f64 (midP lo hi))∧Below w.heap.size w w':=by
 have c0:=fun b W c0 c1=>someEmpty1_w b lo hi hl hh W c0 c1
 have E:=fun h=>mid_ends hl hh (hs_iff.1 h)
 have P:=fun h=>half_facts (E h).2.2.2.2.1 (E h).2.2.1
 have Q:=fun h=>half_facts (E h).2.2.2.2.2.1 (E h).2.2.2.1
 have N:=fun h=>fin_not_nan (E h).2.2.1
 have O:=fun h=>fin_not_nan (E h).2.2.2.1
 have M:=midM_facts lo hi
 have X:hsB lo hi=true→minW (maxW (midM lo hi) (midLo lo)) (midHi hi)=(if key (midM lo hi)<key (midLo lo) then midLo lo else if key (midHi hi)<key (midM lo hi) then midHi hi else midM lo hi):=fun h=>by
   have k:=(E h).2.2.2.2.2.2.2.2
   rw [maxW_is M.2.1 (E h).2.2.2.2.2.2.1]
   by_cases c:key (midM lo hi)<key (midLo lo)
   · rw [if_pos c,if_pos c,minW_is (E h).2.2.2.2.2.2.1 (E h).2.2.2.2.2.2.2.1,if_neg (by omega)]
   · rw [if_neg c,if_neg c,minW_is M.2.1 (E h).2.2.2.2.2.2.2.1]
 have q:=mid_core lo hi (midLo lo) (midHi hi) (halfF (midLo lo)) (halfF (midHi hi)) (midM lo hi) (maxW (midM lo hi) (midLo lo)) (minW (maxW (midM lo hi) (midLo lo)) (midHi hi)) (hsB lo hi) c0
   (fun h ts t w=>max_f hl (by omega) (hs_nan h).1 (by decide) _ ts t w) (fun h ts t w=>min_f hh (by omega) (hs_nan h).2 (by decide) _ ts t w)
   (fun h=>told_calls (half_div (E h).2.2.1) (fun w=>div_w _ _ 0 (E h).2.2.2.2.1 (by omega) w)) (fun h=>told_calls (half_div (E h).2.2.2.1) (fun w=>div_w _ _ 0 (E h).2.2.2.2.2.1 (by omega) w))
   (fun h=>told_calls (midM_is (P h).2.2 (Q h).2.2) (fun w=>add_w _ _ 0 (P h).2.1 (Q h).2.1 w))
   (fun h ts t w=>max_f M.2.2 (E h).2.2.2.2.1 M.1 (N h) _ ts t w)
   (fun h ts t w=>min_f (by rw [maxW_is M.2.1 (E h).2.2.2.2.2.2.1];split;exact (E h).2.2.2.2.1;exact M.2.2) (E h).2.2.2.2.2.1 (by rw [maxW_is M.2.1 (E h).2.2.2.2.2.2.1];split;exact N h;exact M.1) (O h) _ ts t w) w
 unfold midP
 cases h:hsB lo hi
 · rw [h,if_neg (by simp)] at q
   rw [if_neg (by simp)]
   exact q
 · rw [h,if_pos rfl] at q
   rw [if_pos rfl,←X h]
   exact q
structure In (xl xh ul uh:Nat):Prop where
 S:Some2 xl xh
 T:Some2 ul uh
 kl:key ul≤key xl
 kh:key xh≤key uh
 a1:xl<18446744073709551616
 a2:xh<18446744073709551616
 b1:ul<18446744073709551616
 b2:uh<18446744073709551616
def Gr (p q:Nat×Nat):Prop:=(p=(infI 1,infI (-1))∧(q=(infI 1,infI (-1))∨Some2 q.1 q.2))∨(Some2 p.1 p.2∧Some2 q.1 q.2∧key q.1≤key p.1∧key p.2≤key q.2)
theorem empty_some:hsB (infI 1) (infI (-1))=false:=by decide
theorem gr_empty:Gr (infI 1,infI (-1)) (infI 1,infI (-1)):=Or.inl ⟨rfl,Or.inl rfl⟩
theorem gr_some {p q:Nat×Nat} (S:Some2 p.1 p.2) (T:Some2 q.1 q.2) (k1:key q.1≤key p.1) (k2:key p.2≤key q.2):Gr p q:=Or.inr ⟨S,T,k1,k2⟩
theorem In.refl {xl xh:Nat} (h1:xl<18446744073709551616) (h2:xh<18446744073709551616) (S:Some2 xl xh):In xl xh xl xh:=⟨S,S,Int.le_refl _,Int.le_refl _,h1,h2,h1,h2⟩
theorem neg_in {xl xh ul uh:Nat} (X:In xl xh ul uh):In (negP (xl,xh)).1 (negP (xl,xh)).2 (negP (ul,uh)).1 (negP (ul,uh)).2:=by
 have e1:negP (xl,xh)=mirrorP (xl,xh):=by unfold negP;rw [if_pos (hs_iff.2 X.S)]
 have e2:negP (ul,uh)=mirrorP (ul,uh):=by unfold negP;rw [if_pos (hs_iff.2 X.T)]
 obtain⟨S,k1,k2,l1,l2⟩:=mirror_some X.a1 X.a2 X.S
 obtain⟨T,k3,k4,l3,l4⟩:=mirror_some X.b1 X.b2 X.T
 have h1:=X.kl
 have h2:=X.kh
 rw [e1,e2]
 exact⟨S,T,by omega,by omega,l1,l2,l3,l4⟩
theorem inf_nz {x:Nat} (h:finB x=false):isZ x=false:=by
 unfold finB at h;unfold isZ;simp at h ⊢;omega
theorem exD_exQ (g:Bool) (A P:Int) {D:Nat} (hD:0<D):exD (A*P) (if g then -(D:Int) else D)=exQ ((if g then -A else A)*P) D:=by
 unfold exD exQ
 cases g
 · have h:¬(D:Int)<0:=by omega
   simp only [Bool.false_eq_true,if_false,h]
 · have h:-(D:Int)<0:=by omega
   simp only [if_true,h]
   have e:-A*P=-(A*P):=Int.neg_mul _ _
   rw [e]
   congr 1
   · funext t
     rw [Int.mul_neg]
     exact propext ⟨fun q=>by omega,fun q=>by omega⟩
   · funext t
     rw [Int.mul_neg]
     exact propext ⟨fun q=>by omega,fun q=>by omega⟩
theorem rdiv_nan (a b:Nat) (dir:Int) (ha:a<18446744073709551616) (hb:b<18446744073709551616) (h:nanB a=true∨nanB a=false∧nanB b=true∨nanB a=false∧nanB b=false∧(FloatKind.f64.format.order b 0==some .eq)=true) (w:World) :
   Calls Tryz.prog 157 #[.float .f64 a,.float .f64 b,.int .i64 dir] w fun x w'=>Ans none x∧Below w.heap.size w w':=by
 rcases h with h | ⟨h1,h2⟩ | ⟨h1,h2,h3⟩
 all_goals
   go_enter Tryz.func157,Tryz.ntmps157
   go_wp2_with (first | (go_at_call 41;refine (isNum_w _ (by assumption) _).mono ?_;rintro _ _ ⟨rfl,rfl⟩) | (go_at_call 116;refine (nan_w _).mono ?_;rintro _ _ ⟨rfl,rfl⟩))
   go_ret
   exact⟨ans_nan,Below.refl _ _⟩
set_option maxHeartbeats 400000 in
theorem rdiv_nans (a b:Nat) (dir:Int) (ha:a<18446744073709551616) (hb:b<18446744073709551616) (na:nanB a=false) (nb:nanB b=false) (zb:(FloatKind.f64.format.order b 0==some .eq)=false) (fa:finB a=false) (fb:finB b=false) (w:World) :
   Calls Tryz.prog 157 #[.float .f64 a,.float .f64 b,.int .i64 dir] w fun x w'=>Ans none x∧Below w.heap.size w w':=by
 have ca:=fun w=>rfinite_w a ha w
 have cb:=fun w=>rfinite_w b hb w
 rw [fa] at ca
 rw [fb] at cb
 have HB:Below w.heap.size w w:=Below.refl _ _
 go_enter Tryz.func157,Tryz.ntmps157
 go_wp2_with (first
   | (go_at_call 41;refine (isNum_w _ (by assumption) _).mono ?_;rintro _ _ ⟨rfl,rfl⟩)
   | (go_at_call 116;refine (nan_w _).mono ?_;rintro _ _ ⟨rfl,rfl⟩)
   | (go_at_call_of 117 (Value.float .f64 a);refine (ca _).mono ?_;rintro _ w1 ⟨rfl,hb1⟩;replace HB:=later HB hb1;clear hb1)
   | (go_at_call_of 117 (Value.float .f64 b);refine (cb _).mono ?_;rintro _ w2 ⟨rfl,hb1⟩;replace HB:=later HB hb1;clear hb1))
 go_ret
 exact⟨ans_nan,HB⟩
set_option maxHeartbeats 400000 in
theorem rdiv_inf (a b:Nat) (dir:Int) (ha:a<18446744073709551616) (hb:b<18446744073709551616) (na:nanB a=false) (nb:nanB b=false) (zb:isZ b=false) (fa:finB a=false) (fb:finB b=true) (w:World) :
   Calls Tryz.prog 157 #[.float .f64 a,.float .f64 b,.int .i64 dir] w fun x w'=>x=.returned (.float .f64 (infW (signB a != signB b)))∧Below w.heap.size w w':=by
 have ca:=fun w=>rfinite_w a ha w
 have cb:=fun w=>rfinite_w b hb w
 rw [fa] at ca
 rw [fb] at cb
 have HB:Below w.heap.size w w:=Below.refl _ _
 rcases sign_order ha na (inf_nz fa) with ⟨oa,sa⟩ | ⟨oa,sa⟩ <;> rcases sign_order hb nb zb with ⟨ob,sb⟩ | ⟨ob,sb⟩
 all_goals
   rw [sa,sb]
   clear sa sb zb
   go_enter Tryz.func157,Tryz.ntmps157
   go_wp2_with (first
     | (go_at_call 41;refine (isNum_w _ (by assumption) _).mono ?_;rintro _ _ ⟨rfl,rfl⟩)
     | (go_at_call_of 117 (Value.float .f64 a);refine (ca _).mono ?_;rintro _ w1 ⟨rfl,hb1⟩;replace HB:=later HB hb1;clear hb1)
     | (go_at_call_of 117 (Value.float .f64 b);refine (cb _).mono ?_;rintro _ w2 ⟨rfl,hb1⟩;replace HB:=later HB hb1;clear hb1)
     | (go_at_call 118;refine (rinf_w' _ _).mono ?_;rintro _ _ ⟨rfl,rfl⟩))
   go_ret
   exact⟨rfl,HB⟩
set_option maxHeartbeats 400000 in
theorem rdiv_zero (a b:Nat) (dir:Int) (ha:a<18446744073709551616) (hb:b<18446744073709551616) (na:nanB a=false) (nb:nanB b=false) (zb:(FloatKind.f64.format.order b 0==some .eq)=false) (fa:finB a=true) (fb:finB b=false) (w:World) :
   Calls Tryz.prog 157 #[.float .f64 a,.float .f64 b,.int .i64 dir] w fun x w'=>x=.returned (.float .f64 0)∧Below w.heap.size w w':=by
 have ca:=fun w=>rfinite_w a ha w
 have cb:=fun w=>rfinite_w b hb w
 rw [fa] at ca
 rw [fb] at cb
 have HB:Below w.heap.size w w:=Below.refl _ _
 go_enter Tryz.func157,Tryz.ntmps157
 go_wp2_with (first
   | (go_at_call 41;refine (isNum_w _ (by assumption) _).mono ?_;rintro _ _ ⟨rfl,rfl⟩)
   | (go_at_call_of 117 (Value.float .f64 a);refine (ca _).mono ?_;rintro _ w1 ⟨rfl,hb1⟩;replace HB:=later HB hb1;clear hb1)
   | (go_at_call_of 117 (Value.float .f64 b);refine (cb _).mono ?_;rintro _ w2 ⟨rfl,hb1⟩;replace HB:=later HB hb1;clear hb1))
 go_ret
 exact⟨rfl,HB⟩
set_option maxHeartbeats 1000000 in
theorem rdiv_fin (a b:Nat) (dir:Int) (ha:a<18446744073709551616) (hb:b<18446744073709551616) (fa:finB a=true) (fb:finB b=true) (zb:isZ b=false) (hlt:divF a b dir<18446744073709551616) (hnz:divF a b dir≠9223372036854775808) (w:World) :
   Calls Tryz.prog 157 #[.float .f64 a,.float .f64 b,.int .i64 dir] w fun x w'=>x=.returned (.float .f64 (divF a b dir))∧Below w.heap.size w w':=by
 have ca:=fun w=>rfinite_w a ha w
 have cb:=fun w=>rfinite_w b hb w
 rw [fa] at ca
 rw [fb] at cb
 have na:=fin_num fa
 have nb:=fin_num fb
 have f0:=fun w=>float_z a ha fa w
 have f1:=fun w=>float_z b hb fb w
 have ob:=ord_zero hb nb
 rw [zb] at ob
 obtain⟨u,hu⟩:∃u:Nat,u=1075:=⟨_,rfl⟩
 have hr:=divF_is dir hu ha fa fb zb
 have hok:=ofKey_key hlt hnz
 have hD:0<val (b%9223372036854775808):=by
   have h0:b%9223372036854775808≠0:=by unfold isZ at zb;simpa using zb
   have:=val_mono (show 0<b%9223372036854775808 by omega)
   rw [val_zero] at this
   exact this
 clear hlt hnz
 have vb:=V_sign hb fb
 generalize divF a b dir=M at *
 have cr:∀W (g0:Bool) (o0:Option Addr) (l0 p0:Nat) (e0:Int) (g1:Bool) (o1:Option Addr) (l1 p1:Nat) (e1:Int),NumZ (-1074) 971 53 W (.agg #[.bool g0,.slice o0 l0 p0,.int .i64 e0]) (V (key a))→NumZ (-1074) 971 53 W (.agg #[.bool g1,.slice o1 l1 p1,.int .i64 e1]) (V (key b)) →
     Calls Tryz.prog 170 #[.agg #[.bool g0,.slice o0 l0 p0,.int .i64 e0,.bool g1,.slice o1 l1 p1,.int .i64 e1,.bool false],.int .i64 dir] W fun r w'=>r=.returned (.float .f64 M)∧Below W.heap.size W w':=by
   intro W g0 o0 l0 p0 e0 g1 o1 l1 p1 e1 h0 h1
   rw [←hok]
   refine rounded_x (exQ_ok _ hD) hr ⟨g0,o0,l0,p0,e0,g1,o1,l1,p1,e1,false,rfl,Or.inl ⟨rfl, -1074,V (key a)*((2^u:Nat):Int),V (key b),by omega,by omega, ?_,h1.wide (by omega) (by omega), ?_⟩⟩
   · exact (h0.scale (S':=-1074-1075) (t:=u) (by omega)).wide (by omega) (by omega)
   · rw [vb,exD_exQ _ _ _ hD]
 clear hr hok hu hD vb
 generalize V (key a)=A at *
 generalize V (key b)=B at *
 have HB:Below w.heap.size w w:=Below.refl _ _
 go_enter Tryz.func157,Tryz.ntmps157
 go_wp2_with (first
   | (go_at_call 41;refine (isNum_w _ (by assumption) _).mono ?_;rintro _ _ ⟨rfl,rfl⟩)
   | (go_at_call_of 117 (Value.float .f64 a);refine (ca _).mono ?_;rintro _ w1 ⟨rfl,hb1⟩;replace HB:=later HB hb1;clear hb1)
   | (go_at_call_of 117 (Value.float .f64 b);refine (cb _).mono ?_;rintro _ w2 ⟨rfl,hb1⟩;replace HB:=later HB hb1;clear hb1)
   | (go_at_call_of 91 (Value.float .f64 a);refine (f0 _).mono ?_;rintro _ w3 ⟨⟨v0,rfl,hv0⟩,hb1⟩;obtain⟨g0,o0,l0,p0,e0,rfl⟩:=hv0.shape;replace HB:=later HB hb1;clear hb1)
   | (go_at_call_of 91 (Value.float .f64 b);refine (f1 _).mono ?_;rintro _ w4 ⟨⟨v1,rfl,hv1⟩,hb1⟩;obtain⟨g1,o1,l1,p1,e1,rfl⟩:=hv1.shape;replace HB:=later HB hb1;replace hv0:=hv0.keep hb1;clear hb1)
   | (go_at_call 170;refine (cr _ _ _ _ _ _ _ _ _ _ _ hv0 hv1).mono ?_;rintro _ w6 ⟨rfl,hb1⟩;replace HB:=later HB hb1;clear hb1))
 go_ret
 exact⟨rfl,HB⟩
theorem rdiv_w (a b:Nat) (dir:Int) (ha:a<18446744073709551616) (hb:b<18446744073709551616) (w:World) :
   Calls Tryz.prog 157 #[.float .f64 a,.float .f64 b,.int .i64 dir] w fun x w'=>Ans (divR a b dir) x∧Below w.heap.size w w':=by
 unfold divR
 cases na:nanB a
 · cases nb:nanB b
   · have ob:=ord_zero hb nb
     cases zb:isZ b
     · rw [zb] at ob
       simp only [Bool.or_self,Bool.false_eq_true,if_false]
       cases fa:finB a
       · simp only [Bool.not_false,if_true]
         cases fb:finB b
         · simp only [Bool.not_false,if_true]
           exact rdiv_nans a b dir ha hb na nb ob fa fb w
         · simp only [Bool.not_true,Bool.false_eq_true,if_false]
           exact (rdiv_inf a b dir ha hb na nb zb fa fb w).mono fun x w' h=>⟨⟨_,h.1,infW_lt _,rfl⟩,h.2⟩
       · cases fb:finB b
         · simp only [Bool.not_true,Bool.false_eq_true,if_false,Bool.not_false,if_true]
           exact (rdiv_zero a b dir ha hb na nb ob fa fb w).mono fun x w' h=>⟨⟨_,h.1,by omega,rfl⟩,h.2⟩
         · simp only [Bool.not_true,Bool.false_eq_true,if_false]
           have hm:=roundN_facts (splitG a != splitG b) _ (quoE (splitM a) (splitE a) (splitM b) (splitE b)) dir (divM_lt (a:=a) zb)
           exact (rdiv_fin a b dir ha hb fa fb zb hm.2.2 hm.2.1 w).mono fun x w' h=>⟨⟨_,h.1,hm.2.2,rfl⟩,h.2⟩
     · rw [zb] at ob
       simp only [Bool.or_true,if_true]
       exact rdiv_nan a b dir ha hb (Or.inr (Or.inr ⟨na,nb,ob⟩)) w
   · simp only [Bool.or_true,Bool.true_or,if_true]
     exact rdiv_nan a b dir ha hb (Or.inr (Or.inl ⟨na,nb⟩)) w
 · simp only [Bool.true_or,if_true]
   exact rdiv_nan a b dir ha hb (Or.inl na) w
end Go.Proofs.YtopfabemfbdccaaGreat
