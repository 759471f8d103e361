/- Plain facts on powers: products, one by one, rounded to a side; the reference's amounts. Quotients of intervals: what the program's Div answers, word for word, and what the reference's Div, as a function, is: the same. -/
import Derived.Test.YtgfppdboogldlaaGreatZs13
import Derived.Test.YtgfppdboogldlaaGreatZs16
namespace Go.Proofs.YtgfppdboogldlaaGreat
open Go.ChangeShapes Go.WideShapes Go.ChangeAt Go.RowKit
theorem fin_of {x:Nat} (hx:x<18446744073709551616) (nx:nanB x=false) (k0:0≤key x) (k1:key x≤9218868437227405311):finB x=true:=by
 cases h:finB x
 · rcases (key_inf hx nx).1 h with d | d <;> omega
 · rfl
def shrinkP (xl xh dl dh:Nat):Nat×Nat:=makeP (lqP xl dl dh) (negB (lqP (negB xh) dl dh))
def divP (xl xh yl yh:Nat):Nat×Nat :=
 if (hsB xl xh&&hsB yl yh)=false then (infI 1,infI (-1)) else if key yl=0∧key yh=0 then (infI 1,infI (-1)) else if key xl=0∧key xh=0 then (0,0)
 else if 0≤key yl then shrinkP xl xh yl yh else if key yh≤0 then shrinkP (mirrorP (xl,xh)).1 (mirrorP (xl,xh)).2 (mirrorP (yl,yh)).1 (mirrorP (yl,yh)).2 else (infI (-1),infI 1)
theorem held_pos {lo hi:Nat} (hl:lo<18446744073709551616) (hh:hi<18446744073709551616) (S:Some2 lo hi) (k0:0≤key lo) (k1:0<key hi):∃b,Held lo hi b∧0<key b:=by
 obtain⟨b,H,hb⟩:=held_nonzero hl hh S (by omega)
 have:=H.kl
 exact⟨b,H,by omega⟩
theorem shrink_w {xl xh dl dh:Nat} (h1:xl<18446744073709551616) (h2:xh<18446744073709551616) (h3:dl<18446744073709551616) (h4:dh<18446744073709551616) (S:Some2 xl xh) (T:Some2 dl dh) (k0:0≤key dl) (k1:0<key dh) :
   (∀w,Calls Tryz.prog 153 #[.agg #[.float .f64 xl,.float .f64 xh],.agg #[.float .f64 dl,.float .f64 dh]] w fun e w'=>e=.returned (.agg #[.float .f64 (shrinkP xl xh dl dh).1,.float .f64 (shrinkP xl xh dl dh).2])∧Below w.heap.size w w') ∧
   key (lqP xl dl dh)≤9218868437227405311∧key (lqP (negB xh) dl dh)≤9218868437227405311∧lqP xl dl dh<18446744073709551616∧lqP (negB xh) dl dh<18446744073709551616∧nanB (lqP xl dl dh)=false∧nanB (lqP (negB xh) dl dh)=false:=by
 obtain⟨a,X⟩:=held_some h1 h2 S
 obtain⟨b,D,kb⟩:=held_pos h3 h4 T k0 k1
 have zb:=isZ_pos D.hv (by omega)
 obtain⟨p1,p2,l1⟩:=lq_some X.hl D.hl D.hh X.hv D.hv X.nl D.nl D.nh X.fv D.fv k0 X.kl D.kl D.kh kb
 have n5:nanB (negB xh)=false:=by rw [nanB_negB X.hh];exact X.nh
 have fn:finB (negB a)=true:=by rw [finB_negB X.hv];exact X.fv
 obtain⟨q1,q2,l2⟩:=lq_some (negB_lt X.hh) D.hl D.hh (negB_lt X.hv) D.hv n5 D.nl D.nh fn D.fv k0 (by rw [key_negB X.hh,key_negB X.hv];have:=X.kh;omega) D.kl D.kh kb
 obtain⟨u,hu⟩:∃u:Nat,u=1075:=⟨_,rfl⟩
 have t1:=(div_bot hu X.hv X.fv D.fv zb).2
 have t2:=(div_bot hu (negB_lt X.hv) fn D.fv zb).2
 have r1:=l1.le
 have r2:=l2.le
 refine⟨fun w=>shrink_core xl xh dl dh (negB xh) (lqP xl dl dh) (lqP (negB xh) dl dh) (negB (lqP (negB xh) dl dh)) _ _ (negFloat_eq xh X.hh) (negFloat_eq _ l2.r1)
   (fun w=>lq_w xl dl dh X.hl D.hl D.hh p1 p2 w) (fun w=>lq_w (negB xh) dl dh (negB_lt X.hh) D.hl D.hh q1 q2 w) (fun w=>make_w _ _ l1.r1 (negB_lt l2.r1) w) w,Int.le_trans r1 t1,Int.le_trans r2 t2,l1.r1,l2.r1,l1.r2,l2.r2⟩
theorem mirror_some {lo hi:Nat} (hl:lo<18446744073709551616) (hh:hi<18446744073709551616) (S:Some2 lo hi):Some2 (mirrorP (lo,hi)).1 (mirrorP (lo,hi)).2∧key (mirrorP (lo,hi)).1=- key hi∧key (mirrorP (lo,hi)).2=- key lo∧(mirrorP (lo,hi)).1<18446744073709551616∧(mirrorP (lo,hi)).2<18446744073709551616:=by
 obtain⟨a,X⟩:=held_some hl hh S
 obtain⟨N,k1,k2⟩:=held_neg X
 have w:=mirror_words X
 have e1:(mirrorP (lo,hi)).1=pz (negB hi):=by rw [w]
 have e2:(mirrorP (lo,hi)).2=pz (negB lo):=by rw [w]
 refine⟨⟨N.nl,N.nh,by rw [k1,k2];have:=S.le;omega,by rw [k1];have:=S.gt;omega,by rw [k2];have:=S.lt;omega,by rw [e1];exact pz_ne _,by rw [e2];exact pz_ne _⟩,k1,k2,N.hl,N.hh⟩
theorem o_key {x:Nat} (hx:x<18446744073709551616) (hn:nanB x=false):(key x<0→FloatKind.f64.format.order x 0=some .lt)∧(key x=0→FloatKind.f64.format.order x 0=some .eq)∧(0<key x→FloatKind.f64.format.order x 0=some .gt):=by
 have o:=order_key hx hn
 refine⟨fun h=>by rw [o,if_pos h],fun h=>by rw [o,if_neg (by omega),if_pos h],fun h=>by rw [o,if_neg (by omega),if_neg (by omega)]⟩
set_option maxHeartbeats 2000000 in
theorem div_none (xl xh yl yh:Nat) (h1:xl<18446744073709551616) (h2:xh<18446744073709551616) (h3:yl<18446744073709551616) (h4:yh<18446744073709551616) (hs:(hsB xl xh&&hsB yl yh)=false) (w:World) :
   Calls Tryz.prog 142 #[.agg #[.float .f64 xl,.float .f64 xh],.agg #[.float .f64 yl,.float .f64 yh]] w fun e w'=>e=.returned (.agg #[.float .f64 (infI 1),.float .f64 (infI (-1))])∧Below w.heap.size w w':=by
 have c0:=fun b W hlt c0 c1 c2 c3=>someEmpty2_w b xl xh yl yh h1 h2 h3 h4 W hlt c0 c1 c2 c3
 rw [hs] at c0
 clear hs h1 h2 h3 h4
 have cz:=point0_w
 go_enter Tryz.func142,Tryz.ntmps142
 go_upto_region 2 with
  (go_at_call 98;refine (cz _).mono ?_;rintro _ w1 ⟨rfl,hb1⟩
   have R:Has2 w1 (w.heap.size+1+1) (.float .f64 0) (.float .f64 0):=Has2.keep ⟨by go_simp,by go_simp,by go_simp,by go_simp,by go_size⟩ hb1
   have X:Has2 w1 w.heap.size (.float .f64 xl) (.float .f64 xh):=Has2.keep ⟨by go_simp,by go_simp,by go_simp,by go_simp,by go_size⟩ hb1
   have Y:Has2 w1 (w.heap.size+1) (.float .f64 yl) (.float .f64 yh):=Has2.keep ⟨by go_simp,by go_simp,by go_simp,by go_simp,by go_size⟩ hb1
   have HB:Below w.heap.size w w1:=later (by go_grown) hb1)
 clear hb1 cz
 have Z:Has2 (w1.alloc (Obj.cells #[Value.float FloatKind.f64 0,Value.float FloatKind.f64 0] 43)) w1.heap.size (.float .f64 0) (.float .f64 0):=⟨by go_simp,by go_simp,by go_simp,by go_simp,by go_size⟩
 have BL:Below w1.heap.size w1 (w1.alloc (Obj.cells #[Value.float FloatKind.f64 0,Value.float FloatKind.f64 0] 43)):=(Below.refl _ _).alloc (Nat.le_refl _) _
 replace X:=X.keep BL
 replace Y:=Y.keep BL
 replace R:=R.keep BL
 replace HB:=later HB BL
 clear BL
 generalize w1.heap.size=zb at *
 generalize (w1.alloc (Obj.cells #[Value.float FloatKind.f64 0,Value.float FloatKind.f64 0] 43))=W1 at *
 have x0:=X.1
 have x1:=X.2.1
 have y0:=Y.1
 have y1:=Y.2.1
 have ne1:w.heap.size+1+1≠w.heap.size:=by omega
 have ne2:w.heap.size≠w.heap.size+1+1:=by omega
 go_wp2_with (first
  | (go_at_call 114;refine (c0 W1.heap.size _ (by go_size) (by go_simp) (by go_simp) (by go_simp) (by go_simp)).mono ?_;rintro _ w2 ⟨rfl,hb2⟩
     replace HB:Below w.heap.size w w2:=later (HB.alloc HB.size _) hb2
     replace R:=(R.keep ((Below.refl _ _).alloc (Nat.le_refl _) _)).keep hb2
     replace X:=(X.keep ((Below.refl _ _).alloc (Nat.le_refl _) _)).keep hb2
     replace Y:=(Y.keep ((Below.refl _ _).alloc (Nat.le_refl _) _)).keep hb2
     replace Z:=(Z.keep ((Below.refl _ _).alloc (Nat.le_refl _) _)).keep hb2
     replace x0:=X.1
     replace x1:=X.2.1
     replace y0:=Y.1
     replace y1:=Y.2.1
     have w0:=Z.1
     have w1':=Z.2.1
     clear hb2)
  | (go_at_call 60;refine (empty_w _).mono ?_;rintro _ w3 ⟨rfl,hb1⟩;replace X:=X.keep hb1;replace Y:=Y.keep hb1;replace R:=R.keep hb1;replace HB:=later HB hb1;clear hb1;obtain⟨d0,d1,d2,d3,d4⟩:=R))
 all_goals
   refine bodyPost_ret (v:=.agg #[.float .f64 (infI 1),.float .f64 (infI (-1))]) (by simp [results,Tryz.results142,go_sem, *]) rfl ⟨rfl, ?_⟩
   repeat' (first | (with_reducible exact HB) | (with_reducible refine Below.setCell ?_ ?_ _) | go_size)
theorem Div_w (xl xh yl yh:Nat) (h1:xl<18446744073709551616) (h2:xh<18446744073709551616) (h3:yl<18446744073709551616) (h4:yh<18446744073709551616) (w:World) :
   Calls Tryz.prog 142 #[.agg #[.float .f64 xl,.float .f64 xh],.agg #[.float .f64 yl,.float .f64 yh]] w fun e w'=>e=.returned (.agg #[.float .f64 (divP xl xh yl yh).1,.float .f64 (divP xl xh yl yh).2])∧Below w.heap.size w w':=by
 unfold divP
 cases hs:hsB xl xh&&hsB yl yh
 · rw [if_pos rfl]
   exact div_none xl xh yl yh h1 h2 h3 h4 hs w
 · rw [if_neg (by simp)]
   obtain⟨hx,hy⟩:=Bool.and_eq_true_iff.1 hs
   have S:=hs_iff.1 hx
   have T:=hs_iff.1 hy
   obtain⟨a,X⟩:=held_some h1 h2 S
   obtain⟨b,Y⟩:=held_some h3 h4 T
   have c0:=some2 X Y
   obtain⟨oa,ob,oc⟩:=o_key h3 T.nl
   obtain⟨od,oe,of⟩:=o_key h4 T.nh
   have x1:=o_eq h1 (show 0<18446744073709551616 by omega)
   have x2:=o_eq h2 (show 0<18446744073709551616 by omega)
   rw [eq00 S.nl] at x1
   rw [eq00 S.nh] at x2
   have ky:=T.le
   by_cases cy:key yl=0∧key yh=0
   · rw [if_pos cy]
     exact div_e xl xh yl yh c0 point0_w (ob cy.1) (oe cy.2) w
   · rw [if_neg cy]
     have hy:FloatKind.f64.format.order yl 0=some .gt∨FloatKind.f64.format.order yl 0=some .lt∨FloatKind.f64.format.order yl 0=some .eq∧FloatKind.f64.format.order yh 0=some .gt:=by
       rcases Int.lt_trichotomy (key yl) 0 with c | c | c
       · exact Or.inr (Or.inl (oa c))
       · exact Or.inr (Or.inr ⟨ob c,of (by omega)⟩)
       · exact Or.inl (oc c)
     by_cases cx:key xl=0∧key xh=0
     · rw [if_pos cx]
       exact div_z xl xh yl yh c0 point0_w hy (by rw [x1];simp [cx.1]) (by rw [x2];simp [cx.2]) w
     · rw [if_neg cx]
       have hx:(decide (key xl=0))=false∨(decide (key xl=0))=true∧(decide (key xh=0))=false:=by
         by_cases c:key xl=0
         · right
           refine⟨by simp [c], ?_⟩
           have:¬key xh=0:=fun h=>cx ⟨c,h⟩
           simp [this]
         · left;simp [c]
       by_cases p1:0≤key yl
       · rw [if_pos p1]
         have cs:=(shrink_w h1 h2 h3 h4 S T p1 (by omega)).1
         have hy':FloatKind.f64.format.order yl 0=some .gt∨FloatKind.f64.format.order yl 0=some .eq∧FloatKind.f64.format.order yh 0=some .gt:=by
           by_cases c:key yl=0
           · exact Or.inr ⟨ob c,of (by omega)⟩
           · exact Or.inl (oc (by omega))
         exact div_a xl xh yl yh _ _ _ _ c0 point0_w hy' x1 x2 hx cs w
       · rw [if_neg p1]
         have oy:=oa (by omega)
         by_cases p2:key yh≤0
         · rw [if_pos p2]
           obtain⟨S',k1,k2,l1,l2⟩:=mirror_some h1 h2 S
           obtain⟨T',k3,k4,l3,l4⟩:=mirror_some h3 h4 T
           have cs:=(shrink_w l1 l2 l3 l4 S' T' (by omega) (by omega)).1
           have hy':FloatKind.f64.format.order yh 0=some .lt∨FloatKind.f64.format.order yh 0=some .eq:=by
             by_cases c:key yh=0
             · exact Or.inr (oe c)
             · exact Or.inl (od (by omega))
           obtain⟨oL,oH,hL,hH⟩:∃oL oH:Nat→Nat→Nat,(∀p q,oL p q=(mirrorP (p,q)).1)∧(∀p q,oH p q=(mirrorP (p,q)).2):=⟨fun p q=>(mirrorP (p,q)).1,fun p q=>(mirrorP (p,q)).2,fun _ _=>rfl,fun _ _=>rfl⟩
           rw [←hL xl xh,←hH xl xh,←hL yl yh,←hH yl yh] at cs ⊢
           have cM:∀p q,p<18446744073709551616→q<18446744073709551616→∀w,Calls Tryz.prog 154 #[.agg #[.float .f64 p,.float .f64 q]] w fun e w'=>e=.returned (.agg #[.float .f64 (oL p q),.float .f64 (oH p q)])∧Below w.heap.size w w':=fun p q hp hq w=>by
             rw [hL,hH];exact mirror_w p q hp hq w
           exact div_b xl xh yl yh _ _ oL oH _ _ h1 h2 h3 h4 c0 point0_w oy hy' x1 x2 hx cM cs w
         · rw [if_neg p2]
           exact div_whole xl xh yl yh _ _ c0 point0_w oy (of (by omega)) x1 x2 hx w
theorem divD_zero {a b:Nat} (ha:a<18446744073709551616) (na:nanB a=false) (nb:nanB b=false) (ka:key a=0) (zb:isZ b=false):divD a b=0:=by
 have z:=(key_zero ha).2 ka
 have h:a%9223372036854775808=0:=by simpa [isZ] using z
 have fa:finB a=true:=by unfold finB;rw [h];simp
 have zm:splitM a=0:=by unfold splitM;rw [if_pos (by omega),h]
 have e:divF a b (-1)=0:=by
   unfold divF
   rw [zm,quoM_zero]
   unfold roundN
   rw [if_pos rfl]
 unfold divD divR
 rw [na,nb,zb,fa]
 generalize divF a b (-1)=q at *
 subst e
 cases finB b <;> rfl
end Go.Proofs.YtgfppdboogldlaaGreat
