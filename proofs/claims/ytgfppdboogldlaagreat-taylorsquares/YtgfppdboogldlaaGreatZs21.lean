/- The reference's Div answers as the program's; IvalQuotients' walk. The greater the intervals are, the greater are quotients, roots, powers, meets and sizes. -/
import Derived.Test.YtgfppdboogldlaaGreatZs17
import Derived.Test.YtgfppdboogldlaaGreatZs19
import Derived.Test.YtgfppdboogldlaaGreatZs05
import Derived.Test.YtgfppdboogldlaaGreatZs16
import Derived.Test.YtgfppdboogldlaaGreatZs07
import Derived.Test.YtgfppdboogldlaaGreatZs20
namespace Go.Proofs.YtgfppdboogldlaaGreat
open Go.ChangeShapes Go.WideShapes Go.ChangeAt Go.RowKit
theorem divP_lt {xl xh yl yh:Nat} (h1:xl<18446744073709551616) (h2:xh<18446744073709551616) (h3:yl<18446744073709551616) (h4:yh<18446744073709551616):(divP xl xh yl yh).1<18446744073709551616∧(divP xl xh yl yh).2<18446744073709551616:=by
 have h0:=infI_lt 1
 have h0':=infI_lt (-1)
 unfold divP
 cases hs:hsB xl xh&&hsB yl yh
 · rw [if_pos rfl];exact⟨h0,h0'⟩
 · rw [if_neg (by simp)]
   obtain⟨hx,hy⟩:=Bool.and_eq_true_iff.1 hs
   have S:=hs_iff.1 hx
   have T:=hs_iff.1 hy
   have ky:=T.le
   obtain⟨S',k1,k2,l1,l2⟩:=mirror_some h1 h2 S
   obtain⟨T',k3,k4,l3,l4⟩:=mirror_some h3 h4 T
   by_cases cy:key yl=0∧key yh=0
   · rw [if_pos cy];exact⟨h0,h0'⟩
   · rw [if_neg cy]
     by_cases cx:key xl=0∧key xh=0
     · rw [if_pos cx];exact⟨by omega,by omega⟩
     · rw [if_neg cx]
       by_cases p1:0≤key yl
       · rw [if_pos p1]
         obtain⟨-, -, -,b3,b4, -, -⟩:=shrink_w h1 h2 h3 h4 S T p1 (by omega)
         exact makeP_lt b3 (negB_lt b4)
       · rw [if_neg p1]
         by_cases p2:key yh≤0
         · rw [if_pos p2]
           obtain⟨-, -, -,b3,b4, -, -⟩:=shrink_w l1 l2 l3 l4 S' T' (by omega) (by omega)
           exact makeP_lt b3 (negB_lt b4)
         · rw [if_neg p2];exact⟨h0',h0⟩
theorem Gr.in {p q:Nat×Nat} (h:Gr p q) (S:Some2 p.1 p.2) (a1:p.1<18446744073709551616) (a2:p.2<18446744073709551616) (b1:q.1<18446744073709551616) (b2:q.2<18446744073709551616):In p.1 p.2 q.1 q.2:=by
 rcases h with ⟨rfl, -⟩ | ⟨S,T,k1,k2⟩
 · have:=hs_iff.2 S
   rw [empty_some] at this
   cases this
 · exact⟨S,T,k1,k2,a1,a2,b1,b2⟩
theorem lq_bot {t dl dh:Nat} (ht:t<18446744073709551616) (h1:dl<18446744073709551616) (nt:nanB t=false) (n1:nanB dl=false) (k0:0≤key dl) (kd:key dl<9218868437227405312) (k:key t=-9218868437227405312):key (lqP t dl dh)=-9218868437227405312:=by
 unfold lqP
 rw [le00 nt,decide_eq_false (by omega),if_neg (by simp),eq00 n1]
 by_cases c:key dl=0
 · rw [decide_eq_true c,if_pos rfl];exact key_down
 · rw [decide_eq_false c,if_neg (by simp)]
   have ft:finB t=false:=(key_inf ht nt).2 (Or.inr k)
   have fl:finB dl=true:=fin_of h1 n1 k0 (by omega)
   have zl:=isZ_pos h1 c
   have zt:=isZ_pos ht (show key t≠0 by omega)
   have e:divR t dl (-1)=some (infW (signB t != signB dl)):=by unfold divR;rw [nt,n1,zl,ft,fl];simp
   unfold divD
   rw [e,Option.getD_some,sign_key ht zt,sign_key h1 zl,decide_eq_true (by omega),decide_eq_false (by omega)]
   decide
theorem lq_grows {t dl dh t' dl' dh':Nat} (ht:t<18446744073709551616) (h1:dl<18446744073709551616) (h2:dh<18446744073709551616) (ht':t'<18446744073709551616) (h1':dl'<18446744073709551616) (h2':dh'<18446744073709551616)
   (nt:nanB t=false) (n1:nanB dl=false) (n2:nanB dh=false) (nt':nanB t'=false) (n1':nanB dl'=false) (n2':nanB dh'=false)
   (kt:key t<9218868437227405312) (k0:0≤key dl') (ktt:key t'≤key t) (kl:key dl'≤key dl) (kd:key dl≤key dh) (kdl:key dl<9218868437227405312) (kp:0<key dh) (kh:key dh≤key dh'):key (lqP t' dl' dh')≤key (lqP t dl dh):=by
 have rt:=key_range ht nt
 have rt':=key_range ht' nt'
 have rh:=key_range h2 n2
 have rh':=key_range h2' n2'
 by_cases cb:key t=-9218868437227405312
 · rw [lq_bot ht' h1' nt' n1' k0 (by omega) (by omega),lq_bot ht h1 nt n1 (by omega) kdl cb]
   exact Int.le_refl _
 · have ft:finB t=true:=by
     cases h:finB t
     · rcases (key_inf ht nt).1 h with z | z <;> omega
     · rfl
   have e:lqP t dl dh=if leB 0 t then divD t dh else if eqB dl 0 then infI (-1) else divD t dl:=rfl
   rw [e,le00 nt]
   by_cases c:0≤key t
   · rw [decide_eq_true c,if_pos rfl]
     cases fh:finB dh
     · have kh1:key dh=9218868437227405312:=by rcases (key_inf h2 n2).1 fh with z | z <;> omega
       have zh:=isZ_pos h2 (show key dh≠0 by omega)
       have ed:divD t dh=0:=by unfold divD divR;rw [nt,n2,zh,ft,fh];simp
       have k00:key 0=0:=by decide
       rw [ed,k00]
       have kh2:key dh'=9218868437227405312:=by omega
       have fh':finB dh'=false:=(key_inf h2' n2').2 (Or.inl kh2)
       have zh':=isZ_pos h2' (show key dh'≠0 by omega)
       have e':lqP t' dl' dh'=if leB 0 t' then divD t' dh' else if eqB dl' 0 then infI (-1) else divD t' dl':=rfl
       rw [e',le00 nt']
       by_cases c':0≤key t'
       · rw [decide_eq_true c',if_pos rfl]
         have ft':finB t'=true:=fin_of ht' nt' c' (by omega)
         have ed':divD t' dh'=0:=by unfold divD divR;rw [nt',n2',zh',ft',fh'];simp
         rw [ed',k00]
         exact Int.le_refl _
       · rw [decide_eq_false c',if_neg (by simp),eq00 n1']
         by_cases z:key dl'=0
         · rw [decide_eq_true z,if_pos rfl,key_down];omega
         · rw [decide_eq_false z,if_neg (by simp)]
           have fl':finB dl'=true:=fin_of h1' n1' k0 (by omega)
           have zl':=isZ_pos h1' z
           by_cases cb':key t'=-9218868437227405312
           · have b:=lq_bot (dh:=dh') ht' h1' nt' n1' k0 (by omega) cb'
             rw [e',le00 nt',decide_eq_false c',if_neg (by simp),eq00 n1',decide_eq_false z,if_neg (by simp)] at b
             rw [b];omega
           · have ft':finB t'=true:=by
               cases h:finB t'
               · rcases (key_inf ht' nt').1 h with z | z <;> omega
               · rfl
             have ed':divD t' dl'=divF t' dl' (-1):=by unfold divD;rw [divR_fin (-1) ft' fl' zl',Option.getD_some]
             rw [ed']
             have s:=div_sides ht' h1' ft' fl' zl'
             have u:=div_mirror (a:=t') (b:=dl') h1' ft' fl' zl'
             have fl:=div_flip (a:=negB t') (b:=dl') (negB_lt ht') h1' (by rw [finB_negB ht'];exact ft') fl' zl'
             rw [negB_negB ht'] at fl
             have p:=div_nonneg (a:=negB t') (b:=dl') (negB_lt ht') h1' (by rw [finB_negB ht'];exact ft') fl' (by rw [key_negB ht'];omega) (by omega)
             rw [fl] at u
             refine Int.le_trans s.1.le (Int.le_trans s.2.1.le ?_)
             rw [u]
             exact Int.neg_nonpos_of_nonneg p
     · have fd:finB dh=true:=fh
       have zh:=isZ_pos h2 (show key dh≠0 by omega)
       have ed:divD t dh=divF t dh (-1):=by unfold divD;rw [divR_fin (-1) ft fd zh,Option.getD_some]
       rw [ed]
       exact (lq_some ht' h1' h2' ht h2 nt' n1' n2' ft fd k0 ktt (by omega) kh kp).2.2.le
   · rw [decide_eq_false c,if_neg (by simp),eq00 n1]
     by_cases z:key dl=0
     · rw [decide_eq_true z,if_pos rfl,key_down]
       have e':lqP t' dl' dh'=if leB 0 t' then divD t' dh' else if eqB dl' 0 then infI (-1) else divD t' dl':=rfl
       rw [e',le00 nt',decide_eq_false (by omega),if_neg (by simp),eq00 n1',decide_eq_true (show key dl'=0 by omega),if_pos rfl,key_down]
       exact Int.le_refl _
     · rw [decide_eq_false z,if_neg (by simp)]
       have fl:finB dl=true:=fin_of h1 n1 (by omega) (by omega)
       have zl:=isZ_pos h1 z
       have ed:divD t dl=divF t dl (-1):=by unfold divD;rw [divR_fin (-1) ft fl zl,Option.getD_some]
       rw [ed]
       exact (lq_some ht' h1' h2' ht h1 nt' n1' n2' ft fl k0 ktt kl (by omega) (by omega)).2.2.le
theorem shrink_some {xl xh dl dh:Nat} (h1:xl<18446744073709551616) (h2:xh<18446744073709551616) (h3:dl<18446744073709551616) (h4:dh<18446744073709551616) (S:Some2 xl xh) (T:Some2 dl dh) (k0:0≤key dl) (k1:0<key dh) :
   Some2 (shrinkP xl xh dl dh).1 (shrinkP xl xh dl dh).2∧key (shrinkP xl xh dl dh).1=key (lqP xl dl dh)∧key (shrinkP xl xh dl dh).2=- key (lqP (negB xh) dl dh):=by
 obtain⟨-,b1,b2,w1,w2,n1,n2⟩:=shrink_w h1 h2 h3 h4 S T k0 k1
 obtain⟨a,X⟩:=held_some h1 h2 S
 obtain⟨b,D,kb⟩:=held_pos h3 h4 T k0 k1
 have zb:=isZ_pos D.hv (show key b≠0 by omega)
 have l1:=(lq_some X.hl D.hl D.hh X.hv D.hv X.nl D.nl D.nh X.fv D.fv k0 X.kl D.kl D.kh kb).2.2.le
 have fn:finB (negB a)=true:=by rw [finB_negB X.hv];exact X.fv
 have xk:=X.kh
 have l2:=(lq_some (negB_lt X.hh) D.hl D.hh (negB_lt X.hv) D.hv (by rw [nanB_negB X.hh];exact X.nh) D.nl D.nh fn D.fv k0 (by rw [key_negB X.hh,key_negB X.hv];omega) D.kl D.kh kb).2.2.le
 have s:=div_sides X.hv D.hv X.fv D.fv zb
 have u:=div_mirror (a:=a) (b:=b) D.hv X.fv D.fv zb
 have fl:=div_flip (a:=negB a) (b:=b) (negB_lt X.hv) D.hv fn D.fv zb
 rw [negB_negB X.hv] at fl
 rw [fl] at u
 have s1:=Int.le_trans s.1.le s.2.1.le
 have le:key (lqP xl dl dh)≤- key (lqP (negB xh) dl dh):=by
   have:=Int.le_trans l1 s1
   rw [u] at this
   exact Int.le_trans this (Int.neg_le_neg l2)
 have kn:=key_negB w2
 have r1:=key_range w1 n1
 generalize hp:lqP xl dl dh=p at *
 generalize hq:lqP (negB xh) dl dh=q at *
 have P:Some2 (pz p) (pz (negB q)):=⟨by rw [nan_pz];exact n1,by rw [nan_pz,nanB_negB w2];exact n2,by rw [key_pz,key_pz,kn];exact le,by rw [key_pz];omega,by rw [key_pz,kn];omega,pz_ne _,pz_ne _⟩
 have e:shrinkP xl xh dl dh=(pz p,pz (negB q)):=by unfold shrinkP makeP;rw [hp,hq,hs_iff.2 P];rfl
 rw [e]
 exact⟨P,key_pz _,by show key (pz (negB q))=_;rw [key_pz,kn]⟩
theorem shrink_gr {xl xh ul uh yl yh vl vh:Nat} (X:In xl xh ul uh) (Y:In yl yh vl vh) (k0:0≤key vl) (k1:0<key yh):Gr (shrinkP xl xh yl yh) (shrinkP ul uh vl vh):=by
 have yk:=Y.kl
 have yh':=Y.kh
 have xk:=X.kh
 have ys:=Y.S.le
 have sg:=X.S.gt
 obtain⟨A,a1,a2⟩:=shrink_some X.a1 X.a2 Y.a1 Y.a2 X.S Y.S (by omega) k1
 obtain⟨A',b1,b2⟩:=shrink_some X.b1 X.b2 Y.b1 Y.b2 X.T Y.T k0 (by omega)
 refine gr_some A A' ?_ ?_
 · rw [a1,b1]
   exact lq_grows X.a1 Y.a1 Y.a2 X.b1 Y.b1 Y.b2 X.S.nl Y.S.nl Y.S.nh X.T.nl Y.T.nl Y.T.nh X.S.lt k0 X.kl Y.kl ys Y.S.lt k1 Y.kh
 · rw [a2,b2]
   have:=lq_grows (negB_lt X.a2) Y.a1 Y.a2 (negB_lt X.b2) Y.b1 Y.b2 (by rw [nanB_negB X.a2];exact X.S.nh) Y.S.nl Y.S.nh (by rw [nanB_negB X.b2];exact X.T.nh) Y.T.nl Y.T.nh (by rw [key_negB X.a2];omega) k0 (by rw [key_negB X.a2,key_negB X.b2];omega) Y.kl ys Y.S.lt k1 Y.kh
   exact Int.neg_le_neg this
theorem zero_some:Some2 0 0:=hs_iff.1 (by decide)
theorem whole_some:Some2 (infI (-1)) (infI 1):=hs_iff.1 (by decide)
theorem zero_gr {xl xh ul uh yl yh vl vh:Nat} (X:In xl xh ul uh) (Y:In yl yh vl vh) (cx:key xl=0∧key xh=0) (k0:0≤key vl) (k1:0<key yh):Gr (0,0) (shrinkP ul uh vl vh):=by
 have yk:=Y.kl
 have ys:=Y.S.le
 have g:=shrink_gr X Y k0 k1
 obtain⟨A,a1,a2⟩:=shrink_some X.a1 X.a2 Y.a1 Y.a2 X.S Y.S (by omega) k1
 have zh:=isZ_pos Y.a2 (show key yh≠0 by omega)
 have q:∀t,t<18446744073709551616→nanB t=false→key t=0→key (lqP t yl yh)=0:=fun t ht nt kt=>by
   unfold lqP
   rw [le00 nt,decide_eq_true (by omega),if_pos rfl,divD_zero ht nt Y.S.nh kt zh]
   decide
 rw [q xl X.a1 X.S.nl cx.1] at a1
 rw [q (negB xh) (negB_lt X.a2) (by rw [nanB_negB X.a2];exact X.S.nh) (by rw [key_negB X.a2];omega)] at a2
 rcases g with ⟨e, -⟩ | ⟨-,T,g1,g2⟩
 · rw [e] at A
   have:=hs_iff.2 A
   rw [empty_some] at this
   cases this
 · have k00:key 0=0:=by decide
   refine gr_some zero_some T ?_ ?_
   · show _≤key 0
     omega
   · show key 0≤_
     omega
theorem mirror_in {xl xh ul uh:Nat} (X:In xl xh ul uh):In (mirrorP (xl,xh)).1 (mirrorP (xl,xh)).2 (mirrorP (ul,uh)).1 (mirrorP (ul,uh)).2:=by
 have e1:negP (xl,xh)=mirrorP (xl,xh):=by unfold negP;rw [if_pos (hs_iff.2 X.S)]
 have e2:negP (ul,uh)=mirrorP (ul,uh):=by unfold negP;rw [if_pos (hs_iff.2 X.T)]
 have:=neg_in X
 rw [e1,e2] at this
 exact this
theorem div_gr {xl xh ul uh yl yh vl vh:Nat} (X:In xl xh ul uh) (Y:In yl yh vl vh):Gr (divP xl xh yl yh) (divP ul uh vl vh):=by
 have xk1:=X.kl
 have xk2:=X.kh
 have xs:=X.S.le
 have xt:=X.T.le
 have yk1:=Y.kl
 have yk2:=Y.kh
 have ys:=Y.S.le
 have yt:=Y.T.le
 have p1:divP xl xh yl yh=if key yl=0∧key yh=0 then (infI 1,infI (-1)) else if key xl=0∧key xh=0 then (0,0) else if 0≤key yl then shrinkP xl xh yl yh else if key yh≤0 then shrinkP (mirrorP (xl,xh)).1 (mirrorP (xl,xh)).2 (mirrorP (yl,yh)).1 (mirrorP (yl,yh)).2 else (infI (-1),infI 1):=by
   unfold divP;rw [hs_iff.2 X.S,hs_iff.2 Y.S];rfl
 have p2:divP ul uh vl vh=if key vl=0∧key vh=0 then (infI 1,infI (-1)) else if key ul=0∧key uh=0 then (0,0) else if 0≤key vl then shrinkP ul uh vl vh else if key vh≤0 then shrinkP (mirrorP (ul,uh)).1 (mirrorP (ul,uh)).2 (mirrorP (vl,vh)).1 (mirrorP (vl,vh)).2 else (infI (-1),infI 1):=by
   unfold divP;rw [hs_iff.2 X.T,hs_iff.2 Y.T];rfl
 obtain⟨MX,m1,m2, -, -⟩:=mirror_some X.a1 X.a2 X.S
 obtain⟨MU,m3,m4, -, -⟩:=mirror_some X.b1 X.b2 X.T
 obtain⟨MY,m5,m6, -, -⟩:=mirror_some Y.a1 Y.a2 Y.S
 obtain⟨MV,m7,m8, -, -⟩:=mirror_some Y.b1 Y.b2 Y.T
 have IX:=mirror_in X
 have IY:=mirror_in Y
 rw [p1,p2]
 by_cases cv:key vl=0∧key vh=0
 · rw [if_pos cv,if_pos (by omega)];exact gr_empty
 · rw [if_neg cv]
   by_cases cy:key yl=0∧key yh=0
   · rw [if_pos cy]
     refine Or.inl ⟨rfl,Or.inr ?_⟩
     split
     · exact zero_some
     · split
       · exact (shrink_some X.b1 X.b2 Y.b1 Y.b2 X.T Y.T (by omega) (by omega)).1
       · split
         · exact (shrink_some IX.b1 IX.b2 IY.b1 IY.b2 MU MV (by omega) (by omega)).1
         · exact whole_some
   · rw [if_neg cy]
     by_cases cu:key ul=0∧key uh=0
     · rw [if_pos cu,if_pos (by omega)]
       exact gr_some zero_some zero_some (Int.le_refl _) (Int.le_refl _)
     · rw [if_neg cu]
       by_cases c1:0≤key vl
       · rw [if_pos c1]
         by_cases cx:key xl=0∧key xh=0
         · rw [if_pos cx];exact zero_gr X Y cx c1 (by omega)
         · rw [if_neg cx,if_pos (by omega)];exact shrink_gr X Y c1 (by omega)
       · rw [if_neg c1]
         by_cases c2:key vh≤0
         · rw [if_pos c2]
           by_cases cx:key xl=0∧key xh=0
           · rw [if_pos cx];exact zero_gr IX IY (by omega) (by omega) (by omega)
           · rw [if_neg cx,if_neg (by omega),if_pos (by omega)];exact shrink_gr IX IY (by omega) (by omega)
         · rw [if_neg c2]
           have W:∀p:Nat×Nat,Some2 p.1 p.2→p.1<18446744073709551616→p.2<18446744073709551616→Gr p (infI (-1),infI 1):=fun p S l1 l2=>by
             refine gr_some S whole_some ?_ ?_
             · show key (infI (-1))≤_
               rw [key_down];exact (key_range l1 S.nl).1
             · show _≤key (infI 1)
               rw [key_up];exact (key_range l2 S.nh).2
           have L:=divP_lt X.a1 X.a2 Y.a1 Y.a2
           rw [p1,if_neg cy] at L
           revert L
           split
           · intro L;exact W _ zero_some L.1 L.2
           · split
             · intro L;exact W _ (shrink_some X.a1 X.a2 Y.a1 Y.a2 X.S Y.S (by omega) (by omega)).1 L.1 L.2
             · split
               · intro L;exact W _ (shrink_some IX.a1 IX.a2 IY.a1 IY.a2 MX MY (by omega) (by omega)).1 L.1 L.2
               · intro L;exact W _ whole_some L.1 L.2
end Go.Proofs.YtgfppdboogldlaaGreat
