/- Plain facts on powers: products, one by one, rounded to a side; the reference's amounts. Quotients of intervals: what the program's Div answers, word for word, and what the reference's Div, as a function, is: the same. The reference's products, amounts and even powers of intervals answer as the program's; IvalProducts' walk. Slices of intervals, and slices of those, as they lie in memory; what vectorMayBe, Vector and isDimension answer. Matrices of intervals: may they be? Sums of products of intervals: the program's and the reference's. -/
import Derived.Test.YtopfabemfbdccaaGreatZk17
import Derived.Test.YtopfabemfbdccaaGreatZk20
import Derived.Test.YtopfabemfbdccaaGreatZk08
import Derived.Deep.LoopGhost
namespace Go.Proofs.YtopfabemfbdccaaGreat
open Go.ChangeShapes Go.WideShapes Go.ChangeAt Go.RowKit
def powW (v:Nat) (d:Int):Nat->Nat
 | 0=>v
 | n+1=>mulV (powW v d n) v d
theorem pow_num {v:Nat} (d:Int) (hv:v<18446744073709551616) (nv:nanB v=false) (n:Nat):nanB (powW v d n)=false/\powW v d n<18446744073709551616:=by
 induction n with
 | zero=>exact⟨nv,hv⟩
 | succ n ih=>exact mulV_facts d ih.1 nv
theorem pow_nz {v:Nat} (d:Int) (hv:v<18446744073709551616) (nv:nanB v=false) (zv:v≠9223372036854775808) (n:Nat):powW v d n≠9223372036854775808:=by
 cases n with
 | zero=>exact zv
 | succ n=>exact mulV_nz d (pow_num d hv nv n).1 nv
theorem mul_nneg {a b:Nat} (d:Int) (hd:d=-1\/d=1) (ha:a<18446744073709551616) (hb:b<18446744073709551616) (na:nanB a=false) (nb:nanB b=false) (ka:0<=key a) (kb:0<=key b):0<=key (mulV a b d):=by
 have z:∀e,mulV 0 b e=0:=fun e=>mulV_zl e (by decide) nb (by decide)
 have k0:key 0=0:=by decide
 rcases hd with rfl | rfl
 ·have h:=mul_rise (p:=0) (by omega) ha hb (by decide) na nb kb (by rw [k0];exact ka)
  rw [z,k0] at h
  exact h
 ·have n1:nanB (negB a)=false:=by rw [nanB_negB ha];exact na
  have h:=mul_rise (a:=0) (negB_lt ha) (by omega) hb n1 (by decide) nb kb (by rw [k0,key_negB ha];omega)
  rw [z,k0] at h
  have m:=mulV_mirror' ha na nb
  omega
theorem mul_updown {a b:Nat} (ha:a<18446744073709551616) (hb:b<18446744073709551616) (na:nanB a=false) (nb:nanB b=false):key (mulV a b (-1))<=key (mulV a b 1):=by
 cases fa:finB a
 ·cases za:isZ a
  ·cases zb:isZ b
   ·rw [mulV_inf (-1) na nb za zb (by rw [fa];rfl),mulV_inf 1 na nb za zb (by rw [fa];rfl)]
    exact Int.le_refl _
   ·rw [mulV_zr (-1) na nb zb,mulV_zr 1 na nb zb]
    exact Int.le_refl _
  ·rw [mulV_zl (-1) na nb za,mulV_zl 1 na nb za]
   exact Int.le_refl _
 ·cases fb:finB b
  ·cases za:isZ a
   ·cases zb:isZ b
    ·rw [mulV_inf (-1) na nb za zb (by rw [fb,Bool.and_false]),mulV_inf 1 na nb za zb (by rw [fb,Bool.and_false])]
     exact Int.le_refl _
    ·rw [mulV_zr (-1) na nb zb,mulV_zr 1 na nb zb]
     exact Int.le_refl _
   ·rw [mulV_zl (-1) na nb za,mulV_zl 1 na nb za]
    exact Int.le_refl _
  ·obtain⟨s1,s2, -, -⟩:=mulV_sides ha hb fa fb
   exact Int.le_trans s1.le s2.le
theorem pow_nneg {v:Nat} (d:Int) (hd:d=-1\/d=1) (hv:v<18446744073709551616) (nv:nanB v=false) (k0:0<=key v) (n:Nat):0<=key (powW v d n):=by
 induction n with
 | zero=>exact k0
 | succ n ih =>
  have f:=pow_num d hv nv n
  exact mul_nneg d hd f.2 hv f.1 nv ih k0
theorem fin_of {x:Nat} (hx:x<18446744073709551616) (nx:nanB x=false) (k0:0<=key x) (k1:key x<=9218868437227405311):finB x=true:=by
 cases h:finB x
 ·rcases (key_inf hx nx).1 h with d | d <;> omega
 ·rfl
theorem pow_top {v:Nat} (hv:v<18446744073709551616) (nv:nanB v=false) (k0:0<=key v) (k1:key v<=9218868437227405311) (n:Nat):key (powW v (-1) n)<=9218868437227405311:=by
 induction n with
 | zero=>exact k1
 | succ n ih =>
  have f:=pow_num (-1) hv nv n
  have g:=pow_nneg (-1) (Or.inl rfl) hv nv k0 n
  exact mul_top f.2 hv (fin_of f.2 f.1 g ih) (fin_of hv nv k0 k1) (mulV_is (-1) f.1 nv)
theorem pow_le {a b:Nat} (ha:a<18446744073709551616) (hb:b<18446744073709551616) (na:nanB a=false) (nb:nanB b=false) (k0:0<=key a) (k1:key a<=key b) (n:Nat):key (powW a (-1) n)<=key (powW b 1 n):=by
 induction n with
 | zero=>exact k1
 | succ n ih =>
  have f:=pow_num (-1) ha na n
  have g:=pow_num 1 hb nb n
  have q0:=pow_nneg 1 (Or.inr rfl) hb nb (by omega) n
  have s1:=mul_rise f.2 g.2 ha f.1 g.1 na k0 ih
  have s2:=mul_rise ha hb g.2 na nb g.1 q0 k1
  rw [mulV_comm a,mulV_comm b] at s2
  have s3:=mul_updown g.2 hb g.1 nb
  show key (mulV (powW a (-1) n) a (-1))<=key (mulV (powW b 1 n) b 1)
  omega
theorem mag_keys {lo hi:Nat} (hl:lo<18446744073709551616) (hh:hi<18446744073709551616) (S:Some2 lo hi):0<=key (migP lo hi)/\key (migP lo hi)<=9218868437227405311/\key (migP lo hi)<=key (magP lo hi)/\nanB (migP lo hi)=false/\nanB (magP lo hi)=false/\migP lo hi<9223372036854775808/\magP lo hi<9223372036854775808:=by
 have hs:=hs_iff.2 S
 have a1:=key_abs hl
 have a2:=key_abs hh
 have n1:=nan_abs lo
 have n2:=nan_abs hi
 rw [S.nl] at n1
 rw [S.nh] at n2
 have w1:lo%9223372036854775808<9223372036854775808:=Nat.mod_lt _ (by omega)
 have w2:hi%9223372036854775808<9223372036854775808:=Nat.mod_lt _ (by omega)
 have x1:=maxW_is (a:=lo%9223372036854775808) (b:=hi%9223372036854775808) (by omega) (by omega)
 have x2:=minW_is (a:=lo%9223372036854775808) (b:=hi%9223372036854775808) (by omega) (by omega)
 have kl:=S.le
 have k3:=S.lt
 have k4:=S.gt
 unfold migP magP
 rw [hs]
 simp only [if_true]
 rw [x1,x2]
 generalize lo%9223372036854775808=A at *
 generalize hi%9223372036854775808=B at *
 have kA:0<=key A:=by rw [a1];split <;> omega
 have kB:0<=key B:=by rw [a2];split <;> omega
 cases h:hasB lo hi 0
 ·simp only [Bool.false_eq_true,if_false]
  have no:¬(key lo<=0/\0<=key hi):=fun c=>by
   have:hasB lo hi 0=true:=has_iff.2 ⟨S,by decide,by decide,c.1,c.2⟩
   rw [h] at this
   cases this
  refine⟨?_, ?_, ?_, ?_, ?_, ?_, ?_⟩
  ·split <;> assumption
  ·split <;> split at a1 <;> split at a2 <;> omega
  ·split <;> split <;> omega
  ·split <;> assumption
  ·split <;> assumption
  ·split <;> assumption
  ·split <;> assumption
 ·simp only [if_true]
  have e0:key 0=0:=by decide
  refine⟨by decide,by decide, ?_,by decide, ?_,by omega, ?_⟩
  ·rw [e0];split <;> assumption
  ·split <;> assumption
  ·split <;> assumption
theorem even_some {lo hi:Nat} (hl:lo<18446744073709551616) (hh:hi<18446744073709551616) (S:Some2 lo hi) (n:Nat):Some2 (powW (migP lo hi) (-1) n) (powW (magP lo hi) 1 n):=by
 obtain⟨k1,k2,k3,n1,n2,w1,w2⟩:=mag_keys hl hh S
 have f:=pow_num (-1) (show migP lo hi<18446744073709551616 by omega) n1 n
 have g:=pow_num 1 (show magP lo hi<18446744073709551616 by omega) n2 n
 have t:=pow_top (by omega) n1 k1 k2 n
 have u:=pow_nneg 1 (Or.inr rfl) (show magP lo hi<18446744073709551616 by omega) n2 (by omega) n
 exact⟨f.1,g.1,pow_le (by omega) (by omega) n1 n2 k1 k3 n,by omega,by omega,pow_nz _ (by omega) n1 (by omega) n,pow_nz _ (by omega) n2 (by omega) n⟩
def shrinkP (xl xh dl dh:Nat):Nat×Nat:=makeP (lqP xl dl dh) (negB (lqP (negB xh) dl dh))
def divP (xl xh yl yh:Nat):Nat×Nat :=
 if (hsB xl xh&&hsB yl yh)=false then (infI 1,infI (-1)) else if key yl=0/\key yh=0 then (infI 1,infI (-1)) else if key xl=0/\key xh=0 then (0,0)
 else if 0<=key yl then shrinkP xl xh yl yh else if key yh<=0 then shrinkP (mirrorP (xl,xh)).1 (mirrorP (xl,xh)).2 (mirrorP (yl,yh)).1 (mirrorP (yl,yh)).2 else (infI (-1),infI 1)
theorem held_pos {lo hi:Nat} (hl:lo<18446744073709551616) (hh:hi<18446744073709551616) (S:Some2 lo hi) (k0:0<=key lo) (k1:0<key hi):∃b,Held lo hi b/\0<key b:=by
 obtain⟨b,H,hb⟩:=held_nonzero hl hh S (by omega)
 have:=H.kl
 exact⟨b,H,by omega⟩
theorem shrink_w {xl xh dl dh:Nat} (h1:xl<18446744073709551616) (h2:xh<18446744073709551616) (h3:dl<18446744073709551616) (h4:dh<18446744073709551616) (S:Some2 xl xh) (T:Some2 dl dh) (k0:0<=key dl) (k1:0<key dh) :
  (∀w,Calls Tryz.prog 104 #[.agg #[.float .f64 xl,.float .f64 xh],.agg #[.float .f64 dl,.float .f64 dh]] w fun e w'=>e=.returned (.agg #[.float .f64 (shrinkP xl xh dl dh).1,.float .f64 (shrinkP xl xh dl dh).2])/\Below w.heap.size w w') /\
  key (lqP xl dl dh)<=9218868437227405311/\key (lqP (negB xh) dl dh)<=9218868437227405311/\lqP xl dl dh<18446744073709551616/\lqP (negB xh) dl dh<18446744073709551616/\nanB (lqP xl dl dh)=false/\nanB (lqP (negB xh) dl dh)=false:=by
 obtain⟨a,X⟩:=held_some h1 h2 S
 obtain⟨b,D,kb⟩:=held_pos h3 h4 T k0 k1
 have zb:=isZ_pos D.hv (by omega)
 obtain⟨p1,p2,l1⟩:=lq_some X.hl D.hl D.hh X.hv D.hv X.nl D.nl D.nh X.fv D.fv k0 X.kl D.kl D.kh kb
 have n5:nanB (negB xh)=false:=by rw [nanB_negB X.hh];exact X.nh
 have fn:finB (negB a)=true:=by rw [finB_negB X.hv];exact X.fv
 obtain⟨q1,q2,l2⟩:=lq_some (negB_lt X.hh) D.hl D.hh (negB_lt X.hv) D.hv n5 D.nl D.nh fn D.fv k0 (by rw [key_negB X.hh,key_negB X.hv];have:=X.kh;omega) D.kl D.kh kb
 obtain⟨u,hu⟩:∃u:Nat,u=1075:=⟨_,rfl⟩
 have t1:=(div_bot hu X.hv X.fv D.fv zb).2
 have t2:=(div_bot hu (negB_lt X.hv) fn D.fv zb).2
 have r1:=l1.le
 have r2:=l2.le
 refine⟨fun w=>shrink_core xl xh dl dh (negB xh) (lqP xl dl dh) (lqP (negB xh) dl dh) (negB (lqP (negB xh) dl dh)) _ _ (negFloat_eq xh X.hh) (negFloat_eq _ l2.r1)
  (fun w=>lq_w xl dl dh X.hl D.hl D.hh p1 p2 w) (fun w=>lq_w (negB xh) dl dh (negB_lt X.hh) D.hl D.hh q1 q2 w) (fun w=>make_w _ _ l1.r1 (negB_lt l2.r1) w) w,Int.le_trans r1 t1,Int.le_trans r2 t2,l1.r1,l2.r1,l1.r2,l2.r2⟩
theorem mirror_some {lo hi:Nat} (hl:lo<18446744073709551616) (hh:hi<18446744073709551616) (S:Some2 lo hi):Some2 (mirrorP (lo,hi)).1 (mirrorP (lo,hi)).2/\key (mirrorP (lo,hi)).1=- key hi/\key (mirrorP (lo,hi)).2=- key lo/\(mirrorP (lo,hi)).1<18446744073709551616/\(mirrorP (lo,hi)).2<18446744073709551616:=by
 obtain⟨a,X⟩:=held_some hl hh S
 obtain⟨N,k1,k2⟩:=held_neg X
 have w:=mirror_words X
 have e1:(mirrorP (lo,hi)).1=pz (negB hi):=by rw [w]
 have e2:(mirrorP (lo,hi)).2=pz (negB lo):=by rw [w]
 refine⟨⟨N.nl,N.nh,by rw [k1,k2];have:=S.le;omega,by rw [k1];have:=S.gt;omega,by rw [k2];have:=S.lt;omega,by rw [e1];exact pz_ne _,by rw [e2];exact pz_ne _⟩,k1,k2,N.hl,N.hh⟩
theorem o_key {x:Nat} (hx:x<18446744073709551616) (hn:nanB x=false):(key x<0->FloatKind.f64.format.order x 0=some .lt)/\(key x=0->FloatKind.f64.format.order x 0=some .eq)/\(0<key x->FloatKind.f64.format.order x 0=some .gt):=by
 have o:=order_key hx hn
 refine⟨fun h=>by rw [o,if_pos h],fun h=>by rw [o,if_neg (by omega),if_pos h],fun h=>by rw [o,if_neg (by omega),if_neg (by omega)]⟩
set_option maxHeartbeats 2000000 in
theorem div_none (xl xh yl yh:Nat) (h1:xl<18446744073709551616) (h2:xh<18446744073709551616) (h3:yl<18446744073709551616) (h4:yh<18446744073709551616) (hs:(hsB xl xh&&hsB yl yh)=false) (w:World) :
   Calls Tryz.prog 50 #[.agg #[.float .f64 xl,.float .f64 xh],.agg #[.float .f64 yl,.float .f64 yh]] w fun e w'=>e=.returned (.agg #[.float .f64 (infI 1),.float .f64 (infI (-1))])/\Below w.heap.size w w':=by
 have c0:=fun b W hlt c0 c1 c2 c3=>someEmpty2_w b xl xh yl yh h1 h2 h3 h4 W hlt c0 c1 c2 c3
 rw [hs] at c0
 clear hs h1 h2 h3 h4
 have cz:=point0_w
 go_enter Tryz.func50,Tryz.ntmps50
 go_upto_region 2 with
  (go_at_call 55;refine (cz _).mono ?_;rintro _ w1 ⟨rfl,hb1⟩
   have R:Has2 w1 (w.heap.size+1+1) (.float .f64 0) (.float .f64 0):=Has2.keep ⟨by go_simp,by go_simp,by go_simp,by go_simp,by go_size⟩ hb1
   have X:Has2 w1 w.heap.size (.float .f64 xl) (.float .f64 xh):=Has2.keep ⟨by go_simp,by go_simp,by go_simp,by go_simp,by go_size⟩ hb1
   have Y:Has2 w1 (w.heap.size+1) (.float .f64 yl) (.float .f64 yh):=Has2.keep ⟨by go_simp,by go_simp,by go_simp,by go_simp,by go_size⟩ hb1
   have HB:Below w.heap.size w w1:=later (by go_grown) hb1)
 clear hb1 cz
 have Z:Has2 (w1.alloc (Obj.cells #[Value.float FloatKind.f64 0,Value.float FloatKind.f64 0] 24)) w1.heap.size (.float .f64 0) (.float .f64 0):=⟨by go_simp,by go_simp,by go_simp,by go_simp,by go_size⟩
 have BL:Below w1.heap.size w1 (w1.alloc (Obj.cells #[Value.float FloatKind.f64 0,Value.float FloatKind.f64 0] 24)):=(Below.refl _ _).alloc (Nat.le_refl _) _
 replace X:=X.keep BL
 replace Y:=Y.keep BL
 replace R:=R.keep BL
 replace HB:=later HB BL
 clear BL
 generalize w1.heap.size=zb at *
 generalize (w1.alloc (Obj.cells #[Value.float FloatKind.f64 0,Value.float FloatKind.f64 0] 24))=W1 at *
 have x0:=X.1
 have x1:=X.2.1
 have y0:=Y.1
 have y1:=Y.2.1
 have ne1:w.heap.size+1+1≠w.heap.size:=by omega
 have ne2:w.heap.size≠w.heap.size+1+1:=by omega
 go_wp2_with (first
  | (go_at_call 103;refine (c0 W1.heap.size _ (by go_size) (by go_simp) (by go_simp) (by go_simp) (by go_simp)).mono ?_;rintro _ w2 ⟨rfl,hb2⟩
     replace HB:Below w.heap.size w w2:=later (HB.alloc HB.size _) hb2
     replace R:=(R.keep ((Below.refl _ _).alloc (Nat.le_refl _) _)).keep hb2
     replace X:=(X.keep ((Below.refl _ _).alloc (Nat.le_refl _) _)).keep hb2
     replace Y:=(Y.keep ((Below.refl _ _).alloc (Nat.le_refl _) _)).keep hb2
     replace Z:=(Z.keep ((Below.refl _ _).alloc (Nat.le_refl _) _)).keep hb2
     replace x0:=X.1
     replace x1:=X.2.1
     replace y0:=Y.1
     replace y1:=Y.2.1
     have w0:=Z.1
     have w1':=Z.2.1
     clear hb2)
  | (go_at_call 76;refine (empty_w _).mono ?_;rintro _ w3 ⟨rfl,hb1⟩;replace X:=X.keep hb1;replace Y:=Y.keep hb1;replace R:=R.keep hb1;replace HB:=later HB hb1;clear hb1;obtain⟨d0,d1,d2,d3,d4⟩:=R))
 all_goals
   refine bodyPost_ret (v:=.agg #[.float .f64 (infI 1),.float .f64 (infI (-1))]) (by simp [results,Tryz.results50,go_sem, *]) rfl ⟨rfl, ?_⟩
   repeat' (first | (with_reducible exact HB) | (with_reducible refine Below.setCell ?_ ?_ _) | go_size)
theorem Div_w (xl xh yl yh:Nat) (h1:xl<18446744073709551616) (h2:xh<18446744073709551616) (h3:yl<18446744073709551616) (h4:yh<18446744073709551616) (w:World) :
  Calls Tryz.prog 50 #[.agg #[.float .f64 xl,.float .f64 xh],.agg #[.float .f64 yl,.float .f64 yh]] w fun e w'=>e=.returned (.agg #[.float .f64 (divP xl xh yl yh).1,.float .f64 (divP xl xh yl yh).2])/\Below w.heap.size w w':=by
 unfold divP
 cases hs:hsB xl xh&&hsB yl yh
 ·rw [if_pos rfl]
  exact div_none xl xh yl yh h1 h2 h3 h4 hs w
 ·rw [if_neg (by simp)]
  obtain⟨hx,hy⟩:=Bool.and_eq_true_iff.1 hs
  have S:=hs_iff.1 hx
  have T:=hs_iff.1 hy
  obtain⟨a,X⟩:=held_some h1 h2 S
  obtain⟨b,Y⟩:=held_some h3 h4 T
  have c0:=some2 X Y
  obtain⟨oa,ob,oc⟩:=o_key h3 T.nl
  obtain⟨od,oe,of⟩:=o_key h4 T.nh
  have x1:=o_eq h1 (show 0<18446744073709551616 by omega)
  have x2:=o_eq h2 (show 0<18446744073709551616 by omega)
  rw [eq00 S.nl] at x1
  rw [eq00 S.nh] at x2
  have ky:=T.le
  by_cases cy:key yl=0/\key yh=0
  ·rw [if_pos cy]
   exact div_e xl xh yl yh c0 point0_w (ob cy.1) (oe cy.2) w
  ·rw [if_neg cy]
   have hy:FloatKind.f64.format.order yl 0=some .gt\/FloatKind.f64.format.order yl 0=some .lt\/FloatKind.f64.format.order yl 0=some .eq/\FloatKind.f64.format.order yh 0=some .gt:=by
    rcases Int.lt_trichotomy (key yl) 0 with c | c | c
    ·exact Or.inr (Or.inl (oa c))
    ·exact Or.inr (Or.inr ⟨ob c,of (by omega)⟩)
    ·exact Or.inl (oc c)
   by_cases cx:key xl=0/\key xh=0
   ·rw [if_pos cx]
    exact div_z xl xh yl yh c0 point0_w hy (by rw [x1];simp [cx.1]) (by rw [x2];simp [cx.2]) w
   ·rw [if_neg cx]
    have hx:(decide (key xl=0))=false\/(decide (key xl=0))=true/\(decide (key xh=0))=false:=by
     by_cases c:key xl=0
     ·right
      refine⟨by simp [c], ?_⟩
      have:¬key xh=0:=fun h=>cx ⟨c,h⟩
      simp [this]
     ·left;simp [c]
    by_cases p1:0<=key yl
    ·rw [if_pos p1]
     have cs:=(shrink_w h1 h2 h3 h4 S T p1 (by omega)).1
     have hy':FloatKind.f64.format.order yl 0=some .gt\/FloatKind.f64.format.order yl 0=some .eq/\FloatKind.f64.format.order yh 0=some .gt:=by
      by_cases c:key yl=0
      ·exact Or.inr ⟨ob c,of (by omega)⟩
      ·exact Or.inl (oc (by omega))
     exact div_a xl xh yl yh _ _ _ _ c0 point0_w hy' x1 x2 hx cs w
    ·rw [if_neg p1]
     have oy:=oa (by omega)
     by_cases p2:key yh<=0
     ·rw [if_pos p2]
      obtain⟨S',k1,k2,l1,l2⟩:=mirror_some h1 h2 S
      obtain⟨T',k3,k4,l3,l4⟩:=mirror_some h3 h4 T
      have cs:=(shrink_w l1 l2 l3 l4 S' T' (by omega) (by omega)).1
      have hy':FloatKind.f64.format.order yh 0=some .lt\/FloatKind.f64.format.order yh 0=some .eq:=by
       by_cases c:key yh=0
       ·exact Or.inr (oe c)
       ·exact Or.inl (od (by omega))
      obtain⟨oL,oH,hL,hH⟩:∃oL oH:Nat->Nat->Nat,(∀p q,oL p q=(mirrorP (p,q)).1)/\(∀p q,oH p q=(mirrorP (p,q)).2):=⟨fun p q=>(mirrorP (p,q)).1,fun p q=>(mirrorP (p,q)).2,fun _ _=>rfl,fun _ _=>rfl⟩
      rw [<-hL xl xh,<-hH xl xh,<-hL yl yh,<-hH yl yh] at cs ⊢
      have cM:∀p q,p<18446744073709551616->q<18446744073709551616->∀w,Calls Tryz.prog 105 #[.agg #[.float .f64 p,.float .f64 q]] w fun e w'=>e=.returned (.agg #[.float .f64 (oL p q),.float .f64 (oH p q)])/\Below w.heap.size w w':=fun p q hp hq w=>by
       rw [hL,hH];exact mirror_w p q hp hq w
      exact div_b xl xh yl yh _ _ oL oH _ _ h1 h2 h3 h4 c0 point0_w oy hy' x1 x2 hx cM cs w
     ·rw [if_neg p2]
      exact div_whole xl xh yl yh _ _ c0 point0_w oy (of (by omega)) x1 x2 hx w
theorem zminus_nan {b:Nat} (hb:b<18446744073709551616):nanB (zminus b)=nanB b:=by
 rw [<-nan_pz (zminus b),pz_zminus hb,nan_pz,nanB_negB hb]
theorem zminus_is {b:Nat} (hb:b<18446744073709551616) (h:key b≠0):zminus b=negB b:=by
 unfold zminus
 rw [isZ_pos hb h]
 simp
theorem divD_zero {a b:Nat} (ha:a<18446744073709551616) (na:nanB a=false) (nb:nanB b=false) (ka:key a=0) (zb:isZ b=false):divD a b=0:=by
 have z:=(key_zero ha).2 ka
 have h:a%9223372036854775808=0:=by simpa [isZ] using z
 have fa:finB a=true:=by unfold finB;rw [h];simp
 have zm:splitM a=0:=by unfold splitM;rw [if_pos (by omega),h]
 have e:divF a b (-1)=0:=by
  unfold divF
  rw [zm,quoM_zero]
  unfold roundN
  rw [if_pos rfl]
 unfold divD divR
 rw [na,nb,zb,fa]
 generalize divF a b (-1)=q at *
 subst e
 cases finB b <;> rfl
def mulP (xl xh yl yh:Nat):Nat×Nat:=if hsB xl xh&&hsB yl yh then rmulP xl xh yl yh else (infI 1,infI (-1))
theorem mul_both {xl xh yl yh:Nat} (h1:xl<18446744073709551616) (h2:xh<18446744073709551616) (h3:yl<18446744073709551616) (h4:yh<18446744073709551616) (S:Some2 xl xh) (T:Some2 yl yh) :
  (∀w,Calls Tryz.prog 54 #[.agg #[.float .f64 xl,.float .f64 xh],.agg #[.float .f64 yl,.float .f64 yh]] w fun e w'=>e=.returned (.agg #[.float .f64 (rmulP xl xh yl yh).1,.float .f64 (rmulP xl xh yl yh).2])/\Below w.heap.size w w')/\(rmulP xl xh yl yh).1<18446744073709551616/\(rmulP xl xh yl yh).2<18446744073709551616:=by
 obtain⟨a,X⟩:=held_some h1 h2 S
 obtain⟨b,Y⟩:=held_some h3 h4 T
 obtain⟨m1,m2,c,Z,l1,l2,k1,k2⟩:=mul_ends X Y
 rw [rmul_is S.nl S.nh T.nl T.nh Z k1 k2]
 exact⟨c,l1,l2⟩
theorem mulP_lt {xl xh yl yh:Nat} (h1:xl<18446744073709551616) (h2:xh<18446744073709551616) (h3:yl<18446744073709551616) (h4:yh<18446744073709551616):(mulP xl xh yl yh).1<18446744073709551616/\(mulP xl xh yl yh).2<18446744073709551616:=by
 unfold mulP
 cases hs:hsB xl xh&&hsB yl yh
 ·rw [if_neg (by simp)];exact⟨infI_lt 1,infI_lt (-1)⟩
 ·rw [if_pos rfl]
  obtain⟨hx,hy⟩:=Bool.and_eq_true_iff.1 hs
  exact (mul_both h1 h2 h3 h4 (hs_iff.1 hx) (hs_iff.1 hy)).2
theorem Mul_w (xl xh yl yh:Nat) (h1:xl<18446744073709551616) (h2:xh<18446744073709551616) (h3:yl<18446744073709551616) (h4:yh<18446744073709551616) (w:World) :
  Calls Tryz.prog 54 #[.agg #[.float .f64 xl,.float .f64 xh],.agg #[.float .f64 yl,.float .f64 yh]] w fun e w'=>e=.returned (.agg #[.float .f64 (mulP xl xh yl yh).1,.float .f64 (mulP xl xh yl yh).2])/\Below w.heap.size w w':=by
 unfold mulP
 cases hs:hsB xl xh&&hsB yl yh
 ·rw [if_neg (by simp)]
  exact mul_none xl xh yl yh h1 h2 h3 h4 hs w
 ·rw [if_pos rfl]
  obtain⟨hx,hy⟩:=Bool.and_eq_true_iff.1 hs
  exact (mul_both h1 h2 h3 h4 (hs_iff.1 hx) (hs_iff.1 hy)).1 w
def sqrP (lo hi:Nat):Nat×Nat:=if hsB lo hi then (mulV (migP lo hi) (migP lo hi) (-1),mulV (magP lo hi) (magP lo hi) 1) else (infI 1,infI (-1))
theorem sqrP_lt {lo hi:Nat} (hl:lo<18446744073709551616) (hh:hi<18446744073709551616):(sqrP lo hi).1<18446744073709551616/\(sqrP lo hi).2<18446744073709551616:=by
 unfold sqrP
 cases hs:hsB lo hi
 ·rw [if_neg (by simp)];exact⟨infI_lt 1,infI_lt (-1)⟩
 ·rw [if_pos rfl]
  obtain⟨-, -, -,n1,n2, -, -⟩:=mag_keys hl hh (hs_iff.1 hs)
  exact⟨(mulV_facts (-1) n1 n1).2,(mulV_facts 1 n2 n2).2⟩
set_option maxHeartbeats 1000000 in
theorem sqr_none (lo hi:Nat) (hl:lo<18446744073709551616) (hh:hi<18446744073709551616) (hs:hsB lo hi=false) (w:World) :
   Calls Tryz.prog 206 #[.agg #[.float .f64 lo,.float .f64 hi]] w fun e w'=>e=.returned (.agg #[.float .f64 (infI 1),.float .f64 (infI (-1))])/\Below w.heap.size w w':=by
 have c0:=fun b W c0 c1=>someEmpty1_w b lo hi hl hh W c0 c1
 rw [hs] at c0
 go_enter Tryz.func206,Tryz.ntmps206
 go_wp2_with (first
   | (go_at_call 103;refine (c0 (w.heap.size+1+1) _ (by go_simp) (by go_simp)).mono ?_;rintro _ w1 ⟨rfl,hb1⟩
      have R:Has2 w1 (w.heap.size+1) (.float .f64 0) (.float .f64 0):=Has2.keep ⟨by go_simp,by go_simp,by go_simp,by go_simp,by go_size⟩ hb1
      have HB:Below w.heap.size w w1:=later (by go_grown) hb1)
   | (go_at_call 76;refine (empty_w _).mono ?_;rintro _ w2 ⟨rfl,hb1⟩;replace R:=R.keep hb1;replace HB:=later HB hb1;clear hb1
      obtain⟨k0,k1,k2,k3,k4⟩:=id R))
 refine bodyPost_ret (v:=.agg #[.float .f64 (infI 1),.float .f64 (infI (-1))]) (by simp [results,Tryz.results206,go_sem, *]) rfl ⟨rfl, ?_⟩
 repeat' (first | (with_reducible exact HB) | (with_reducible refine Below.setCell ?_ ?_ _) | go_size)
theorem Sqr_w (lo hi:Nat) (hl:lo<18446744073709551616) (hh:hi<18446744073709551616) (w:World) :
  Calls Tryz.prog 206 #[.agg #[.float .f64 lo,.float .f64 hi]] w fun e w'=>e=.returned (.agg #[.float .f64 (sqrP lo hi).1,.float .f64 (sqrP lo hi).2])/\Below w.heap.size w w':=by
 unfold sqrP
 cases hs:hsB lo hi
 ·rw [if_neg (by simp)]
  exact sqr_none lo hi hl hh hs w
 ·rw [if_pos rfl]
  obtain⟨-, -, -,n1,n2,m1,m2⟩:=mag_keys hl hh (hs_iff.1 hs)
  have c0:=fun b W c0 c1=>someEmpty1_w b lo hi hl hh W c0 c1
  rw [hs] at c0
  exact sqr_core lo hi _ _ _ _ c0 (fun w=>mig_w lo hi hl hh w) (fun w=>mag_w lo hi hl hh w) (fun w=>mulV_w _ _ _ (by omega) (by omega) n1 n1 w) (fun w=>mulV_w _ _ _ (by omega) (by omega) n2 n2 w) w
def Ivs (w:World) (A:Option Addr) (n:Nat) (X:Nat->Nat×Nat):Prop :=
 ∀i,i<n->∃b o,A=some ⟨b,o,none⟩/\b<w.heap.size/\w.cell? ⟨b,o+i*2,none⟩=some (.float .f64 (X i).1)/\w.cell? ⟨b,o+i*2+1,none⟩=some (.float .f64 (X i).2)/\(X i).1<18446744073709551616/\(X i).2<18446744073709551616
theorem Ivs.keep {w w2:World} {A:Option Addr} {n:Nat} {X:Nat->Nat×Nat} (h:Ivs w A n X) (hb:Below w.heap.size w w2):Ivs w2 A n X:=fun i hi=>by
 obtain⟨b,o,e,l,c0,c1,r⟩:=h i hi
 exact⟨b,o,e,Nat.lt_of_lt_of_le l hb.size,keepsC hb c0 l,keepsC hb c1 l,r⟩
def dimB (n:Nat):Bool:=decide (1<=n/\n<=24)
theorem dim_yes {n:Nat} (h1:1<=n) (h2:n<=24):dimB n=true:=decide_eq_true ⟨h1,h2⟩
theorem dim_no {n:Nat} (h:n=0\/24<n):dimB n=false:=decide_eq_false (by omega)
def vecB (n:Nat) (X:Nat->Nat×Nat):Bool:=(List.range n).all (fun i=>rightB (X i).1 (X i).2)&&dimB n
theorem all_upto {p:Nat->Bool} {n:Nat}:(List.range n).all p=true↔∀i,i<n->p i=true:=by
 rw [List.all_eq_true]
 exact⟨fun h i hi=>h i (List.mem_range.2 hi),fun h i hi=>h i (List.mem_range.1 hi)⟩
theorem all_not {p:Nat->Bool} {n i:Nat} (hi:i<n) (h:p i=false):(List.range n).all p=false:=by
 cases c:(List.range n).all p
 ·rfl
 ·rw [all_upto.1 c i hi] at h;cases h
theorem vecB_all {n:Nat} {X:Nat->Nat×Nat} (h:∀j,j<n->rightB (X j).1 (X j).2=true):vecB n X=dimB n:=by
 unfold vecB
 rw [all_upto.2 h,Bool.true_and]
theorem isDim_w (n:Nat) (hn:n<=9223372036854775807) (w:World):Calls Tryz.prog 284 #[.int .i64 (n:Int)] w fun e w'=>e=.returned (.bool (dimB n))/\w=w':=by
 by_cases c1:1<=n
 ·by_cases c2:n<=24
  ·have h1:(1:Int)<=(n:Int):=by omega
   have h2:(n:Int)<=24:=by omega
   rw [dim_yes c1 c2]
   go_enter Tryz.func284,Tryz.ntmps284
   go_wp2_with fail
   go_ret
   exact⟨rfl,rfl⟩
  ·have h1:(1:Int)<=(n:Int):=by omega
   have h2:¬(n:Int)<=24:=by omega
   rw [dim_no (by omega)]
   go_enter Tryz.func284,Tryz.ntmps284
   go_wp2_with fail
   go_ret
   exact⟨rfl,rfl⟩
 ·have h1:¬(1:Int)<=(n:Int):=by omega
  rw [dim_no (by omega)]
  go_enter Tryz.func284,Tryz.ntmps284
  go_wp2_with fail
  go_ret
  exact⟨rfl,rfl⟩
set_option maxHeartbeats 1000000 in
theorem vecMay_w (A:Option Addr) (n C:Nat) (X:Nat->Nat×Nat) (hC:n<=9223372036854775807) (w:World) (V:Ivs w A n X) :
  Calls Tryz.prog 265 #[.slice A n C] w fun e w'=>e=.returned (.bool (vecB n X))/\Below w.heap.size w w':=by
 have cr:=fun (i:Nat) (h1:(X i).1<18446744073709551616) (h2:(X i).2<18446744073709551616) w=>right_w (X i).1 (X i).2 h1 h2 w
 go_enter Tryz.func265,Tryz.ntmps265
 go_wp2_with fail
 go_loopg [7] n (fun G s7 wx=>Below w.heap.size w wx/\∃i:Nat,i+G=n/\s7=.int .i64 (i:Int)/\Hid (∀j,j<i->rightB (X j).1 (X j).2=true))
 case atStart=>exact⟨Below.refl _ _,0,by omega,rfl,fun j hj=>absurd hj (by omega)⟩
 case round =>
  obtain⟨HB,i,hi,rfl,hall⟩:=hrel
  by_cases ci:i=n
  ·subst ci
   go_wp2_with (go_at_call 284;refine (isDim_w i hC _).mono ?_;rintro _ _ ⟨rfl,rfl⟩)
   go_ret
   exact⟨(congrArg (fun q=>Ending.returned (Value.bool q)) (vecB_all hall)).symm,HB⟩
  ·have hlt:(i:Int)<(n:Int):=by omega
   obtain⟨b,o,hA,hb,x0,x1,l0,l1⟩:=(V.keep HB) i (by omega)
   have c:=cr i l0 l1
   have hcase:rightB (X i).1 (X i).2=true\/rightB (X i).1 (X i).2=false:=by cases rightB (X i).1 (X i).2 <;> simp
   rcases hcase with hq | hq
   ·rw [hq] at c
    subst hA
    go_wp2_with (go_at_call 175;refine (c _).mono ?_;rintro _ w1 ⟨rfl,hb1⟩;replace HB:=later (below_alloc HB _) hb1)
    go_roundg (n-i-1)
    case measure=>omega
    case rel=>exact⟨HB,i+1,by omega,by go_num,fun j hj=>by rcases Nat.lt_or_ge j i with h | h;exact hall j h;rw [show j=i by omega];exact hq⟩
   ·rw [hq] at c
    have e:vecB n X=false:=by
     unfold vecB
     rw [all_not (i:=i) (by omega) hq,Bool.false_and]
    subst hA
    go_wp2_with (go_at_call 175;refine (c _).mono ?_;rintro _ w1 ⟨rfl,hb1⟩;replace HB:=later (below_alloc HB _) hb1)
    go_ret
    exact⟨(congrArg (fun q=>Ending.returned (Value.bool q)) e).symm,HB⟩
def Rws (w:World) (A:Option Addr) (N:Nat) (RA:Nat->Option Addr) (RL RC:Nat->Nat) (X:Nat->Nat->Nat×Nat):Prop :=
 ∀r,r<N->∃b o,A=some ⟨b,o,none⟩/\b<w.heap.size/\w.cell? ⟨b,o+r,none⟩=some (.slice (RA r) (RL r) (RC r))/\RL r<=9223372036854775807/\Ivs w (RA r) (RL r) (X r)
theorem Rws.keep {w w2:World} {A:Option Addr} {N:Nat} {RA:Nat->Option Addr} {RL RC:Nat->Nat} {X:Nat->Nat->Nat×Nat} (h:Rws w A N RA RL RC X) (hb:Below w.heap.size w w2):Rws w2 A N RA RL RC X:=fun r hr=>by
 obtain⟨b,o,e,l,c0,c1,i⟩:=h r hr
 exact⟨b,o,e,Nat.lt_of_lt_of_le l hb.size,keepsC hb c0 l,c1,i.keep hb⟩
def matB (N:Nat) (RL:Nat->Nat) (X:Nat->Nat->Nat×Nat):Bool:=(List.range N).all (fun r=>decide (RL r=RL 0)&&vecB (RL r) (X r))&&dimB N
theorem matB_all {N:Nat} {RL:Nat->Nat} {X:Nat->Nat->Nat×Nat} (h:∀j,j<N->(decide (RL j=RL 0)&&vecB (RL j) (X j))=true):matB N RL X=dimB N:=by
 unfold matB
 rw [all_upto.2 h,Bool.true_and]
set_option maxHeartbeats 2000000 in
theorem matMay_w (A:Option Addr) (N C:Nat) (RA:Nat->Option Addr) (RL RC:Nat->Nat) (X:Nat->Nat->Nat×Nat) (hN:N<=9223372036854775807) (w:World) (V:Rws w A N RA RL RC X) :
  Calls Tryz.prog 264 #[.slice A N C] w fun e w'=>e=.returned (.bool (matB N RL X))/\Below w.heap.size w w':=by
 go_enter Tryz.func264,Tryz.ntmps264
 go_wp2_with fail
 go_loopg [7] N (fun G s7 wx=>Below w.heap.size w wx/\∃r:Nat,r+G=N/\s7=.int .i64 (r:Int)/\Hid (∀j,j<r->(decide (RL j=RL 0)&&vecB (RL j) (X j))=true))
 case atStart=>exact⟨Below.refl _ _,0,by omega,rfl,fun j hj=>absurd hj (by omega)⟩
 case round =>
  obtain⟨HB,r,hr,rfl,hall⟩:=hrel
  by_cases cr:r=N
  ·subst cr
   go_wp2_with (go_at_call 284;refine (isDim_w r hN _).mono ?_;rintro _ _ ⟨rfl,rfl⟩)
   go_ret
   exact⟨(congrArg (fun q=>Ending.returned (Value.bool q)) (matB_all hall)).symm,HB⟩
  ·have hlt:(r:Int)<(N:Int):=by omega
   have hlt0:(0:Int)<(N:Int):=by omega
   obtain⟨b,o,hA,hb,x0,l0,I⟩:=(V.keep HB) r (by omega)
   obtain⟨b',o',hA',hb',x1,l1, -⟩:=(V.keep HB) 0 (by omega)
   have hE:b'=b/\o'=o:=by
    rw [hA] at hA'
    simp only [Option.some.injEq,Addr.mk.injEq] at hA'
    exact⟨hA'.1.symm,hA'.2.1.symm⟩
   obtain⟨rfl,rfl⟩:=hE
   rw [Nat.add_zero] at x1
   clear hA' hb'
   have c:∀w2,Below wr.heap.size wr w2->Calls Tryz.prog 265 #[.slice (RA r) (RL r) (RC r)] w2 fun e w'=>e=.returned (.bool (vecB (RL r) (X r)))/\Below w2.heap.size w2 w':=fun w2 hw=>vecMay_w (RA r) (RL r) (RC r) (X r) l0 w2 (I.keep hw)
   replace c:=c wr (Below.refl _ _)
   by_cases ce:RL r=RL 0
   ·have ce':((RL r:Int) != (RL 0:Int))=false:=by simp [ce]
    have CE:Hid (RL r=RL 0):=ce
    clear ce
    have hcase:vecB (RL r) (X r)=true\/vecB (RL r) (X r)=false:=by cases vecB (RL r) (X r) <;> simp
    rcases hcase with hq | hq
    ·rw [hq] at c
     subst hA
     go_wp2_with (go_at_call 265;refine c.mono ?_;rintro _ w1 ⟨rfl,hb1⟩;have y1:=keepsC hb1 x1 hb;replace HB:=later HB hb1)
     go_roundg (N-r-1)
     case measure=>omega
     case rel=>exact⟨HB,r+1,by omega,by go_num,fun j hj=>by rcases Nat.lt_or_ge j r with h | h;exact hall j h;rw [show j=r by omega,hq,decide_eq_true (show RL r=RL 0 from CE)];rfl⟩
    ·rw [hq] at c
     have e:matB N RL X=false:=by
      unfold matB
      rw [all_not (i:=r) (by omega) (by rw [hq,Bool.and_false]),Bool.false_and]
     subst hA
     go_wp2_with (go_at_call 265;refine c.mono ?_;rintro _ w1 ⟨rfl,hb1⟩;have y1:=keepsC hb1 x1 hb;replace HB:=later HB hb1)
     go_ret
     exact⟨(congrArg (fun q=>Ending.returned (Value.bool q)) e).symm,HB⟩
   ·have ce':((RL r:Int) != (RL 0:Int))=true:=by simp;omega
    have e:matB N RL X=false:=by
     unfold matB
     rw [all_not (i:=r) (by omega) (by rw [decide_eq_false ce,Bool.false_and]),Bool.false_and]
    generalize vecB (RL r) (X r)=q at *
    subst hA
    cases q
    all_goals
     go_wp2_with (go_at_call 265;refine c.mono ?_;rintro _ w1 ⟨rfl,hb1⟩;have y1:=keepsC hb1 x1 hb;replace HB:=later HB hb1)
     go_ret
     exact⟨(congrArg (fun q=>Ending.returned (Value.bool q)) e).symm,HB⟩
def dotP (X Y:Nat->Nat×Nat):Nat->Nat×Nat
 | 0=>(0,0)
 | k+1=>addP (dotP X Y k).1 (dotP X Y k).2 (mulP (X k).1 (X k).2 (Y k).1 (Y k).2).1 (mulP (X k).1 (X k).2 (Y k).1 (Y k).2).2
theorem dotP_lt {n:Nat} {X Y:Nat->Nat×Nat} (hx:∀i,i<n->(X i).1<18446744073709551616/\(X i).2<18446744073709551616) (hy:∀i,i<n->(Y i).1<18446744073709551616/\(Y i).2<18446744073709551616):(dotP X Y n).1<18446744073709551616/\(dotP X Y n).2<18446744073709551616:=by
 induction n with
 | zero=>exact⟨show 0<18446744073709551616 by omega,show 0<18446744073709551616 by omega⟩
 | succ n ih =>
  have d:=ih (fun i hi=>hx i (by omega)) (fun i hi=>hy i (by omega))
  have a:=hx n (by omega)
  have b:=hy n (by omega)
  have m:=mulP_lt a.1 a.2 b.1 b.2
  exact addP_lt d.1 d.2 m.1 m.2
set_option maxHeartbeats 4000000 in
theorem dot_core (A B:Option Addr) (n m C D:Nat) (X Y P Q:Nat->Nat×Nat) (hn:n<=9223372036854775807) (hm:m<=9223372036854775807) (hnm:n<=m) (w:World) (V:Ivs w A n X) (U:Ivs w B m Y)
  (cz:∀w,Calls Tryz.prog 55 #[.float .f64 0] w fun e w'=>e=.returned (.agg #[.float .f64 (P 0).1,.float .f64 (P 0).2])/\Below w.heap.size w w')
  (cm:∀i,i<n->∀w,Calls Tryz.prog 54 #[.agg #[.float .f64 (X i).1,.float .f64 (X i).2],.agg #[.float .f64 (Y i).1,.float .f64 (Y i).2]] w fun e w'=>e=.returned (.agg #[.float .f64 (Q i).1,.float .f64 (Q i).2])/\Below w.heap.size w w')
  (ca:∀i,i<n->∀w,Calls Tryz.prog 61 #[.agg #[.float .f64 (P i).1,.float .f64 (P i).2],.agg #[.float .f64 (Q i).1,.float .f64 (Q i).2]] w fun e w'=>e=.returned (.agg #[.float .f64 (P (i+1)).1,.float .f64 (P (i+1)).2])/\Below w.heap.size w w') :
  Calls Tryz.prog 266 #[.slice A n C,.slice B m D] w fun e w'=>e=.returned (.agg #[.float .f64 (P n).1,.float .f64 (P n).2])/\Below w.heap.size w w':=by
 have R:Has2 (w.alloc (.cells #[.float .f64 0,.float .f64 0] 24)) w.heap.size (.float .f64 0) (.float .f64 0):=has2_new _ _ _ _
 have HB:Below w.heap.size w (w.alloc (.cells #[.float .f64 0,.float .f64 0] 24)):=below_alloc (Below.refl _ _) _
 go_enter Tryz.func266,Tryz.ntmps266
 go_upto_region 1 with fail
 generalize w.alloc (.cells #[.float .f64 0,.float .f64 0] 24)=V0 at *
 go_upto_region 2 with (go_at_call 55;refine (cz _).mono ?_;rintro _ V1 ⟨rfl,hb1⟩;replace R:=R.keep hb1;replace HB:=later HB hb1;clear hb1)
 have lo:w.heap.size<V1.heap.size:=R.2.2.2.2
 have O:=has2_new V1 (.float .f64 (P 0).1) (.float .f64 (P 0).2) 24
 replace R:=R.alloc (.cells #[.float .f64 (P 0).1,.float .f64 (P 0).2] 24)
 replace HB:=below_alloc HB (.cells #[.float .f64 (P 0).1,.float .f64 (P 0).2] 24)
 generalize V1.alloc (.cells #[.float .f64 (P 0).1,.float .f64 (P 0).2] 24)=V2 at *
 generalize V1.heap.size=ob at *
 clear V1 V0 cz
 go_wp2_with fail
 go_loopg [10] n (fun G s10 wx=>Below w.heap.size w wx/\Has2 wx w.heap.size (.float .f64 0) (.float .f64 0)/\∃i:Nat,i+G=n/\s10=.int .i64 (i:Int)/\Has2 wx ob (.float .f64 (P i).1) (.float .f64 (P i).2))
 case atStart=>exact⟨HB,R,0,by omega,rfl,O⟩
 case round =>
  clear HB R O
  obtain⟨HB,R,i,hi,rfl,O⟩:=hrel
  by_cases ci:i=n
  ·subst ci
   obtain⟨z0,z1,z2,z3,z4⟩:=id O
   obtain⟨r0,r1,r2,r3,r4⟩:=id R
   go_wp2_with fail
   refine bodyPost_ret (v:=.agg #[.float .f64 (P i).1,.float .f64 (P i).2]) (by simp [results,Tryz.results266,go_sem, *]) rfl ⟨rfl, ?_⟩
   repeat' (first | (with_reducible exact HB) | (with_reducible refine Below.setCell ?_ ?_ _) | go_size)
  ·have hlt:(i:Int)<(n:Int):=by omega
   have hlt2:(i:Int)<(m:Int):=by omega
   obtain⟨b,o,hA,hb,x0,x1, -, -⟩:=(V.keep HB) i (by omega)
   obtain⟨b',o',hB,hb',y0,y1, -, -⟩:=(U.keep HB) i (by omega)
   have c1:=cm i (by omega)
   have c2:=ca i (by omega)
   subst hA hB
   go_upto_region 5 with fail
   have kx0:=fun n:Behind wr=>n.cell x0 hb
   have kx1:=fun n:Behind wr=>n.cell x1 hb
   have ky0:=fun n:Behind wr=>n.cell y0 hb'
   have ky1:=fun n:Behind wr=>n.cell y1 hb'
   have ko0:=fun n:Behind wr=>n.cell O.1 O.2.2.2.2
   have ko1:=fun n:Behind wr=>n.cell O.2.1 O.2.2.2.2
   clear x0 x1 y0 y1
   refine tail_behind 11 (by kernel_rfl) (by kernel_rfl) ?_
   simp only [List.take_succ_cons,List.take_zero,List.drop_succ_cons,List.drop_zero]
   repeat (go_big_quiet_step (first
    | (go_at_call 54;with_reducible refine Behind.call (c1 _))
    | (go_at_call 61;with_reducible refine Behind.call (c2 _))))
   refine wpQuiet_nil ?_
   rintro _ ⟨q,rfl⟩
   obtain⟨W,hb1⟩:=q
   dsimp only
   clear kx0 kx1 ky0 ky1 ko0 ko1
   replace R:=R.keep hb1;replace O:=O.keep hb1;replace HB:=later HB hb1;clear hb1
   obtain⟨z0,z1,z2,z3,z4⟩:=id O
   go_wp2_with fail
   go_roundg (n-i-1)
   case measure=>omega
   case rel =>
    refine⟨?_,R.far (by omega) _ _,i+1,by omega,by go_num,O.put _ _⟩
    repeat' (first | (with_reducible exact HB) | (with_reducible refine Below.setCell ?_ ?_ _) | go_size | omega)
theorem ivs_words {w:World} {A:Option Addr} {n:Nat} {X:Nat->Nat×Nat} (V:Ivs w A n X):∀i,i<n->(X i).1<18446744073709551616/\(X i).2<18446744073709551616:=fun i hi=>by
 obtain⟨b,o,e,l,c0,c1,r⟩:=V i hi
 exact r
theorem dot_w (A B:Option Addr) (n m C D:Nat) (X Y:Nat->Nat×Nat) (hn:n<=9223372036854775807) (hm:m<=9223372036854775807) (hnm:n<=m) (w:World) (V:Ivs w A n X) (U:Ivs w B m Y) :
  Calls Tryz.prog 266 #[.slice A n C,.slice B m D] w fun e w'=>e=.returned (.agg #[.float .f64 (dotP X Y n).1,.float .f64 (dotP X Y n).2])/\Below w.heap.size w w':=by
 have a:=ivs_words V
 have b:=ivs_words U
 exact dot_core A B n m C D X Y (dotP X Y) (fun i=>mulP (X i).1 (X i).2 (Y i).1 (Y i).2) hn hm hnm w V U point0_w (fun i hi w=>Mul_w _ _ _ _ (a i hi).1 (a i hi).2 (b i (by omega)).1 (b i (by omega)).2 w)
  (fun i hi w=>Add_w _ _ _ _ (dotP_lt (n:=i) (fun j hj=>a j (by omega)) (fun j hj=>b j (by omega))).1 (dotP_lt (n:=i) (fun j hj=>a j (by omega)) (fun j hj=>b j (by omega))).2 (mulP_lt (a i hi).1 (a i hi).2 (b i (by omega)).1 (b i (by omega)).2).1 (mulP_lt (a i hi).1 (a i hi).2 (b i (by omega)).1 (b i (by omega)).2).2 w)
end Go.Proofs.YtopfabemfbdccaaGreat
