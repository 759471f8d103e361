/- What Mul of intervals that hold numbers answers: ends with the product between them. What Div, Sqr and Sqrt of intervals that hold numbers answer: ends with the quotient, the square, the root between them. The statement IvalHolds, walked: at every input it answers true. -/
import Derived.Test.YtfdomcnaaadedaaZs14
import Derived.Test.YtfdomcnaaadedaaZs15
import Derived.Test.YtfdomcnaaadedaaZs13
namespace Go.Proofs.Ytfdomcnaaadedaa
open Go.ChangeShapes Go.WideShapes Go.ChangeAt Go.RowKit
theorem ge0 {x:Nat} (hx:x<18446744073709551616) (hn:nanB x=false):(FloatKind.f64.format.order x 0==some .gt || FloatKind.f64.format.order x 0==some .eq)=decide (0≤key x):=by
 rw [o_ge hx (by omega)]
 unfold leB
 have h0:nanB 0=false:=by decide
 have k0:key 0=0:=rfl
 rw [hn,h0,k0];simp
theorem le0 {x:Nat} (hx:x<18446744073709551616) (hn:nanB x=false):(FloatKind.f64.format.order x 0==some .lt || FloatKind.f64.format.order x 0==some .eq)=decide (key x≤0):=by
 rw [o_le hx (by omega)]
 unfold leB
 have h0:nanB 0=false:=by decide
 have k0:key 0=0:=rfl
 rw [hn,h0,k0];simp
theorem lpP_lt {t fl fh:Nat} (nt:nanB t=false) (n1:nanB fl=false) (n2:nanB fh=false):lpP t fl fh<18446744073709551616:=by
 unfold lpP
 split
 · exact (mulV_facts (-1) nt n2).2
 · exact (mulV_facts (-1) nt n1).2
theorem stretch_w (xl xh fl fh:Nat) (h1:xl<18446744073709551616) (h2:xh<18446744073709551616) (h3:fl<18446744073709551616) (h4:fh<18446744073709551616) (n1:nanB xl=false) (n2:nanB xh=false) (n3:nanB fl=false) (n4:nanB fh=false) (w:World) :
   Calls Try.prog 84 #[.agg #[.float .f64 xl,.float .f64 xh],.agg #[.float .f64 fl,.float .f64 fh]] w fun e w'=>e=.returned (.agg #[.float .f64 (makeP (lpP xl fl fh) (negB (lpP (negB xh) fl fh))).1,.float .f64 (makeP (lpP xl fl fh) (negB (lpP (negB xh) fl fh))).2])∧Below w.heap.size w w':=by
 have n5:nanB (negB xh)=false:=by rw [nanB_negB h2];exact n2
 have b1:=lpP_lt (t:=xl) n1 n3 n4
 have b2:=lpP_lt (t:=negB xh) n5 n3 n4
 exact stretch_core xl xh fl fh (negB xh) (lpP xl fl fh) (lpP (negB xh) fl fh) (negB (lpP (negB xh) fl fh)) _ _ (negFloat_eq xh h2) (negFloat_eq _ b2)
   (fun w=>lp_w xl fl fh h1 h3 h4 n1 n3 n4 w) (fun w=>lp_w (negB xh) fl fh (negB_lt h2) h3 h4 n5 n3 n4 w) (fun w=>make_w _ _ b1 (negB_lt b2) w) w
theorem some2 {xl xh yl yh a b:Nat} (X:Held xl xh a) (Y:Held yl yh b):∀b W,b<W.heap.size→W.cell? ⟨b,0,none⟩=some (.float .f64 xl)→W.cell? ⟨b,1,none⟩=some (.float .f64 xh)→W.cell? ⟨b,2,none⟩=some (.float .f64 yl)→W.cell? ⟨b,3,none⟩=some (.float .f64 yh) →
   Calls Try.prog 65 #[.slice (some ⟨b,0,none⟩) 2 2] W fun e w'=>e=.returned (.bool false)∧Below W.heap.size W w':=by
 intro b W hlt c0 c1 c2 c3
 have h:=someEmpty2_w b xl xh yl yh X.hl X.hh Y.hl Y.hh W hlt c0 c1 c2 c3
 rw [X.hs,Y.hs] at h
 exact h
theorem mulV_nz {p q:Nat} (d:Int) (np:nanB p=false) (nq:nanB q=false):mulV p q d≠9223372036854775808:=by
 have e:=mulV_is d np nq
 unfold mulR at e
 rw [np,nq] at e
 simp only [Bool.or_self,Bool.false_eq_true,if_false] at e
 split at e
 · injection e with e;rw [←e];decide
 · rename_i z
   split at e
   · injection e with e
     rw [←e]
     have z':(isZ p || isZ q)=false:=by simpa using z
     have z2:=Bool.or_eq_false_iff.1 z'
     have h1:=splitM_lt p
     have h2:=splitM_lt q
     exact (roundN_facts (splitG p != splitG q) (prodM (splitM p) (splitM q)) (prodE (splitM p) (splitE p) (splitM q) (splitE q)) d (prodM_lt (splitM_zero z2.1) (splitM_zero z2.2) (by omega) (by omega))).2.1
   · injection e with e
     rw [←e]
     exact (infW_facts _).2.1
theorem divR_fin {a b:Nat} (d:Int) (fa:finB a=true) (fb:finB b=true) (zb:isZ b=false):divR a b d=some (divF a b d):=by
 unfold divR
 rw [fin_not_nan fa,fin_not_nan fb,zb,fa,fb]
 simp
theorem divF_facts {a b:Nat} (d:Int) (zb:isZ b=false):nanB (divF a b d)=false∧divF a b d≠9223372036854775808∧divF a b d<18446744073709551616:=roundN_facts _ _ _ d (divM_lt zb)
theorem div_mirror {a b:Nat} (hb:b<18446744073709551616) (fa:finB a=true) (fb:finB b=true) (zb:isZ b=false):key (divF a b 1)=- key (divF a (negB b) (-1)):=by
 have m:=divR_mirror (a:=a) (b:=negB b) (negB_lt hb)
 rw [negB_negB hb,divR_fin (-1) fa (by rw [finB_negB hb];exact fb) (by rw [isZ_negB hb];exact zb),divR_fin 1 fa fb zb] at m
 rcases m with ⟨c, -⟩ | ⟨x,y,e1,e2, -, -,k⟩
 · cases c
 · injection e1 with e1
   injection e2 with e2
   rw [e1,e2];exact k
theorem div_sides {a b:Nat} (ha:a<18446744073709551616) (hb:b<18446744073709551616) (fa:finB a=true) (fb:finB b=true) (zb:isZ b=false) :
   Le (divF a b (-1)) (divF a b 0)∧Le (divF a b 0) (divF a b 1)∧key (divF a b (-1))≤9218868437227405311∧-9218868437227405311≤key (divF a b 1):=by
 obtain⟨u,hu⟩:∃u:Nat,u=1075:=⟨_,rfl⟩
 have s:=divR_sides a b
 rw [divR_fin (-1) fa fb zb,divR_fin 0 fa fb zb,divR_fin 1 fa fb zb] at s
 have t1:=(div_bot hu ha fa fb zb).2
 have t2:=(div_bot hu ha fa (b:=negB b) (by rw [finB_negB hb];exact fb) (by rw [isZ_negB hb];exact zb)).2
 have t3:=div_mirror hb fa fb zb
 rcases s with ⟨c, -, -⟩ | ⟨d,n,v,e1,e2,e3,ok⟩
 · cases c
 · injection e1 with e1
   injection e2 with e2
   injection e3 with e3
   obtain⟨⟨nd,nn,nu⟩, -,⟨ld,ln,lu⟩,k1,k2, -⟩:=ok
   rw [e1] at t1 ⊢
   rw [e3] at t3 ⊢
   rw [e2]
   exact⟨⟨ld,ln,nd,nn,k1⟩,⟨ln,lu,nn,nu,k2⟩,t1,by omega⟩
theorem isZ_pos {b:Nat} (hb:b<18446744073709551616) (h:key b≠0):isZ b=false:=by
 cases c:isZ b
 · rfl
 · exact absurd ((key_zero hb).1 c) h
theorem point0_w (w:World):Calls Try.prog 36 #[.float .f64 0] w fun e w'=>e=.returned (.agg #[.float .f64 0,.float .f64 0])∧Below w.heap.size w w':=by
 have h:=point_w 0 (by omega) w
 have e:makeP 0 0=(0,0):=by
   have h1:pz 0=0:=rfl
   have h2:hsB 0 0=true:=by decide
   unfold makeP
   rw [h1,if_pos h2]
 rw [e] at h
 exact h
theorem told_calls {f:FuncId} {args:Array Value} {o:Option Nat} {v:Nat} (h:o=some v) (c:∀w,Calls Try.prog f args w fun x w'=>Ans o x∧Below w.heap.size w w') :
   ∀w,Calls Try.prog f args w fun e w'=>e=.returned (.float .f64 v)∧Below w.heap.size w w':=fun w=>by
 have c:=c w
 rw [h] at c
 refine c.mono ?_
 rintro _ _ ⟨⟨r,rfl, -,e⟩,hb⟩
 have e:r=v:=e
 rw [e]
 exact⟨rfl,hb⟩
end Go.Proofs.Ytfdomcnaaadedaa
