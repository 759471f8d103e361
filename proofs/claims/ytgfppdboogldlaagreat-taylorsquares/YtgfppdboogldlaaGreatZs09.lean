/- What Mul of intervals that hold numbers answers: ends with the product between them. The walks of leastQuotient and shrink. -/
import Derived.Test.YtgfppdboogldlaaGreatZs08
import Derived.Test.YtgfppdboogldlaaGreatZs06
namespace Go.Proofs.YtgfppdboogldlaaGreat
open Go.ChangeShapes Go.WideShapes Go.ChangeAt Go.RowKit
theorem ge0 {x:Nat} (hx:x<18446744073709551616) (hn:nanB x=false):(FloatKind.f64.format.order x 0==some .gt || FloatKind.f64.format.order x 0==some .eq)=decide (0≤key x):=by
 rw [o_ge hx (by omega)]
 unfold leB
 have h0:nanB 0=false:=by decide
 have k0:key 0=0:=rfl
 rw [hn,h0,k0];simp
theorem le0 {x:Nat} (hx:x<18446744073709551616) (hn:nanB x=false):(FloatKind.f64.format.order x 0==some .lt || FloatKind.f64.format.order x 0==some .eq)=decide (key x≤0):=by
 rw [o_le hx (by omega)]
 unfold leB
 have h0:nanB 0=false:=by decide
 have k0:key 0=0:=rfl
 rw [hn,h0,k0];simp
theorem lpP_lt {t fl fh:Nat} (nt:nanB t=false) (n1:nanB fl=false) (n2:nanB fh=false):lpP t fl fh<18446744073709551616:=by
 unfold lpP
 split
 · exact (mulV_facts (-1) nt n2).2
 · exact (mulV_facts (-1) nt n1).2
theorem stretch_w (xl xh fl fh:Nat) (h1:xl<18446744073709551616) (h2:xh<18446744073709551616) (h3:fl<18446744073709551616) (h4:fh<18446744073709551616) (n1:nanB xl=false) (n2:nanB xh=false) (n3:nanB fl=false) (n4:nanB fh=false) (w:World) :
   Calls Tryz.prog 163 #[.agg #[.float .f64 xl,.float .f64 xh],.agg #[.float .f64 fl,.float .f64 fh]] w fun e w'=>e=.returned (.agg #[.float .f64 (makeP (lpP xl fl fh) (negB (lpP (negB xh) fl fh))).1,.float .f64 (makeP (lpP xl fl fh) (negB (lpP (negB xh) fl fh))).2])∧Below w.heap.size w w':=by
 have n5:nanB (negB xh)=false:=by rw [nanB_negB h2];exact n2
 have b1:=lpP_lt (t:=xl) n1 n3 n4
 have b2:=lpP_lt (t:=negB xh) n5 n3 n4
 exact stretch_core xl xh fl fh (negB xh) (lpP xl fl fh) (lpP (negB xh) fl fh) (negB (lpP (negB xh) fl fh)) _ _ (negFloat_eq xh h2) (negFloat_eq _ b2)
   (fun w=>lp_w xl fl fh h1 h3 h4 n1 n3 n4 w) (fun w=>lp_w (negB xh) fl fh (negB_lt h2) h3 h4 n5 n3 n4 w) (fun w=>make_w _ _ b1 (negB_lt b2) w) w
theorem some2 {xl xh yl yh a b:Nat} (X:Held xl xh a) (Y:Held yl yh b):∀b W,b<W.heap.size→W.cell? ⟨b,0,none⟩=some (.float .f64 xl)→W.cell? ⟨b,1,none⟩=some (.float .f64 xh)→W.cell? ⟨b,2,none⟩=some (.float .f64 yl)→W.cell? ⟨b,3,none⟩=some (.float .f64 yh) →
   Calls Tryz.prog 114 #[.slice (some ⟨b,0,none⟩) 2 2] W fun e w'=>e=.returned (.bool false)∧Below W.heap.size W w':=by
 intro b W hlt c0 c1 c2 c3
 have h:=someEmpty2_w b xl xh yl yh X.hl X.hh Y.hl Y.hh W hlt c0 c1 c2 c3
 rw [X.hs,Y.hs] at h
 exact h
def divD (a b:Nat):Nat:=(divR a b (-1)).getD 0
def lqP (a dl dh:Nat):Nat:=if leB 0 a then divD a dh else if eqB dl 0 then infI (-1) else divD a dl
theorem divD_w (a b:Nat) (ha:a<18446744073709551616) (hb:b<18446744073709551616) (hs:∃r,divR a b (-1)=some r) (w:World) :
   Calls Tryz.prog 195 #[.float .f64 a,.float .f64 b,.int .i64 (-1)] w fun e w'=>e=.returned (.float .f64 (divD a b))∧Below w.heap.size w w':=by
 have h:=div_w a b (-1) ha hb w
 obtain⟨v,hv⟩:=hs
 have e:divD a b=v:=by unfold divD;rw [hv];rfl
 rw [hv] at h
 refine h.mono ?_
 rintro _ _ ⟨⟨r,rfl, -,e2⟩,hb⟩
 have e2:r=v:=e2
 rw [e,e2]
 exact⟨rfl,hb⟩
theorem lq_w (a dl dh:Nat) (ha:a<18446744073709551616) (h1:dl<18446744073709551616) (h2:dh<18446744073709551616) (s1:leB 0 a=true→∃r,divR a dh (-1)=some r) (s2:leB 0 a=false→eqB dl 0=false→∃r,divR a dl (-1)=some r) (w:World) :
   Calls Tryz.prog 168 #[.float .f64 a,.agg #[.float .f64 dl,.float .f64 dh]] w fun e w'=>e=.returned (.float .f64 (lqP a dl dh))∧Below w.heap.size w w':=by
 have o:=o_ge ha (show 0<18446744073709551616 by omega)
 have o2:=o_eq h1 (show 0<18446744073709551616 by omega)
 have c1:=fun h w=>divD_w a dh ha h2 (s1 h) w
 have c2:=fun h k w=>divD_w a dl ha h1 (s2 h k) w
 unfold lqP
 generalize divD a dh=r1 at *
 generalize divD a dl=r2 at *
 generalize leB 0 a=b at *
 generalize eqB dl 0=b2 at *
 clear ha h1 h2 s1 s2
 cases b
 · cases b2
   · have c2:=c2 rfl rfl
     clear c1
     go_enter Tryz.func168,Tryz.ntmps168
     go_wp2_with (go_at_call 195;refine (c2 _).mono ?_;rintro _ w1 ⟨rfl,hb1⟩)
     go_ret
     exact⟨rfl,later (by go_grown) hb1⟩
   · clear c1 c2
     go_enter Tryz.func168,Tryz.ntmps168
     go_wp2_with (go_at_call 64;refine (inf_w _ _).mono ?_;rintro _ _ ⟨rfl,rfl⟩)
     go_ret
     exact⟨rfl,by go_grown⟩
 · have c1:=c1 rfl
   clear c2
   go_enter Tryz.func168,Tryz.ntmps168
   go_wp2_with (go_at_call 195;refine (c1 _).mono ?_;rintro _ w1 ⟨rfl,hb1⟩)
   go_ret
   exact⟨rfl,later (by go_grown) hb1⟩
set_option maxHeartbeats 1000000 in
theorem shrink_core (xl xh fl fh nx p1 p2 np m1 m2:Nat) (e1:Op.negFloat .f64 xh=nx) (e2:Op.negFloat .f64 p2=np)
   (c1:∀w,Calls Tryz.prog 168 #[.float .f64 xl,.agg #[.float .f64 fl,.float .f64 fh]] w fun e w'=>e=.returned (.float .f64 p1)∧Below w.heap.size w w')
   (c2:∀w,Calls Tryz.prog 168 #[.float .f64 nx,.agg #[.float .f64 fl,.float .f64 fh]] w fun e w'=>e=.returned (.float .f64 p2)∧Below w.heap.size w w')
   (c3:∀w,Calls Tryz.prog 113 #[.float .f64 p1,.float .f64 np] w fun e w'=>e=.returned (.agg #[.float .f64 m1,.float .f64 m2])∧Below w.heap.size w w') (w:World) :
   Calls Tryz.prog 153 #[.agg #[.float .f64 xl,.float .f64 xh],.agg #[.float .f64 fl,.float .f64 fh]] w fun e w'=>e=.returned (.agg #[.float .f64 m1,.float .f64 m2])∧Below w.heap.size w w':=by
 go_enter Tryz.func153,Tryz.ntmps153
 go_upto_region 1 with fail
 have X:Has2 (((w.alloc (Obj.cells #[Value.float FloatKind.f64 xl,Value.float FloatKind.f64 xh] 43)).alloc (Obj.cells #[Value.float FloatKind.f64 fl,Value.float FloatKind.f64 fh] 43)).alloc (Obj.cells #[Value.float FloatKind.f64 0,Value.float FloatKind.f64 0] 43)).drew w.heap.size (.float .f64 xl) (.float .f64 xh):=⟨by go_simp,by go_simp,by go_simp,by go_simp,by go_size⟩
 have Y:Has2 (((w.alloc (Obj.cells #[Value.float FloatKind.f64 xl,Value.float FloatKind.f64 xh] 43)).alloc (Obj.cells #[Value.float FloatKind.f64 fl,Value.float FloatKind.f64 fh] 43)).alloc (Obj.cells #[Value.float FloatKind.f64 0,Value.float FloatKind.f64 0] 43)).drew (w.heap.size+1) (.float .f64 fl) (.float .f64 fh):=⟨by go_simp,by go_simp,by go_simp,by go_simp,by go_size⟩
 have R:Has2 (((w.alloc (Obj.cells #[Value.float FloatKind.f64 xl,Value.float FloatKind.f64 xh] 43)).alloc (Obj.cells #[Value.float FloatKind.f64 fl,Value.float FloatKind.f64 fh] 43)).alloc (Obj.cells #[Value.float FloatKind.f64 0,Value.float FloatKind.f64 0] 43)).drew (w.heap.size+1+1) (.float .f64 0) (.float .f64 0):=⟨by go_simp,by go_simp,by go_simp,by go_simp,by go_size⟩
 have HB:Below w.heap.size w (((w.alloc (Obj.cells #[Value.float FloatKind.f64 xl,Value.float FloatKind.f64 xh] 43)).alloc (Obj.cells #[Value.float FloatKind.f64 fl,Value.float FloatKind.f64 fh] 43)).alloc (Obj.cells #[Value.float FloatKind.f64 0,Value.float FloatKind.f64 0] 43)).drew:=by go_grown
 have ne1:w.heap.size+1+1≠w.heap.size:=by omega
 have ne2:w.heap.size≠w.heap.size+1+1:=by omega
 go_region_held3 (fun w'=>w'.cell? ⟨w.heap.size,0,none⟩=some (.float .f64 xl)∧w'.cell? ⟨w.heap.size,1,none⟩=some (.float .f64 xh)∧w'.cell? ⟨w.heap.size+1,0,none⟩=some (.float .f64 fl)∧w'.cell? ⟨w.heap.size+1,1,none⟩=some (.float .f64 fh)) (first | exact⟨X.1,X.2.1,Y.1,Y.2.1⟩ | go_keep)
   (first
     | (go_at_call_of 168 (Value.float .f64 xl);refine (c1 _).mono ?_;rintro _ w2 ⟨rfl,hb1⟩;replace X:=X.keep hb1;replace Y:=Y.keep hb1;replace R:=R.keep hb1;replace HB:=later HB hb1;clear hb1)
     | (go_at_call_of 168 (Value.float .f64 nx);refine (c2 _).mono ?_;rintro _ w2 ⟨rfl,hb1⟩;replace X:=X.keep hb1;replace Y:=Y.keep hb1;replace R:=R.keep hb1;replace HB:=later HB hb1;clear hb1)
     | (go_at_call 113;refine (c3 _).mono ?_;rintro _ w3 ⟨rfl,hb1⟩;replace X:=X.keep hb1;replace Y:=Y.keep hb1;replace R:=R.keep hb1;replace HB:=later HB hb1;clear hb1;obtain⟨d0,d1,d2,d3,d4⟩:=R))
 all_goals
   go_wp2_with fail
   refine bodyPost_ret (v:=.agg #[.float .f64 m1,.float .f64 m2]) (by simp [results,Tryz.results153,go_sem, *]) rfl ⟨rfl, ?_⟩
   repeat' (first | (with_reducible exact HB) | (with_reducible refine Below.setCell ?_ ?_ _) | go_size)
end Go.Proofs.YtgfppdboogldlaaGreat
