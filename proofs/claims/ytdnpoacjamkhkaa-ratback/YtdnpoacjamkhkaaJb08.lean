/- The walk of Mul, of intervals that hold nought inside. What Mul of intervals that hold numbers answers: ends with the product between them. -/
import Derived.Test.YtdnpoacjamkhkaaJb06
import Derived.Test.YtdnpoacjamkhkaaJb07
namespace Go.Proofs.Ytdnpoacjamkhkaa
open Go.ChangeShapes Go.WideShapes Go.ChangeAt Go.RowKit
set_option maxHeartbeats 1000000 in
theorem mul_e (xl xh yl yh m1 m2:Nat) (oM:Nat→Nat→Int→Nat) (h1:xl<18446744073709551616) (h2:xh<18446744073709551616) (h3:yl<18446744073709551616) (h4:yh<18446744073709551616) (n1:nanB xl=false) (n2:nanB xh=false) (n3:nanB yl=false) (n4:nanB yh=false) (c0:∀b W,b<W.heap.size→W.cell? ⟨b,0,none⟩=some (.float .f64 xl)→W.cell? ⟨b,1,none⟩=some (.float .f64 xh)→W.cell? ⟨b,2,none⟩=some (.float .f64 yl)→W.cell? ⟨b,3,none⟩=some (.float .f64 yh)→Calls Try.prog 58 #[.slice (some ⟨b,0,none⟩) 2 2] W fun e w'=>e=.returned (.bool false)∧Below W.heap.size W w')
   (g_xl:(FloatKind.f64.format.order xl 0==some .gt || FloatKind.f64.format.order xl 0==some .eq)=false) (l_xh:(FloatKind.f64.format.order xh 0==some .lt || FloatKind.f64.format.order xh 0==some .eq)=false) (g_yl:(FloatKind.f64.format.order yl 0==some .gt || FloatKind.f64.format.order yl 0==some .eq)=false) (l_yh:(FloatKind.f64.format.order yh 0==some .lt || FloatKind.f64.format.order yh 0==some .eq)=false)
   (cM:∀a b d,a<18446744073709551616→b<18446744073709551616→nanB a=false→nanB b=false→∀w,Calls Try.prog 66 #[.float .f64 a,.float .f64 b,.int .i64 d] w fun e w'=>e=.returned (.float .f64 (oM a b d))∧Below w.heap.size w w') (hmin:∀ts t w,(Builtin.min_ ts t #[.float .f64 (oM xl yh (-1)),.float .f64 (oM xh yl (-1))]).run Try.prog w=.ok (.float .f64 m1) w) (hmax:∀ts t w,(Builtin.max_ ts t #[.float .f64 (oM xl yl 1),.float .f64 (oM xh yh 1)]).run Try.prog w=.ok (.float .f64 m2) w) (w:World) :
   Calls Try.prog 29 #[.agg #[.float .f64 xl,.float .f64 xh],.agg #[.float .f64 yl,.float .f64 yh]] w fun e w'=>e=.returned (.agg #[.float .f64 m1,.float .f64 m2])∧Below w.heap.size w w':=by
 go_enter Try.func29,Try.ntmps29
 go_upto_region 11 with
  (go_at_call 58;refine (c0 (w.heap.size+1+1+1) _ (by go_size) (by go_simp) (by go_simp) (by go_simp) (by go_simp)).mono ?_;rintro _ w1 ⟨rfl,hb1⟩
   have R:Has2 w1 (w.heap.size+1+1) (.float .f64 0) (.float .f64 0):=Has2.keep ⟨by go_simp,by go_simp,by go_simp,by go_simp,by go_size⟩ hb1
   have X:Has2 w1 w.heap.size (.float .f64 xl) (.float .f64 xh):=Has2.keep ⟨by go_simp,by go_simp,by go_simp,by go_simp,by go_size⟩ hb1
   have Y:Has2 w1 (w.heap.size+1) (.float .f64 yl) (.float .f64 yh):=Has2.keep ⟨by go_simp,by go_simp,by go_simp,by go_simp,by go_size⟩ hb1
   have HB:Below w.heap.size w w1:=later (by go_grown) hb1
   have x0:=X.1;have x1:=X.2.1;have y0:=Y.1;have y1:=Y.2.1)
 clear hb1 c0
 have ne1:w.heap.size+1+1≠w.heap.size:=by omega
 have ne2:w.heap.size≠w.heap.size+1+1:=by omega
 have X:Has2 w1.drew w.heap.size (.float .f64 xl) (.float .f64 xh):=X
 have Y:Has2 w1.drew (w.heap.size+1) (.float .f64 yl) (.float .f64 yh):=Y
 have R:Has2 w1.drew (w.heap.size+1+1) (.float .f64 0) (.float .f64 0):=R
 have HB:Below w.heap.size w w1.drew:=HB.drew
 go_region_held3 (fun w'=>w'.cell? ⟨w.heap.size,0,none⟩=some (.float .f64 xl)∧w'.cell? ⟨w.heap.size,1,none⟩=some (.float .f64 xh)∧w'.cell? ⟨w.heap.size+1,0,none⟩=some (.float .f64 yl)∧w'.cell? ⟨w.heap.size+1,1,none⟩=some (.float .f64 yh)) (first | exact⟨X.1,X.2.1,Y.1,Y.2.1⟩ | go_keep)
   (first | (go_at_call 66;refine (cM _ _ _ (by assumption) (by assumption) (by assumption) (by assumption) _).mono ?_;rintro _ w2 ⟨rfl,hb1⟩;replace X:=X.keep hb1;replace Y:=Y.keep hb1;replace R:=R.keep hb1;replace HB:=later HB hb1;clear hb1;have d0:=R.1;have d1:=R.2.1;have d2:=R.2.2.1;have d3:=R.2.2.2.1;have d4:=R.2.2.2.2))
 all_goals
   go_wp2_with fail
   refine bodyPost_ret (v:=.agg #[.float .f64 m1,.float .f64 m2]) (by simp [results,Try.results29,go_sem, *]) rfl ⟨rfl, ?_⟩
   repeat' (first | (with_reducible exact HB) | (with_reducible refine Below.setCell ?_ ?_ _) | go_size)
theorem ge0 {x:Nat} (hx:x<18446744073709551616) (hn:nanB x=false):(FloatKind.f64.format.order x 0==some .gt || FloatKind.f64.format.order x 0==some .eq)=decide (0≤key x):=by
 rw [o_ge hx (by omega)]
 unfold leB
 have h0:nanB 0=false:=by decide
 have k0:key 0=0:=rfl
 rw [hn,h0,k0];simp
theorem le0 {x:Nat} (hx:x<18446744073709551616) (hn:nanB x=false):(FloatKind.f64.format.order x 0==some .lt || FloatKind.f64.format.order x 0==some .eq)=decide (key x≤0):=by
 rw [o_le hx (by omega)]
 unfold leB
 have h0:nanB 0=false:=by decide
 have k0:key 0=0:=rfl
 rw [hn,h0,k0];simp
theorem lpP_lt {t fl fh:Nat} (nt:nanB t=false) (n1:nanB fl=false) (n2:nanB fh=false):lpP t fl fh<18446744073709551616:=by
 unfold lpP
 split
 · exact (mulV_facts (-1) nt n2).2
 · exact (mulV_facts (-1) nt n1).2
theorem stretch_w (xl xh fl fh:Nat) (h1:xl<18446744073709551616) (h2:xh<18446744073709551616) (h3:fl<18446744073709551616) (h4:fh<18446744073709551616) (n1:nanB xl=false) (n2:nanB xh=false) (n3:nanB fl=false) (n4:nanB fh=false) (w:World) :
   Calls Try.prog 64 #[.agg #[.float .f64 xl,.float .f64 xh],.agg #[.float .f64 fl,.float .f64 fh]] w fun e w'=>e=.returned (.agg #[.float .f64 (makeP (lpP xl fl fh) (negB (lpP (negB xh) fl fh))).1,.float .f64 (makeP (lpP xl fl fh) (negB (lpP (negB xh) fl fh))).2])∧Below w.heap.size w w':=by
 have n5:nanB (negB xh)=false:=by rw [nanB_negB h2];exact n2
 have b1:=lpP_lt (t:=xl) n1 n3 n4
 have b2:=lpP_lt (t:=negB xh) n5 n3 n4
 exact stretch_core xl xh fl fh (negB xh) (lpP xl fl fh) (lpP (negB xh) fl fh) (negB (lpP (negB xh) fl fh)) _ _ (negFloat_eq xh h2) (negFloat_eq _ b2)
   (fun w=>lp_w xl fl fh h1 h3 h4 n1 n3 n4 w) (fun w=>lp_w (negB xh) fl fh (negB_lt h2) h3 h4 n5 n3 n4 w) (fun w=>make_w _ _ b1 (negB_lt b2) w) w
theorem some2 {xl xh yl yh a b:Nat} (X:Held xl xh a) (Y:Held yl yh b):∀b W,b<W.heap.size→W.cell? ⟨b,0,none⟩=some (.float .f64 xl)→W.cell? ⟨b,1,none⟩=some (.float .f64 xh)→W.cell? ⟨b,2,none⟩=some (.float .f64 yl)→W.cell? ⟨b,3,none⟩=some (.float .f64 yh) →
   Calls Try.prog 58 #[.slice (some ⟨b,0,none⟩) 2 2] W fun e w'=>e=.returned (.bool false)∧Below W.heap.size W w':=by
 intro b W hlt c0 c1 c2 c3
 have h:=someEmpty2_w b xl xh yl yh X.hl X.hh Y.hl Y.hh W hlt c0 c1 c2 c3
 rw [X.hs,Y.hs] at h
 exact h
end Go.Proofs.Ytdnpoacjamkhkaa
