/- What Mul of intervals that hold numbers answers: ends with the product between them. -/
import Derived.Test.YtmbjgicemblaaaaZb12
import Derived.Test.YtmbjgicemblaaaaZb13
namespace Go.Proofs.Ytmbjgicemblaaaa
open Go.ChangeShapes Go.WideShapes Go.ChangeAt Go.RowKit
theorem ge0 {x:Nat} (hx:x<18446744073709551616) (hn:nanB x=false):(FloatKind.f64.format.order x 0==some .gt || FloatKind.f64.format.order x 0==some .eq)=decide (0≤key x):=by
 rw [o_ge hx (by omega)]
 unfold leB
 have h0:nanB 0=false:=by decide
 have k0:key 0=0:=rfl
 rw [hn,h0,k0];simp
theorem le0 {x:Nat} (hx:x<18446744073709551616) (hn:nanB x=false):(FloatKind.f64.format.order x 0==some .lt || FloatKind.f64.format.order x 0==some .eq)=decide (key x≤0):=by
 rw [o_le hx (by omega)]
 unfold leB
 have h0:nanB 0=false:=by decide
 have k0:key 0=0:=rfl
 rw [hn,h0,k0];simp
theorem lpP_lt {t fl fh:Nat} (nt:nanB t=false) (n1:nanB fl=false) (n2:nanB fh=false):lpP t fl fh<18446744073709551616:=by
 unfold lpP
 split
 · exact (mulV_facts (-1) nt n2).2
 · exact (mulV_facts (-1) nt n1).2
theorem stretch_w (xl xh fl fh:Nat) (h1:xl<18446744073709551616) (h2:xh<18446744073709551616) (h3:fl<18446744073709551616) (h4:fh<18446744073709551616) (n1:nanB xl=false) (n2:nanB xh=false) (n3:nanB fl=false) (n4:nanB fh=false) (w:World) :
   Calls Try.prog 56 #[.agg #[.float .f64 xl,.float .f64 xh],.agg #[.float .f64 fl,.float .f64 fh]] w fun e w'=>e=.returned (.agg #[.float .f64 (makeP (lpP xl fl fh) (negB (lpP (negB xh) fl fh))).1,.float .f64 (makeP (lpP xl fl fh) (negB (lpP (negB xh) fl fh))).2])∧Below w.heap.size w w':=by
 have n5:nanB (negB xh)=false:=by rw [nanB_negB h2];exact n2
 have b1:=lpP_lt (t:=xl) n1 n3 n4
 have b2:=lpP_lt (t:=negB xh) n5 n3 n4
 exact stretch_core xl xh fl fh (negB xh) (lpP xl fl fh) (lpP (negB xh) fl fh) (negB (lpP (negB xh) fl fh)) _ _ (negFloat_eq xh h2) (negFloat_eq _ b2)
   (fun w=>lp_w xl fl fh h1 h3 h4 n1 n3 n4 w) (fun w=>lp_w (negB xh) fl fh (negB_lt h2) h3 h4 n5 n3 n4 w) (fun w=>make_w _ _ b1 (negB_lt b2) w) w
theorem some2 {xl xh yl yh a b:Nat} (X:Held xl xh a) (Y:Held yl yh b):∀b W,b<W.heap.size→W.cell? ⟨b,0,none⟩=some (.float .f64 xl)→W.cell? ⟨b,1,none⟩=some (.float .f64 xh)→W.cell? ⟨b,2,none⟩=some (.float .f64 yl)→W.cell? ⟨b,3,none⟩=some (.float .f64 yh) →
   Calls Try.prog 50 #[.slice (some ⟨b,0,none⟩) 2 2] W fun e w'=>e=.returned (.bool false)∧Below W.heap.size W w':=by
 intro b W hlt c0 c1 c2 c3
 have h:=someEmpty2_w b xl xh yl yh X.hl X.hh Y.hl Y.hh W hlt c0 c1 c2 c3
 rw [X.hs,Y.hs] at h
 exact h
end Go.Proofs.Ytmbjgicemblaaaa
