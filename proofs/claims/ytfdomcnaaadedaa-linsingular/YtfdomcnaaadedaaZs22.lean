/- Quotients of intervals: what the program's Div answers, word for word, and what the reference's Div, as a function, is: the same. The reference's products, amounts and even powers of intervals answer as the program's; IvalProducts' walk. -/
import Derived.Test.YtfdomcnaaadedaaZs21
import Derived.Test.YtfdomcnaaadedaaZs18
namespace Go.Proofs.Ytfdomcnaaadedaa
open Go.ChangeShapes Go.WideShapes Go.ChangeAt Go.RowKit
theorem mirror_some {lo hi:Nat} (hl:lo<18446744073709551616) (hh:hi<18446744073709551616) (S:Some2 lo hi):Some2 (mirrorP (lo,hi)).1 (mirrorP (lo,hi)).2∧key (mirrorP (lo,hi)).1=- key hi∧key (mirrorP (lo,hi)).2=- key lo∧(mirrorP (lo,hi)).1<18446744073709551616∧(mirrorP (lo,hi)).2<18446744073709551616:=by
 obtain⟨a,X⟩:=held_some hl hh S
 obtain⟨N,k1,k2⟩:=held_neg X
 have w:=mirror_words X
 have e1:(mirrorP (lo,hi)).1=pz (negB hi):=by rw [w]
 have e2:(mirrorP (lo,hi)).2=pz (negB lo):=by rw [w]
 refine⟨⟨N.nl,N.nh,by rw [k1,k2];have:=S.le;omega,by rw [k1];have:=S.gt;omega,by rw [k2];have:=S.lt;omega,by rw [e1];exact pz_ne _,by rw [e2];exact pz_ne _⟩,k1,k2,N.hl,N.hh⟩
def mulP (xl xh yl yh:Nat):Nat×Nat:=if hsB xl xh&&hsB yl yh then rmulP xl xh yl yh else (infI 1,infI (-1))
theorem mul_both {xl xh yl yh:Nat} (h1:xl<18446744073709551616) (h2:xh<18446744073709551616) (h3:yl<18446744073709551616) (h4:yh<18446744073709551616) (S:Some2 xl xh) (T:Some2 yl yh) :
   (∀w,Calls Try.prog 67 #[.agg #[.float .f64 xl,.float .f64 xh],.agg #[.float .f64 yl,.float .f64 yh]] w fun e w'=>e=.returned (.agg #[.float .f64 (rmulP xl xh yl yh).1,.float .f64 (rmulP xl xh yl yh).2])∧Below w.heap.size w w')∧(rmulP xl xh yl yh).1<18446744073709551616∧(rmulP xl xh yl yh).2<18446744073709551616:=by
 obtain⟨a,X⟩:=held_some h1 h2 S
 obtain⟨b,Y⟩:=held_some h3 h4 T
 obtain⟨m1,m2,c,Z,l1,l2,k1,k2⟩:=mul_ends X Y
 rw [rmul_is S.nl S.nh T.nl T.nh Z k1 k2]
 exact⟨c,l1,l2⟩
theorem mulP_lt {xl xh yl yh:Nat} (h1:xl<18446744073709551616) (h2:xh<18446744073709551616) (h3:yl<18446744073709551616) (h4:yh<18446744073709551616):(mulP xl xh yl yh).1<18446744073709551616∧(mulP xl xh yl yh).2<18446744073709551616:=by
 unfold mulP
 cases hs:hsB xl xh&&hsB yl yh
 · rw [if_neg (by simp)];exact⟨infI_lt 1,infI_lt (-1)⟩
 · rw [if_pos rfl]
   obtain⟨hx,hy⟩:=Bool.and_eq_true_iff.1 hs
   exact (mul_both h1 h2 h3 h4 (hs_iff.1 hx) (hs_iff.1 hy)).2
theorem Mul_w (xl xh yl yh:Nat) (h1:xl<18446744073709551616) (h2:xh<18446744073709551616) (h3:yl<18446744073709551616) (h4:yh<18446744073709551616) (w:World) :
   Calls Try.prog 67 #[.agg #[.float .f64 xl,.float .f64 xh],.agg #[.float .f64 yl,.float .f64 yh]] w fun e w'=>e=.returned (.agg #[.float .f64 (mulP xl xh yl yh).1,.float .f64 (mulP xl xh yl yh).2])∧Below w.heap.size w w':=by
 unfold mulP
 cases hs:hsB xl xh&&hsB yl yh
 · rw [if_neg (by simp)]
   exact mul_none xl xh yl yh h1 h2 h3 h4 hs w
 · rw [if_pos rfl]
   obtain⟨hx,hy⟩:=Bool.and_eq_true_iff.1 hs
   exact (mul_both h1 h2 h3 h4 (hs_iff.1 hx) (hs_iff.1 hy)).1 w
end Go.Proofs.Ytfdomcnaaadedaa
