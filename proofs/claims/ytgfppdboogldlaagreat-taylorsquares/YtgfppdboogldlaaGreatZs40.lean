/- The series of x' = x x and of x' = x, as intervals: what they hold, and that they are bounded. -/
import Derived.Test.YtgfppdboogldlaaGreatZs39
import Derived.Test.YtgfppdboogldlaaGreatZs32
import Derived.Test.YtgfppdboogldlaaGreatZs21
namespace Go.Proofs.YtgfppdboogldlaaGreat
open Go.ChangeShapes Go.WideShapes Go.ChangeAt Go.RowKit
theorem tmul_gr {xl xh ul uh yl yh vl vh:Nat} (X:In xl xh ul uh) (Y:In yl yh vl vh):Gr (mulP xl xh yl yh) (mulP ul uh vl vh):=by
 obtain⟨A,k1,k2⟩:=mul_keys X.a1 X.a2 Y.a1 Y.a2 X.S Y.S
 obtain⟨A',k3,k4⟩:=mul_keys X.b1 X.b2 Y.b1 Y.b2 X.T Y.T
 refine gr_some A A' ?_ ?_
 · rw [k1,k3]
   have a:=low_grows X.b1 X.b2 X.a1 X.a2 Y.a1 Y.a2 X.T.nl X.T.nh X.S.nl X.S.nh Y.S.nl Y.S.nh X.kl X.S.le X.kh
   have b:=low_grows Y.b1 Y.b2 Y.a1 Y.a2 X.b1 X.b2 Y.T.nl Y.T.nh Y.S.nl Y.S.nh X.T.nl X.T.nh Y.kl Y.S.le Y.kh
   rw [lowK_comm yl yh,lowK_comm vl vh] at b
   exact Int.le_trans b a
 · rw [k2,k4]
   have a:=top_grows X.b1 X.b2 X.a1 X.a2 Y.a1 Y.a2 X.T.nl X.T.nh X.S.nl X.S.nh Y.S.nl Y.S.nh X.kl X.S.le X.kh
   have b:=top_grows Y.b1 Y.b2 Y.a1 Y.a2 X.b1 X.b2 Y.T.nl Y.T.nh Y.S.nl Y.S.nh X.T.nl X.T.nh Y.kl Y.S.le Y.kh
   rw [topK_comm yl yh,topK_comm vl vh] at b
   exact Int.le_trans a b
structure HI (p:Nat×Nat) (x:Rat) (q:Nat×Nat):Prop where
 h:Hq p x
 i:In p.1 p.2 q.1 q.2
theorem HI.w {p q:Nat×Nat} {x:Rat} (h:HI p x q):W2 p:=⟨h.h.l1,h.h.l2⟩
theorem hi_mul {p q P Q R:Nat×Nat} {x y:Rat} (X:HI p x P) (Y:HI q y Q) (e:mulQ P Q=R):HI (mulQ p q) (x*y) R:=by
 have h:=hq_mul X.h Y.h
 have w:=mulQ_W2 (p:=P) (q:=Q) ⟨X.i.b1,X.i.b2⟩ ⟨Y.i.b1,Y.i.b2⟩
 refine⟨h, ?_⟩
 rw [←e]
 exact (tmul_gr X.i Y.i).in h.S h.l1 h.l2 w.1 w.2
theorem hi_add {p q P Q R:Nat×Nat} {x y:Rat} (X:HI p x P) (Y:HI q y Q) (e:addQ P Q=R):HI (addQ p q) (x+y) R:=by
 have h:=hq_add X.h Y.h
 have w:=addQ_W2 (p:=P) (q:=Q) ⟨X.i.b1,X.i.b2⟩ ⟨Y.i.b1,Y.i.b2⟩
 refine⟨h, ?_⟩
 rw [←e]
 exact (add_gr X.i Y.i).in h.S h.l1 h.l2 w.1 w.2
theorem hi_div {p P R:Nat×Nat} {x:Rat} (X:HI p x P) {n:Nat} (hn:n<13) (e:divQ P (wholeQ ((n:Int)+1))=R):HI (divQ p (wholeQ ((n:Int)+1))) (x*(((n:Int)+1:Int):Rat)⁻¹) R:=by
 have h:=hq_divw X.h hn
 have wk:=wholeQ_W2 ((n:Int)+1)
 have w:=divQ_W2 (p:=P) (q:=wholeQ ((n:Int)+1)) ⟨X.i.b1,X.i.b2⟩ wk
 have S:Some2 (wholeQ ((n:Int)+1)).1 (wholeQ ((n:Int)+1)).2:=by
   obtain⟨f,e,k, -⟩:=whole_words ⟨n,hn⟩
   have f':finB (floatOfInt .f64 ((n:Int)+1))=true:=f
   have e':wholeQ ((n:Int)+1)=(floatOfInt .f64 ((n:Int)+1),floatOfInt .f64 ((n:Int)+1)):=e
   rw [←show ptQ (floatOfInt .f64 ((n:Int)+1))=wholeQ ((n:Int)+1) from rfl]
   exact (hq_point (foi_lt _) f').S
 refine⟨h, ?_⟩
 rw [←e]
 exact (div_gr X.i (In.refl wk.1 wk.2 S)).in h.S h.l1 h.l2 w.1 w.2
theorem HI.bound {p q:Nat×Nat} {x:Rat} (h:HI p x q) (k1:-9218868437227405312<key q.1) (k2:key q.2<9218868437227405312):endB p=false:=by
 have a:=h.i.kl
 have b:=h.i.kh
 have c:=h.i.S.le
 have f1:=fin_two h.i.a1 h.i.S.nl (by omega) (by omega)
 have f2:=fin_two h.i.a2 h.i.S.nh (by omega) (by omega)
 unfold finB at f1 f2
 unfold endB infB
 have g1:=of_decide_eq_true f1
 have g2:=of_decide_eq_true f2
 rw [decide_eq_false (by omega),decide_eq_false (by omega)]
 rfl
def bN (n e:Nat):Nat×Nat:=(floatOfInt .f64 (-((n*2^e:Nat):Int)),floatOfInt .f64 ((n*2^e:Nat):Int))
theorem g_mul:∀k i:Fin 13,i.1≤k.1→mulQ (bN 1 (4*i.1+4)) (bN 1 (4*(k.1-i.1)+4))=bN 1 (4*k.1+8):=by decide +kernel
theorem g_add:∀k n:Fin 13,addQ (bN n.1 (4*k.1+8)) (bN 1 (4*k.1+8))=bN (n.1+1) (4*k.1+8):=by decide +kernel
theorem g_div:∀k:Fin 13,divQ (bN (k.1+1) (4*k.1+8)) (wholeQ ((k.1:Int)+1))=bN 1 (4*(k.1+1)+4):=by decide +kernel
theorem g_key:∀k:Fin 14,∀n:Fin 14, -9218868437227405312<key (bN n.1 (4*k.1+4)).1∧key (bN n.1 (4*k.1+4)).2<9218868437227405312:=by decide +kernel
theorem g_nul:wholeQ 0=(0,0)∧∀e:Fin 70,bN 0 e.1=(0,0):=by decide +kernel
end Go.Proofs.YtgfppdboogldlaaGreat
