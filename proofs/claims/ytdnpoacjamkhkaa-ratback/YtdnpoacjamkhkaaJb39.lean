/- The statement RatBack: what is added and taken off is as it was; intervals of sums and products lie in those of the intervals. -/
import Derived.Test.YtdnpoacjamkhkaaJb37
import Derived.Test.YtdnpoacjamkhkaaJb38
namespace Go.Proofs.Ytdnpoacjamkhkaa
open Go.ChangeShapes Go.WideShapes Go.ChangeAt Go.RowKit
theorem ofV_err (g:Bool) (n d:Nat):(ofV g n d).2.2=0∨(ofV g n d).2.2=3:=by
 unfold ofV
 split
 · exact Or.inl rfl
 · split
   · exact Or.inl rfl
   · exact Or.inr rfl
theorem ratBack_w (aN aD bN bD:Int) (w0:(Lit.int .i64 aN).wf=true) (w1:(Lit.int .i64 aD).wf=true) (w2:(Lit.int .i64 bN).wf=true) (w3:(Lit.int .i64 bD).wf=true) (w:World) :
   Calls Try.prog 6 #[.agg #[.int .i64 aN,.int .i64 aD],.agg #[.int .i64 bN,.int .i64 bD]] w fun r w'=>r=.returned (.bool true)∧Below w.heap.size w w':=by
 have ha:I64 aN∧I64 aD:=⟨i64_wfI w0,i64_wfI w1⟩
 have hb:I64 bN∧I64 bD:=⟨i64_wfI w2,i64_wfI w3⟩
 have r1:=fun W=>right11_w aN aD ha.1 ha.2 W
 have r2:=fun W=>right11_w bN bD hb.1 hb.2 W
 by_cases c:(rightR aN aD&&rightR bN bD)=true
 · obtain⟨q1,q2⟩:=Bool.and_eq_true_iff.1 c
   rw [q1] at r1
   rw [q2] at r2
   have d1:=rightR_D q1
   have d2:=rightR_D q2
   obtain⟨A, -⟩:=hold_hq q1 ha.1 ha.2
   obtain⟨B, -⟩:=hold_hq q2 hb.1 hb.2
   have h1:=fun W=>holdRat_w aN aD ha.1 ha.2 W
   have h2:=fun W=>holdRat_w bN bD hb.1 hb.2 W
   have c1:=fun W=>addRat_w aN aD bN bD ha hb W
   have c3:=fun W=>mulRat_w aN aD bN bD ha hb W
   have i1:=fun W=>Add_w (holdP aN aD).1 (holdP aN aD).2 (holdP bN bD).1 (holdP bN bD).2 A.l1 A.l2 B.l1 B.l2 W
   have i2:=fun W=>Mul_w (holdP aN aD).1 (holdP aN aD).2 (holdP bN bD).1 (holdP bN bD).2 A.l1 A.l2 B.l1 B.l2 W
   have hA:=hq_add A B
   have hM:=hq_mul A B
   have em:(mulV11 aN aD bN bD).2.2=0∨(mulV11 aN aD bN bD).2.2=3:=by
     have e:mulV11 aN aD bN bD=ofV (!(decide (aN<0)==decide (bN<0))) (aN.natAbs*bN.natAbs) (aD.natAbs*bD.natAbs):=by unfold mulV11;rw [if_pos c]
     rw [e]
     exact ofV_err _ _ _
   have SUM:(addV11 aN aD bN bD).2.2=0→(∀W,Calls Try.prog 16 #[.agg #[.int .i64 (addV11 aN aD bN bD).1,.int .i64 (addV11 aN aD bN bD).2.1],.agg #[.int .i64 bN,.int .i64 bD]] W fun r w'=>r=.returned (.tuple #[.agg #[.int .i64 aN,.int .i64 aD],.int .i64 0])∧Below W.heap.size W w') ∧
       (∀W,Calls Try.prog 27 #[.agg #[.int .i64 (addV11 aN aD bN bD).1,.int .i64 (addV11 aN aD bN bD).2.1]] W fun r w'=>r=.returned (.agg #[.float .f64 (holdP (addV11 aN aD bN bD).1 (addV11 aN aD bN bD).2.1).1,.float .f64 (holdP (addV11 aN aD bN bD).1 (addV11 aN aD bN bD).2.1).2])∧Below W.heap.size W w') ∧
       (∀W,Calls Try.prog 26 #[.agg #[.float .f64 (holdP (addV11 aN aD bN bD).1 (addV11 aN aD bN bD).2.1).1,.float .f64 (holdP (addV11 aN aD bN bD).1 (addV11 aN aD bN bD).2.1).2],.agg #[.float .f64 (addP (holdP aN aD).1 (holdP aN aD).2 (holdP bN bD).1 (holdP bN bD).2).1,.float .f64 (addP (holdP aN aD).1 (holdP aN aD).2 (holdP bN bD).1 (holdP bN bD).2).2]] W fun r w'=>r=.returned (.bool true)∧Below W.heap.size W w'):=fun z=>by
     have tr:=triple (v:=addV11 aN aD bN bD) rfl rfl z
     obtain⟨s1,s2,s3⟩:=addV11_ok q1 q2 tr
     have bk:=back_add q1 q2 ha hb tr
     obtain⟨X,least⟩:=hold_hq s1 s3.1 s3.2
     have e:=qR_add d1 d2 (rightR_D s1) s2
     rw [e] at X least
     have ins:=least _ hA
     refine⟨fun W=>?_,fun W=>holdRat_w _ _ s3.1 s3.2 W,fun W=>?_⟩
     · have:=subRat_w (addV11 aN aD bN bD).1 (addV11 aN aD bN bD).2.1 bN bD s3 hb W
       rw [bk] at this
       exact this
     · have:=inside_w (holdP (addV11 aN aD bN bD).1 (addV11 aN aD bN bD).2.1).1 (holdP (addV11 aN aD bN bD).1 (addV11 aN aD bN bD).2.1).2 (addP (holdP aN aD).1 (holdP aN aD).2 (holdP bN bD).1 (holdP bN bD).2).1 (addP (holdP aN aD).1 (holdP aN aD).2 (holdP bN bD).1 (holdP bN bD).2).2 X.l1 X.l2 hA.l1 hA.l2 W
       rw [ins] at this
       exact this
   have PRO:(mulV11 aN aD bN bD).2.2=0→(∀W,Calls Try.prog 20 #[.agg #[.int .i64 (mulV11 aN aD bN bD).1,.int .i64 (mulV11 aN aD bN bD).2.1],.agg #[.int .i64 bN,.int .i64 bD]] W fun r w'=>r=.returned (.tuple #[.agg #[.int .i64 (divV11 (mulV11 aN aD bN bD).1 (mulV11 aN aD bN bD).2.1 bN bD).1,.int .i64 (divV11 (mulV11 aN aD bN bD).1 (mulV11 aN aD bN bD).2.1 bN bD).2.1],.int .i64 (divV11 (mulV11 aN aD bN bD).1 (mulV11 aN aD bN bD).2.1 bN bD).2.2])∧Below W.heap.size W w') ∧
       (bN≠0→divV11 (mulV11 aN aD bN bD).1 (mulV11 aN aD bN bD).2.1 bN bD=(aN,aD,0)) ∧
       (∀W,Calls Try.prog 27 #[.agg #[.int .i64 (mulV11 aN aD bN bD).1,.int .i64 (mulV11 aN aD bN bD).2.1]] W fun r w'=>r=.returned (.agg #[.float .f64 (holdP (mulV11 aN aD bN bD).1 (mulV11 aN aD bN bD).2.1).1,.float .f64 (holdP (mulV11 aN aD bN bD).1 (mulV11 aN aD bN bD).2.1).2])∧Below W.heap.size W w') ∧
       (∀W,Calls Try.prog 26 #[.agg #[.float .f64 (holdP (mulV11 aN aD bN bD).1 (mulV11 aN aD bN bD).2.1).1,.float .f64 (holdP (mulV11 aN aD bN bD).1 (mulV11 aN aD bN bD).2.1).2],.agg #[.float .f64 (mulP (holdP aN aD).1 (holdP aN aD).2 (holdP bN bD).1 (holdP bN bD).2).1,.float .f64 (mulP (holdP aN aD).1 (holdP aN aD).2 (holdP bN bD).1 (holdP bN bD).2).2]] W fun r w'=>r=.returned (.bool true)∧Below W.heap.size W w'):=fun z=>by
     have tr:=triple (v:=mulV11 aN aD bN bD) rfl rfl z
     obtain⟨s1,s2,s3⟩:=mulV11_ok q1 q2 tr
     obtain⟨X,least⟩:=hold_hq s1 s3.1 s3.2
     have e:=qR_mul d1 d2 (rightR_D s1) s2
     rw [e] at X least
     have ins:=least _ hM
     refine⟨fun W=>divRat_w _ _ _ _ s3 hb W,fun nz=>back_mul q1 q2 ha nz tr,fun W=>holdRat_w _ _ s3.1 s3.2 W,fun W=>?_⟩
     have:=inside_w (holdP (mulV11 aN aD bN bD).1 (mulV11 aN aD bN bD).2.1).1 (holdP (mulV11 aN aD bN bD).1 (mulV11 aN aD bN bD).2.1).2 (mulP (holdP aN aD).1 (holdP aN aD).2 (holdP bN bD).1 (holdP bN bD).2).1 (mulP (holdP aN aD).1 (holdP aN aD).2 (holdP bN bD).1 (holdP bN bD).2).2 X.l1 X.l2 hM.l1 hM.l2 W
     rw [ins] at this
     exact this
   generalize addV11 aN aD bN bD=va at *
   generalize mulV11 aN aD bN bD=vm at *
   clear hA hM A B
   by_cases k1:va.2.2=0
   · obtain⟨c2,h3,j1⟩:=SUM k1
     rw [k1] at c1
     rcases em with k2 | k2
     · obtain⟨c4,bk,h4,j2⟩:=PRO k2
       rw [k2] at c3
       by_cases nz:bN=0
       · subst nz
         exact back_yz aN aD bD _ _ _ _ _ _ _ _ _ _ _ _ _ _ _ _ _ _ _ r1 r2 c1 h1 h2 c2 h3 i1 j1 c3 h4 i2 j2 c4 w
       · rw [bk nz] at c4
         exact back_yq aN aD bD _ _ _ _ bN nz _ _ _ _ _ _ _ _ _ _ _ _ r1 r2 c1 h1 h2 c2 h3 i1 j1 c3 h4 i2 j2 c4 w
     · rw [k2] at c3
       exact back_yo aN aD bD _ _ _ _ bN _ _ _ _ _ _ _ _ r1 r2 c1 h1 h2 c2 h3 i1 j1 c3 w
   · rcases em with k2 | k2
     · obtain⟨c4,bk,h4,j2⟩:=PRO k2
       rw [k2] at c3
       by_cases nz:bN=0
       · subst nz
         exact back_nz aN aD bD _ _ _ _ _ k1 _ _ _ _ _ _ _ _ _ _ _ r1 r2 c1 h1 h2 c3 h4 i2 j2 c4 w
       · rw [bk nz] at c4
         exact back_nq aN aD bD _ _ _ _ bN _ k1 nz _ _ _ _ _ _ _ _ r1 r2 c1 h1 h2 c3 h4 i2 j2 c4 w
     · rw [k2] at c3
       exact back_no aN aD bD _ _ _ _ bN _ k1 r1 r2 c1 c3 w
 · exact back_bad aN aD bN bD _ _ (by simpa using c) r1 r2 w
end Go.Proofs.Ytdnpoacjamkhkaa
