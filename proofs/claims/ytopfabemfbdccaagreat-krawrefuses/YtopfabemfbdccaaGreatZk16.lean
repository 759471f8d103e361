/- Tapes: the reference's Right, walked. -/
import Derived.Test.YtopfabemfbdccaaGreatZk15
namespace Go.Proofs.YtopfabemfbdccaaGreat
open Go.ChangeShapes Go.WideShapes Go.ChangeAt Go.RowKit
theorem rightT_sizes {v:Int} {n:Nat} {X:Nat->Opw} {m:Nat} {Y:Nat->Int} (h:sizesB v n m=false):rightT v n X m Y=false:=by
 unfold rightT
 rw [h]
 rfl
set_option maxRecDepth 100000 in
set_option maxHeartbeats 4000000 in
theorem rright_t (v:Int) (A:Option Addr) (n C:Nat) (D:Option Addr) (m E:Nat) (X:Nat->Opw) (Y:Nat->Int) (w:World) (VX:Ops w A n X) (VY:Ins w D m Y) :
   Calls Tryz.prog 27 #[tapeV v A n C D m E] w fun e w'=>e=.returned (.bool (rightT v n X m Y))/\Below w.heap.size w w':=by
 have ca:=fun (k:Int) w=>args_w k w
 by_cases h1:v<0
 · rw [rightT_sizes (decide_eq_false (by omega))]
   unfold tapeV
   go_enter Tryz.func27,Tryz.ntmps27
   go_wp2_with fail
   go_ret
   exact⟨rfl,by go_grown⟩
 by_cases h2:v>64
 · rw [rightT_sizes (decide_eq_false (by omega))]
   unfold tapeV
   go_enter Tryz.func27,Tryz.ntmps27
   go_wp2_with fail
   go_ret
   exact⟨rfl,by go_grown⟩
 by_cases h3:(n:Int)>4000
 · rw [rightT_sizes (decide_eq_false (by omega))]
   unfold tapeV
   go_enter Tryz.func27,Tryz.ntmps27
   go_wp2_with fail
   go_ret
   exact⟨rfl,by go_grown⟩
 by_cases h4:(m:Int)>400
 · rw [rightT_sizes (decide_eq_false (by omega))]
   unfold tapeV
   go_enter Tryz.func27,Tryz.ntmps27
   go_wp2_with fail
   go_ret
   exact⟨rfl,by go_grown⟩
 have hr:Hid (rightT v n X m Y=(opsB v n X&&outsB n m Y)):=by
   show rightT v n X m Y=_
   unfold rightT
   rw [show sizesB v n m=true from decide_eq_true (by omega),Bool.true_and]
 have hd:Hid (opsB v n X=(List.range n).all fun i=>opB (X i) (i:Int) v):=Eq.refl _
 have hdo:Hid (outsB n m Y=(List.range m).all fun i=>oneOf (Y i) (n:Int)):=Eq.refl _
 unfold tapeV
 go_enter Tryz.func27,Tryz.ntmps27
 go_wp2_with fail
 have e0:(w.alloc (Obj.cells #[.int .i64 v,.slice A n C,.slice D m E] 45)).cell? ⟨w.heap.size,0,none⟩=some (.int .i64 v):=by go_simp
 have e1:(w.alloc (Obj.cells #[.int .i64 v,.slice A n C,.slice D m E] 45)).cell? ⟨w.heap.size,1,none⟩=some (.slice A n C):=by go_simp
 have e2:(w.alloc (Obj.cells #[.int .i64 v,.slice A n C,.slice D m E] 45)).cell? ⟨w.heap.size,2,none⟩=some (.slice D m E):=by go_simp
 have es:w.heap.size<(w.alloc (Obj.cells #[.int .i64 v,.slice A n C,.slice D m E] 45)).heap.size:=by go_size
 have eb:Below w.heap.size w (w.alloc (Obj.cells #[.int .i64 v,.slice A n C,.slice D m E] 45)):=by go_grown
 replace VX:=VX.keep eb
 replace VY:=VY.keep eb
 generalize w.alloc (Obj.cells #[.int .i64 v,.slice A n C,.slice D m E] 45)=wb at *
 go_loopg [31] n (fun G s31 wx=>Below wb.heap.size wb wx/\∃i:Nat,i+G=n/\s31=.int .i64 (i:Int)/\Hid (∀j,j<i->opB (X j) (j:Int) v=true))
 case atStart=>exact⟨Below.refl _ _,0,by omega,rfl,fun j hj=>absurd hj (by omega)⟩
 case round =>
   obtain⟨HB,i,hi,rfl,hall⟩:=hrel
   by_cases ci:i=n
   · subst ci
     have ho:Hid (opsB v i X=true):=Eq.trans hd (all_upto2.2 hall)
     replace e1:=keepsC HB e1 es
     replace e2:=keepsC HB e2 es
     replace VY:=VY.keep HB
     replace eb:=later eb HB
     clear VX hall hd ca e0
     go_wp2_with fail
     go_loopg [115] m (fun G s115 wx=>wx=wr/\∃j:Nat,j+G=m/\s115=.int .i64 (j:Int)/\Hid (∀q,q<j->oneOf (Y q) (i:Int)=true))
     case atStart=>exact⟨rfl,0,by omega,rfl,fun j hj=>absurd hj (by omega)⟩
     case round =>
       obtain⟨rfl,j,hj,rfl,hall⟩:=hrel
       by_cases cj:j=m
       · subst cj
         have ee:Hid (rightT v i X j Y=true):=Eq.trans hr ((congr (congrArg and ho) (Eq.trans hdo (all_upto2.2 hall))).trans (Bool.true_and _))
         clear hr ho hdo
         go_wp2_with fail
         go_ret
         exact⟨congrArg (fun q=>Ending.returned (Value.bool q)) (Eq.symm ee),eb⟩
       · have hlt:(j:Int)<(m:Int):=by omega
         obtain⟨b,o,hA,hb,x0⟩:=VY j (by omega)
         subst hA
         have hcase:oneOf (Y j) (i:Int)=true\/oneOf (Y j) (i:Int)=false:=by cases oneOf (Y j) (i:Int) <;> simp
         rcases hcase with hq | hq
         · obtain⟨g1,g2⟩:=one_yes hq
           replace hq:Hid (oneOf (Y j) (i:Int)=true):=hq
           go_wp2_with fail
           go_roundg (m-j-1)
           case measure=>omega
           case rel=>exact⟨rfl,j+1,by omega,by go_num,fun q hq'=>by rcases Nat.lt_or_ge q j with h | h;exact hall q h;rw [show q=j by omega];exact hq⟩
         · have ee:Hid (rightT v i X m Y=false):=Eq.trans hr ((congr (congrArg and ho) (Eq.trans hdo (all_not2 (i:=j) (by omega) hq))).trans (Bool.true_and _))
           clear hr ho hdo
           rcases one_no hq with g | ⟨g1,g2⟩
           all_goals
             clear hq
             go_wp2_with fail
             go_ret
             exact⟨congrArg (fun q=>Ending.returned (Value.bool q)) (Eq.symm ee),eb⟩
   · have hlt:(i:Int)<(n:Int):=by omega
     obtain⟨b,o,hA,hb,x0,x1,x2,x3,x4,x5,l0,l1⟩:=(VX.keep HB) i (by omega)
     replace e0:=keepsC HB e0 es
     have es2:=Nat.lt_of_lt_of_le es HB.size
     have cn:=fun w=>none_w (X i).lo (X i).hi l0 l1 w
     have c:=ca (X i).k
     clear VX ca VY e1 e2
     subst hA
     have hcase:opB (X i) (i:Int) v=true\/opB (X i) (i:Int) v=false:=by cases opB (X i) (i:Int) v <;> simp
     rcases hcase with hq | hq
     · have hq2:Hid (opB (X i) (i:Int) v=true):=hq
       rcases op_true hq with ⟨q,r,g⟩ | ⟨q,r,g1,g2⟩ | ⟨r,⟨g1,g2⟩,q,g3,g4⟩ | ⟨r,⟨g1,g2⟩,q1,q2,q8⟩ | ⟨r,⟨g1,g2⟩,⟨g3,g4⟩,q1,q2,q8⟩
       all_goals
         clear hq
         rw [r] at c
         clear r
         try rw [g] at cn
         try rw [q] at c x0
         go_wp2_with (first
           | (go_at_call 67;with_reducible refine (c _).mono ?_;rintro _ _ ⟨rfl,rfl⟩)
           | (go_at_call 30;with_reducible refine (cn _).mono ?_;rintro _ w1 ⟨rfl,hb1⟩
              have y0:w1.cell? ⟨wr.heap.size,0,none⟩=some (.int .i64 1):=keepsC hb1 (by go_simp) (by go_size)
              replace HB:=later (below_alloc HB _) hb1))
         go_roundg (n-i-1)
         case measure=>omega
         case rel =>
           refine⟨?_,i+1,by omega,by go_num,fun j hj=>by rcases Nat.lt_or_ge j i with h | h;exact hall j h;rw [show j=i by omega];exact hq2⟩
           repeat' (first | (with_reducible exact HB) | (with_reducible refine Below.setCell ?_ ?_ _) | (with_reducible refine below_alloc ?_ _) | omega | go_size)
     · have ee:Hid (rightT v n X m Y=false):=Eq.trans hr ((congrArg (fun q=>and q (outsB n m Y)) (Eq.trans hd (all_not2 (i:=i) (by omega) hq))).trans (Bool.false_and _))
       clear hr hd hdo
       rcases op_false hq with r | ⟨q,r,g⟩ | ⟨q,r,g1⟩ | ⟨q,r,g1,g2⟩ | ⟨r,g1⟩ | ⟨r,g1,g2⟩ | ⟨r,g1⟩ | ⟨r,g1,g2⟩ | ⟨r,⟨g1,g2⟩,g3⟩ | ⟨r,⟨g1,g2⟩,g3,g4⟩ | ⟨r,⟨g1,g2⟩,q,g3⟩ | ⟨r,⟨g1,g2⟩,q,g3,g4⟩
       all_goals
         clear hq
         rw [r] at c
         clear r
         try rw [g] at cn
         try rw [q] at c x0
         go_wp2_with (first
           | (go_at_call 67;with_reducible refine (c _).mono ?_;rintro _ _ ⟨rfl,rfl⟩)
           | (go_at_call 30;with_reducible refine (cn _).mono ?_;rintro _ w1 ⟨rfl,hb1⟩
              have y0:w1.cell? ⟨wr.heap.size,0,none⟩=some (.int .i64 1):=keepsC hb1 (by go_simp) (by go_size)
              replace HB:=later (below_alloc HB _) hb1))
         go_ret
         refine⟨congrArg (fun q=>Ending.returned (Value.bool q)) (Eq.symm ee),later eb ?_⟩
         repeat' (first | (with_reducible exact HB) | (with_reducible refine Below.setCell ?_ ?_ _) | (with_reducible refine below_alloc ?_ _) | omega | go_size)
end Go.Proofs.YtopfabemfbdccaaGreat
