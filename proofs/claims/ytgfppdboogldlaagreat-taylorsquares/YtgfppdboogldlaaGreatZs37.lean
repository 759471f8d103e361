/- Tapes: which tapes may be, as the program tells. -/
import Derived.Test.YtgfppdboogldlaaGreatZs24
namespace Go.Proofs.YtgfppdboogldlaaGreat
open Go.ChangeShapes Go.WideShapes Go.ChangeAt Go.RowKit
set_option maxHeartbeats 1000000 in
theorem ops_w (v:Int) (A:Option Addr) (n C:Nat) (D:Option Addr) (m E:Nat) (X:Nat→Opw) (hn:n≤9223372036854775807) (w:World) (V:Ops w A n X) :
   Calls Tryz.prog 56 #[tapeV v A n C D m E] w fun e w'=>e=.returned (.bool (opsB v n X))∧Below w.heap.size w w':=by
 have hd:opsB v n X=(List.range n).all fun i=>opB (X i) (i:Int) v:=rfl
 have cr:=fun (i:Nat) (h1:(X i).lo<18446744073709551616) (h2:(X i).hi<18446744073709551616) w=>opMay_w (X i) (i:Int) v h1 h2 w
 unfold Opw.val at cr
 unfold tapeV
 go_enter Tryz.func56,Tryz.ntmps56
 go_wp2_with fail
 have e0:(w.alloc (Obj.cells #[.int .i64 v,.slice A n C,.slice D m E] 25)).cell? ⟨w.heap.size,0,none⟩=some (.int .i64 v):=by go_simp
 have es:w.heap.size<(w.alloc (Obj.cells #[.int .i64 v,.slice A n C,.slice D m E] 25)).heap.size:=by go_size
 have eb:Below w.heap.size w (w.alloc (Obj.cells #[.int .i64 v,.slice A n C,.slice D m E] 25)):=by go_grown
 replace V:=V.keep eb
 generalize w.alloc (Obj.cells #[.int .i64 v,.slice A n C,.slice D m E] 25)=wb at *
 go_loopg [8] n (fun G s8 wx=>Below wb.heap.size wb wx∧∃i:Nat,i+G=n∧s8=.int .i64 (i:Int)∧Hid (∀j,j<i→opB (X j) (j:Int) v=true))
 case atStart=>exact⟨Below.refl _ _,0,by omega,rfl,fun j hj=>absurd hj (by omega)⟩
 case round =>
   obtain⟨HB,i,hi,rfl,hall⟩:=hrel
   by_cases ci:i=n
   · subst ci
     have ee:opsB v i X=true:=by rw [hd];exact all_upto2.2 hall
     replace ee:Hid _:=ee
     clear hd
     go_wp2_with fail
     go_ret
     exact⟨congrArg (fun q=>Ending.returned (Value.bool q)) (Eq.symm ee),later eb HB⟩
   · have hlt:(i:Int)<(n:Int):=by omega
     obtain⟨b,o,hA,hb,x0,x1,x2,x3,x4,x5,l0,l1⟩:=(V.keep HB) i (by omega)
     have c:=cr i l0 l1
     replace e0:=keepsC HB e0 es
     have es2:=Nat.lt_of_lt_of_le es HB.size
     have hcase:opB (X i) (i:Int) v=true∨opB (X i) (i:Int) v=false:=by cases opB (X i) (i:Int) v <;> simp
     clear V cr
     rcases hcase with hq | hq
     · rw [hq] at c
       replace hq:Hid _:=hq
       replace hd:Hid _:=hd
       subst hA
       go_wp2_with (go_at_call 72;refine (c _).mono ?_;rintro _ w1 ⟨rfl,hb1⟩;replace HB:=later (by first | exact HB | exact below_alloc HB _) hb1)
       go_roundg (n-i-1)
       case measure=>omega
       case rel=>exact⟨HB,i+1,by omega,by go_num,fun j hj=>by rcases Nat.lt_or_ge j i with h | h;exact hall j h;rw [show j=i by omega];exact hq⟩
     · rw [hq] at c
       have ee:opsB v n X=false:=by rw [hd];exact all_not2 (i:=i) (by omega) hq
       replace ee:Hid _:=ee
       clear hd hq
       subst hA
       go_wp2_with (go_at_call 72;refine (c _).mono ?_;rintro _ w1 ⟨rfl,hb1⟩;replace HB:=later (by first | exact HB | exact below_alloc HB _) hb1)
       go_ret
       exact⟨congrArg (fun q=>Ending.returned (Value.bool q)) (Eq.symm ee),later eb HB⟩
set_option maxHeartbeats 1000000 in
theorem outs_w (v:Int) (A:Option Addr) (n C:Nat) (D:Option Addr) (m E:Nat) (Y:Nat→Int) (hm:m≤9223372036854775807) (w:World) (V:Ins w D m Y) :
   Calls Tryz.prog 57 #[tapeV v A n C D m E] w fun e w'=>e=.returned (.bool (outsB n m Y))∧Below w.heap.size w w':=by
 have hd:outsB n m Y=(List.range m).all fun i=>oneOf (Y i) (n:Int):=rfl
 have cr:=fun (i:Nat) w=>oneOf_w (Y i) (n:Int) w
 unfold tapeV
 go_enter Tryz.func57,Tryz.ntmps57
 go_wp2_with fail
 have e0:(w.alloc (Obj.cells #[.int .i64 v,.slice A n C,.slice D m E] 25)).cell? ⟨w.heap.size,1,none⟩=some (.slice A n C):=by go_simp
 have eb:Below w.heap.size w (w.alloc (Obj.cells #[.int .i64 v,.slice A n C,.slice D m E] 25)):=by go_grown
 replace V:=V.keep eb
 generalize w.alloc (Obj.cells #[.int .i64 v,.slice A n C,.slice D m E] 25)=wb at *
 go_loopg [8] m (fun G s8 wx=>wx=wb∧∃i:Nat,i+G=m∧s8=.int .i64 (i:Int)∧Hid (∀j,j<i→oneOf (Y j) (n:Int)=true))
 case atStart=>exact⟨rfl,0,by omega,rfl,fun j hj=>absurd hj (by omega)⟩
 case round =>
   obtain⟨rfl,i,hi,rfl,hall⟩:=hrel
   by_cases ci:i=m
   · subst ci
     have ee:outsB n i Y=true:=by rw [hd];exact all_upto2.2 hall
     replace ee:Hid _:=ee
     clear hd
     go_wp2_with fail
     go_ret
     exact⟨congrArg (fun q=>Ending.returned (Value.bool q)) (Eq.symm ee),eb⟩
   · have hlt:(i:Int)<(m:Int):=by omega
     obtain⟨b,o,hA,hb,x0⟩:=V i (by omega)
     have c:=cr i
     have hcase:oneOf (Y i) (n:Int)=true∨oneOf (Y i) (n:Int)=false:=by cases oneOf (Y i) (n:Int) <;> simp
     clear V cr
     rcases hcase with hq | hq
     · rw [hq] at c
       replace hq:Hid _:=hq
       replace hd:Hid _:=hd
       subst hA
       go_wp2_with (go_at_call 73;refine (c _).mono ?_;rintro _ _ ⟨rfl,rfl⟩)
       go_roundg (m-i-1)
       case measure=>omega
       case rel=>exact⟨rfl,i+1,by omega,by go_num,fun j hj=>by rcases Nat.lt_or_ge j i with h | h;exact hall j h;rw [show j=i by omega];exact hq⟩
     · rw [hq] at c
       have ee:outsB n m Y=false:=by rw [hd];exact all_not2 (i:=i) (by omega) hq
       replace ee:Hid _:=ee
       clear hd hq
       subst hA
       go_wp2_with (go_at_call 73;refine (c _).mono ?_;rintro _ _ ⟨rfl,rfl⟩)
       go_ret
       exact⟨congrArg (fun q=>Ending.returned (Value.bool q)) (Eq.symm ee),eb⟩
def errT (b:Bool):Int:=if b then 0 else 50
theorem right_t_core (v:Int) (A:Option Addr) (n C:Nat) (D:Option Addr) (m E:Nat) (b1 b2 b3:Bool) (X:Nat→Opw) (Y:Nat→Int) (w:World) (VX:Ops w A n X) (VY:Ins w D m Y)
   (c1:∀w,Calls Tryz.prog 55 #[tapeV v A n C D m E] w fun e w'=>e=.returned (.bool b1)∧Below w.heap.size w w')
   (c2:∀w,Ops w A n X→Calls Tryz.prog 56 #[tapeV v A n C D m E] w fun e w'=>e=.returned (.bool b2)∧Below w.heap.size w w')
   (c3:∀w,Ins w D m Y→Calls Tryz.prog 57 #[tapeV v A n C D m E] w fun e w'=>e=.returned (.bool b3)∧Below w.heap.size w w') :
   Calls Tryz.prog 37 #[tapeV v A n C D m E] w fun e w'=>e=.returned (.int .i64 (errT (b1&&b2&&b3)))∧Below w.heap.size w w':=by
 unfold tapeV at *
 have e0:(w.alloc (Obj.cells #[.int .i64 v,.slice A n C,.slice D m E] 25)).cell? ⟨w.heap.size,0,none⟩=some (.int .i64 v):=by go_simp
 have e1:(w.alloc (Obj.cells #[.int .i64 v,.slice A n C,.slice D m E] 25)).cell? ⟨w.heap.size,1,none⟩=some (.slice A n C):=by go_simp
 have e2:(w.alloc (Obj.cells #[.int .i64 v,.slice A n C,.slice D m E] 25)).cell? ⟨w.heap.size,2,none⟩=some (.slice D m E):=by go_simp
 have es:w.heap.size<(w.alloc (Obj.cells #[.int .i64 v,.slice A n C,.slice D m E] 25)).heap.size:=by go_size
 have eb:Below w.heap.size w (w.alloc (Obj.cells #[.int .i64 v,.slice A n C,.slice D m E] 25)):=by go_grown
 cases b1
 case' true=>cases b2
 case' true.true=>cases b3
 all_goals
   go_enter Tryz.func37,Tryz.ntmps37
   go_wp2_with fail
   replace VX:=VX.keep eb
   replace VY:=VY.keep eb
   generalize w.alloc (Obj.cells #[.int .i64 v,.slice A n C,.slice D m E] 25)=wc at *
   go_wp2_with (first
     | (go_at_call 55;with_reducible refine (c1 _).mono ?_;rintro _ w1 ⟨rfl,hb1⟩
        replace e0:=keepsC hb1 e0 es;replace e1:=keepsC hb1 e1 es;replace e2:=keepsC hb1 e2 es;replace es:=Nat.lt_of_lt_of_le es hb1.size;replace VX:=VX.keep hb1;replace VY:=VY.keep hb1;replace eb:=later eb hb1;clear hb1)
     | (go_at_call 56;with_reducible refine (c2 _ VX).mono ?_;rintro _ w2 ⟨rfl,hb1⟩
        replace e0:=keepsC hb1 e0 es;replace e1:=keepsC hb1 e1 es;replace e2:=keepsC hb1 e2 es;replace es:=Nat.lt_of_lt_of_le es hb1.size;replace VX:=VX.keep hb1;replace VY:=VY.keep hb1;replace eb:=later eb hb1;clear hb1)
     | (go_at_call 57;with_reducible refine (c3 _ VY).mono ?_;rintro _ w3 ⟨rfl,hb1⟩
        replace eb:=later eb hb1;clear hb1))
   go_ret
   exact⟨rfl,eb⟩
theorem right_t (v:Int) (A:Option Addr) (n C:Nat) (D:Option Addr) (m E:Nat) (X:Nat→Opw) (Y:Nat→Int) (hn:n≤9223372036854775807) (hm:m≤9223372036854775807) (w:World) (VX:Ops w A n X) (VY:Ins w D m Y) :
   Calls Tryz.prog 37 #[tapeV v A n C D m E] w fun e w'=>e=.returned (.int .i64 (errT (rightT v n X m Y)))∧Below w.heap.size w w' :=
 right_t_core v A n C D m E _ _ _ X Y w VX VY (fun w=>sizes_w v A n C D m E w) (fun w V=>ops_w v A n C D m E X hn w V) (fun w V=>outs_w v A n C D m E Y hm w V)
end Go.Proofs.YtgfppdboogldlaaGreat
