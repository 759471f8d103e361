/- Tapes: one operation of a tape, and what tape's small functions answer of it. Tapes: which operations may be, as the program tells. Tapes: which tapes may be, as the program tells. Tapes: which tapes may be, as the reference tells. -/
import Derived.Test.YtopfabemfbdccaaGreatZk08
import Derived.Test.YtopfabemfbdccaaGreatZk14
import Derived.Deep.LoopGhost
namespace Go.Proofs.YtopfabemfbdccaaGreat
open Go.ChangeShapes Go.WideShapes Go.ChangeAt Go.RowKit
structure Opw where
 k:Int
 a:Int
 b:Int
 n:Int
 lo:Nat
 hi:Nat
def Opw.val (o:Opw):Value:=.agg #[.int .i64 o.k,.int .i64 o.a,.int .i64 o.b,.int .i64 o.n,.float .f64 o.lo,.float .f64 o.hi]
def arI (k:Int):Int:=if k=1\/k=2 then 0 else if 3<=k/\k<=6 then 2 else 1
theorem ar_cases (k:Int):(k=1/\arI k=0)\/(k=2/\arI k=0)\/(k=3/\arI k=2)\/(k=4/\arI k=2)\/(k=5/\arI k=2)\/(k=6/\arI k=2)\/(k≠1/\k≠2/\k≠3/\k≠4/\k≠5/\k≠6/\arI k=1):=by
 unfold arI
 by_cases h1:k=1\/k=2
 ·rw [if_pos h1];omega
 ·rw [if_neg h1]
  by_cases h2:3<=k/\k<=6
  ·rw [if_pos h2];omega
  ·rw [if_neg h2];omega
theorem arity_w (k:Int) (w:World):Calls Tryz.prog 188 #[.int .i64 k] w fun e w'=>e=.returned (.int .i64 (arI k))/\w=w':=by
 rcases ar_cases k with ⟨rfl,e⟩ | ⟨rfl,e⟩ | ⟨rfl,e⟩ | ⟨rfl,e⟩ | ⟨rfl,e⟩ | ⟨rfl,e⟩ | ⟨h1,h2,h3,h4,h5,h6,e⟩
 all_goals
  rw [e]
  go_enter Tryz.func188,Tryz.ntmps188
  go_wp2_with fail
  go_ret
  exact⟨rfl,rfl⟩
def oneOf (n m:Int):Bool:=decide (0<=n/\n<m)
theorem oneOf_w (n m:Int) (w:World):Calls Tryz.prog 174 #[.int .i64 n,.int .i64 m] w fun e w'=>e=.returned (.bool (oneOf n m))/\w=w':=by
 by_cases h1:0<=n
 ·by_cases h2:n<m
  ·have e:oneOf n m=true:=decide_eq_true ⟨h1,h2⟩
   rw [e]
   go_enter Tryz.func174,Tryz.ntmps174
   go_wp2_with fail
   go_ret
   exact⟨rfl,rfl⟩
  ·have e:oneOf n m=false:=decide_eq_false (by omega)
   rw [e]
   go_enter Tryz.func174,Tryz.ntmps174
   go_wp2_with fail
   go_ret
   exact⟨rfl,rfl⟩
 ·have e:oneOf n m=false:=decide_eq_false (by omega)
  rw [e]
  go_enter Tryz.func174,Tryz.ntmps174
  go_wp2_with fail
  go_ret
  exact⟨rfl,rfl⟩
theorem ar_le (k:Int):0<=arI k/\arI k<=2:=by
 rcases ar_cases k with h | h | h | h | h | h | h <;> omega
set_option maxHeartbeats 400000 in
theorem operands_w (o:Opw) (w:World):Calls Tryz.prog 224 #[o.val] w fun e w'=>(∃B,w.heap.size<=B/\B<w'.heap.size/\e=.returned (.slice (some ⟨B,0,none⟩) (arI o.k).toNat 2)/\w'.cell? ⟨B,0,none⟩=some (.int .i64 o.a)/\w'.cell? ⟨B,1,none⟩=some (.int .i64 o.b))/\Below w.heap.size w w':=by
 have hr:=ar_le o.k
 have ha:=fun w=>arity_w o.k w
 have h3:arI o.k=0\/arI o.k=1\/arI o.k=2:=by omega
 unfold Opw.val
 rcases h3 with h | h | h
 all_goals
  rw [h] at ha ⊢
  clear h hr
  go_enter Tryz.func224,Tryz.ntmps224
  go_wp2_with fail
  go_region_held3 (fun w'=>w'.cell? ⟨w.heap.size,0,none⟩=some (.int .i64 o.k)/\w'.cell? ⟨w.heap.size,1,none⟩=some (.int .i64 o.a)/\w'.cell? ⟨w.heap.size,2,none⟩=some (.int .i64 o.b)) (first | go_keep | exact⟨by assumption,by assumption,by assumption⟩)
   (first
    | (go_at_call 188;refine (ha _).mono ?_;rintro _ _ ⟨rfl,rfl⟩))
  all_goals
   go_wp2
   go_ret
   exact⟨⟨w.heap.size+1,by omega,by go_size,rfl,by go_simp,by go_simp⟩,by go_grown⟩
theorem holds_eq {lo hi:Nat}:(rightB lo hi&&!(eqB lo (infI 1)&&eqB hi (infI (-1))))=hsB lo hi:=by
 unfold rightB
 cases h:hsB lo hi
 ·cases eqB lo (infI 1) <;> cases eqB hi (infI (-1)) <;> rfl
 ·have:eqB lo (infI 1)=false:=by
   unfold hsB at h
   simp only [Bool.and_eq_true,decide_eq_true_eq] at h
   unfold eqB
   rw [nan_inf,key_up]
   have:¬key lo=9218868437227405312:=by omega
   simp [this]
  rw [this]
  rfl
set_option maxHeartbeats 400000 in
theorem mayHold_core (lo hi:Nat) (r b1 b2:Bool) (cr:∀w,Calls Tryz.prog 175 #[.agg #[.float .f64 lo,.float .f64 hi]] w fun e w'=>e=.returned (.bool r)/\Below w.heap.size w w')
  (o1:(FloatKind.f64.format.order lo (infI 1)==some .eq)=b1) (o2:(FloatKind.f64.format.order hi (infI (-1))==some .eq)=b2) (w:World) :
  Calls Tryz.prog 131 #[.agg #[.float .f64 lo,.float .f64 hi]] w fun e w'=>e=.returned (.bool (r&&!(b1&&b2)))/\Below w.heap.size w w':=by
 cases r
 case' true=>cases b1
 case' true.true=>cases b2
 all_goals
  go_enter Tryz.func131,Tryz.ntmps131
  go_wp2_with fail
  have e0:(w.alloc (Obj.cells #[.float .f64 lo,.float .f64 hi] 24)).cell? ⟨w.heap.size,0,none⟩=some (.float .f64 lo):=by go_simp
  have e1:(w.alloc (Obj.cells #[.float .f64 lo,.float .f64 hi] 24)).cell? ⟨w.heap.size,1,none⟩=some (.float .f64 hi):=by go_simp
  have es:w.heap.size<(w.alloc (Obj.cells #[.float .f64 lo,.float .f64 hi] 24)).heap.size:=by go_size
  have eb:Below w.heap.size w (w.alloc (Obj.cells #[.float .f64 lo,.float .f64 hi] 24)):=by go_grown
  generalize w.alloc (Obj.cells #[.float .f64 lo,.float .f64 hi] 24)=wc at *
  have k0:=fun n:Behind wc=>n.cell e0 es
  have k1:=fun n:Behind wc=>n.cell e1 es
  refine region_behind (by kernel_rfl) (by kernel_rfl) ?_
  repeat (go_big_quiet_step (first | (go_at_call 175;with_reducible refine Behind.call (cr _)) | (go_at_call 76;with_reducible refine Behind.call (empty_w _))))
  refine wpQuiet_nil ?_
  rintro _ ⟨n,rfl⟩
  obtain⟨W,hb⟩:=n
  go_wp2_with fail
  go_ret
  exact⟨rfl,later eb hb⟩
theorem mayHold_w (lo hi:Nat) (hl:lo<18446744073709551616) (hh:hi<18446744073709551616) (w:World) :
  Calls Tryz.prog 131 #[.agg #[.float .f64 lo,.float .f64 hi]] w fun e w'=>e=.returned (.bool (hsB lo hi))/\Below w.heap.size w w':=by
 rw [<-holds_eq]
 exact mayHold_core lo hi _ _ _ (fun w=>right_w lo hi hl hh w) (o_eq hl (infI_lt 1)) (o_eq hh (infI_lt (-1))) w
def Opw.at (o:Opw) (j:Nat):Int:=if j=0 then o.a else o.b
def Opw.ar (o:Opw):Nat:=(arI o.k).toNat
def opdB (o:Opw) (i:Int):Bool:=(List.range o.ar).all fun j=>oneOf (o.at j) i
def restB (o:Opw) (vars:Int):Bool:=if o.k=1 then hsB o.lo o.hi else if o.k=2 then oneOf o.n vars else if o.k=8 then decide (-64<=o.n/\o.n<=64) else true
def opB (o:Opw) (i vars:Int):Bool:=decide (1<=o.k/\o.k<=14)&&opdB o i&&restB o vars
theorem all_upto2 {p:Nat->Bool} {n:Nat}:(List.range n).all p=true↔∀i,i<n->p i=true:=by
 rw [List.all_eq_true]
 exact⟨fun h i hi=>h i (List.mem_range.2 hi),fun h i hi=>h i (List.mem_range.1 hi)⟩
theorem all_not2 {p:Nat->Bool} {n i:Nat} (hi:i<n) (h:p i=false):(List.range n).all p=false:=by
 cases c:(List.range n).all p
 ·rfl
 ·rw [all_upto2.1 c i hi] at h;cases h
set_option maxHeartbeats 1000000 in
theorem opMay_w (o:Opw) (i vars:Int) (hl:o.lo<18446744073709551616) (hh:o.hi<18446744073709551616) (w:World) :
  Calls Tryz.prog 173 #[o.val,.int .i64 i,.int .i64 vars] w fun e w'=>e=.returned (.bool (opB o i vars))/\Below w.heap.size w w':=by
 by_cases h1:o.k<1
 ·have e:opB o i vars=false:=by unfold opB;rw [decide_eq_false (by omega)];rfl
  rw [e]
  unfold Opw.val
  go_enter Tryz.func173,Tryz.ntmps173
  go_wp2_with fail
  go_ret
  exact⟨rfl,by go_grown⟩
 by_cases h2:o.k>14
 ·have e:opB o i vars=false:=by unfold opB;rw [decide_eq_false (by omega)];rfl
  rw [e]
  unfold Opw.val
  go_enter Tryz.func173,Tryz.ntmps173
  go_wp2_with fail
  go_ret
  exact⟨rfl,by go_grown⟩
 have e:opB o i vars=(opdB o i&&restB o vars):=by unfold opB;rw [decide_eq_true (by omega)];rfl
 rw [e]
 have co:=fun w=>operands_w o w
 have har:o.ar<=2:=by have:=ar_le o.k;unfold Opw.ar;omega
 have hL:(arI o.k).toNat=o.ar:=rfl
 rw [hL] at co
 have hd:opdB o i=(List.range o.ar).all fun j=>oneOf (o.at j) i:=rfl
 clear hL e
 generalize o.ar=L at *
 unfold Opw.val at *
 go_enter Tryz.func173,Tryz.ntmps173
 go_wp2_with (go_at_call 224;refine (co _).mono ?_;rintro _ w1 ⟨⟨B,hB0,hB1,rfl,c0,c1⟩,hb1⟩)
 have k0:w1.cell? ⟨w.heap.size,0,none⟩=some (.int .i64 o.k):=keepsC hb1 (by go_simp) (by go_size)
 have k3:w1.cell? ⟨w.heap.size,3,none⟩=some (.int .i64 o.n):=keepsC hb1 (by go_simp) (by go_size)
 have k4:w1.cell? ⟨w.heap.size,4,none⟩=some (.float .f64 o.lo):=keepsC hb1 (by go_simp) (by go_size)
 have k5:w1.cell? ⟨w.heap.size,5,none⟩=some (.float .f64 o.hi):=keepsC hb1 (by go_simp) (by go_size)
 have HB:Below w.heap.size w w1:=later (by go_grown) hb1
 have ca:∀j,j<L->w1.cell? ⟨B,j,none⟩=some (.int .i64 (o.at j)):=by
  intro j hj
  have:j=0\/j=1:=by omega
  rcases this with rfl | rfl
  ·exact c0
  ·exact c1
 clear co hb1 c0 c1 hB0
 go_loopg [20] L (fun G s20 wx=>wx=w1/\∃j:Nat,j+G=L/\s20=.int .i64 (j:Int)/\Hid (∀q,q<j->oneOf (o.at q) i=true))
 case atStart=>exact⟨rfl,0,by omega,rfl,fun j hj=>absurd hj (by omega)⟩
 case round =>
  obtain⟨rfl,j,hj,rfl,hall⟩:=hrel
  by_cases cj:j=L
  ·have e1:opdB o i=true:=by rw [hd];subst cj;exact all_upto2.2 hall
   subst cj
   by_cases q1:o.k=1
   ·have e2:restB o vars=hsB o.lo o.hi:=by unfold restB;rw [if_pos q1]
    have ee:(opdB o i&&restB o vars)=_:=(congr (congrArg and e1) e2).trans (Bool.true_and _)
    have cm:=fun w=>mayHold_w o.lo o.hi hl hh w
    rw [q1] at k0
    replace ee:Hid _:=ee
    clear hd e1 e2 hall ca
    go_wp2_with (go_at_call 131;refine (cm _).mono ?_;rintro _ w2 ⟨rfl,hb2⟩)
    go_ret
    exact⟨congrArg (fun q=>Ending.returned (Value.bool q)) (Eq.symm ee),later HB hb2⟩
   by_cases q2:o.k=2
   ·have e2:restB o vars=oneOf o.n vars:=by unfold restB;rw [if_neg q1,if_pos q2]
    have ee:(opdB o i&&restB o vars)=_:=(congr (congrArg and e1) e2).trans (Bool.true_and _)
    rw [q2] at k0
    replace ee:Hid _:=ee
    clear hd e1 e2 hall ca
    go_wp2_with (go_at_call 174;refine (oneOf_w _ _ _).mono ?_;rintro _ _ ⟨rfl,rfl⟩)
    go_ret
    first | exact⟨congrArg (fun q=>Ending.returned (Value.bool q)) (Eq.symm ee),HB⟩ | exact⟨rfl,HB⟩
   by_cases q8:o.k=8
   ·have e2:restB o vars=decide (-64<=o.n/\o.n<=64):=by unfold restB;rw [if_neg q1,if_neg q2,if_pos q8]
    have ee:(opdB o i&&restB o vars)=_:=(congr (congrArg and e1) e2).trans (Bool.true_and _)
    rw [q8] at k0
    replace ee:Hid _:=ee
    clear hd e1 e2 hall ca
    by_cases g1:-64<=o.n
    ·by_cases g2:o.n<=64
     ·replace ee:=Eq.trans ee (decide_eq_true (And.intro g1 g2))
      go_wp2_with fail
      go_ret
      first | exact⟨congrArg (fun q=>Ending.returned (Value.bool q)) (Eq.symm ee),HB⟩ | exact⟨rfl,HB⟩
     ·replace ee:=Eq.trans ee (decide_eq_false (fun q:-64<=o.n/\o.n<=64=>g2 q.2))
      go_wp2_with fail
      go_ret
      first | exact⟨congrArg (fun q=>Ending.returned (Value.bool q)) (Eq.symm ee),HB⟩ | exact⟨rfl,HB⟩
    ·replace ee:=Eq.trans ee (decide_eq_false (fun q:-64<=o.n/\o.n<=64=>g1 q.1))
     go_wp2_with fail
     go_ret
     first | exact⟨congrArg (fun q=>Ending.returned (Value.bool q)) (Eq.symm ee),HB⟩ | exact⟨rfl,HB⟩
   ·have e2:restB o vars=true:=by unfold restB;rw [if_neg q1,if_neg q2,if_neg q8]
    have ee:(opdB o i&&restB o vars)=_:=(congr (congrArg and e1) e2).trans (Bool.true_and _)
    replace ee:Hid _:=ee
    clear hd e1 e2 hall ca
    go_wp2_with fail
    go_ret
    first | exact⟨congrArg (fun q=>Ending.returned (Value.bool q)) (Eq.symm ee),HB⟩ | exact⟨rfl,HB⟩
  ·have hlt:(j:Int)<(L:Int):=by omega
   have cc:=ca j (by omega)
   have hcase:oneOf (o.at j) i=true\/oneOf (o.at j) i=false:=by cases oneOf (o.at j) i <;> simp
   have c1:=fun w=>oneOf_w (o.at j) i w
   clear ca k0 k3 k4 k5
   rcases hcase with hq | hq
   ·rw [hq] at c1
    go_wp2_with (go_at_call 174;refine (c1 _).mono ?_;rintro _ _ ⟨rfl,rfl⟩)
    go_roundg (L-j-1)
    case measure=>omega
    case rel=>exact⟨rfl,j+1,by omega,by go_num,fun q hq'=>by rcases Nat.lt_or_ge q j with h | h;exact hall q h;rw [show q=j by omega];exact hq⟩
   ·rw [hq] at c1
    have e1:opdB o i=false:=by rw [hd];exact all_not2 (i:=j) (by omega) hq
    have ee:(opdB o i&&restB o vars)=false:=by rw [e1,Bool.false_and]
    go_wp2_with (go_at_call 174;refine (c1 _).mono ?_;rintro _ _ ⟨rfl,rfl⟩)
    go_ret
    first | exact⟨congrArg (fun q=>Ending.returned (Value.bool q)) (Eq.symm ee),HB⟩ | exact⟨rfl,HB⟩
def Ops (w:World) (A:Option Addr) (n:Nat) (X:Nat->Opw):Prop :=
 ∀i,i<n->∃b o,A=some ⟨b,o,none⟩/\b<w.heap.size/\w.cell? ⟨b,o+i*6,none⟩=some (.int .i64 (X i).k)/\w.cell? ⟨b,o+i*6+1,none⟩=some (.int .i64 (X i).a)/\w.cell? ⟨b,o+i*6+2,none⟩=some (.int .i64 (X i).b)/\w.cell? ⟨b,o+i*6+3,none⟩=some (.int .i64 (X i).n)/\w.cell? ⟨b,o+i*6+4,none⟩=some (.float .f64 (X i).lo)/\w.cell? ⟨b,o+i*6+5,none⟩=some (.float .f64 (X i).hi)/\(X i).lo<18446744073709551616/\(X i).hi<18446744073709551616
theorem Ops.keep {w w2:World} {A:Option Addr} {n:Nat} {X:Nat->Opw} (h:Ops w A n X) (hb:Below w.heap.size w w2):Ops w2 A n X:=fun i hi=>by
 obtain⟨b,o,e,l,c0,c1,c2,c3,c4,c5,r⟩:=h i hi
 exact⟨b,o,e,Nat.lt_of_lt_of_le l hb.size,keepsC hb c0 l,keepsC hb c1 l,keepsC hb c2 l,keepsC hb c3 l,keepsC hb c4 l,keepsC hb c5 l,r⟩
def Ins (w:World) (A:Option Addr) (n:Nat) (Y:Nat->Int):Prop :=
 ∀i,i<n->∃b o,A=some ⟨b,o,none⟩/\b<w.heap.size/\w.cell? ⟨b,o+i,none⟩=some (.int .i64 (Y i))
theorem Ins.keep {w w2:World} {A:Option Addr} {n:Nat} {Y:Nat->Int} (h:Ins w A n Y) (hb:Below w.heap.size w w2):Ins w2 A n Y:=fun i hi=>by
 obtain⟨b,o,e,l,c0⟩:=h i hi
 exact⟨b,o,e,Nat.lt_of_lt_of_le l hb.size,keepsC hb c0 l⟩
def tapeV (v:Int) (A:Option Addr) (n C:Nat) (D:Option Addr) (m E:Nat):Value:=.agg #[.int .i64 v,.slice A n C,.slice D m E]
def opsB (v:Int) (n:Nat) (X:Nat->Opw):Bool:=(List.range n).all fun i=>opB (X i) (i:Int) v
def outsB (n m:Nat) (Y:Nat->Int):Bool:=(List.range m).all fun i=>oneOf (Y i) (n:Int)
def sizesB (v:Int) (n m:Nat):Bool:=decide (0<=v/\v<=64/\n<=4000/\m<=400)
def rightT (v:Int) (n:Nat) (X:Nat->Opw) (m:Nat) (Y:Nat->Int):Bool:=sizesB v n m&&opsB v n X&&outsB n m Y
theorem sizes_w (v:Int) (A:Option Addr) (n C:Nat) (D:Option Addr) (m E:Nat) (w:World) :
  Calls Tryz.prog 122 #[tapeV v A n C D m E] w fun e w'=>e=.returned (.bool (sizesB v n m))/\Below w.heap.size w w':=by
 by_cases h1:0<=v
 ·by_cases h2:v<=64
  ·by_cases h3:(n:Int)<=4000
   ·by_cases h4:(m:Int)<=400
    ·have e:sizesB v n m=true:=decide_eq_true (by omega)
     rw [e]
     unfold tapeV
     go_enter Tryz.func122,Tryz.ntmps122
     go_wp2_with fail
     go_ret
     exact⟨rfl,by go_grown⟩
    ·have e:sizesB v n m=false:=decide_eq_false (by omega)
     rw [e]
     unfold tapeV
     go_enter Tryz.func122,Tryz.ntmps122
     go_wp2_with fail
     go_ret
     exact⟨rfl,by go_grown⟩
   ·have e:sizesB v n m=false:=decide_eq_false (by omega)
    rw [e]
    unfold tapeV
    go_enter Tryz.func122,Tryz.ntmps122
    go_wp2_with fail
    go_ret
    exact⟨rfl,by go_grown⟩
  ·have e:sizesB v n m=false:=decide_eq_false (by omega)
   rw [e]
   unfold tapeV
   go_enter Tryz.func122,Tryz.ntmps122
   go_wp2_with fail
   go_ret
   exact⟨rfl,by go_grown⟩
 ·have e:sizesB v n m=false:=decide_eq_false (by omega)
  rw [e]
  unfold tapeV
  go_enter Tryz.func122,Tryz.ntmps122
  go_wp2_with fail
  go_ret
  exact⟨rfl,by go_grown⟩
set_option maxHeartbeats 1000000 in
theorem ops_w (v:Int) (A:Option Addr) (n C:Nat) (D:Option Addr) (m E:Nat) (X:Nat->Opw) (hn:n<=9223372036854775807) (w:World) (V:Ops w A n X) :
  Calls Tryz.prog 123 #[tapeV v A n C D m E] w fun e w'=>e=.returned (.bool (opsB v n X))/\Below w.heap.size w w':=by
 have hd:opsB v n X=(List.range n).all fun i=>opB (X i) (i:Int) v:=rfl
 have cr:=fun (i:Nat) (h1:(X i).lo<18446744073709551616) (h2:(X i).hi<18446744073709551616) w=>opMay_w (X i) (i:Int) v h1 h2 w
 unfold Opw.val at cr
 unfold tapeV
 go_enter Tryz.func123,Tryz.ntmps123
 go_wp2_with fail
 have e0:(w.alloc (Obj.cells #[.int .i64 v,.slice A n C,.slice D m E] 45)).cell? ⟨w.heap.size,0,none⟩=some (.int .i64 v):=by go_simp
 have es:w.heap.size<(w.alloc (Obj.cells #[.int .i64 v,.slice A n C,.slice D m E] 45)).heap.size:=by go_size
 have eb:Below w.heap.size w (w.alloc (Obj.cells #[.int .i64 v,.slice A n C,.slice D m E] 45)):=by go_grown
 replace V:=V.keep eb
 generalize w.alloc (Obj.cells #[.int .i64 v,.slice A n C,.slice D m E] 45)=wb at *
 go_loopg [8] n (fun G s8 wx=>Below wb.heap.size wb wx/\∃i:Nat,i+G=n/\s8=.int .i64 (i:Int)/\Hid (∀j,j<i->opB (X j) (j:Int) v=true))
 case atStart=>exact⟨Below.refl _ _,0,by omega,rfl,fun j hj=>absurd hj (by omega)⟩
 case round =>
  obtain⟨HB,i,hi,rfl,hall⟩:=hrel
  by_cases ci:i=n
  ·subst ci
   have ee:opsB v i X=true:=by rw [hd];exact all_upto2.2 hall
   replace ee:Hid _:=ee
   clear hd
   go_wp2_with fail
   go_ret
   exact⟨congrArg (fun q=>Ending.returned (Value.bool q)) (Eq.symm ee),later eb HB⟩
  ·have hlt:(i:Int)<(n:Int):=by omega
   obtain⟨b,o,hA,hb,x0,x1,x2,x3,x4,x5,l0,l1⟩:=(V.keep HB) i (by omega)
   have c:=cr i l0 l1
   replace e0:=keepsC HB e0 es
   have es2:=Nat.lt_of_lt_of_le es HB.size
   have hcase:opB (X i) (i:Int) v=true\/opB (X i) (i:Int) v=false:=by cases opB (X i) (i:Int) v <;> simp
   clear V cr
   rcases hcase with hq | hq
   ·rw [hq] at c
    replace hq:Hid _:=hq
    replace hd:Hid _:=hd
    subst hA
    go_wp2_with (go_at_call 173;refine (c _).mono ?_;rintro _ w1 ⟨rfl,hb1⟩;replace HB:=later (by first | exact HB | exact below_alloc HB _) hb1)
    go_roundg (n-i-1)
    case measure=>omega
    case rel=>exact⟨HB,i+1,by omega,by go_num,fun j hj=>by rcases Nat.lt_or_ge j i with h | h;exact hall j h;rw [show j=i by omega];exact hq⟩
   ·rw [hq] at c
    have ee:opsB v n X=false:=by rw [hd];exact all_not2 (i:=i) (by omega) hq
    replace ee:Hid _:=ee
    clear hd hq
    subst hA
    go_wp2_with (go_at_call 173;refine (c _).mono ?_;rintro _ w1 ⟨rfl,hb1⟩;replace HB:=later (by first | exact HB | exact below_alloc HB _) hb1)
    go_ret
    exact⟨congrArg (fun q=>Ending.returned (Value.bool q)) (Eq.symm ee),later eb HB⟩
set_option maxHeartbeats 1000000 in
theorem outs_w (v:Int) (A:Option Addr) (n C:Nat) (D:Option Addr) (m E:Nat) (Y:Nat->Int) (hm:m<=9223372036854775807) (w:World) (V:Ins w D m Y) :
  Calls Tryz.prog 124 #[tapeV v A n C D m E] w fun e w'=>e=.returned (.bool (outsB n m Y))/\Below w.heap.size w w':=by
 have hd:outsB n m Y=(List.range m).all fun i=>oneOf (Y i) (n:Int):=rfl
 have cr:=fun (i:Nat) w=>oneOf_w (Y i) (n:Int) w
 unfold tapeV
 go_enter Tryz.func124,Tryz.ntmps124
 go_wp2_with fail
 have e0:(w.alloc (Obj.cells #[.int .i64 v,.slice A n C,.slice D m E] 45)).cell? ⟨w.heap.size,1,none⟩=some (.slice A n C):=by go_simp
 have eb:Below w.heap.size w (w.alloc (Obj.cells #[.int .i64 v,.slice A n C,.slice D m E] 45)):=by go_grown
 replace V:=V.keep eb
 generalize w.alloc (Obj.cells #[.int .i64 v,.slice A n C,.slice D m E] 45)=wb at *
 go_loopg [8] m (fun G s8 wx=>wx=wb/\∃i:Nat,i+G=m/\s8=.int .i64 (i:Int)/\Hid (∀j,j<i->oneOf (Y j) (n:Int)=true))
 case atStart=>exact⟨rfl,0,by omega,rfl,fun j hj=>absurd hj (by omega)⟩
 case round =>
  obtain⟨rfl,i,hi,rfl,hall⟩:=hrel
  by_cases ci:i=m
  ·subst ci
   have ee:outsB n i Y=true:=by rw [hd];exact all_upto2.2 hall
   replace ee:Hid _:=ee
   clear hd
   go_wp2_with fail
   go_ret
   exact⟨congrArg (fun q=>Ending.returned (Value.bool q)) (Eq.symm ee),eb⟩
  ·have hlt:(i:Int)<(m:Int):=by omega
   obtain⟨b,o,hA,hb,x0⟩:=V i (by omega)
   have c:=cr i
   have hcase:oneOf (Y i) (n:Int)=true\/oneOf (Y i) (n:Int)=false:=by cases oneOf (Y i) (n:Int) <;> simp
   clear V cr
   rcases hcase with hq | hq
   ·rw [hq] at c
    replace hq:Hid _:=hq
    replace hd:Hid _:=hd
    subst hA
    go_wp2_with (go_at_call 174;refine (c _).mono ?_;rintro _ _ ⟨rfl,rfl⟩)
    go_roundg (m-i-1)
    case measure=>omega
    case rel=>exact⟨rfl,i+1,by omega,by go_num,fun j hj=>by rcases Nat.lt_or_ge j i with h | h;exact hall j h;rw [show j=i by omega];exact hq⟩
   ·rw [hq] at c
    have ee:outsB n m Y=false:=by rw [hd];exact all_not2 (i:=i) (by omega) hq
    replace ee:Hid _:=ee
    clear hd hq
    subst hA
    go_wp2_with (go_at_call 174;refine (c _).mono ?_;rintro _ _ ⟨rfl,rfl⟩)
    go_ret
    exact⟨congrArg (fun q=>Ending.returned (Value.bool q)) (Eq.symm ee),eb⟩
def errT (b:Bool):Int:=if b then 0 else 50
theorem right_t_core (v:Int) (A:Option Addr) (n C:Nat) (D:Option Addr) (m E:Nat) (b1 b2 b3:Bool) (X:Nat->Opw) (Y:Nat->Int) (w:World) (VX:Ops w A n X) (VY:Ins w D m Y)
   (c1:∀w,Calls Tryz.prog 122 #[tapeV v A n C D m E] w fun e w'=>e=.returned (.bool b1)/\Below w.heap.size w w')
   (c2:∀w,Ops w A n X->Calls Tryz.prog 123 #[tapeV v A n C D m E] w fun e w'=>e=.returned (.bool b2)/\Below w.heap.size w w')
   (c3:∀w,Ins w D m Y->Calls Tryz.prog 124 #[tapeV v A n C D m E] w fun e w'=>e=.returned (.bool b3)/\Below w.heap.size w w') :
   Calls Tryz.prog 63 #[tapeV v A n C D m E] w fun e w'=>e=.returned (.int .i64 (errT (b1&&b2&&b3)))/\Below w.heap.size w w':=by
 unfold tapeV at *
 have e0:(w.alloc (Obj.cells #[.int .i64 v,.slice A n C,.slice D m E] 45)).cell? ⟨w.heap.size,0,none⟩=some (.int .i64 v):=by go_simp
 have e1:(w.alloc (Obj.cells #[.int .i64 v,.slice A n C,.slice D m E] 45)).cell? ⟨w.heap.size,1,none⟩=some (.slice A n C):=by go_simp
 have e2:(w.alloc (Obj.cells #[.int .i64 v,.slice A n C,.slice D m E] 45)).cell? ⟨w.heap.size,2,none⟩=some (.slice D m E):=by go_simp
 have es:w.heap.size<(w.alloc (Obj.cells #[.int .i64 v,.slice A n C,.slice D m E] 45)).heap.size:=by go_size
 have eb:Below w.heap.size w (w.alloc (Obj.cells #[.int .i64 v,.slice A n C,.slice D m E] 45)):=by go_grown
 cases b1
 case' true=>cases b2
 case' true.true=>cases b3
 all_goals
   go_enter Tryz.func63,Tryz.ntmps63
   go_wp2_with fail
   replace VX:=VX.keep eb
   replace VY:=VY.keep eb
   generalize w.alloc (Obj.cells #[.int .i64 v,.slice A n C,.slice D m E] 45)=wc at *
   go_wp2_with (first
     | (go_at_call 122;with_reducible refine (c1 _).mono ?_;rintro _ w1 ⟨rfl,hb1⟩
        replace e0:=keepsC hb1 e0 es;replace e1:=keepsC hb1 e1 es;replace e2:=keepsC hb1 e2 es;replace es:=Nat.lt_of_lt_of_le es hb1.size;replace VX:=VX.keep hb1;replace VY:=VY.keep hb1;replace eb:=later eb hb1;clear hb1)
     | (go_at_call 123;with_reducible refine (c2 _ VX).mono ?_;rintro _ w2 ⟨rfl,hb1⟩
        replace e0:=keepsC hb1 e0 es;replace e1:=keepsC hb1 e1 es;replace e2:=keepsC hb1 e2 es;replace es:=Nat.lt_of_lt_of_le es hb1.size;replace VX:=VX.keep hb1;replace VY:=VY.keep hb1;replace eb:=later eb hb1;clear hb1)
     | (go_at_call 124;with_reducible refine (c3 _ VY).mono ?_;rintro _ w3 ⟨rfl,hb1⟩
        replace eb:=later eb hb1;clear hb1))
   go_ret
   exact⟨rfl,eb⟩
theorem right_t (v:Int) (A:Option Addr) (n C:Nat) (D:Option Addr) (m E:Nat) (X:Nat->Opw) (Y:Nat->Int) (hn:n<=9223372036854775807) (hm:m<=9223372036854775807) (w:World) (VX:Ops w A n X) (VY:Ins w D m Y) :
  Calls Tryz.prog 63 #[tapeV v A n C D m E] w fun e w'=>e=.returned (.int .i64 (errT (rightT v n X m Y)))/\Below w.heap.size w w' :=
 right_t_core v A n C D m E _ _ _ X Y w VX VY (fun w=>sizes_w v A n C D m E w) (fun w V=>ops_w v A n C D m E X hn w V) (fun w V=>outs_w v A n C D m E Y hm w V)
def rarI (k:Int):Int:=if 1<=k/\k<=14 then arI k else -1
theorem rarI_eq (k:Int):(k<1/\rarI k=-1)\/(k=1/\rarI k=0)\/(k=2/\rarI k=0)\/(k≠1/\k≠2/\3<=k/\k<=6/\rarI k=2)\/(k≠1/\k≠2/\3<=k/\6<k/\7<=k/\k<=14/\rarI k=1)\/(k≠1/\k≠2/\3<=k/\6<k/\7<=k/\14<k/\rarI k=-1):=by
 unfold rarI arI
 by_cases h:1<=k/\k<=14
 ·rw [if_pos h]
  by_cases h1:k=1\/k=2
  ·rw [if_pos h1];omega
  ·rw [if_neg h1]
   by_cases h2:3<=k/\k<=6
   ·rw [if_pos h2];omega
   ·rw [if_neg h2];omega
 ·rw [if_neg h];omega
theorem args_w (k:Int) (w:World):Calls Tryz.prog 67 #[.int .i64 k] w fun e w'=>e=.returned (.int .i64 (rarI k))/\w=w':=by
 rcases rarI_eq k with ⟨h1,e⟩ | ⟨rfl,e⟩ | ⟨rfl,e⟩ | ⟨h1,h2,h3,h4,e⟩ | ⟨h1,h2,h3,h4,h5,h6,e⟩ | ⟨h1,h2,h3,h4,h5,h6,e⟩
 ·have g1:(k==1)=false:=by simp;omega
  have g2:(k==2)=false:=by simp;omega
  have g3:¬3<=k:=by omega
  have g4:¬7<=k:=by omega
  rw [e]
  go_enter Tryz.func67,Tryz.ntmps67
  go_wp2_with fail
  go_ret
  exact⟨rfl,rfl⟩
 all_goals
  try replace h1:(k==1)=false:=by simpa using h1
  try replace h2:(k==2)=false:=by simpa using h2
  try replace h4:¬k<=6:=by omega
  try replace h6:¬k<=14:=by omega
  rw [e]
  go_enter Tryz.func67,Tryz.ntmps67
  go_wp2_with fail
  go_ret
  exact⟨rfl,rfl⟩
theorem opd0 {o:Opw} {i:Int} (h:rarI o.k=0):opdB o i=true:=by
 have e:o.ar=0:=by
  unfold rarI at h
  split at h
  ·unfold Opw.ar;omega
  ·omega
 unfold opdB
 rw [e]
 rfl
theorem opd1 {o:Opw} {i:Int} (h:rarI o.k=1):opdB o i=oneOf o.a i:=by
 have e:o.ar=1:=by
  unfold rarI at h
  split at h
  ·unfold Opw.ar;omega
  ·omega
 unfold opdB
 rw [e]
 simp [List.range_succ,Opw.at]
theorem opd2 {o:Opw} {i:Int} (h:rarI o.k=2):opdB o i=(oneOf o.a i&&oneOf o.b i):=by
 have e:o.ar=2:=by
  unfold rarI at h
  split at h
  ·unfold Opw.ar;omega
  ·omega
 unfold opdB
 rw [e]
 simp [List.range_succ,Opw.at]
theorem one_yes {n m:Int} (h:oneOf n m=true):¬n<0/\¬n>=m:=by
 have:=of_decide_eq_true h
 omega
theorem one_no {n m:Int} (h:oneOf n m=false):n<0\/(¬n<0/\n>=m):=by
 have:=of_decide_eq_false h
 omega
theorem op_kinds (k:Int):rarI k=-1\/(k=1/\rarI k=0)\/(k=2/\rarI k=0)\/(rarI k=2/\(k==1)=false/\(k==2)=false/\(k==8)=false)\/(k=8/\rarI k=1)\/(rarI k=1/\(k==1)=false/\(k==2)=false/\(k==8)=false):=by
 simp only [beq_eq_false_iff_ne]
 rcases rarI_eq k with h | h | h | h | h | h <;> omega
theorem op_in {k:Int} (h:rarI k≠-1):decide (1<=k/\k<=14)=true:=by
 unfold rarI at h
 split at h
 ·exact decide_eq_true (by assumption)
 ·exact absurd rfl h
theorem op_false {o:Opw} {i v:Int} (h:opB o i v=false):rarI o.k=-1\/(o.k=1/\rarI o.k=0/\hsB o.lo o.hi=false)\/(o.k=2/\rarI o.k=0/\o.n<0)\/(o.k=2/\rarI o.k=0/\¬o.n<0/\o.n>=v)
  \/ (rarI o.k=1/\o.a<0)\/(rarI o.k=1/\¬o.a<0/\o.a>=i)\/(rarI o.k=2/\o.a<0)\/(rarI o.k=2/\¬o.a<0/\o.a>=i)\/(rarI o.k=2/\(¬o.a<0/\¬o.a>=i)/\o.b<0)\/(rarI o.k=2/\(¬o.a<0/\¬o.a>=i)/\¬o.b<0/\o.b>=i)
  \/ (rarI o.k=1/\(¬o.a<0/\¬o.a>=i)/\o.k=8/\o.n < -64)\/(rarI o.k=1/\(¬o.a<0/\¬o.a>=i)/\o.k=8/\¬o.n < -64/\o.n>64):=by
 unfold opB at h
 rcases op_kinds o.k with q | ⟨q,r⟩ | ⟨q,r⟩ | ⟨r,q1,q2,q8⟩ | ⟨q,r⟩ | ⟨r,q1,q2,q8⟩
 ·exact .inl q
 ·rw [op_in (by omega),opd0 r] at h
  unfold restB at h
  rw [if_pos q] at h
  exact .inr (.inl ⟨q,r,by simpa using h⟩)
 ·rw [op_in (by omega),opd0 r] at h
  unfold restB at h
  rw [if_neg (by omega),if_pos q] at h
  rcases one_no (n:=o.n) (m:=v) (by simpa using h) with g | g
  ·exact .inr (.inr (.inl ⟨q,r,g⟩))
  ·exact .inr (.inr (.inr (.inl ⟨q,r,g⟩)))
 ·rw [op_in (by omega),opd2 r] at h
  unfold restB at h
  simp only [beq_eq_false_iff_ne] at q1 q2 q8
  rw [if_neg q1,if_neg q2,if_neg q8] at h
  cases ha:oneOf o.a i
  ·rcases one_no ha with g | g
   ·exact .inr (.inr (.inr (.inr (.inr (.inr (.inl ⟨r,g⟩))))))
   ·exact .inr (.inr (.inr (.inr (.inr (.inr (.inr (.inl ⟨r,g⟩)))))))
  ·have t:=one_yes ha
   rcases one_no (n:=o.b) (m:=i) (by rw [ha] at h;simpa using h) with g | g
   ·exact .inr (.inr (.inr (.inr (.inr (.inr (.inr (.inr (.inl ⟨r,t,g⟩))))))))
   ·exact .inr (.inr (.inr (.inr (.inr (.inr (.inr (.inr (.inr (.inl ⟨r,t,g⟩)))))))))
 ·rw [op_in (by omega),opd1 r] at h
  unfold restB at h
  rw [if_neg (by omega),if_neg (by omega),if_pos q] at h
  cases ha:oneOf o.a i
  ·rcases one_no ha with g | g
   ·exact .inr (.inr (.inr (.inr (.inl ⟨r,g⟩))))
   ·exact .inr (.inr (.inr (.inr (.inr (.inl ⟨r,g⟩)))))
  ·have t:=one_yes ha
   have g:=of_decide_eq_false (show decide (-64<=o.n/\o.n<=64)=false by rw [ha] at h;exact h)
   by_cases g1:o.n < -64
   ·exact .inr (.inr (.inr (.inr (.inr (.inr (.inr (.inr (.inr (.inr (.inl ⟨r,t,q,g1⟩))))))))))
   ·have g2:o.n>64:=by clear h t;omega
    exact .inr (.inr (.inr (.inr (.inr (.inr (.inr (.inr (.inr (.inr (.inr ⟨r,t,q,g1,g2⟩))))))))))
 ·rw [op_in (by omega),opd1 r] at h
  unfold restB at h
  simp only [beq_eq_false_iff_ne] at q1 q2 q8
  rw [if_neg q1,if_neg q2,if_neg q8] at h
  rcases one_no (n:=o.a) (m:=i) (by simpa using h) with g | g
  ·exact .inr (.inr (.inr (.inr (.inl ⟨r,g⟩))))
  ·exact .inr (.inr (.inr (.inr (.inr (.inl ⟨r,g⟩)))))
theorem op_true {o:Opw} {i v:Int} (h:opB o i v=true):(o.k=1/\rarI o.k=0/\hsB o.lo o.hi=true)\/(o.k=2/\rarI o.k=0/\¬o.n<0/\¬o.n>=v)
  \/ (rarI o.k=1/\(¬o.a<0/\¬o.a>=i)/\o.k=8/\¬o.n < -64/\¬o.n>64)\/(rarI o.k=1/\(¬o.a<0/\¬o.a>=i)/\(o.k==1)=false/\(o.k==2)=false/\(o.k==8)=false)\/(rarI o.k=2/\(¬o.a<0/\¬o.a>=i)/\(¬o.b<0/\¬o.b>=i)/\(o.k==1)=false/\(o.k==2)=false/\(o.k==8)=false):=by
 unfold opB at h
 simp only [Bool.and_eq_true] at h
 obtain⟨⟨h0,h1⟩,h2⟩:=h
 rcases op_kinds o.k with q | ⟨q,r⟩ | ⟨q,r⟩ | ⟨r,q1,q2,q8⟩ | ⟨q,r⟩ | ⟨r,q1,q2,q8⟩
 ·have:=of_decide_eq_true h0
  unfold rarI at q
  rw [if_pos this] at q
  have:=ar_le o.k
  omega
 ·unfold restB at h2
  rw [if_pos q] at h2
  exact .inl ⟨q,r,h2⟩
 ·unfold restB at h2
  rw [if_neg (by omega),if_pos q] at h2
  exact .inr (.inl ⟨q,r,one_yes h2⟩)
 ·rw [opd2 r,Bool.and_eq_true] at h1
  exact .inr (.inr (.inr (.inr ⟨r,one_yes h1.1,one_yes h1.2,q1,q2,q8⟩)))
 ·rw [opd1 r] at h1
  unfold restB at h2
  rw [if_neg (by omega),if_neg (by omega),if_pos q] at h2
  have g:=of_decide_eq_true h2
  exact .inr (.inr (.inl ⟨r,one_yes h1,q,by omega,by omega⟩))
 ·rw [opd1 r] at h1
  exact .inr (.inr (.inr (.inl ⟨r,one_yes h1,q1,q2,q8⟩)))
end Go.Proofs.YtopfabemfbdccaaGreat
