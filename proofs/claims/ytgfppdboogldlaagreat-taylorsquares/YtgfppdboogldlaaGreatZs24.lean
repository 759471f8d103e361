/- Tapes: one operation of a tape, and what tape's small functions answer of it. Tapes: which operations may be, as the program tells. -/
import Derived.Test.YtgfppdboogldlaaGreatZs12
import Derived.Deep.LoopGhost
namespace Go.Proofs.YtgfppdboogldlaaGreat
open Go.ChangeShapes Go.WideShapes Go.ChangeAt Go.RowKit
structure Opw where
 k:Int
 a:Int
 b:Int
 n:Int
 lo:Nat
 hi:Nat
def Opw.val (o:Opw):Value:=.agg #[.int .i64 o.k,.int .i64 o.a,.int .i64 o.b,.int .i64 o.n,.float .f64 o.lo,.float .f64 o.hi]
def arI (k:Int):Int:=if k=1∨k=2 then 0 else if 3≤k∧k≤6 then 2 else 1
theorem ar_cases (k:Int):(k=1∧arI k=0)∨(k=2∧arI k=0)∨(k=3∧arI k=2)∨(k=4∧arI k=2)∨(k=5∧arI k=2)∨(k=6∧arI k=2)∨(k≠1∧k≠2∧k≠3∧k≠4∧k≠5∧k≠6∧arI k=1):=by
 unfold arI
 by_cases h1:k=1∨k=2
 · rw [if_pos h1];omega
 · rw [if_neg h1]
   by_cases h2:3≤k∧k≤6
   · rw [if_pos h2];omega
   · rw [if_neg h2];omega
theorem arity_w (k:Int) (w:World):Calls Tryz.prog 103 #[.int .i64 k] w fun e w'=>e=.returned (.int .i64 (arI k))∧w=w':=by
 rcases ar_cases k with ⟨rfl,e⟩ | ⟨rfl,e⟩ | ⟨rfl,e⟩ | ⟨rfl,e⟩ | ⟨rfl,e⟩ | ⟨rfl,e⟩ | ⟨h1,h2,h3,h4,h5,h6,e⟩
 all_goals
   rw [e]
   go_enter Tryz.func103,Tryz.ntmps103
   go_wp2_with fail
   go_ret
   exact⟨rfl,rfl⟩
def oneOf (n m:Int):Bool:=decide (0≤n∧n<m)
theorem oneOf_w (n m:Int) (w:World):Calls Tryz.prog 73 #[.int .i64 n,.int .i64 m] w fun e w'=>e=.returned (.bool (oneOf n m))∧w=w':=by
 by_cases h1:0≤n
 · by_cases h2:n<m
   · have e:oneOf n m=true:=decide_eq_true ⟨h1,h2⟩
     rw [e]
     go_enter Tryz.func73,Tryz.ntmps73
     go_wp2_with fail
     go_ret
     exact⟨rfl,rfl⟩
   · have e:oneOf n m=false:=decide_eq_false (by omega)
     rw [e]
     go_enter Tryz.func73,Tryz.ntmps73
     go_wp2_with fail
     go_ret
     exact⟨rfl,rfl⟩
 · have e:oneOf n m=false:=decide_eq_false (by omega)
   rw [e]
   go_enter Tryz.func73,Tryz.ntmps73
   go_wp2_with fail
   go_ret
   exact⟨rfl,rfl⟩
theorem ar_le (k:Int):0≤arI k∧arI k≤2:=by
 rcases ar_cases k with h | h | h | h | h | h | h <;> omega
set_option maxHeartbeats 400000 in
theorem operands_w (o:Opw) (w:World):Calls Tryz.prog 83 #[o.val] w fun e w'=>(∃B,w.heap.size≤B∧B<w'.heap.size∧e=.returned (.slice (some ⟨B,0,none⟩) (arI o.k).toNat 2)∧w'.cell? ⟨B,0,none⟩=some (.int .i64 o.a)∧w'.cell? ⟨B,1,none⟩=some (.int .i64 o.b))∧Below w.heap.size w w':=by
 have hr:=ar_le o.k
 have ha:=fun w=>arity_w o.k w
 have h3:arI o.k=0∨arI o.k=1∨arI o.k=2:=by omega
 unfold Opw.val
 rcases h3 with h | h | h
 all_goals
   rw [h] at ha ⊢
   clear h hr
   go_enter Tryz.func83,Tryz.ntmps83
   go_wp2_with fail
   go_region_held3 (fun w'=>w'.cell? ⟨w.heap.size,0,none⟩=some (.int .i64 o.k)∧w'.cell? ⟨w.heap.size,1,none⟩=some (.int .i64 o.a)∧w'.cell? ⟨w.heap.size,2,none⟩=some (.int .i64 o.b)) (first | go_keep | exact⟨by assumption,by assumption,by assumption⟩)
     (first
       | (go_at_call 103;refine (ha _).mono ?_;rintro _ _ ⟨rfl,rfl⟩))
   all_goals
     go_wp2
     go_ret
     exact⟨⟨w.heap.size+1,by omega,by go_size,rfl,by go_simp,by go_simp⟩,by go_grown⟩
theorem holds_eq {lo hi:Nat}:(rightB lo hi&&!(eqB lo (infI 1)&&eqB hi (infI (-1))))=hsB lo hi:=by
 unfold rightB
 cases h:hsB lo hi
 · cases eqB lo (infI 1) <;> cases eqB hi (infI (-1)) <;> rfl
 · have:eqB lo (infI 1)=false:=by
     unfold hsB at h
     simp only [Bool.and_eq_true,decide_eq_true_eq] at h
     unfold eqB
     rw [nan_inf,key_up]
     have:¬key lo=9218868437227405312:=by omega
     simp [this]
   rw [this]
   rfl
set_option maxHeartbeats 400000 in
theorem mayHold_core (lo hi:Nat) (r b1 b2:Bool) (cr:∀w,Calls Tryz.prog 59 #[.agg #[.float .f64 lo,.float .f64 hi]] w fun e w'=>e=.returned (.bool r)∧Below w.heap.size w w')
   (o1:(FloatKind.f64.format.order lo (infI 1)==some .eq)=b1) (o2:(FloatKind.f64.format.order hi (infI (-1))==some .eq)=b2) (w:World) :
   Calls Tryz.prog 84 #[.agg #[.float .f64 lo,.float .f64 hi]] w fun e w'=>e=.returned (.bool (r&&!(b1&&b2)))∧Below w.heap.size w w':=by
 cases r
 case' true=>cases b1
 case' true.true=>cases b2
 all_goals
   go_enter Tryz.func84,Tryz.ntmps84
   go_wp2_with fail
   have e0:(w.alloc (Obj.cells #[.float .f64 lo,.float .f64 hi] 43)).cell? ⟨w.heap.size,0,none⟩=some (.float .f64 lo):=by go_simp
   have e1:(w.alloc (Obj.cells #[.float .f64 lo,.float .f64 hi] 43)).cell? ⟨w.heap.size,1,none⟩=some (.float .f64 hi):=by go_simp
   have es:w.heap.size<(w.alloc (Obj.cells #[.float .f64 lo,.float .f64 hi] 43)).heap.size:=by go_size
   have eb:Below w.heap.size w (w.alloc (Obj.cells #[.float .f64 lo,.float .f64 hi] 43)):=by go_grown
   generalize w.alloc (Obj.cells #[.float .f64 lo,.float .f64 hi] 43)=wc at *
   have k0:=fun n:Behind wc=>n.cell e0 es
   have k1:=fun n:Behind wc=>n.cell e1 es
   refine region_behind (by kernel_rfl) (by kernel_rfl) ?_
   repeat (go_big_quiet_step (first | (go_at_call 59;with_reducible refine Behind.call (cr _)) | (go_at_call 60;with_reducible refine Behind.call (empty_w _))))
   refine wpQuiet_nil ?_
   rintro _ ⟨n,rfl⟩
   obtain⟨W,hb⟩:=n
   go_wp2_with fail
   go_ret
   exact⟨rfl,later eb hb⟩
theorem mayHold_w (lo hi:Nat) (hl:lo<18446744073709551616) (hh:hi<18446744073709551616) (w:World) :
   Calls Tryz.prog 84 #[.agg #[.float .f64 lo,.float .f64 hi]] w fun e w'=>e=.returned (.bool (hsB lo hi))∧Below w.heap.size w w':=by
 rw [←holds_eq]
 exact mayHold_core lo hi _ _ _ (fun w=>right_w lo hi hl hh w) (o_eq hl (infI_lt 1)) (o_eq hh (infI_lt (-1))) w
def Opw.at (o:Opw) (j:Nat):Int:=if j=0 then o.a else o.b
def Opw.ar (o:Opw):Nat:=(arI o.k).toNat
def opdB (o:Opw) (i:Int):Bool:=(List.range o.ar).all fun j=>oneOf (o.at j) i
def restB (o:Opw) (vars:Int):Bool:=if o.k=1 then hsB o.lo o.hi else if o.k=2 then oneOf o.n vars else if o.k=8 then decide (-64≤o.n∧o.n≤64) else true
def opB (o:Opw) (i vars:Int):Bool:=decide (1≤o.k∧o.k≤14)&&opdB o i&&restB o vars
theorem all_upto2 {p:Nat→Bool} {n:Nat}:(List.range n).all p=true↔∀i,i<n→p i=true:=by
 rw [List.all_eq_true]
 exact⟨fun h i hi=>h i (List.mem_range.2 hi),fun h i hi=>h i (List.mem_range.1 hi)⟩
theorem all_not2 {p:Nat→Bool} {n i:Nat} (hi:i<n) (h:p i=false):(List.range n).all p=false:=by
 cases c:(List.range n).all p
 · rfl
 · rw [all_upto2.1 c i hi] at h;cases h
set_option maxHeartbeats 1000000 in
theorem opMay_w (o:Opw) (i vars:Int) (hl:o.lo<18446744073709551616) (hh:o.hi<18446744073709551616) (w:World) :
   Calls Tryz.prog 72 #[o.val,.int .i64 i,.int .i64 vars] w fun e w'=>e=.returned (.bool (opB o i vars))∧Below w.heap.size w w':=by
 by_cases h1:o.k<1
 · have e:opB o i vars=false:=by unfold opB;rw [decide_eq_false (by omega)];rfl
   rw [e]
   unfold Opw.val
   go_enter Tryz.func72,Tryz.ntmps72
   go_wp2_with fail
   go_ret
   exact⟨rfl,by go_grown⟩
 by_cases h2:o.k>14
 · have e:opB o i vars=false:=by unfold opB;rw [decide_eq_false (by omega)];rfl
   rw [e]
   unfold Opw.val
   go_enter Tryz.func72,Tryz.ntmps72
   go_wp2_with fail
   go_ret
   exact⟨rfl,by go_grown⟩
 have e:opB o i vars=(opdB o i&&restB o vars):=by unfold opB;rw [decide_eq_true (by omega)];rfl
 rw [e]
 have co:=fun w=>operands_w o w
 have har:o.ar≤2:=by have:=ar_le o.k;unfold Opw.ar;omega
 have hL:(arI o.k).toNat=o.ar:=rfl
 rw [hL] at co
 have hd:opdB o i=(List.range o.ar).all fun j=>oneOf (o.at j) i:=rfl
 clear hL e
 generalize o.ar=L at *
 unfold Opw.val at *
 go_enter Tryz.func72,Tryz.ntmps72
 go_wp2_with (go_at_call 83;refine (co _).mono ?_;rintro _ w1 ⟨⟨B,hB0,hB1,rfl,c0,c1⟩,hb1⟩)
 have k0:w1.cell? ⟨w.heap.size,0,none⟩=some (.int .i64 o.k):=keepsC hb1 (by go_simp) (by go_size)
 have k3:w1.cell? ⟨w.heap.size,3,none⟩=some (.int .i64 o.n):=keepsC hb1 (by go_simp) (by go_size)
 have k4:w1.cell? ⟨w.heap.size,4,none⟩=some (.float .f64 o.lo):=keepsC hb1 (by go_simp) (by go_size)
 have k5:w1.cell? ⟨w.heap.size,5,none⟩=some (.float .f64 o.hi):=keepsC hb1 (by go_simp) (by go_size)
 have HB:Below w.heap.size w w1:=later (by go_grown) hb1
 have ca:∀j,j<L→w1.cell? ⟨B,j,none⟩=some (.int .i64 (o.at j)):=by
   intro j hj
   have:j=0∨j=1:=by omega
   rcases this with rfl | rfl
   · exact c0
   · exact c1
 clear co hb1 c0 c1 hB0
 go_loopg [20] L (fun G s20 wx=>wx=w1∧∃j:Nat,j+G=L∧s20=.int .i64 (j:Int)∧Hid (∀q,q<j→oneOf (o.at q) i=true))
 case atStart=>exact⟨rfl,0,by omega,rfl,fun j hj=>absurd hj (by omega)⟩
 case round =>
   obtain⟨rfl,j,hj,rfl,hall⟩:=hrel
   by_cases cj:j=L
   · have e1:opdB o i=true:=by rw [hd];subst cj;exact all_upto2.2 hall
     subst cj
     by_cases q1:o.k=1
     · have e2:restB o vars=hsB o.lo o.hi:=by unfold restB;rw [if_pos q1]
       have ee:(opdB o i&&restB o vars)=_:=(congr (congrArg and e1) e2).trans (Bool.true_and _)
       have cm:=fun w=>mayHold_w o.lo o.hi hl hh w
       rw [q1] at k0
       replace ee:Hid _:=ee
       clear hd e1 e2 hall ca
       go_wp2_with (go_at_call 84;refine (cm _).mono ?_;rintro _ w2 ⟨rfl,hb2⟩)
       go_ret
       exact⟨congrArg (fun q=>Ending.returned (Value.bool q)) (Eq.symm ee),later HB hb2⟩
     by_cases q2:o.k=2
     · have e2:restB o vars=oneOf o.n vars:=by unfold restB;rw [if_neg q1,if_pos q2]
       have ee:(opdB o i&&restB o vars)=_:=(congr (congrArg and e1) e2).trans (Bool.true_and _)
       rw [q2] at k0
       replace ee:Hid _:=ee
       clear hd e1 e2 hall ca
       go_wp2_with (go_at_call 73;refine (oneOf_w _ _ _).mono ?_;rintro _ _ ⟨rfl,rfl⟩)
       go_ret
       first | exact⟨congrArg (fun q=>Ending.returned (Value.bool q)) (Eq.symm ee),HB⟩ | exact⟨rfl,HB⟩
     by_cases q8:o.k=8
     · have e2:restB o vars=decide (-64≤o.n∧o.n≤64):=by unfold restB;rw [if_neg q1,if_neg q2,if_pos q8]
       have ee:(opdB o i&&restB o vars)=_:=(congr (congrArg and e1) e2).trans (Bool.true_and _)
       rw [q8] at k0
       replace ee:Hid _:=ee
       clear hd e1 e2 hall ca
       by_cases g1:-64≤o.n
       · by_cases g2:o.n≤64
         · replace ee:=Eq.trans ee (decide_eq_true (And.intro g1 g2))
           go_wp2_with fail
           go_ret
           first | exact⟨congrArg (fun q=>Ending.returned (Value.bool q)) (Eq.symm ee),HB⟩ | exact⟨rfl,HB⟩
         · replace ee:=Eq.trans ee (decide_eq_false (fun q:-64≤o.n∧o.n≤64=>g2 q.2))
           go_wp2_with fail
           go_ret
           first | exact⟨congrArg (fun q=>Ending.returned (Value.bool q)) (Eq.symm ee),HB⟩ | exact⟨rfl,HB⟩
       · replace ee:=Eq.trans ee (decide_eq_false (fun q:-64≤o.n∧o.n≤64=>g1 q.1))
         go_wp2_with fail
         go_ret
         first | exact⟨congrArg (fun q=>Ending.returned (Value.bool q)) (Eq.symm ee),HB⟩ | exact⟨rfl,HB⟩
     · have e2:restB o vars=true:=by unfold restB;rw [if_neg q1,if_neg q2,if_neg q8]
       have ee:(opdB o i&&restB o vars)=_:=(congr (congrArg and e1) e2).trans (Bool.true_and _)
       replace ee:Hid _:=ee
       clear hd e1 e2 hall ca
       go_wp2_with fail
       go_ret
       first | exact⟨congrArg (fun q=>Ending.returned (Value.bool q)) (Eq.symm ee),HB⟩ | exact⟨rfl,HB⟩
   · have hlt:(j:Int)<(L:Int):=by omega
     have cc:=ca j (by omega)
     have hcase:oneOf (o.at j) i=true∨oneOf (o.at j) i=false:=by cases oneOf (o.at j) i <;> simp
     have c1:=fun w=>oneOf_w (o.at j) i w
     clear ca k0 k3 k4 k5
     rcases hcase with hq | hq
     · rw [hq] at c1
       go_wp2_with (go_at_call 73;refine (c1 _).mono ?_;rintro _ _ ⟨rfl,rfl⟩)
       go_roundg (L-j-1)
       case measure=>omega
       case rel=>exact⟨rfl,j+1,by omega,by go_num,fun q hq'=>by rcases Nat.lt_or_ge q j with h | h;exact hall q h;rw [show q=j by omega];exact hq⟩
     · rw [hq] at c1
       have e1:opdB o i=false:=by rw [hd];exact all_not2 (i:=j) (by omega) hq
       have ee:(opdB o i&&restB o vars)=false:=by rw [e1,Bool.false_and]
       go_wp2_with (go_at_call 73;refine (c1 _).mono ?_;rintro _ _ ⟨rfl,rfl⟩)
       go_ret
       first | exact⟨congrArg (fun q=>Ending.returned (Value.bool q)) (Eq.symm ee),HB⟩ | exact⟨rfl,HB⟩
def Ops (w:World) (A:Option Addr) (n:Nat) (X:Nat→Opw):Prop :=
 ∀i,i<n→∃b o,A=some ⟨b,o,none⟩∧b<w.heap.size∧w.cell? ⟨b,o+i*6,none⟩=some (.int .i64 (X i).k)∧w.cell? ⟨b,o+i*6+1,none⟩=some (.int .i64 (X i).a)∧w.cell? ⟨b,o+i*6+2,none⟩=some (.int .i64 (X i).b)∧w.cell? ⟨b,o+i*6+3,none⟩=some (.int .i64 (X i).n)∧w.cell? ⟨b,o+i*6+4,none⟩=some (.float .f64 (X i).lo)∧w.cell? ⟨b,o+i*6+5,none⟩=some (.float .f64 (X i).hi)∧(X i).lo<18446744073709551616∧(X i).hi<18446744073709551616
theorem Ops.keep {w w2:World} {A:Option Addr} {n:Nat} {X:Nat→Opw} (h:Ops w A n X) (hb:Below w.heap.size w w2):Ops w2 A n X:=fun i hi=>by
 obtain⟨b,o,e,l,c0,c1,c2,c3,c4,c5,r⟩:=h i hi
 exact⟨b,o,e,Nat.lt_of_lt_of_le l hb.size,keepsC hb c0 l,keepsC hb c1 l,keepsC hb c2 l,keepsC hb c3 l,keepsC hb c4 l,keepsC hb c5 l,r⟩
def Ins (w:World) (A:Option Addr) (n:Nat) (Y:Nat→Int):Prop :=
 ∀i,i<n→∃b o,A=some ⟨b,o,none⟩∧b<w.heap.size∧w.cell? ⟨b,o+i,none⟩=some (.int .i64 (Y i))
theorem Ins.keep {w w2:World} {A:Option Addr} {n:Nat} {Y:Nat→Int} (h:Ins w A n Y) (hb:Below w.heap.size w w2):Ins w2 A n Y:=fun i hi=>by
 obtain⟨b,o,e,l,c0⟩:=h i hi
 exact⟨b,o,e,Nat.lt_of_lt_of_le l hb.size,keepsC hb c0 l⟩
def tapeV (v:Int) (A:Option Addr) (n C:Nat) (D:Option Addr) (m E:Nat):Value:=.agg #[.int .i64 v,.slice A n C,.slice D m E]
def opsB (v:Int) (n:Nat) (X:Nat→Opw):Bool:=(List.range n).all fun i=>opB (X i) (i:Int) v
def outsB (n m:Nat) (Y:Nat→Int):Bool:=(List.range m).all fun i=>oneOf (Y i) (n:Int)
def sizesB (v:Int) (n m:Nat):Bool:=decide (0≤v∧v≤64∧n≤4000∧m≤400)
def rightT (v:Int) (n:Nat) (X:Nat→Opw) (m:Nat) (Y:Nat→Int):Bool:=sizesB v n m&&opsB v n X&&outsB n m Y
theorem sizes_w (v:Int) (A:Option Addr) (n C:Nat) (D:Option Addr) (m E:Nat) (w:World) :
   Calls Tryz.prog 55 #[tapeV v A n C D m E] w fun e w'=>e=.returned (.bool (sizesB v n m))∧Below w.heap.size w w':=by
 by_cases h1:0≤v
 · by_cases h2:v≤64
   · by_cases h3:(n:Int)≤4000
     · by_cases h4:(m:Int)≤400
       · have e:sizesB v n m=true:=decide_eq_true (by omega)
         rw [e]
         unfold tapeV
         go_enter Tryz.func55,Tryz.ntmps55
         go_wp2_with fail
         go_ret
         exact⟨rfl,by go_grown⟩
       · have e:sizesB v n m=false:=decide_eq_false (by omega)
         rw [e]
         unfold tapeV
         go_enter Tryz.func55,Tryz.ntmps55
         go_wp2_with fail
         go_ret
         exact⟨rfl,by go_grown⟩
     · have e:sizesB v n m=false:=decide_eq_false (by omega)
       rw [e]
       unfold tapeV
       go_enter Tryz.func55,Tryz.ntmps55
       go_wp2_with fail
       go_ret
       exact⟨rfl,by go_grown⟩
   · have e:sizesB v n m=false:=decide_eq_false (by omega)
     rw [e]
     unfold tapeV
     go_enter Tryz.func55,Tryz.ntmps55
     go_wp2_with fail
     go_ret
     exact⟨rfl,by go_grown⟩
 · have e:sizesB v n m=false:=decide_eq_false (by omega)
   rw [e]
   unfold tapeV
   go_enter Tryz.func55,Tryz.ntmps55
   go_wp2_with fail
   go_ret
   exact⟨rfl,by go_grown⟩
end Go.Proofs.YtgfppdboogldlaaGreat
