/- kraw: whether a question may be. A slice of the call's own, as intervals in a block. slices.Grow of nothing, slices.Concat of two slices of intervals. A tape's values: Eval of the program. -/
import Derived.Test.YtopfabemfbdccaaGreatZk29
import Derived.Test.YtopfabemfbdccaaGreatZk36
import Derived.Test.YtopfabemfbdccaaGreatZk22
import Derived.Test.YtopfabemfbdccaaGreatZk27
import Derived.Laws.BitsLemmas
namespace Go.Proofs.YtopfabemfbdccaaGreat
open Go.ChangeShapes Go.WideShapes Go.ChangeAt Go.RowKit
def mayQ (v:Int) (m nx:Nat) (X:Nat->Nat×Nat) (np:Nat) (P:Nat->Nat×Nat):Bool :=
 decide ((1:Int)<=(nx:Int))&&(decide ((nx:Int)<=24)&&(((m:Int)==(nx:Int))&&((v==wrap64 ((nx:Int)+(np:Int)))&&(((List.range nx).all fun i=>bdB (X i))&&((List.range np).all fun i=>bdB (P i))))))
set_option maxRecDepth 8000 in
set_option maxHeartbeats 4000000 in
theorem kmay_core (v:Int) (A:Option Addr) (n C:Nat) (D:Option Addr) (m E:Nat) (AX:Option Addr) (nx CX:Nat) (AP:Option Addr) (np CP:Nat) (b1 b2 b3 b4 b5 b6:Bool) (w:World)
  (q1:decide ((1:Int)<=(nx:Int))=b1) (q2:decide ((nx:Int)<=24)=b2) (q3:((m:Int)==(nx:Int))=b3) (q4:(v==wrap64 ((nx:Int)+(np:Int)))=b4)
  (c1:∀W,Below w.heap.size w W->Calls Tryz.prog 125 #[.slice AX nx CX] W fun e w'=>e=.returned (.bool b5)/\Below W.heap.size W w')
  (c2:∀W,Below w.heap.size w W->Calls Tryz.prog 125 #[.slice AP np CP] W fun e w'=>e=.returned (.bool b6)/\Below W.heap.size W w') :
  Calls Tryz.prog 64 #[tapeV v A n C D m E,.slice AX nx CX,.slice AP np CP] w fun e w'=>e=.returned (.bool (b1&&(b2&&(b3&&(b4&&(b5&&b6))))))/\Below w.heap.size w w':=by
 have T:=hasT_new w v A n C D m E
 have HB:Below w.heap.size w (w.alloc (.cells #[.int .i64 v,.slice A n C,.slice D m E] 45)):=by go_grown
 unfold tapeV
 cases b1
 case' true=>cases b2
 case' true.true=>cases b3
 case' true.true.true=>cases b4
 case' true.true.true.true=>cases b5
 all_goals
  go_enter Tryz.func64,Tryz.ntmps64
  go_upto_region 1 with fail
  generalize (w.alloc (.cells #[.int .i64 v,.slice A n C,.slice D m E] 45))=V1 at *
  obtain⟨t0,t1,t2,tl⟩:=id T
  go_wp2_with (first
   | (go_at_call 125;(with_reducible refine (c1 _ HB).mono ?_);rintro _ V2 ⟨rfl,hb1⟩;replace HB:=later HB hb1)
   | (go_at_call 125;(with_reducible refine (c2 _ HB).mono ?_);rintro _ V3 ⟨rfl,hb2⟩;replace HB:=later HB hb2))
  go_ret
  exact⟨rfl,HB⟩
theorem kmay_w (v:Int) (A:Option Addr) (n C:Nat) (D:Option Addr) (m E:Nat) (AX:Option Addr) (nx CX:Nat) (X:Nat->Nat×Nat) (AP:Option Addr) (np CP:Nat) (P:Nat->Nat×Nat) (hx:nx<=9223372036854775807) (hp:np<=9223372036854775807) (w:World) (VX:Ivs w AX nx X) (VP:Ivs w AP np P) :
  Calls Tryz.prog 64 #[tapeV v A n C D m E,.slice AX nx CX,.slice AP np CP] w fun e w'=>e=.returned (.bool (mayQ v m nx X np P))/\Below w.heap.size w w' :=
 kmay_core v A n C D m E AX nx CX AP np CP _ _ _ _ _ _ w rfl rfl rfl rfl (fun W h=>kbounded_w AX nx CX X hx W (VX.keep h)) (fun W h=>kbounded_w AP np CP P hp W (VP.keep h))
set_option maxRecDepth 8000 in
set_option maxHeartbeats 4000000 in
theorem lmay_core (v:Int) (A:Option Addr) (n C:Nat) (D:Option Addr) (m E:Nat) (AX:Option Addr) (nx CX:Nat) (AP:Option Addr) (np CP:Nat) (b1 b2 b3 b4 b5 b6:Bool) (w:World)
  (q1:decide ((1:Int)<=(nx:Int))=b1) (q2:decide ((nx:Int)<=24)=b2) (q3:((m:Int)==(nx:Int))=b3) (q4:(v==wrap64 ((nx:Int)+(np:Int)))=b4)
  (c1:∀W,Below w.heap.size w W->Calls Tryz.prog 68 #[.slice AX nx CX] W fun e w'=>e=.returned (.bool b5)/\Below W.heap.size W w')
  (c2:∀W,Below w.heap.size w W->Calls Tryz.prog 68 #[.slice AP np CP] W fun e w'=>e=.returned (.bool b6)/\Below W.heap.size W w') :
  Calls Tryz.prog 28 #[tapeV v A n C D m E,.slice AX nx CX,.slice AP np CP] w fun e w'=>e=.returned (.bool (b1&&(b2&&(b3&&(b4&&(b5&&b6))))))/\Below w.heap.size w w':=by
 have T:=hasT_new w v A n C D m E
 have HB:Below w.heap.size w (w.alloc (.cells #[.int .i64 v,.slice A n C,.slice D m E] 45)):=by go_grown
 unfold tapeV
 cases b1
 case' true=>cases b2
 case' true.true=>cases b3
 case' true.true.true=>cases b4
 case' true.true.true.true=>cases b5
 all_goals
  go_enter Tryz.func28,Tryz.ntmps28
  go_upto_region 1 with fail
  generalize (w.alloc (.cells #[.int .i64 v,.slice A n C,.slice D m E] 45))=V1 at *
  obtain⟨t0,t1,t2,tl⟩:=id T
  go_wp2_with (first
   | (go_at_call 68;(with_reducible refine (c1 _ HB).mono ?_);rintro _ V2 ⟨rfl,hb1⟩;replace HB:=later HB hb1)
   | (go_at_call 68;(with_reducible refine (c2 _ HB).mono ?_);rintro _ V3 ⟨rfl,hb2⟩;replace HB:=later HB hb2))
  go_ret
  exact⟨rfl,HB⟩
theorem lmay_w (v:Int) (A:Option Addr) (n C:Nat) (D:Option Addr) (m E:Nat) (AX:Option Addr) (nx CX:Nat) (X:Nat->Nat×Nat) (AP:Option Addr) (np CP:Nat) (P:Nat->Nat×Nat) (hx:nx<=9223372036854775807) (hp:np<=9223372036854775807) (w:World) (VX:Ivs w AX nx X) (VP:Ivs w AP np P) :
  Calls Tryz.prog 28 #[tapeV v A n C D m E,.slice AX nx CX,.slice AP np CP] w fun e w'=>e=.returned (.bool (mayQ v m nx X np P))/\Below w.heap.size w w' :=
 lmay_core v A n C D m E AX nx CX AP np CP _ _ _ _ _ _ w rfl rfl rfl rfl (fun W h=>lbounded7_w AX nx CX X hx W (VX.keep h)) (fun W h=>lbounded7_w AP np CP P hp W (VP.keep h))
theorem mayQ_is {v:Int} {m nx np:Nat} {X P:Nat->Nat×Nat} (h:mayQ v m nx X np P=true) (hv:0<=v/\v<=64) (hp:np<=9223372036854775807):1<=nx/\nx<=24/\m=nx/\v=((nx+np:Nat):Int)/\(∀i,i<nx->bdB (X i)=true)/\∀i,i<np->bdB (P i)=true:=by
 unfold mayQ at h
 simp only [Bool.and_eq_true,decide_eq_true_eq,beq_iff_eq] at h
 obtain⟨h1,h2,h3,h4,h5,h6⟩:=h
 refine⟨by omega,by omega,by omega, ?_,all_upto.1 h5,all_upto.1 h6⟩
 rw [h4] at hv ⊢
 unfold wrap64 at hv ⊢
 omega
theorem ownI_img {B:Nat} {w:World} {v:Value} {xs:List (Nat×Nat)} (h:OwnI B w v xs) (h0:0<xs.length):∃g C,v=.slice (some ⟨g,0,none⟩) xs.length C/\Img w g xs.length (fun i=>xs.getD i (0,0))/\B<=g:=by
 have h':w.ownsRow B 24 2 v xs.length (ivCells xs):=h
 rcases h'.2 with ⟨rfl,hn⟩ | ⟨g,cap,cur,rfl, -⟩
 ·omega
 ·have hl:=World.ownsRow.lt h g rfl
  refine⟨g,cap,rfl,⟨hl.2,fun i hi=>?_⟩,hl.1⟩
  have hg:xs[i]?=some (xs.getD i (0,0)):=by simp [List.getD,hi]
  obtain⟨a,b⟩:=ivCells_at xs i _ hg
  refine⟨?_, ?_,World.ownsRow.frozenAt h _,World.ownsRow.frozenAt h _⟩
  ·rw [World.ownsRow.cellAt h (i*2) (by omega)];exact a
  ·rw [World.ownsRow.cellAt h (i*2+1) (by omega)];exact b
theorem run_zeros {P:Program} (t ti ty e:TypeId) (i:TypeInfo) (z:Value) (ht:P.underlying t=some (.slice e)) (hti:P.underlying ti=some (.int .i64)) (hi:P.info? e=some i) (hz:i.zero=some z) (hsz:0<i.size) (n:Nat) (h0:0<n) (hb:n*i.bytes<=1000000) (h63:n<=1000000) (w:World) :
  (Builtin.append_ #[t,ti] ty #[.slice none 0 0,.int .i64 (n:Int)]).run P w=.ok (.slice (some ⟨w.heap.size,0,none⟩) n (grownCap w n 0 e)) (w.drew.alloc (.cells (Builtin.zeroCells z.cells n++Builtin.zeroCells z.cells (grownCap w n 0 e-n)) e)):=by
 have hw:IntKind.i64.wrap (n:Int)=(n:Int):=by rw [IntKind.wrap_i64];omega
 have h1:¬((n:Int)<0):=by omega
 have hn:n≠0:=by omega
 have hm:¬(n*i.size=0):=by intro h;rcases Nat.mul_eq_zero.1 h with h | h <;> omega
 have h2:¬(281474976710656<(n:Int)*(i.bytes:Int)):=by
  have:((n*i.bytes:Nat):Int)<=1000000:=by omega
  rw [Int.natCast_mul] at this
  omega
 have h4:max (n:Int) 0=(n:Int):=by omega
 have h63':¬(9223372036854775807<(n:Int)):=by omega
 have h48':¬(281474976710656<Builtin.nextslicecap n 0*i.bytes):=by rw [nextslicecap_zero h0];omega
 simp [Builtin.append_,run_underlying ht,run_underlying hti,sizeOf,typeInfo,zeroValue,hi,hz,asInt,asIntOf,hw,h1,h2,h4,hn,hm,h63',h48',Question.forced,run_firstCells_none,newRow,grownCap]
theorem run_append_none {P:Program} (t ty e:TypeId) (i:TypeInfo) (ht:P.underlying t=some (.slice e)) (hi:P.info? e=some i) (b:Option Addr) (l c:Nat) (hc:l<=c) (x:Option Addr) (d:Nat) (w:World) :
  (Builtin.append_ #[t,t] ty #[.slice b l c,.slice x 0 d]).run P w=.ok (.slice b l c) w:=by
 cases b <;> cases x <;> simp [Builtin.append_,run_underlying ht,sizeOf,typeInfo,hi,Builtin.lenOf,Builtin.firstCells,loadCells,loadCellsFrom,storeCells,hc]
theorem wpList_noughts {w:World} {ops:Array Oper} {rest:List Oper} {o:Oper} {a:Act} {Q:Exit->Act->World->Prop} (hgd:o.guard=none) (s x:Operand)
  (ho:o.op=.call { callee:=.builtin .append,args:=#[s,x],argTypes:=#[46,3] }) (n:Nat) (n1:1<=n) (n2:n<=1000) (hs:a.eval s=.slice none 0 0) (hx:a.eval x=.int .i64 (n:Int))
  (h:∀c w',OwnI w.heap.size w' (.slice (some ⟨w.heap.size,0,none⟩) 0 c) []->Below w.heap.size w w'->n<=c->wpList Tryz.prog ops Q rest (a.put o.dst (.slice (some ⟨w.heap.size,0,none⟩) n c)) w'):wpList Tryz.prog ops Q (o :: rest) a w:=by
 obtain⟨i0,hi,hz0,hz1,hz2⟩:=info_parts Tryz.infoIval
 have hr:=fun ty=>run_zeros (P:=Tryz.prog) 46 3 ty 24 i0 (.agg #[.float .f64 0,.float .f64 0]) Tryz.underlying46 Tryz.underlying3 hi hz0 (by rw [hz1];omega) n (by omega) (by rw [hz2];omega) (by omega) w
 have hge:=grownCap_ge w n 0 24
 have hcm:=grownCap_le_maxLen w n 0 24 (by unfold maxLen;omega)
 refine wpList_plain hgd fun K hK=>?_
 unfold Oper.wp
 simp [execOp,ho,resolve,invoke,builtin,hs,hx,hr,Result.andThen]
 refine hK _ _ (h _ _ ?_ ((Below.refl _ _).drew.alloc (by simp) _) hge)
 refine⟨rfl,.inr ⟨w.heap.size,_,_,rfl,Nat.le_refl _,heap_alloc_new w.drew _,Nat.zero_le _,hcm, ?_, ?_⟩⟩
 ·simp only [Array.size_append,size_zeroCells]
  show n*2+(grownCap w n 0 24-n)*2=_
  omega
 ·simp [ivCells]
set_option maxHeartbeats 2000000 in
theorem grow_w (n:Nat) (n1:1<=n) (n2:n<=1000) (w:World) :
  Calls Tryz.prog 177 #[.slice none 0 0,.int .i64 (n:Int)] w fun e w'=>(∃v,e=.returned v/\OwnI w.heap.size w' v [])/\Below w.heap.size w w':=by
 have e1:¬(n:Int)<0:=by omega
 have e2:(0:Int)<(n:Int):=by omega
 go_enter Tryz.func177,Tryz.ntmps177
 go_wp2_with (at_builtin;refine wpList_noughts (by rfl) _ _ (by rfl) n n1 n2 (by rfl) (by rfl) ?_;intro c w' hO hb hc)
 refine bodyPost_ret (v:=.slice (some ⟨w.heap.size,0,none⟩) 0 c) (by simp [results,Tryz.results177,go_sem]) rfl ⟨⟨_,rfl,hO⟩,hb⟩
theorem wpList_appI {B:Nat} {w:World} {ops:Array Oper} {rest:List Oper} {o:Oper} {a:Act} {Q:Exit->Act->World->Prop} (hgd:o.guard=none) (s x:Operand)
  (ho:o.op=.call { callee:=.builtin .append,args:=#[s,x],argTypes:=#[46,46] }) (v:Value) (xs:List (Nat×Nat)) (X0:Option Addr) (m D:Nat) (Y:Nat->Nat×Nat) (hs:a.eval s=v) (hx:a.eval x=.slice X0 m D)
  (hown:OwnI B w v xs) (VY:Ivs w X0 m Y) (hl:xs.length+m<=1000) (hB:B<=w.heap.size)
  (h:∀v' w',OwnI B w' v' (xs++(List.range m).map Y)->Below B w w'->w.heap.size<=w'.heap.size->wpList Tryz.prog ops Q rest (a.put o.dst v') w'):wpList Tryz.prog ops Q (o :: rest) a w:=by
 obtain⟨i0,hi,hz0,hz1,hz2⟩:=info_parts Tryz.infoIval
 by_cases m0:m=0
 ·subst m0
  have hf:∃b l c,v=.slice b l c/\l<=c:=by
   rcases hown.2 with ⟨rfl, -⟩ | ⟨g,cap,cur,rfl, -, -,hc, -⟩
   ·exact⟨none,0,0,rfl,Nat.le_refl _⟩
   ·exact⟨_,_,_,rfl,hc⟩
  obtain⟨b,l,c,rfl,hc⟩:=hf
  have hr:=fun ty=>run_append_none (P:=Tryz.prog) 46 ty 24 i0 Tryz.underlying46 hi b l c hc X0 D w
  refine wpList_plain hgd fun K hK=>?_
  unfold Oper.wp
  simp [execOp,ho,resolve,invoke,builtin,hs,hx,hr,Result.andThen]
  exact hK _ _ (h _ _ (by simpa using hown) (Below.refl _ _) (Nat.le_refl _))
 ·obtain⟨b,o',rfl, -⟩:=VY 0 (by omega)
  have hlen:(ivCells ((List.range m).map Y)).length=m*2:=by rw [ivCells_len,List.length_map,List.length_range]
  refine wpList_append_own _ hgd s x 46 ho B 24 i0 (.agg #[.float .f64 0,.float .f64 0]) 2 16 Tryz.underlying46 hi hz0 hz1 hz2 rfl (by decide) v xs.length (ivCells xs) hs hown ⟨b,o',none⟩ m D (ivCells ((List.range m).map Y)) hx hlen (ivCells_cells VY) (ivCells_one _) (by unfold maxLen;omega) (by omega) hB ?_
  intro v' w' h1 h2 _
  refine h v' w' ?_ ((Below.refl B w).grown h2 hB (fun k hk=>(World.ownsRow.lt hown k hk).1)) h2.size
  unfold OwnI
  have e:ivCells (xs++(List.range m).map Y)=ivCells xs++ivCells ((List.range m).map Y):=by simp [ivCells]
  rw [e,List.length_append,List.length_map,List.length_range]
  exact h1
def catI (n:Nat) (X Y:Nat->Nat×Nat) (i:Nat):Nat×Nat:=if i<n then X i else Y (i-n)
def catL (n m:Nat) (X Y:Nat->Nat×Nat):Nat->List (Nat×Nat)
 | 0=>[]
 | 1=>(List.range n).map X
 | _=>(List.range n).map X++(List.range m).map Y
set_option maxHeartbeats 4000000 in
theorem concat_w (g0:Nat) (A B:Option Addr) (n m C D:Nat) (X Y:Nat->Nat×Nat) (n1:1<=n) (hnm:n+m<=100) (w:World) (S:Has2 w g0 (.slice A n C) (.slice B m D)) (VX:Ivs w A n X) (VY:Ivs w B m Y) :
  Calls Tryz.prog 126 #[.slice (some ⟨g0,0,none⟩) 2 2] w fun e w'=>(∃g C',e=.returned (.slice (some ⟨g,0,none⟩) (n+m) C')/\Ivs w' (some ⟨g,0,none⟩) (n+m) (catI n X Y))/\Below w.heap.size w w':=by
 obtain⟨k,hk⟩:∃k,k=n+m:=⟨_,rfl⟩
 have cg:=fun w=>grow_w k (by omega) (by omega) w
 have hkI:(n:Int)+(m:Int)=(k:Int):=by omega
 have k0:¬(k:Int)<0:=by omega
 have n0:¬(n:Int)<0:=by omega
 have sl:=S.2.2.2.2
 have wX:=ivs_words VX
 have wY:=ivs_words VY
 have HK:Hid (k=n+m):=hk
 have HW:Hid (∀i,i<k->(catI n X Y i).1<18446744073709551616/\(catI n X Y i).2<18446744073709551616):=fun i hi=>by
  unfold catI
  split
  ·next h=>exact wX i h
  ·exact wY _ (by omega)
 clear wX wY
 rw [<-hk]
 clear hk
 go_enter Tryz.func126,Tryz.ntmps126
 go_wp2_with fail
 go_loopg [3,11] 2 (fun G s3 s11 wx=>wx=w/\∃(i:Nat) (z:Int),i+G=2/\s11=.int .i64 (i:Int)/\s3=.int .i64 z/\Hid (z=if i=0 then 0 else if i=1 then (n:Int) else (k:Int)))
 case atStart=>exact⟨rfl,0,0,by omega,rfl,rfl,rfl⟩
 case round =>
  obtain⟨rfl,i,z,hi,rfl,rfl,hz⟩:=hrel
  obtain⟨s0,s1, -, -, -⟩:=id S
  by_cases c2:i=2
  ·subst c2
   have ez:z=(k:Int):=hz
   subst ez
   go_wp2_with (go_at_call 177;(with_reducible refine (cg _).mono ?_);rintro _ W1 ⟨⟨v,rfl,hO⟩,HB⟩)
   obtain⟨w1,rfl⟩:∃w1,w1=wr:=⟨_,rfl⟩
   go_loopg [6,27] 2 (fun G s6 s27 wx=>Below w1.heap.size w1 wx/\∃i:Nat,i+G=2/\s27=.int .i64 (i:Int)/\OwnI w1.heap.size wx s6 (catL n m X Y i))
   case atStart=>exact⟨HB,0,by omega,rfl,hO⟩
   case round =>
    clear HB hO s0 s1
    obtain⟨HB,i,hi,rfl,hO⟩:=hrel
    have S2:=S.keep HB
    obtain⟨s0,s1, -, -, -⟩:=id S2
    have hS:=HB.size
    by_cases c2:i=2
    ·subst c2
     have hO2:OwnI w1.heap.size wr _ ((List.range n).map X++(List.range m).map Y):=hO
     have hlen:((List.range n).map X++(List.range m).map Y).length=k:=by rw [List.length_append,List.length_map,List.length_map,List.length_range,List.length_range];exact HK.symm
     obtain⟨g,C',ev,hI, -⟩:=ownI_img hO2 (by rw [hlen];have:k=n+m:=HK;omega)
     rw [hlen] at ev hI
     subst ev
     go_wp2_with fail
     refine bodyPost_ret (v:=.slice (some ⟨g,0,none⟩) k C') (by simp [results,Tryz.results126,go_sem]) rfl ⟨⟨g,C',rfl, ?_⟩,HB⟩
     refine (hI.congr fun i hi=>?_).ivs HW
     unfold catI
     by_cases c:i<n
     ·rw [if_pos c];simp [List.getD,List.getElem?_append,c]
     ·have hm:i-n<m:=by have:k=n+m:=HK;omega
      rw [if_neg c];simp [List.getD,List.getElem?_append,c,hm]
    ·have hlt:(i:Int)<2:=by omega
     by_cases c0:i=0
     ·subst c0
      have hO2:OwnI w1.heap.size wr _ []:=hO
      go_wp2_with (at_builtin;refine wpList_appI (by rfl) _ _ (by rfl) _ [] A n C X (by rfl) (by rfl) hO2 (VX.keep HB) (by simp;omega) hS ?_;intro v' w' o1 o2 o3)
      go_roundg 1
      case measure=>omega
      case rel=>exact⟨HB.trans o2,1,by omega,by go_num,by simpa [catL] using o1⟩
     ·have c1:i=1:=by omega
      subst c1
      have hO2:OwnI w1.heap.size wr _ ((List.range n).map X):=hO
      go_wp2_with (at_builtin;refine wpList_appI (by rfl) _ _ (by rfl) _ ((List.range n).map X) B m D Y (by rfl) (by rfl) hO2 (VY.keep HB) (by simp;omega) hS ?_;intro v' w' o1 o2 o3)
      go_roundg 0
      case measure=>omega
      case rel=>exact⟨HB.trans o2,2,by omega,by go_num,by simpa [catL] using o1⟩
  ·have hlt:(i:Int)<2:=by omega
   by_cases c0:i=0
   ·subst c0
    have ez:z=0:=hz
    subst ez
    go_wp2_with fail
    go_roundg 1
    case measure=>omega
    case rel=>exact⟨rfl,1,(n:Int),by omega,by go_num,by go_num,rfl⟩
   ·have c1:i=1:=by omega
    subst c1
    have ez:z=(n:Int):=hz
    subst ez
    go_wp2_with fail
    go_roundg 0
    case measure=>omega
    case rel=>exact⟨rfl,2,(k:Int),by omega,by go_num,by go_num,rfl⟩
def vsL (O:Nat->Opw) (X:Nat->Nat×Nat):Nat->List (Nat×Nat)
 | 0=>[]
 | i+1=>vsL O X i++[evalQ (O i) (argA (O i) (fun j=>(vsL O X i).getD j (0,0))) (argB (O i) (fun j=>(vsL O X i).getD j (0,0))) X]
def vAt (O:Nat->Opw) (X:Nat->Nat×Nat) (i:Nat):Nat->Nat×Nat:=fun j=>(vsL O X i).getD j (0,0)
def valI (O:Nat->Opw) (X:Nat->Nat×Nat) (i:Nat):Nat×Nat:=evalQ (O i) (argA (O i) (vAt O X i)) (argB (O i) (vAt O X i)) X
def errI (O:Nat->Opw) (X:Nat->Nat×Nat) (i:Nat):Int:=errQ (O i) (argA (O i) (vAt O X i)) (argB (O i) (vAt O X i)) X
theorem vsL_step (O:Nat->Opw) (X:Nat->Nat×Nat) (i:Nat):vsL O X (i+1)=vsL O X i++[((valI O X i).1,(valI O X i).2)]:=rfl
theorem vsL_len (O:Nat->Opw) (X:Nat->Nat×Nat) (i:Nat):(vsL O X i).length=i:=by
 induction i with
 | zero=>rfl
 | succ i ih=>rw [vsL_step,List.length_append,ih];rfl
theorem vsL_W2 {O:Nat->Opw} {X:Nat->Nat×Nat} {n:Nat} {vars:Int} (hr:∀i,i<n->opB (O i) (i:Int) vars=true) (hl:∀i,i<n->W2 ((O i).lo,(O i).hi)) (hX:∀i:Nat,(i:Int)<vars->W2 (X i)):∀i,i<=n->∀p∈vsL O X i,W2 p:=by
 intro i
 induction i with
 | zero=>intro _ p hp;cases hp
 | succ i ih =>
  intro hi p hp
  have ih':=ih (by omega)
  rw [vsL_step] at hp
  rcases List.mem_append.1 hp with h | h
  ·exact ih' p h
  ·have e:p=valI O X i:=by simpa using h
   rw [e]
   obtain⟨-,g1,g2,g3, -⟩:=opB_says (hr i (by omega))
   have at_:∀j:Nat,j<i->W2 (vAt O X i j):=fun j hj=>by
    have lj:j<(vsL O X i).length:=by rw [vsL_len];exact hj
    have:vAt O X i j=(vsL O X i)[j]:=by unfold vAt;simp [lj]
    rw [this]
    exact ih' _ (List.getElem_mem lj)
   refine evalQ_W2 (fun _=>hl i (by omega)) (fun e=>hX _ (by have:=g3 e;omega)) ?_ ?_
   ·unfold argA
    split
    ·rename_i c
     exact at_ _ (by have:=g1 c;omega)
    ·exact zz_W2
   ·unfold argB
    split
    ·rename_i c
     exact at_ _ (by have:=g2 c;omega)
    ·exact zz_W2
theorem wpList_makeI0 {w:World} {ops:Array Oper} {rest:List Oper} {o:Oper} {a:Act} {Q:Exit->Act->World->Prop} (hgd:o.guard=none) (l c:Operand)
  (ho:o.op=.makeSlice 46 l c) (n:Nat) (hl:a.eval l=.int .i64 0) (hc:a.eval c=.int .i64 (n:Int)) (hn:n<=3000000)
  (h:∀w',OwnI w.heap.size w' (.slice (some ⟨w.heap.size,0,none⟩) 0 n) []->Below w.heap.size w w'->wpList Tryz.prog ops Q rest (a.put o.dst (.slice (some ⟨w.heap.size,0,none⟩) 0 n)) w'):wpList Tryz.prog ops Q (o :: rest) a w:=by
 obtain⟨i0,hi,hz0,hz1,hz2⟩:=info_parts Tryz.infoIval
 refine wpList_make_own w hgd l c 46 ho w.heap.size 24 i0 (.agg #[.float .f64 0,.float .f64 0]) 2 Tryz.underlying46 hi hz0 hz1 .i64 .i64 _ n hl hc rfl (by rw [hz2];omega) (by unfold maxLen;omega) (Nat.le_refl _) ?_
 intro w' h1 h2
 exact h w' h1 ⟨h2.os,h2.tape,h2.output,h2.size,fun k hk=>h2.block k hk (by simp)⟩
set_option maxHeartbeats 4000000 in
theorem eval_t (v:Int) (A:Option Addr) (n C:Nat) (D:Option Addr) (m E:Nat) (O:Nat->Opw) (Y:Nat->Int) (AX:Option Addr) (mx CX:Nat) (X:Nat->Nat×Nat) (hn:n<=4000) (hm:m<=400) (hv:v=(mx:Int)) (hr:∀i,i<n->opB (O i) (i:Int) (mx:Int)=true) (hY:∀i,i<m->0<=Y i/\Y i<(n:Int)) (w:World) (VO:Ops w A n O) (VY:Ins w D m Y) (VX:Ivs w AX mx X)
   (c1:∀W,Below w.heap.size w W->Calls Tryz.prog 69 #[tapeV v A n C D m E,.slice AX mx CX] W fun e w'=>e=.returned (.int .i64 0)/\Below W.heap.size W w') :
   Calls Tryz.prog 226 #[tapeV v A n C D m E,.slice AX mx CX] w fun e w' =>
     ((∃g,e=.returned (.tuple #[.slice (some ⟨g,0,none⟩) m m,.int .i64 0])/\Img w' g m (fun i=>vAt O X n (Y i).toNat)/\∀j,j<n->errI O X j=0) \/
      (∃k,k<n/\(∀j,j<k->errI O X j=0)/\errI O X k≠0/\e=.returned (.tuple #[.slice none 0 0,.int .i64 (errI O X k)])))/\Below w.heap.size w w':=by
 subst hv
 have HR:Hid (∀i,i<n->opB (O i) (i:Int) (mx:Int)=true):=hr
 have HY:Hid (∀i,i<m->0<=Y i/\Y i<(n:Int)):=hY
 have HW:Hid (∀i,i<=n->∀p∈vsL O X i,W2 p):=vsL_W2 hr (fun i hi=>by obtain⟨b,o,e,l,c0,c1,c2,c3,c4,c5,r⟩:=VO i hi;exact r) (fun i hi=>ivs_words VX i (by omega))
 have HL:Hid (∀i,(vsL O X i).length=i):=vsL_len O X
 clear hr hY
 unfold tapeV at c1 ⊢
 have T:=hasT_new w (mx:Int) A n C D m E
 have HB:Below w.heap.size w (w.alloc (.cells #[.int .i64 (mx:Int),.slice A n C,.slice D m E] 45)):=by go_grown
 go_enter Tryz.func226,Tryz.ntmps226
 go_upto_region 1 with fail
 generalize (w.alloc (.cells #[.int .i64 (mx:Int),.slice A n C,.slice D m E] 45))=V1 at *
 obtain⟨t0,t1,t2,tl⟩:=id T
 go_wp2_with (first
   | (go_at_call 69;refine (c1 _ HB).mono ?_;rintro _ V2 ⟨rfl,hb1⟩;replace HB:=later HB hb1;replace T:=T.keep hb1;clear t0 t1 t2 tl hb1;obtain⟨t0,t1,t2,tl⟩:=id T)
   | (at_make;refine wpList_makeI0 (by rfl) _ _ (by rfl) n (by rfl) (by rfl) (by omega) ?_;intro w3 hown hb3;have T3:=T.keep hb3;clear t0 t1 t2 tl;obtain⟨t0,t1,t2,tl⟩:=id T3))
 clear t0 t1 t2 tl T3 c1
 have TB:=T
 have HB2:=HB
 go_loopg [7,25] n (fun G s7 s25 wx=>Below V2.heap.size V2 wx/\∃k:Nat,k+G=n/\s25=.int .i64 (k:Int)/\OwnI V2.heap.size wx s7 (vsL O X k)/\Hid (∀j,j<k->errI O X j=0))
 case atStart=>exact⟨hb3,0,by omega,rfl,hown,fun j hj=>absurd hj (by omega)⟩
 case round =>
   clear hown hb3
   obtain⟨HV,k,hk,rfl,hown,hall⟩:=hrel
   have T:=TB.keep HV
   have HB:=later HB2 HV
   obtain⟨A7,C7,rfl,U⟩:=ownI_ivs hown (fun p hp=>HW k (by omega) p hp)
   rw [HL k] at U hown ⊢
   by_cases ck:k=n
   · subst ck
     obtain⟨t0,t1,t2,tl⟩:=id T
     have co:=outs_i (mx:Int) A k C D m E Y A7 k C7 (fun i=>(vsL O X k).getD i (0,0)) hm HY wr U (VY.keep HB)
     unfold tapeV at co
     go_wp2_with (go_at_call 72;refine co.mono ?_;rintro _ w4 ⟨g,rfl,hI,hb4⟩)
     refine bodyPost_ret (v:=.tuple #[.slice (some ⟨g,0,none⟩) m m,.int .i64 0]) (by simp [results,Tryz.results226,go_sem]) rfl ⟨Or.inl ⟨g,rfl,hI,hall⟩,later HB hb4⟩
   · have hlt:(k:Int)<(n:Int):=by omega
     obtain⟨b,o,hA,hb,x0,x1,x2,x3,x4,x5,l0,l1⟩:=(VO.keep HB) k (by omega)
     have cn:∀W,Below wr.heap.size wr W->Calls Tryz.prog 70 #[(O k).val,.slice A7 k C7,.slice AX mx CX] W fun e w'=>e=.returned (.tuple #[.agg #[.float .f64 (if errI O X k=0 then valI O X k else zz).1,.float .f64 (if errI O X k=0 then valI O X k else zz).2],.int .i64 (errI O X k)])/\Below W.heap.size W w' :=
       fun W hW=>nextv_w A7 C7 (fun j=>(vsL O X k).getD j (0,0)) AX mx CX X (HR k (by omega)) ⟨l0,l1⟩ W (U.keep hW) ((VX.keep HB).keep hW)
     unfold Opw.val at cn
     have hst:Hid (vsL O X (k+1)=vsL O X k++[((valI O X k).1,(valI O X k).2)]):=vsL_step O X k
     have hlen:(vsL O X k).length<=2000000:=by rw [HL k];omega
     replace hlen:Hid ((vsL O X k).length<=2000000):=hlen
     have hS:=HV.size
     by_cases he:errI O X k=0
     · rw [he,if_pos rfl] at cn
       replace he:Hid (errI O X k=0):=he
       generalize valI O X k=p at *
       subst hA
       go_upto_region 11 with (go_at_call 70;refine (cn _ (by go_grown)).mono ?_;rintro _ w5 ⟨rfl,hb5⟩;replace hown:=OwnI.keep (OwnI.keep hown (by go_grown)) hb5;replace HV:=later (below_alloc HV _) hb5)
       have Z:Has2 (w5.alloc (.cells #[.float .f64 p.1,.float .f64 p.2] 24)) w5.heap.size (.float .f64 p.1) (.float .f64 p.2):=has2_new _ _ _ _
       have hb6:Below w5.heap.size w5 (w5.alloc (.cells #[.float .f64 p.1,.float .f64 p.2] 24)):=by go_grown
       replace hown:=OwnI.keep hown hb6
       replace HV:=later HV hb6
       clear hb6 hb5 cn
       have hS6:=HV.size
       generalize w5.alloc (.cells #[.float .f64 p.1,.float .f64 p.2] 24)=w6 at *
       generalize w5.heap.size=z at *
       obtain⟨y0,y1,y2,y3,y4⟩:=id Z
       go_wp2_with (at_builtin;refine wpList_pushI (by rfl) _ _ (by rfl) _ (vsL O X k) p.1 p.2 (by rfl) (by rfl) hown hlen hS6 HV ?_;intro v' w' hown' hB' hS')
       go_roundg (n-k-1)
       case measure=>omega
       case rel=>exact⟨hB',k+1,by omega,by go_num,by rw [hst];exact hown',fun j hj=>by rcases Nat.lt_or_ge j k with h | h;exact hall j h;rw [show j=k by omega];exact he⟩
     · rw [if_neg he] at cn
       have hne:(errI O X k != 0)=true:=by simpa using he
       replace he:Hid (errI O X k≠0):=he
       subst hA
       go_wp2_with (go_at_call 70;refine (cn _ (by go_grown)).mono ?_;rintro _ w5 ⟨rfl,hb5⟩;replace HB:=later (below_alloc HB _) hb5)
       refine bodyPost_ret (v:=.tuple #[.slice none 0 0,.int .i64 (errI O X k)]) (by simp [results,Tryz.results226,go_sem]) rfl ⟨Or.inr ⟨k,by omega,hall,he,rfl⟩,below_alloc HB _⟩
end Go.Proofs.YtopfabemfbdccaaGreat
