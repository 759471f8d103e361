/- picard: what is refused; Bound. -/
import Derived.Test.YtnnfafilgiajoaaGreatZ47
namespace Go.Proofs.YtnnfafilgiajoaaGreat
open Go.ChangeShapes Go.WideShapes Go.ChangeAt Go.RowKit
def fldB (v:Int) (m:Nat):Bool:=decide (1≤v)&&(decide (v≤24)&&((m:Int)==v))
theorem fld_w (v:Int) (A:Option Addr) (n C:Nat) (D:Option Addr) (m E:Nat) (w:World):Calls Tryz.prog 41 #[tapeV v A n C D m E] w fun e w'=>e=.returned (.bool (fldB v m))∧Below w.heap.size w w':=by
 unfold tapeV
 by_cases h1:1≤v
 · by_cases h2:v≤24
   · have e:Hid (fldB v m=((m:Int)==v)):=by show _=_;unfold fldB;rw [decide_eq_true h1,decide_eq_true h2];rfl
     go_enter Tryz.func41,Tryz.ntmps41
     go_wp2_with fail
     go_ret
     exact⟨(congrArg (fun q=>Ending.returned (Value.bool q)) e.out).symm,by go_grown⟩
   · have e:Hid (fldB v m=false):=by show _=_;unfold fldB;rw [decide_eq_true h1,decide_eq_false h2];rfl
     go_enter Tryz.func41,Tryz.ntmps41
     go_wp2_with fail
     go_ret
     exact⟨(congrArg (fun q=>Ending.returned (Value.bool q)) e.out).symm,by go_grown⟩
 · have e:Hid (fldB v m=false):=by show _=_;unfold fldB;rw [decide_eq_false h1];rfl
   go_enter Tryz.func41,Tryz.ntmps41
   go_wp2_with fail
   go_ret
   exact⟨(congrArg (fun q=>Ending.returned (Value.bool q)) e.out).symm,by go_grown⟩
theorem pref_tape (v:Int) (A:Option Addr) (n C:Nat) (D:Option Addr) (m E:Nat) (xs:Value) (t:Nat) (w:World) (c1:∀W,Below w.heap.size w W→Calls Tryz.prog 40 #[tapeV v A n C D m E] W fun e' w'=>e'=.returned (.int .i64 50)∧Below W.heap.size W w') :
   Calls Tryz.prog 20 #[tapeV v A n C D m E,xs,.float .f64 t] w fun e w'=>e=.returned (.int .i64 50)∧Below w.heap.size w w':=by
 unfold tapeV at *
 have T:=hasT_new w v A n C D m E
 have HB:Below w.heap.size w (w.alloc (.cells #[.int .i64 v,.slice A n C,.slice D m E] 25)):=by go_grown
 go_enter Tryz.func20,Tryz.ntmps20
 go_upto_region 1 with fail
 generalize (w.alloc (.cells #[.int .i64 v,.slice A n C,.slice D m E] 25))=V1 at *
 obtain⟨t0,t1,t2,tl⟩:=id T
 go_wp2_with (go_at_call 40;refine (c1 _ HB).mono ?_;rintro _ VV ⟨rfl,hb1⟩;replace HB:=later HB hb1)
 go_ret
 exact⟨rfl,HB⟩
set_option maxHeartbeats 4000000 in
theorem pref_core (v:Int) (A:Option Addr) (n C:Nat) (D:Option Addr) (m E:Nat) (AX:Option Addr) (mx CX t:Nat) (b1 b2 bF bL bN bE:Bool) (w:World) (c1:∀W,Below w.heap.size w W→Calls Tryz.prog 40 #[tapeV v A n C D m E] W fun e' w'=>e'=.returned (.int .i64 0)∧Below W.heap.size W w')
   (o1:(FloatKind.f64.format.order 0 t==some .lt || FloatKind.f64.format.order 0 t==some .eq)=b1) (o2:(FloatKind.f64.format.order t 4697254411347427328==some .lt || FloatKind.f64.format.order t 4697254411347427328==some .eq)=b2)
   (cF:∀W,Calls Tryz.prog 41 #[tapeV v A n C D m E] W fun e' w'=>e'=.returned (.bool bF)∧Below W.heap.size W w') (hL:((mx:Int) != v)=bL)
   (cN:∀W,Below w.heap.size w W→Calls Tryz.prog 42 #[.slice AX mx CX,.func (.func 43) #[] #[]] W fun e w'=>e=.returned (.bool bN)∧Below W.heap.size W w')
   (cE:∀W,Below w.heap.size w W→Calls Tryz.prog 42 #[.slice AX mx CX,.func (.func 44) #[] #[]] W fun e w'=>e=.returned (.bool bE)∧Below W.heap.size W w') :
   Calls Tryz.prog 20 #[tapeV v A n C D m E,.slice AX mx CX,.float .f64 t] w fun e w'=>e=.returned (.int .i64 (if bF&&!bL&&!bN&&(b1&&b2) then (if bE then 5 else 0) else 1))∧Below w.heap.size w w':=by
 unfold tapeV at *
 have T:=hasT_new w v A n C D m E
 have HB:Below w.heap.size w (w.alloc (.cells #[.int .i64 v,.slice A n C,.slice D m E] 25)):=by go_grown
 cases bF
 case' true=>cases bL
 case' true.false=>cases bN
 case' true.false.false=>cases b1
 case' true.false.false.true=>cases b2
 case' true.false.false.true.true=>cases bE
 case' false=>cases b1
 case' true.true=>cases b1
 case' true.false.true=>cases b1
 case' false.true=>cases b2
 case' true.true.true=>cases b2
 case' true.false.true.true=>cases b2
 all_goals
   go_enter Tryz.func20,Tryz.ntmps20
   go_upto_region 1 with fail
   generalize (w.alloc (.cells #[.int .i64 v,.slice A n C,.slice D m E] 25))=V1 at *
   obtain⟨t0,t1,t2,tl⟩:=id T
   go_wp2_with (first
     | (go_at_call 40;refine (c1 _ HB).mono ?_;rintro _ V2 ⟨rfl,hb1⟩;replace T:=T.keep hb1;replace HB:=later HB hb1;clear hb1;clear t0 t1 t2 tl;obtain⟨t0,t1,t2,tl⟩:=id T)
     | (go_at_call 41;refine (cF _).mono ?_;rintro _ V3 ⟨rfl,hb1⟩;replace T:=T.keep hb1;replace HB:=later HB hb1;clear hb1;clear t0 t1 t2 tl;obtain⟨t0,t1,t2,tl⟩:=id T)
     | (go_at_call 42;with_reducible refine (cN _ HB).mono ?_;rintro _ V4 ⟨rfl,hb1⟩;replace T:=T.keep hb1;replace HB:=later HB hb1;clear hb1;clear t0 t1 t2 tl;obtain⟨t0,t1,t2,tl⟩:=id T)
     | (go_at_call 42;with_reducible refine (cE _ HB).mono ?_;rintro _ V5 ⟨rfl,hb1⟩;replace T:=T.keep hb1;replace HB:=later HB hb1;clear hb1;clear t0 t1 t2 tl;obtain⟨t0,t1,t2,tl⟩:=id T))
   go_ret
   exact⟨rfl,HB⟩
def tmB (t:Nat):Bool:=leB 0 t&&leB t 4697254411347427328
theorem tm_of {t:Nat} (ht:t<18446744073709551616) (h:tmB t=true):Tm t:=by
 unfold tmB at h
 simp only [Bool.and_eq_true] at h
 obtain⟨n0,n1,k1⟩:=le_iff.1 h.1
 obtain⟨-, -,k2⟩:=le_iff.1 h.2
 rw [show key 0=0 by decide] at k1
 rw [show key 4697254411347427328=4697254411347427328 by decide] at k2
 exact⟨ht,n1,k1,by omega⟩
theorem pref_w (v:Int) (A:Option Addr) (n C:Nat) (D:Option Addr) (m E:Nat) (O:Nat→Opw) (Y:Nat→Int) (AX:Option Addr) (mx CX t:Nat) (X:Nat→Nat×Nat) (hn:n≤9223372036854775807) (hm:m≤9223372036854775807) (hmx:mx≤9223372036854775807) (ht:t<18446744073709551616) (w:World) (VO:Ops w A n O) (VY:Ins w D m Y) (VX:Ivs w AX mx X) :
   Calls Tryz.prog 20 #[tapeV v A n C D m E,.slice AX mx CX,.float .f64 t] w fun e w'=>e=.returned (.int .i64 (if rightT v n O m Y then (if fldB v m&&!((mx:Int) != v)&&!(anyU mx fun i=>!hsB (X i).1 (X i).2)&&tmB t then (if anyU mx fun i=>!bndB (X i) then 5 else 0) else 1) else 50))∧Below w.heap.size w w':=by
 have cr:=fun (W:World) (hW:Below w.heap.size w W)=>right_t v A n C D m E O Y hn hm W (VO.keep hW) (VY.keep hW)
 cases hr:rightT v n O m Y
 · rw [hr] at cr
   exact pref_tape v A n C D m E _ t w cr
 · rw [hr] at cr
   exact pref_core v A n C D m E AX mx CX t _ _ _ _ _ _ w cr (o_le (by omega) ht) (o_le ht (by omega)) (fun W=>fld_w v A n C D m E W) rfl (fun W hW=>someNone_w AX mx CX X hmx W (VX.keep hW)) (fun W hW=>someEnd_w AX mx CX X hmx W (VX.keep hW))
set_option maxHeartbeats 2000000 in
theorem once_bad {q:Qst} {ok:OkF} {rt:RtF} {X:Nat→Nat×Nat} {w:World} (K:Ask q ok rt X w) (ho:ok X=false) :
   Calls Tryz.prog 21 #[q.val] w fun e w'=>e=.returned (.tuple #[.slice none 0 0,.int .i64 80])∧Below w.heap.size w w':=by
 have T:=hasQ_new w q
 have cE:=fun (W:World) (hW:Below w.heap.size w W)=>(K.ev W hW q.AX q.CX X (K.begin.keep hW)).mono fun e w' h=>(show (∃er:Int,(er != 0)=true∧e=.returned (.tuple #[.slice none 0 0,.int .i64 er]))∧Below W.heap.size W w' from ⟨(by
   rcases h.1 with ⟨h, -⟩ | ⟨-,h⟩
   · rw [ho] at h
     cases h
   · exact h),h.2⟩)
 clear K
 unfold Qst.val
 unfold tapeV at cE
 have HB:Below w.heap.size w (w.alloc (.cells #[.int .i64 q.v,.slice q.A q.n q.C,.slice q.D q.m q.E,.slice q.AX q.k q.CX,.float .f64 q.t] 50)):=by go_grown
 go_enter Tryz.func21,Tryz.ntmps21
 go_upto_region 1 with fail
 generalize w.alloc (.cells #[.int .i64 q.v,.slice q.A q.n q.C,.slice q.D q.m q.E,.slice q.AX q.k q.CX,.float .f64 q.t] 50)=V1 at *
 obtain⟨q0,q1,q2,q3,q4,ql⟩:=id T
 go_wp2_with (go_at_call 12;refine (cE _ HB).mono ?_;rintro _ V2 ⟨⟨er,her,rfl⟩,hb1⟩;replace HB:=later HB hb1)
 refine bodyPost_ret (v:=.tuple #[.slice none 0 0,.int .i64 80]) (by simp [results,Tryz.results21,go_sem]) rfl ⟨rfl,HB⟩
set_option maxHeartbeats 2000000 in
theorem once_good {q:Qst} {ok:OkF} {rt:RtF} {X:Nat→Nat×Nat} {w:World} (K:Ask q ok rt X w) (ho:ok X=true) :
   Calls Tryz.prog 21 #[q.val] w fun e w'=>(∃b C,e=.returned (.tuple #[.slice (some ⟨b,0,none⟩) q.k C,.int .i64 0])∧Img w' b q.k X)∧Below w.heap.size w w':=by
 have T:=hasQ_new w q
 have cE:=fun (W:World) (hW:Below w.heap.size w W)=>(K.ev W hW q.AX q.CX X (K.begin.keep hW)).mono fun e w' h=>(show (∃g,e=.returned (.tuple #[.slice (some ⟨g,0,none⟩) q.k q.k,.int .i64 0])∧Img w' g q.k (rt X))∧Below W.heap.size W w' from ⟨(by
   rcases h.1 with ⟨-,h⟩ | ⟨h, -⟩
   · exact h
   · rw [ho] at h
     cases h),h.2⟩)
 have cC:∀W,Below w.heap.size w W→Calls Tryz.prog 45 #[.slice q.AX q.k q.CX] W fun e w'=>(∃g C',e=.returned (.slice (some ⟨g,0,none⟩) q.k C')∧Img w' g q.k X)∧Below W.heap.size W w':=fun W hW=>by
   obtain⟨xb,xo,hAX, -⟩:=K.begin 0 K.k0
   have V:=K.begin.keep hW
   rw [hAX] at V ⊢
   exact clone0_w xb xo q.k q.CX X (by have:=K.k24;omega) K.k0 W V
 clear K
 unfold Qst.val
 unfold tapeV at cE
 have HB:Below w.heap.size w (w.alloc (.cells #[.int .i64 q.v,.slice q.A q.n q.C,.slice q.D q.m q.E,.slice q.AX q.k q.CX,.float .f64 q.t] 50)):=by go_grown
 go_enter Tryz.func21,Tryz.ntmps21
 go_upto_region 1 with fail
 generalize w.alloc (.cells #[.int .i64 q.v,.slice q.A q.n q.C,.slice q.D q.m q.E,.slice q.AX q.k q.CX,.float .f64 q.t] 50)=V1 at *
 obtain⟨q0,q1,q2,q3,q4,ql⟩:=id T
 go_wp2_with (first
   | (go_at_call 12;refine (cE _ HB).mono ?_;rintro _ V2 ⟨⟨g,rfl, -⟩,hb1⟩;replace T:=T.keep hb1;replace HB:=later HB hb1;clear hb1;clear q0 q1 q2 q3 q4 ql;obtain⟨q0,q1,q2,q3,q4,ql⟩:=id T)
   | (go_at_call 45;refine (cC _ HB).mono ?_;rintro _ V3 ⟨⟨b,C,rfl,I⟩,hb1⟩;replace HB:=later HB hb1))
 refine bodyPost_ret (v:=.tuple #[.slice (some ⟨b,0,none⟩) q.k C,.int .i64 0]) (by simp [results,Tryz.results21,go_sem]) rfl ⟨⟨b,C,rfl,I⟩,HB⟩
set_option maxHeartbeats 2000000 in
theorem bd_bad (v:Int) (A:Option Addr) (n C:Nat) (D:Option Addr) (m E:Nat) (xs:Value) (t:Nat) (e:Int) (he:(e != 0)=true) (w:World) (c1:∀W,Below w.heap.size w W→Calls Tryz.prog 20 #[tapeV v A n C D m E,xs,.float .f64 t] W fun e' w'=>e'=.returned (.int .i64 e)∧Below W.heap.size W w') :
   Calls Tryz.prog 7 #[tapeV v A n C D m E,xs,.float .f64 t] w fun e' w'=>e'=.returned (.tuple #[.slice none 0 0,.int .i64 e])∧Below w.heap.size w w':=by
 unfold tapeV at *
 have T:=hasT_new w v A n C D m E
 have HB:Below w.heap.size w (w.alloc (.cells #[.int .i64 v,.slice A n C,.slice D m E] 25)):=by go_grown
 go_enter Tryz.func7,Tryz.ntmps7
 go_upto_region 1 with fail
 generalize (w.alloc (.cells #[.int .i64 v,.slice A n C,.slice D m E] 25))=V1 at *
 obtain⟨t0,t1,t2,tl⟩:=id T
 go_wp2_with (go_at_call 20;refine (c1 _ HB).mono ?_;rintro _ VV ⟨rfl,hb1⟩;replace HB:=later HB hb1)
 refine bodyPost_ret (v:=.tuple #[.slice none 0 0,.int .i64 e]) (by simp [results,Tryz.results7,go_sem]) rfl ⟨rfl,HB⟩
set_option maxHeartbeats 2000000 in
theorem bd_good (v:Int) (A:Option Addr) (n C:Nat) (D:Option Addr) (m E:Nat) (AX:Option Addr) (k CX t:Nat) (z:Bool) (o1:(FloatKind.f64.format.order t 0==some .eq)=z) (R:World→Value→Prop) (w:World) (c1:∀W,Below w.heap.size w W→Calls Tryz.prog 20 #[tapeV v A n C D m E,.slice AX k CX,.float .f64 t] W fun e' w'=>e'=.returned (.int .i64 0)∧Below W.heap.size W w')
   (hR:∀W r,R W r→∃a b,r=.tuple #[a,b])
   (c2:z=true→∀W,Below w.heap.size w W→Calls Tryz.prog 21 #[.agg #[.int .i64 v,.slice A n C,.slice D m E,.slice AX k CX,.float .f64 t]] W fun e w'=>(∃r,e=.returned r∧R w' r)∧Below W.heap.size W w')
   (c3:z=false→∀W,Below w.heap.size w W→Calls Tryz.prog 22 #[.agg #[.int .i64 v,.slice A n C,.slice D m E,.slice AX k CX,.float .f64 t]] W fun e w'=>(∃r,e=.returned r∧R w' r)∧Below W.heap.size W w') :
   Calls Tryz.prog 7 #[tapeV v A n C D m E,.slice AX k CX,.float .f64 t] w fun e' w'=>(∃r,e'=.returned r∧R w' r)∧Below w.heap.size w w':=by
 unfold tapeV at *
 have T:=hasT_new w v A n C D m E
 have HB:Below w.heap.size w (w.alloc (.cells #[.int .i64 v,.slice A n C,.slice D m E] 25)):=by go_grown
 replace hR:Hid _:=hR
 cases z
 · replace c3:=c3 rfl
   clear c2
   go_enter Tryz.func7,Tryz.ntmps7
   go_upto_region 1 with fail
   generalize (w.alloc (.cells #[.int .i64 v,.slice A n C,.slice D m E] 25))=V1 at *
   obtain⟨t0,t1,t2,tl⟩:=id T
   go_wp2_with (first
     | (go_at_call 20;refine (c1 _ HB).mono ?_;rintro _ VV ⟨rfl,hb1⟩;replace T:=T.keep hb1;replace HB:=later HB hb1;clear hb1;clear t0 t1 t2 tl;obtain⟨t0,t1,t2,tl⟩:=id T)
     | (go_at_call 22;refine (c3 _ (below_alloc HB _)).mono ?_;rintro _ V3 ⟨⟨r,rfl,hr⟩,hb1⟩;obtain⟨ra,rb,rfl⟩:=hR.out _ _ hr;replace HB:=later (below_alloc HB _) hb1))
   refine bodyPost_ret (v:=.tuple #[ra,rb]) (by simp [results,Tryz.results7,go_sem]) rfl ⟨⟨_,rfl,hr⟩,HB⟩
 · replace c2:=c2 rfl
   clear c3
   go_enter Tryz.func7,Tryz.ntmps7
   go_upto_region 1 with fail
   generalize (w.alloc (.cells #[.int .i64 v,.slice A n C,.slice D m E] 25))=V1 at *
   obtain⟨t0,t1,t2,tl⟩:=id T
   go_wp2_with (first
     | (go_at_call 20;refine (c1 _ HB).mono ?_;rintro _ VV ⟨rfl,hb1⟩;replace T:=T.keep hb1;replace HB:=later HB hb1;clear hb1;clear t0 t1 t2 tl;obtain⟨t0,t1,t2,tl⟩:=id T)
     | (go_at_call 21;refine (c2 _ (below_alloc HB _)).mono ?_;rintro _ V3 ⟨⟨r,rfl,hr⟩,hb1⟩;obtain⟨ra,rb,rfl⟩:=hR.out _ _ hr;replace HB:=later (below_alloc HB _) hb1))
   refine bodyPost_ret (v:=.tuple #[ra,rb]) (by simp [results,Tryz.results7,go_sem]) rfl ⟨⟨_,rfl,hr⟩,HB⟩
end Go.Proofs.YtnnfafilgiajoaaGreat
