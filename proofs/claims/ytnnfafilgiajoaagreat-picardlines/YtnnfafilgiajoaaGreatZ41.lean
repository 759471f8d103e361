/- What an operation makes is an interval or none; the laws' value, Bounded and Vars answer the program's functions of words. -/
import Derived.Test.YtnnfafilgiajoaaGreatZ40
namespace Go.Proofs.YtnnfafilgiajoaaGreat
open Go.ChangeShapes Go.WideShapes Go.ChangeAt Go.RowKit
def Shp (p:Nat×Nat):Prop:=p=noneQ∨Some2 p.1 p.2
theorem Gr.shp {p q:Nat×Nat} (h:Gr p q):Shp p:=by
 rcases h with ⟨e, -⟩ | ⟨S, -⟩
 · exact Or.inl e
 · exact Or.inr S
theorem mk_shp (a b:Nat):Shp (mkQ a b):=by
 unfold mkQ makeP
 split
 · rename_i h
   exact Or.inr (hs_iff.1 h)
 · exact Or.inl rfl
theorem ris_shp (f:Nat→Nat×Nat) (x:Nat×Nat):Shp (risQ f x):=by
 unfold risQ
 split
 · exact Or.inl rfl
 · exact mk_shp _ _
theorem log_shp (x:Nat×Nat):Shp (logQ x):=by
 unfold logQ
 split
 · exact Or.inl rfl
 · exact ris_shp _ _
theorem wave_shp (x:Nat×Nat) (a:Int):Shp (waveQ x a):=by
 unfold waveQ
 split
 · exact Or.inl rfl
 · split
   · exact mk_shp _ _
   · exact meet_ways _ _
theorem evalQ_shp {o:Opw} {a b:Nat×Nat} {X:Nat→Nat×Nat} (ho:o.k=1→hsB o.lo o.hi=true) (hX:o.k=2→hsB (X o.n.toNat).1 (X o.n.toNat).2=true) (wa:W2 a) (wb:W2 b) (A:Some2 a.1 a.2) (B:Some2 b.1 b.2):Shp (evalQ o a b X):=by
 have ia:=In.refl wa.1 wa.2 A
 have ib:=In.refl wb.1 wb.2 B
 unfold evalQ
 by_cases h1:o.k=1
 · rw [if_pos h1];exact Or.inr (hs_iff.1 (ho h1))
 rw [if_neg h1]
 by_cases h2:o.k=2
 · rw [if_pos h2];exact Or.inr (hs_iff.1 (hX h2))
 rw [if_neg h2]
 clear h1 h2
 split
 · exact Gr.shp (add_gr ia ib)
 split
 · exact Gr.shp (add_gr ia (neg_in ib))
 split
 · exact Gr.shp (mul_gr ia wb.1 wb.2 B)
 split
 · exact Gr.shp (div_gr ia ib)
 split
 · exact Or.inr (neg_in ia).S
 split
 · exact Gr.shp (pow_gr ia _)
 split
 · exact Gr.shp (sqrt_gr ia)
 split
 · exact ris_shp _ _
 split
 · exact log_shp _
 split
 · exact wave_shp _ 0
 split
 · exact wave_shp _ 1
 · exact ris_shp _ _
set_option maxHeartbeats 1000000 in
theorem rb_none (v:Nat×Nat) (c1:∀w,Calls Tryz.prog 24 #[.agg #[.float .f64 v.1,.float .f64 v.2]] w fun e w'=>e=.returned (.bool true)∧Below w.heap.size w w') (w:World):Calls Tryz.prog 27 #[.agg #[.float .f64 v.1,.float .f64 v.2]] w fun e w'=>e=.returned (.bool false)∧Below w.heap.size w w':=by
 have X:Has2 (w.alloc (.cells #[.float .f64 v.1,.float .f64 v.2] 40)) w.heap.size (.float .f64 v.1) (.float .f64 v.2):=has2_new _ _ _ _
 have HB:Below w.heap.size w (w.alloc (.cells #[.float .f64 v.1,.float .f64 v.2] 40)):=by go_grown
 go_enter Tryz.func27,Tryz.ntmps27
 go_upto_region 1 with fail
 generalize (w.alloc (.cells #[.float .f64 v.1,.float .f64 v.2] 40))=V1 at *
 have kX0:=fun n:Behind V1=>n.cell X.1 X.2.2.2.2;have kX1:=fun n:Behind V1=>n.cell X.2.1 X.2.2.2.2
 refine region_behind (by kernel_rfl) (by kernel_rfl) ?_
 repeat (go_big_quiet_step (first | (go_at_call 24;with_reducible refine Behind.call (c1 _))))
 refine wpQuiet_nil ?_
 rintro _ ⟨m',rfl⟩
 obtain⟨W,hb1⟩:=m'
 dsimp only
 replace HB:=later HB hb1
 go_wp2_with fail
 go_ret
 exact⟨rfl,HB⟩
set_option maxHeartbeats 1000000 in
theorem rb_some (v:Nat×Nat) (b1 b2:Bool) (c1:∀w,Calls Tryz.prog 24 #[.agg #[.float .f64 v.1,.float .f64 v.2]] w fun e w'=>e=.returned (.bool false)∧Below w.heap.size w w') (o1:(FloatKind.f64.format.order v.1 (infI (-1)) != some .eq)=b1) (o2:(FloatKind.f64.format.order v.2 (infI 1) != some .eq)=b2) (w:World):Calls Tryz.prog 27 #[.agg #[.float .f64 v.1,.float .f64 v.2]] w fun e w'=>e=.returned (.bool (b1&&b2))∧Below w.heap.size w w':=by
 have X:Has2 (w.alloc (.cells #[.float .f64 v.1,.float .f64 v.2] 40)) w.heap.size (.float .f64 v.1) (.float .f64 v.2):=has2_new _ _ _ _
 have HB:Below w.heap.size w (w.alloc (.cells #[.float .f64 v.1,.float .f64 v.2] 40)):=by go_grown
 go_enter Tryz.func27,Tryz.ntmps27
 go_upto_region 1 with fail
 generalize (w.alloc (.cells #[.float .f64 v.1,.float .f64 v.2] 40))=V1 at *
 have kX0:=fun n:Behind V1=>n.cell X.1 X.2.2.2.2;have kX1:=fun n:Behind V1=>n.cell X.2.1 X.2.2.2.2
 cases b1 <;> cases b2
 all_goals
   refine region_behind (by kernel_rfl) (by kernel_rfl) ?_
   repeat (go_big_quiet_step (first | (go_at_call 24;with_reducible refine Behind.call (c1 _)) | (go_at_call 49;refine Behind.same (rinf_w _ _))))
   refine wpQuiet_nil ?_
   rintro _ ⟨m',rfl⟩
   obtain⟨W,hb1⟩:=m'
   dsimp only
   replace HB:=later HB hb1
   go_wp2_with fail
   go_ret
   exact⟨rfl,HB⟩
theorem inf_lo {x:Nat} (hx:x<18446744073709551616) (n:nanB x=false) (lt:key x<9218868437227405312):eqB x (infI (-1))=infB x:=by
 unfold eqB infB
 rw [n,nan_inf,key_down]
 simp only [Bool.not_false,Bool.true_and]
 refine decide_eq_decide.2 ?_
 unfold key at lt ⊢
 by_cases c:x<9223372036854775808
 · rw [if_pos c] at lt ⊢;omega
 · rw [if_neg c] at lt ⊢;omega
theorem inf_hi {x:Nat} (hx:x<18446744073709551616) (n:nanB x=false) (gt:-9218868437227405312<key x):eqB x (infI 1)=infB x:=by
 unfold eqB infB
 rw [n,nan_inf,key_up]
 simp only [Bool.not_false,Bool.true_and]
 refine decide_eq_decide.2 ?_
 unfold key at gt ⊢
 by_cases c:x<9223372036854775808
 · rw [if_pos c] at gt ⊢;omega
 · rw [if_neg c] at gt ⊢;omega
theorem cRBnd {v:Nat×Nat} (hv:W2 v) (h:Shp v) (w:World):Calls Tryz.prog 27 #[.agg #[.float .f64 v.1,.float .f64 v.2]] w fun e w'=>e=.returned (.bool (bndB v))∧Below w.heap.size w w':=by
 have c1:=fun w=>none_w v.1 v.2 hv.1 hv.2 w
 rcases h with rfl | S
 · have e:bndB noneQ=false:=by decide
   rw [e]
   rw [show hsB noneQ.1 noneQ.2=false from empty_some] at c1
   exact rb_none noneQ c1 w
 · rw [hs_iff.2 S] at c1
   have o1:=congrArg (fun q=>!q) (o_eq hv.1 (infI_lt (-1)))
   have o2:=congrArg (fun q=>!q) (o_eq hv.2 (infI_lt 1))
   simp only [inf_lo hv.1 S.nl S.lt,inf_hi hv.2 S.nh S.gt] at o1 o2
   exact rb_some v _ _ c1 o1 o2 w
theorem rAddQ {p q:Nat×Nat} (hp:W2 p) (hq:W2 q) (w:World):Calls Tryz.prog 34 #[.agg #[.float .f64 p.1,.float .f64 p.2],.agg #[.float .f64 q.1,.float .f64 q.2]] w fun e w'=>e=.returned (.agg #[.float .f64 (addQ p q).1,.float .f64 (addQ p q).2])∧Below w.heap.size w w':=rAdd_w p.1 p.2 q.1 q.2 hp.1 hp.2 hq.1 hq.2 w
theorem rMulQ {p q:Nat×Nat} (hp:W2 p) (hq:W2 q) (w:World):Calls Tryz.prog 33 #[.agg #[.float .f64 p.1,.float .f64 p.2],.agg #[.float .f64 q.1,.float .f64 q.2]] w fun e w'=>e=.returned (.agg #[.float .f64 (mulQ p q).1,.float .f64 (mulQ p q).2])∧Below w.heap.size w w':=rMul_w p.1 p.2 q.1 q.2 hp.1 hp.2 hq.1 hq.2 w
set_option maxHeartbeats 1000000 in
theorem vars_t (v:Int) (A:Option Addr) (n C:Nat) (D:Option Addr) (m E:Nat) (AX:Option Addr) (mx CX:Nat) (X:Nat→Nat×Nat) (hm:mx≤9223372036854775807) (w:World) (VX:Ivs w AX mx X) :
   Calls Tryz.prog 26 #[tapeV v A n C D m E,.slice AX mx CX] w fun e w'=>e=.returned (.bool (allB mx X&&((mx:Int)==v)))∧Below w.heap.size w w':=by
 have cr:=fun (i:Nat) (h1:(X i).1<18446744073709551616) (h2:(X i).2<18446744073709551616) w=>none_w (X i).1 (X i).2 h1 h2 w
 unfold tapeV at *
 have T:=hasT_new w v A n C D m E
 have HB:Below w.heap.size w (w.alloc (.cells #[.int .i64 v,.slice A n C,.slice D m E] 25)):=by go_grown
 go_enter Tryz.func26,Tryz.ntmps26
 go_upto_region 1 with fail
 generalize (w.alloc (.cells #[.int .i64 v,.slice A n C,.slice D m E] 25))=V1 at *
 go_wp2_with fail
 go_loopg [9] mx (fun G s9 wx=>Below V1.heap.size V1 wx∧∃i:Nat,i+G=mx∧s9=.int .i64 (i:Int)∧Hid (∀j,j<i→hsB (X j).1 (X j).2=true))
 case atStart=>exact⟨Below.refl _ _,0,by omega,rfl,fun j hj=>absurd hj (by omega)⟩
 case round =>
   obtain⟨HV,i,hi,rfl,hall⟩:=hrel
   replace T:=T.keep HV
   replace HB:=later HB HV
   by_cases ci:i=mx
   · subst ci
     have e:allB i X=true:=by unfold allB;exact all_upto.2 hall
     replace e:Hid (allB i X=true):=e
     obtain⟨t0,t1,t2,tl⟩:=id T
     go_wp2_with fail
     go_ret
     refine⟨?_,HB⟩
     show _=Ending.returned (Value.bool (allB i X&&((i:Int)==v)))
     rw [e]
     rfl
   · have hlt:(i:Int)<(mx:Int):=by omega
     obtain⟨b,o,hA,hb,x0,x1,l0,l1⟩:=(VX.keep HB) i (by omega)
     have c:=cr i l0 l1
     have hcase:hsB (X i).1 (X i).2=true∨hsB (X i).1 (X i).2=false:=by cases hsB (X i).1 (X i).2 <;> simp
     rcases hcase with hq | hq
     · rw [hq] at c
       subst hA
       go_wp2_with (go_at_call 24;refine (c _).mono ?_;rintro _ w1 ⟨rfl,hb1⟩;replace HV:=later (below_alloc HV _) hb1)
       go_roundg (mx-i-1)
       case measure=>omega
       case rel=>exact⟨HV,i+1,by omega,by go_num,fun j hj=>by rcases Nat.lt_or_ge j i with h | h;exact hall j h;rw [show j=i by omega];exact hq⟩
     · rw [hq] at c
       have e:allB mx X=false:=by
         unfold allB
         exact all_not (i:=i) (by omega) hq
       replace e:Hid (allB mx X=false):=e
       subst hA
       go_wp2_with (go_at_call 24;refine (c _).mono ?_;rintro _ w1 ⟨rfl,hb1⟩;replace HB:=later (below_alloc HB _) hb1)
       all_goals
         go_ret
         refine⟨?_,HB⟩
         show _=Ending.returned (Value.bool (allB mx X&&((mx:Int)==v)))
         rw [e]
         rfl
end Go.Proofs.YtnnfafilgiajoaaGreat
