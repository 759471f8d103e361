/- The walks of the program's small functions on intervals: infinite ends, signs of nought, which intervals hold some number. The walks of holdsSome and someEmpty: which intervals hold some number. The walks of Make, Point, Whole, mirror, Neg: intervals made of ends. The walks of Point, Whole, Right, and of math.Abs and math.IsInf. The walks of Has, Inside and Strict: what is asked of intervals. The walks of Inside and Strict. -/
import Derived.BigQuiet
import Derived.WalkSmall
import Derived.Deep.LoopGhost
import Derived.Test.YtgocelaghggpmaaDoorKt03
import Derived.WalkKit
import Derived.Test.YtgocelaghggpmaaDoorKt02
import Derived.Deep.CutBlock
import Derived.Deep.CutRange
import Derived.Test.YtgocelaghggpmaaDoorKt04
namespace Go.Proofs.YtgocelaghggpmaaDoor
open Go.ChangeShapes Go.WideShapes Go.ChangeAt Go.RowKit
@[go_sem] theorem run_store_float (P:Program) (w:World) (a:Addr) (m:Mode) (k:FloatKind) (n:Nat):(store a (.float k n) m).run P w=stored P w a (.float k n) m:=run_store P w a _ m rfl
def infI (s:Int):Nat:=if s<0 then 18442240474082181120 else 9218868437227405312
theorem inf_w (s:Int) (w:World):Calls Tryd.prog 67 #[.int .i64 s] w fun e w'=>e=.returned (.float .f64 (infI s))∧w=w':=by
 unfold infI
 by_cases h:s<0
 · rw [if_pos h]
   go_enter Tryd.func67,Tryd.ntmps67
   go_wp2
   all_goals (go_ret;exact⟨rfl,rfl⟩)
 · rw [if_neg h]
   go_enter Tryd.func67,Tryd.ntmps67
   go_wp2
   all_goals (go_ret;exact⟨rfl,rfl⟩)
theorem signbit_w (x:Nat) (hx:x<18446744073709551616) (w:World):Calls Tryd.prog 144 #[.float .f64 x] w fun e w'=>e=.returned (.bool (decide (9223372036854775808≤x)))∧w=w':=by
 have hc:decide (wrap64 (x:Int)<0)=decide (9223372036854775808≤x):=by
   rw [wrap64]
   by_cases h:9223372036854775808≤x
   · simp only [h,decide_true,decide_eq_true_eq];omega
   · simp only [h,decide_false,decide_eq_false_iff_not];omega
 go_enter Tryd.func144,Tryd.ntmps144
 go_wp2
 all_goals (go_ret;exact⟨rfl,rfl⟩)
def mz (x:Nat):Bool:=decide (x=9223372036854775808)
theorem isMinusZero_w (x:Nat) (hx:x<18446744073709551616) (w:World):Calls Tryd.prog 118 #[.float .f64 x] w fun e w'=>e=.returned (.bool (mz x))∧w=w':=by
 rcases cases0 x hx with ⟨hn,ho,hc⟩ | ⟨hn,ho,hc⟩ | ⟨hn,ho,hc⟩ | ⟨hn,ho,hc⟩
 · have e:mz x=false:=by unfold mz;simp;omega
   rw [e]
   go_enter Tryd.func118,Tryd.ntmps118
   go_wp2_with (go_at_call 144;refine (signbit_w x hx _).mono ?_;rintro _ _ ⟨rfl,rfl⟩)
   all_goals (go_ret;exact⟨rfl,rfl⟩)
 · have e:mz x=decide (9223372036854775808≤x):=by
     unfold mz
     rw [Bool.eq_iff_iff];simp only [decide_eq_true_eq];omega
   rw [e]
   go_enter Tryd.func118,Tryd.ntmps118
   go_wp2_with (go_at_call 144;refine (signbit_w x hx _).mono ?_;rintro _ _ ⟨rfl,rfl⟩)
   all_goals (go_ret;exact⟨rfl,rfl⟩)
 · have e:mz x=false:=by unfold mz;simp;omega
   rw [e]
   go_enter Tryd.func118,Tryd.ntmps118
   go_wp2_with (go_at_call 144;refine (signbit_w x hx _).mono ?_;rintro _ _ ⟨rfl,rfl⟩)
   all_goals (go_ret;exact⟨rfl,rfl⟩)
 · have e:mz x=false:=by unfold mz;simp;omega
   rw [e]
   go_enter Tryd.func118,Tryd.ntmps118
   go_wp2_with (go_at_call 144;refine (signbit_w x hx _).mono ?_;rintro _ _ ⟨rfl,rfl⟩)
   all_goals (go_ret;exact⟨rfl,rfl⟩)
def pz (x:Nat):Nat:=if x=9223372036854775808 then 0 else x
theorem pz_lt {x:Nat} (hx:x<18446744073709551616):pz x<18446744073709551616:=by unfold pz;split <;> omega
theorem wosz_w (x:Nat) (hx:x<18446744073709551616) (w:World):Calls Tryd.prog 70 #[.float .f64 x] w fun e w'=>e=.returned (.float .f64 (pz x))∧w=w':=by
 rcases cases0 x hx with ⟨hn,ho,hc⟩ | ⟨hn,ho,hc⟩ | ⟨hn,ho,hc⟩ | ⟨hn,ho,hc⟩
 · have e:pz x=x:=by unfold pz;rw [if_neg (by omega)]
   rw [e]
   go_enter Tryd.func70,Tryd.ntmps70
   go_wp2
   all_goals (go_ret;exact⟨rfl,rfl⟩)
 · have e:pz x=0:=by unfold pz;split <;> omega
   rw [e]
   go_enter Tryd.func70,Tryd.ntmps70
   go_wp2
   all_goals (go_ret;exact⟨rfl,rfl⟩)
 · have e:pz x=x:=by unfold pz;rw [if_neg (by omega)]
   rw [e]
   go_enter Tryd.func70,Tryd.ntmps70
   go_wp2
   all_goals (go_ret;exact⟨rfl,rfl⟩)
 · have e:pz x=x:=by unfold pz;rw [if_neg (by omega)]
   rw [e]
   go_enter Tryd.func70,Tryd.ntmps70
   go_wp2
   all_goals (go_ret;exact⟨rfl,rfl⟩)
theorem empty_w (w:World):Calls Tryd.prog 36 #[] w fun e w'=>e=.returned (.agg #[.float .f64 (infI 1),.float .f64 (infI (-1))])∧Below w.heap.size w w':=by
 go_enter Tryd.func36,Tryd.ntmps36
 go_wp2_with (go_at_call 67;refine (inf_w _ _).mono ?_;rintro _ _ ⟨rfl,rfl⟩)
 all_goals (go_returns;exact⟨rfl,by go_grown⟩)
theorem turn {P:Program} {f:FuncId} {args:Array Value} {w:World} {v:Value} (h:Calls P f args w fun e w'=>e=.returned v∧w=w'):Calls P f args w fun e w'=>e=.returned v∧w'=w:=h.mono fun _ _ ⟨a,b⟩=>⟨a,b.symm⟩
theorem inf_q (s:Int) (w:World):Calls Tryd.prog 67 #[.int .i64 s] w fun e w'=>e=.returned (.float .f64 (infI s))∧w'=w:=turn (inf_w s w)
theorem isMinusZero_q (x:Nat) (hx:x<18446744073709551616) (w:World):Calls Tryd.prog 118 #[.float .f64 x] w fun e w'=>e=.returned (.bool (mz x))∧w'=w:=turn (isMinusZero_w x hx w)
def hsB (lo hi:Nat):Bool:=!nanB lo&&!nanB hi&&decide (key lo≤key hi)&&decide (key lo<9218868437227405312)&&decide (-9218868437227405312<key hi)&&!mz lo&&!mz hi
set_option maxHeartbeats 400000 in
theorem holdsSome_core (lo hi:Nat) (hl:lo<18446744073709551616) (hh:hi<18446744073709551616) (b1 b2 b3 b4 b5:Bool)
   (o1:(FloatKind.f64.format.order lo hi==some .lt || FloatKind.f64.format.order lo hi==some .eq)=b1) (o2:(FloatKind.f64.format.order lo (infI 1)==some .lt)=b2) (o3:(FloatKind.f64.format.order hi (infI (-1))==some .gt)=b3)
   (o4:mz lo=b4) (o5:mz hi=b5) (w:World) :
   Calls Tryd.prog 71 #[.agg #[.float .f64 lo,.float .f64 hi]] w fun e w'=>e=.returned (.bool (b1&&b2&&b3&&!b4&&!b5))∧Below w.heap.size w w':=by
 cases b1
 case' true=>cases b2
 case' true.true=>cases b3
 case' true.true.true=>cases b4
 case' true.true.true.false=>cases b5
 all_goals
   go_enter Tryd.func71,Tryd.ntmps71
   go_wp2_with fail
   go_quiet (first | (go_at_call 67;refine Calls.quiet_of_same (inf_q _ _)) | (go_at_call 118;refine Calls.quiet_of_same (isMinusZero_q _ (by assumption) _)))
   go_wp2
   go_ret
   exact⟨rfl,Go.below_drewN (by go_grown) _⟩
def leB (a b:Nat):Bool:=!nanB a&&!nanB b&&decide (key a≤key b)
def ltB (a b:Nat):Bool:=!nanB a&&!nanB b&&decide (key a<key b)
def eqB (a b:Nat):Bool:=!nanB a&&!nanB b&&decide (key a=key b)
theorem o_le {a b:Nat} (ha:a<18446744073709551616) (hb:b<18446744073709551616):(FloatKind.f64.format.order a b==some .lt || FloatKind.f64.format.order a b==some .eq)=leB a b:=by
 rw [order_eq a b ha hb]
 unfold leB
 cases nanB a <;> cases nanB b <;> simp only [Bool.or_self,Bool.or_true,Bool.or_false,if_true,Bool.false_eq_true,if_false,Bool.not_true,Bool.not_false,Bool.false_and,Bool.and_false,Bool.true_and]
 · simp only [compare_int]
   by_cases c:key a<key b
   · have:key a≤key b:=by omega
     rw [if_pos c];simp [this]
   · rw [if_neg c]
     by_cases e:key a=key b
     · rw [if_pos e];simp [e]
     · have:¬key a≤key b:=by omega
       rw [if_neg e];simp [this]
 all_goals rfl
theorem o_lt {a b:Nat} (ha:a<18446744073709551616) (hb:b<18446744073709551616):(FloatKind.f64.format.order a b==some .lt)=ltB a b:=by
 rw [order_eq a b ha hb]
 unfold ltB
 cases nanB a <;> cases nanB b <;> simp only [Bool.or_self,Bool.or_true,Bool.or_false,if_true,Bool.false_eq_true,if_false,Bool.not_true,Bool.not_false,Bool.false_and,Bool.and_false,Bool.true_and]
 · simp only [compare_int]
   by_cases c:key a<key b
   · rw [if_pos c];simp [c]
   · rw [if_neg c]
     by_cases e:key a=key b
     · rw [if_pos e];simp [e]
     · rw [if_neg e];simp [c]
 all_goals rfl
theorem o_gt {a b:Nat} (ha:a<18446744073709551616) (hb:b<18446744073709551616):(FloatKind.f64.format.order a b==some .gt)=ltB b a:=by
 rw [order_eq a b ha hb]
 unfold ltB
 cases nanB a <;> cases nanB b <;> simp only [Bool.or_self,Bool.or_true,Bool.or_false,if_true,Bool.false_eq_true,if_false,Bool.not_true,Bool.not_false,Bool.false_and,Bool.and_false,Bool.true_and]
 · simp only [compare_int]
   by_cases c:key a<key b
   · have:¬key b<key a:=by omega
     rw [if_pos c];simp [this]
   · rw [if_neg c]
     by_cases e:key a=key b
     · rw [if_pos e];simp [e]
     · have:key b<key a:=by omega
       rw [if_neg e];simp [this]
 all_goals rfl
theorem o_eq {a b:Nat} (ha:a<18446744073709551616) (hb:b<18446744073709551616):(FloatKind.f64.format.order a b==some .eq)=eqB a b:=by
 rw [order_eq a b ha hb]
 unfold eqB
 cases nanB a <;> cases nanB b <;> simp only [Bool.or_self,Bool.or_true,Bool.or_false,if_true,Bool.false_eq_true,if_false,Bool.not_true,Bool.not_false,Bool.false_and,Bool.and_false,Bool.true_and]
 · simp only [compare_int]
   by_cases c:key a<key b
   · have:¬key a=key b:=by omega
     rw [if_pos c];simp [this]
   · rw [if_neg c]
     by_cases e:key a=key b
     · rw [if_pos e];simp [e]
     · rw [if_neg e];simp [e]
 all_goals rfl
theorem infI_lt (s:Int):infI s<18446744073709551616:=by unfold infI;split <;> omega
theorem nan_inf (s:Int):nanB (infI s)=false:=by unfold infI;split <;> decide
theorem key_up:key (infI 1)=9218868437227405312:=by decide
theorem key_down:key (infI (-1))=-9218868437227405312:=by decide
theorem holdsSome_w (lo hi:Nat) (hl:lo<18446744073709551616) (hh:hi<18446744073709551616) (w:World) :
   Calls Tryd.prog 71 #[.agg #[.float .f64 lo,.float .f64 hi]] w fun e w'=>e=.returned (.bool (hsB lo hi))∧Below w.heap.size w w':=by
 have h:=holdsSome_core lo hi hl hh _ _ _ _ _ (o_le hl hh) (o_lt hl (infI_lt 1)) (o_gt hh (infI_lt (-1))) rfl rfl w
 have e:(leB lo hi&&ltB lo (infI 1)&&ltB (infI (-1)) hi&&!mz lo&&!mz hi)=hsB lo hi:=by
   unfold leB ltB hsB
   rw [nan_inf,nan_inf,key_up,key_down]
   cases nanB lo <;> cases nanB hi <;> simp
 rw [e] at h
 exact h
def Has2 (w:World) (b:Nat) (x y:Value):Prop:=w.cell? ⟨b,0,none⟩=some x∧w.cell? ⟨b,1,none⟩=some y∧w.frozen? ⟨b,0,none⟩=false∧w.frozen? ⟨b,1,none⟩=false∧b<w.heap.size
theorem Has2.keep {W0 w2:World} {b:Nat} {x y:Value} (h:Has2 W0 b x y) (hb:Below W0.heap.size W0 w2):Has2 w2 b x y:=by
 obtain⟨h0,h1,f0,f1,hl⟩:=h
 exact⟨keepsC hb h0 hl,keepsC hb h1 hl,keepsF hb f0 hl,keepsF hb f1 hl,Nat.lt_of_lt_of_le hl hb.size⟩
def makeP (lo hi:Nat):Nat×Nat:=if hsB (pz lo) (pz hi) then (pz lo,pz hi) else (infI 1,infI (-1))
set_option maxHeartbeats 400000 in
theorem make_w (lo hi:Nat) (hl:lo<18446744073709551616) (hh:hi<18446744073709551616) (w:World) :
   Calls Tryd.prog 38 #[.float .f64 lo,.float .f64 hi] w fun e w'=>e=.returned (.agg #[.float .f64 (makeP lo hi).1,.float .f64 (makeP lo hi).2])∧Below w.heap.size w w':=by
 have hs:=fun w=>holdsSome_w (pz lo) (pz hi) (pz_lt hl) (pz_lt hh) w
 have e:makeP lo hi=if hsB (pz lo) (pz hi) then (pz lo,pz hi) else (infI 1,infI (-1)):=rfl
 rw [e]
 clear e
 generalize hsB (pz lo) (pz hi)=b at *
 cases b
 · go_enter Tryd.func38,Tryd.ntmps38
   go_wp2_with (first
     | (go_at_call 70;refine (wosz_w _ (by assumption) _).mono ?_;rintro _ _ ⟨rfl,rfl⟩)
     | (go_at_call 71;refine (hs _).mono ?_;rintro _ w1 ⟨rfl,hb1⟩
        have k1:Has2 w1 w.heap.size (.float .f64 0) (.float .f64 0):=Has2.keep ⟨by go_simp,by go_simp,by go_simp,by go_simp,by go_size⟩ hb1
        obtain⟨a0,a1,a2,a3,a4⟩:=k1)
     | (go_at_call 36;refine (empty_w _).mono ?_;rintro _ w2 ⟨rfl,hb2⟩
        obtain⟨d0,d1,d2,d3,d4⟩:=Has2.keep ⟨a0,a1,a2,a3,a4⟩ hb2))
   all_goals
     refine bodyPost_ret (v:=.agg #[.float .f64 (infI 1),.float .f64 (infI (-1))]) (by simp [results,Tryd.results38,go_sem, *]) rfl ⟨rfl, ?_⟩
     have t:Below w.heap.size w w2:=later (later (by go_grown) hb1) hb2
     repeat' (first | (with_reducible exact t) | (with_reducible refine Below.setCell ?_ ?_ _) | go_size)
 · go_enter Tryd.func38,Tryd.ntmps38
   go_wp2_with (first
     | (go_at_call 70;refine (wosz_w _ (by assumption) _).mono ?_;rintro _ _ ⟨rfl,rfl⟩)
     | (go_at_call 71;refine (hs _).mono ?_;rintro _ w1 ⟨rfl,hb1⟩
        have k1:Has2 w1 w.heap.size (.float .f64 0) (.float .f64 0):=Has2.keep ⟨by go_simp,by go_simp,by go_simp,by go_simp,by go_size⟩ hb1
        have k2:Has2 w1 (w.heap.size+1) (.float .f64 (pz lo)) (.float .f64 (pz hi)):=Has2.keep ⟨by go_simp,by go_simp,by go_simp,by go_simp,by go_size⟩ hb1
        obtain⟨a0,a1,a2,a3,a4⟩:=k1
        obtain⟨d0,d1,d2,d3,d4⟩:=k2))
   all_goals
     refine bodyPost_ret (v:=.agg #[.float .f64 (pz lo),.float .f64 (pz hi)]) (by simp [results,Tryd.results38,go_sem, *]) rfl ⟨rfl, ?_⟩
     have t:Below w.heap.size w w1:=later (by go_grown) hb1
     repeat' (first | (with_reducible exact t) | (with_reducible refine Below.setCell ?_ ?_ _) | go_size)
theorem makeP_lt {lo hi:Nat} (hl:lo<18446744073709551616) (hh:hi<18446744073709551616):(makeP lo hi).1<18446744073709551616∧(makeP lo hi).2<18446744073709551616:=by
 unfold makeP
 split
 · exact⟨pz_lt hl,pz_lt hh⟩
 · exact⟨infI_lt 1,infI_lt (-1)⟩
@[go_sem] theorem equalIn_float (a b:Nat) (w:World):(Op.equalIn 9999 30 (.float .f64 a) (.float .f64 b)).run Tryd.prog w=.ok (FloatKind.f64.format.order a b==some .eq) w:=by
 unfold Op.equalIn
 simp [go_sem]
 rfl
def rightB (lo hi:Nat):Bool:=eqB lo (infI 1)&&eqB hi (infI (-1)) || hsB lo hi
end Go.Proofs.YtgocelaghggpmaaDoor
