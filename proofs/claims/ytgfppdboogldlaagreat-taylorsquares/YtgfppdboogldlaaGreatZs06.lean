/- The walks of the program's small functions on intervals: infinite ends, signs of nought, which intervals hold some number. The walks of holdsSome and someEmpty: which intervals hold some number. The walks of Make, Point, Whole, mirror, Neg: intervals made of ends. The walks of Point, Whole, Right, and of math.Abs and math.IsInf. The walks of Has, Inside and Strict: what is asked of intervals. The walks of Inside and Strict. The walks of mirror, Neg, Add and Sub of intervals. The walks of Sub, leastProduct, stretch. The walk of Mul, of intervals that hold some number. -/
import Derived.Test.YtgfppdboogldlaaGreatZs04
import Derived.Test.YtgfppdboogldlaaGreatZs05
import Derived.BigQuiet
import Derived.WalkSmall
import Derived.Deep.LoopGhost
namespace Go.Proofs.YtgfppdboogldlaaGreat
open Go.ChangeShapes Go.WideShapes Go.ChangeAt Go.RowKit
@[go_sem] theorem run_store_float (P:Program) (w:World) (a:Addr) (m:Mode) (k:FloatKind) (n:Nat):(store a (.float k n) m).run P w=stored P w a (.float k n) m:=run_store P w a _ m rfl
def infI (s:Int):Nat:=if s<0 then 18442240474082181120 else 9218868437227405312
theorem inf_w (s:Int) (w:World):Calls Tryz.prog 64 #[.int .i64 s] w fun e w'=>e=.returned (.float .f64 (infI s))∧w=w':=by
 unfold infI
 by_cases h:s<0
 · rw [if_pos h]
   go_enter Tryz.func64,Tryz.ntmps64
   go_wp2
   all_goals (go_ret;exact⟨rfl,rfl⟩)
 · rw [if_neg h]
   go_enter Tryz.func64,Tryz.ntmps64
   go_wp2
   all_goals (go_ret;exact⟨rfl,rfl⟩)
theorem signbit_w (x:Nat) (hx:x<18446744073709551616) (w:World):Calls Tryz.prog 104 #[.float .f64 x] w fun e w'=>e=.returned (.bool (decide (9223372036854775808≤x)))∧w=w':=by
 have hc:decide (wrap64 (x:Int)<0)=decide (9223372036854775808≤x):=by
   rw [wrap64]
   by_cases h:9223372036854775808≤x
   · simp only [h,decide_true,decide_eq_true_eq];omega
   · simp only [h,decide_false,decide_eq_false_iff_not];omega
 go_enter Tryz.func104,Tryz.ntmps104
 go_wp2
 all_goals (go_ret;exact⟨rfl,rfl⟩)
def mz (x:Nat):Bool:=decide (x=9223372036854775808)
theorem isMinusZero_w (x:Nat) (hx:x<18446744073709551616) (w:World):Calls Tryz.prog 85 #[.float .f64 x] w fun e w'=>e=.returned (.bool (mz x))∧w=w':=by
 rcases cases0 x hx with ⟨hn,ho,hc⟩ | ⟨hn,ho,hc⟩ | ⟨hn,ho,hc⟩ | ⟨hn,ho,hc⟩
 · have e:mz x=false:=by unfold mz;simp;omega
   rw [e]
   go_enter Tryz.func85,Tryz.ntmps85
   go_wp2_with (go_at_call 104;refine (signbit_w x hx _).mono ?_;rintro _ _ ⟨rfl,rfl⟩)
   all_goals (go_ret;exact⟨rfl,rfl⟩)
 · have e:mz x=decide (9223372036854775808≤x):=by
     unfold mz
     rw [Bool.eq_iff_iff];simp only [decide_eq_true_eq];omega
   rw [e]
   go_enter Tryz.func85,Tryz.ntmps85
   go_wp2_with (go_at_call 104;refine (signbit_w x hx _).mono ?_;rintro _ _ ⟨rfl,rfl⟩)
   all_goals (go_ret;exact⟨rfl,rfl⟩)
 · have e:mz x=false:=by unfold mz;simp;omega
   rw [e]
   go_enter Tryz.func85,Tryz.ntmps85
   go_wp2_with (go_at_call 104;refine (signbit_w x hx _).mono ?_;rintro _ _ ⟨rfl,rfl⟩)
   all_goals (go_ret;exact⟨rfl,rfl⟩)
 · have e:mz x=false:=by unfold mz;simp;omega
   rw [e]
   go_enter Tryz.func85,Tryz.ntmps85
   go_wp2_with (go_at_call 104;refine (signbit_w x hx _).mono ?_;rintro _ _ ⟨rfl,rfl⟩)
   all_goals (go_ret;exact⟨rfl,rfl⟩)
def pz (x:Nat):Nat:=if x=9223372036854775808 then 0 else x
theorem pz_lt {x:Nat} (hx:x<18446744073709551616):pz x<18446744073709551616:=by unfold pz;split <;> omega
theorem wosz_w (x:Nat) (hx:x<18446744073709551616) (w:World):Calls Tryz.prog 116 #[.float .f64 x] w fun e w'=>e=.returned (.float .f64 (pz x))∧w=w':=by
 rcases cases0 x hx with ⟨hn,ho,hc⟩ | ⟨hn,ho,hc⟩ | ⟨hn,ho,hc⟩ | ⟨hn,ho,hc⟩
 · have e:pz x=x:=by unfold pz;rw [if_neg (by omega)]
   rw [e]
   go_enter Tryz.func116,Tryz.ntmps116
   go_wp2
   all_goals (go_ret;exact⟨rfl,rfl⟩)
 · have e:pz x=0:=by unfold pz;split <;> omega
   rw [e]
   go_enter Tryz.func116,Tryz.ntmps116
   go_wp2
   all_goals (go_ret;exact⟨rfl,rfl⟩)
 · have e:pz x=x:=by unfold pz;rw [if_neg (by omega)]
   rw [e]
   go_enter Tryz.func116,Tryz.ntmps116
   go_wp2
   all_goals (go_ret;exact⟨rfl,rfl⟩)
 · have e:pz x=x:=by unfold pz;rw [if_neg (by omega)]
   rw [e]
   go_enter Tryz.func116,Tryz.ntmps116
   go_wp2
   all_goals (go_ret;exact⟨rfl,rfl⟩)
theorem empty_w (w:World):Calls Tryz.prog 60 #[] w fun e w'=>e=.returned (.agg #[.float .f64 (infI 1),.float .f64 (infI (-1))])∧Below w.heap.size w w':=by
 go_enter Tryz.func60,Tryz.ntmps60
 go_wp2_with (go_at_call 64;refine (inf_w _ _).mono ?_;rintro _ _ ⟨rfl,rfl⟩)
 all_goals (go_returns;exact⟨rfl,by go_grown⟩)
theorem turn {P:Program} {f:FuncId} {args:Array Value} {w:World} {v:Value} (h:Calls P f args w fun e w'=>e=.returned v∧w=w'):Calls P f args w fun e w'=>e=.returned v∧w'=w:=h.mono fun _ _ ⟨a,b⟩=>⟨a,b.symm⟩
theorem inf_q (s:Int) (w:World):Calls Tryz.prog 64 #[.int .i64 s] w fun e w'=>e=.returned (.float .f64 (infI s))∧w'=w:=turn (inf_w s w)
theorem isMinusZero_q (x:Nat) (hx:x<18446744073709551616) (w:World):Calls Tryz.prog 85 #[.float .f64 x] w fun e w'=>e=.returned (.bool (mz x))∧w'=w:=turn (isMinusZero_w x hx w)
def hsB (lo hi:Nat):Bool:=!nanB lo&&!nanB hi&&decide (key lo≤key hi)&&decide (key lo<9218868437227405312)&&decide (-9218868437227405312<key hi)&&!mz lo&&!mz hi
set_option maxHeartbeats 400000 in
theorem holdsSome_core (lo hi:Nat) (hl:lo<18446744073709551616) (hh:hi<18446744073709551616) (b1 b2 b3 b4 b5:Bool)
   (o1:(FloatKind.f64.format.order lo hi==some .lt || FloatKind.f64.format.order lo hi==some .eq)=b1) (o2:(FloatKind.f64.format.order lo (infI 1)==some .lt)=b2) (o3:(FloatKind.f64.format.order hi (infI (-1))==some .gt)=b3)
   (o4:mz lo=b4) (o5:mz hi=b5) (w:World) :
   Calls Tryz.prog 74 #[.agg #[.float .f64 lo,.float .f64 hi]] w fun e w'=>e=.returned (.bool (b1&&b2&&b3&&!b4&&!b5))∧Below w.heap.size w w':=by
 cases b1
 case' true=>cases b2
 case' true.true=>cases b3
 case' true.true.true=>cases b4
 case' true.true.true.false=>cases b5
 all_goals
   go_enter Tryz.func74,Tryz.ntmps74
   go_wp2_with fail
   go_quiet (first | (go_at_call 64;refine Calls.quiet_of_same (inf_q _ _)) | (go_at_call 85;refine Calls.quiet_of_same (isMinusZero_q _ (by assumption) _)))
   go_wp2
   go_ret
   exact⟨rfl,below_drewN (by go_grown) _⟩
def leB (a b:Nat):Bool:=!nanB a&&!nanB b&&decide (key a≤key b)
def ltB (a b:Nat):Bool:=!nanB a&&!nanB b&&decide (key a<key b)
def eqB (a b:Nat):Bool:=!nanB a&&!nanB b&&decide (key a=key b)
theorem o_le {a b:Nat} (ha:a<18446744073709551616) (hb:b<18446744073709551616):(FloatKind.f64.format.order a b==some .lt || FloatKind.f64.format.order a b==some .eq)=leB a b:=by
 rw [order_eq a b ha hb]
 unfold leB
 cases nanB a <;> cases nanB b <;> simp only [Bool.or_self,Bool.or_true,Bool.or_false,if_true,Bool.false_eq_true,if_false,Bool.not_true,Bool.not_false,Bool.false_and,Bool.and_false,Bool.true_and]
 · simp only [compare_int]
   by_cases c:key a<key b
   · have:key a≤key b:=by omega
     rw [if_pos c];simp [this]
   · rw [if_neg c]
     by_cases e:key a=key b
     · rw [if_pos e];simp [e]
     · have:¬key a≤key b:=by omega
       rw [if_neg e];simp [this]
 all_goals rfl
theorem o_lt {a b:Nat} (ha:a<18446744073709551616) (hb:b<18446744073709551616):(FloatKind.f64.format.order a b==some .lt)=ltB a b:=by
 rw [order_eq a b ha hb]
 unfold ltB
 cases nanB a <;> cases nanB b <;> simp only [Bool.or_self,Bool.or_true,Bool.or_false,if_true,Bool.false_eq_true,if_false,Bool.not_true,Bool.not_false,Bool.false_and,Bool.and_false,Bool.true_and]
 · simp only [compare_int]
   by_cases c:key a<key b
   · rw [if_pos c];simp [c]
   · rw [if_neg c]
     by_cases e:key a=key b
     · rw [if_pos e];simp [e]
     · rw [if_neg e];simp [c]
 all_goals rfl
theorem o_gt {a b:Nat} (ha:a<18446744073709551616) (hb:b<18446744073709551616):(FloatKind.f64.format.order a b==some .gt)=ltB b a:=by
 rw [order_eq a b ha hb]
 unfold ltB
 cases nanB a <;> cases nanB b <;> simp only [Bool.or_self,Bool.or_true,Bool.or_false,if_true,Bool.false_eq_true,if_false,Bool.not_true,Bool.not_false,Bool.false_and,Bool.and_false,Bool.true_and]
 · simp only [compare_int]
   by_cases c:key a<key b
   · have:¬key b<key a:=by omega
     rw [if_pos c];simp [this]
   · rw [if_neg c]
     by_cases e:key a=key b
     · rw [if_pos e];simp [e]
     · have:key b<key a:=by omega
       rw [if_neg e];simp [this]
 all_goals rfl
theorem o_ge {a b:Nat} (ha:a<18446744073709551616) (hb:b<18446744073709551616):(FloatKind.f64.format.order a b==some .gt || FloatKind.f64.format.order a b==some .eq)=leB b a:=by
 rw [order_eq a b ha hb]
 unfold leB
 cases nanB a <;> cases nanB b <;> simp only [Bool.or_self,Bool.or_true,Bool.or_false,if_true,Bool.false_eq_true,if_false,Bool.not_true,Bool.not_false,Bool.false_and,Bool.and_false,Bool.true_and]
 · simp only [compare_int]
   by_cases c:key a<key b
   · have:¬key b≤key a:=by omega
     rw [if_pos c];simp [this]
   · have:key b≤key a:=by omega
     rw [if_neg c]
     by_cases e:key a=key b
     · rw [if_pos e];simp [e]
     · rw [if_neg e];simp [this]
 all_goals rfl
theorem o_eq {a b:Nat} (ha:a<18446744073709551616) (hb:b<18446744073709551616):(FloatKind.f64.format.order a b==some .eq)=eqB a b:=by
 rw [order_eq a b ha hb]
 unfold eqB
 cases nanB a <;> cases nanB b <;> simp only [Bool.or_self,Bool.or_true,Bool.or_false,if_true,Bool.false_eq_true,if_false,Bool.not_true,Bool.not_false,Bool.false_and,Bool.and_false,Bool.true_and]
 · simp only [compare_int]
   by_cases c:key a<key b
   · have:¬key a=key b:=by omega
     rw [if_pos c];simp [this]
   · rw [if_neg c]
     by_cases e:key a=key b
     · rw [if_pos e];simp [e]
     · rw [if_neg e];simp [e]
 all_goals rfl
theorem infI_lt (s:Int):infI s<18446744073709551616:=by unfold infI;split <;> omega
theorem nan_inf (s:Int):nanB (infI s)=false:=by unfold infI;split <;> decide
theorem key_up:key (infI 1)=9218868437227405312:=by decide
theorem key_down:key (infI (-1))=-9218868437227405312:=by decide
theorem holdsSome_w (lo hi:Nat) (hl:lo<18446744073709551616) (hh:hi<18446744073709551616) (w:World) :
   Calls Tryz.prog 74 #[.agg #[.float .f64 lo,.float .f64 hi]] w fun e w'=>e=.returned (.bool (hsB lo hi))∧Below w.heap.size w w':=by
 have h:=holdsSome_core lo hi hl hh _ _ _ _ _ (o_le hl hh) (o_lt hl (infI_lt 1)) (o_gt hh (infI_lt (-1))) rfl rfl w
 have e:(leB lo hi&&ltB lo (infI 1)&&ltB (infI (-1)) hi&&!mz lo&&!mz hi)=hsB lo hi:=by
   unfold leB ltB hsB
   rw [nan_inf,nan_inf,key_up,key_down]
   cases nanB lo <;> cases nanB hi <;> simp
 rw [e] at h
 exact h
theorem someEmpty2_w (b lo hi lo2 hi2:Nat) (hl:lo<18446744073709551616) (hh:hi<18446744073709551616) (hl2:lo2<18446744073709551616) (hh2:hi2<18446744073709551616) (w:World) (hlt:b<w.heap.size)
   (c0:w.cell? ⟨b,0,none⟩=some (.float .f64 lo)) (c1:w.cell? ⟨b,1,none⟩=some (.float .f64 hi)) (c2:w.cell? ⟨b,2,none⟩=some (.float .f64 lo2)) (c3:w.cell? ⟨b,3,none⟩=some (.float .f64 hi2)) :
   Calls Tryz.prog 114 #[.slice (some ⟨b,0,none⟩) 2 2] w fun e w'=>e=.returned (.bool (!(hsB lo hi&&hsB lo2 hi2)))∧Below w.heap.size w w':=by
 have hs:=fun w=>holdsSome_w lo hi hl hh w
 have hs2:=fun w=>holdsSome_w lo2 hi2 hl2 hh2 w
 generalize hsB lo hi=t at *
 generalize hsB lo2 hi2=t2 at *
 go_enter Tryz.func114,Tryz.ntmps114
 go_wp2_with fail
 go_loopg [7] 3 (fun g s7 wx=>Below w.heap.size w wx∧((g=3∧w=wx∧s7=.int .i64 0)∨(g=2∧t=true∧s7=.int .i64 1)∨(g=1∧t=true∧t2=true∧s7=.int .i64 2)))
 case atStart=>exact⟨Below.refl _ _,Or.inl ⟨rfl,rfl,rfl⟩⟩
 case round =>
   rcases hrel with ⟨hb,⟨rfl,rfl,rfl⟩ | ⟨rfl,rfl,rfl⟩ | ⟨rfl,rfl,rfl,rfl⟩⟩
   · cases t
     · go_wp2_with (go_at_call 74;refine (hs _).mono ?_;rintro _ w1 ⟨rfl,hb1⟩)
       go_ret
       exact⟨rfl,later (by go_grown) hb1⟩
     · go_wp2_with (go_at_call 74;refine (hs _).mono ?_;rintro _ w1 ⟨rfl,hb1⟩)
       go_roundg 2
       case rel=>exact⟨later (by go_grown) hb1,Or.inr (Or.inl ⟨(by first | rfl | trivial),(by first | rfl | trivial),(by first | rfl | trivial)⟩)⟩
       case measure=>omega
   · have d2:=keepsC hb c2 hlt
     have d3:=keepsC hb c3 hlt
     have hsz:=hb.size
     rename_i wx
     cases t2
     · go_wp2_with (go_at_call 74;refine (hs2 _).mono ?_;rintro _ w1 ⟨rfl,hb1⟩)
       go_ret
       exact⟨rfl,later (hb.alloc hsz _) hb1⟩
     · go_wp2_with (go_at_call 74;refine (hs2 _).mono ?_;rintro _ w1 ⟨rfl,hb1⟩)
       go_roundg 1
       case rel=>exact⟨later (hb.alloc hsz _) hb1,Or.inr (Or.inr ⟨(by first | rfl | trivial),(by first | rfl | trivial),(by first | rfl | trivial),(by first | rfl | trivial)⟩)⟩
       case measure=>omega
   · go_wp2
     go_ret
     exact⟨rfl,hb⟩
def Has2 (w:World) (b:Nat) (x y:Value):Prop:=w.cell? ⟨b,0,none⟩=some x∧w.cell? ⟨b,1,none⟩=some y∧w.frozen? ⟨b,0,none⟩=false∧w.frozen? ⟨b,1,none⟩=false∧b<w.heap.size
theorem Has2.keep {W0 w2:World} {b:Nat} {x y:Value} (h:Has2 W0 b x y) (hb:Below W0.heap.size W0 w2):Has2 w2 b x y:=by
 obtain⟨h0,h1,f0,f1,hl⟩:=h
 exact⟨keepsC hb h0 hl,keepsC hb h1 hl,keepsF hb f0 hl,keepsF hb f1 hl,Nat.lt_of_lt_of_le hl hb.size⟩
def makeP (lo hi:Nat):Nat×Nat:=if hsB (pz lo) (pz hi) then (pz lo,pz hi) else (infI 1,infI (-1))
set_option maxHeartbeats 400000 in
theorem make_w (lo hi:Nat) (hl:lo<18446744073709551616) (hh:hi<18446744073709551616) (w:World) :
   Calls Tryz.prog 113 #[.float .f64 lo,.float .f64 hi] w fun e w'=>e=.returned (.agg #[.float .f64 (makeP lo hi).1,.float .f64 (makeP lo hi).2])∧Below w.heap.size w w':=by
 have hs:=fun w=>holdsSome_w (pz lo) (pz hi) (pz_lt hl) (pz_lt hh) w
 have e:makeP lo hi=if hsB (pz lo) (pz hi) then (pz lo,pz hi) else (infI 1,infI (-1)):=rfl
 rw [e]
 clear e
 generalize hsB (pz lo) (pz hi)=b at *
 cases b
 · go_enter Tryz.func113,Tryz.ntmps113
   go_wp2_with (first
     | (go_at_call 116;refine (wosz_w _ (by assumption) _).mono ?_;rintro _ _ ⟨rfl,rfl⟩)
     | (go_at_call 74;refine (hs _).mono ?_;rintro _ w1 ⟨rfl,hb1⟩
        have k1:Has2 w1 w.heap.size (.float .f64 0) (.float .f64 0):=Has2.keep ⟨by go_simp,by go_simp,by go_simp,by go_simp,by go_size⟩ hb1
        obtain⟨a0,a1,a2,a3,a4⟩:=k1)
     | (go_at_call 60;refine (empty_w _).mono ?_;rintro _ w2 ⟨rfl,hb2⟩
        obtain⟨d0,d1,d2,d3,d4⟩:=Has2.keep ⟨a0,a1,a2,a3,a4⟩ hb2))
   all_goals
     refine bodyPost_ret (v:=.agg #[.float .f64 (infI 1),.float .f64 (infI (-1))]) (by simp [results,Tryz.results113,go_sem, *]) rfl ⟨rfl, ?_⟩
     have t:Below w.heap.size w w2:=later (later (by go_grown) hb1) hb2
     repeat' (first | (with_reducible exact t) | (with_reducible refine Below.setCell ?_ ?_ _) | go_size)
 · go_enter Tryz.func113,Tryz.ntmps113
   go_wp2_with (first
     | (go_at_call 116;refine (wosz_w _ (by assumption) _).mono ?_;rintro _ _ ⟨rfl,rfl⟩)
     | (go_at_call 74;refine (hs _).mono ?_;rintro _ w1 ⟨rfl,hb1⟩
        have k1:Has2 w1 w.heap.size (.float .f64 0) (.float .f64 0):=Has2.keep ⟨by go_simp,by go_simp,by go_simp,by go_simp,by go_size⟩ hb1
        have k2:Has2 w1 (w.heap.size+1) (.float .f64 (pz lo)) (.float .f64 (pz hi)):=Has2.keep ⟨by go_simp,by go_simp,by go_simp,by go_simp,by go_size⟩ hb1
        obtain⟨a0,a1,a2,a3,a4⟩:=k1
        obtain⟨d0,d1,d2,d3,d4⟩:=k2))
   all_goals
     refine bodyPost_ret (v:=.agg #[.float .f64 (pz lo),.float .f64 (pz hi)]) (by simp [results,Tryz.results113,go_sem, *]) rfl ⟨rfl, ?_⟩
     have t:Below w.heap.size w w1:=later (by go_grown) hb1
     repeat' (first | (with_reducible exact t) | (with_reducible refine Below.setCell ?_ ?_ _) | go_size)
theorem makeP_lt {lo hi:Nat} (hl:lo<18446744073709551616) (hh:hi<18446744073709551616):(makeP lo hi).1<18446744073709551616∧(makeP lo hi).2<18446744073709551616:=by
 unfold makeP
 split
 · exact⟨pz_lt hl,pz_lt hh⟩
 · exact⟨infI_lt 1,infI_lt (-1)⟩
theorem whole_w (w:World):Calls Tryz.prog 155 #[] w fun e w'=>e=.returned (.agg #[.float .f64 (infI (-1)),.float .f64 (infI 1)])∧Below w.heap.size w w':=by
 go_enter Tryz.func155,Tryz.ntmps155
 go_wp2_with (go_at_call 64;refine (inf_w _ _).mono ?_;rintro _ _ ⟨rfl,rfl⟩)
 all_goals (go_returns;exact⟨rfl,by go_grown⟩)
theorem point_w (x:Nat) (hx:x<18446744073709551616) (w:World) :
   Calls Tryz.prog 98 #[.float .f64 x] w fun e w'=>e=.returned (.agg #[.float .f64 (makeP x x).1,.float .f64 (makeP x x).2])∧Below w.heap.size w w':=by
 have hm:=fun w=>make_w x x hx hx w
 generalize makeP x x=p at *
 go_enter Tryz.func98,Tryz.ntmps98
 go_wp2_with (go_at_call 113;refine (hm _).mono ?_;rintro _ w1 ⟨rfl,hb1⟩
              have k1:Has2 w1 w.heap.size (.float .f64 0) (.float .f64 0):=Has2.keep ⟨by go_simp,by go_simp,by go_simp,by go_simp,by go_size⟩ hb1
              obtain⟨a0,a1,a2,a3,a4⟩:=k1)
 refine bodyPost_ret (v:=.agg #[.float .f64 p.1,.float .f64 p.2]) (by simp [results,Tryz.results98,go_sem, *]) rfl ⟨rfl, ?_⟩
 have t:Below w.heap.size w w1:=later (by go_grown) hb1
 repeat' (first | (with_reducible exact t) | (with_reducible refine Below.setCell ?_ ?_ _) | go_size)
@[go_sem] theorem equalIn_float (a b:Nat) (w:World):(Op.equalIn 9999 36 (.float .f64 a) (.float .f64 b)).run Tryz.prog w=.ok (FloatKind.f64.format.order a b==some .eq) w:=by
 unfold Op.equalIn
 simp [go_sem]
 rfl
def rightB (lo hi:Nat):Bool:=eqB lo (infI 1)&&eqB hi (infI (-1)) || hsB lo hi
set_option maxHeartbeats 400000 in
theorem right_core (lo hi:Nat) (t:Bool) (hs:∀w,Calls Tryz.prog 74 #[.agg #[.float .f64 lo,.float .f64 hi]] w fun e w'=>e=.returned (.bool t)∧Below w.heap.size w w') (b1 b2:Bool)
   (o1:(FloatKind.f64.format.order lo (infI 1)==some .eq)=b1) (o2:(FloatKind.f64.format.order hi (infI (-1))==some .eq)=b2) (w:World) :
   Calls Tryz.prog 59 #[.agg #[.float .f64 lo,.float .f64 hi]] w fun e w'=>e=.returned (.bool (b1&&b2 || t))∧Below w.heap.size w w':=by
 by_cases hb:(b1&&b2)=true
 · obtain rfl:b1=true:=by cases b1 <;> simp_all
   obtain rfl:b2=true:=by simpa using hb
   clear hb
   go_enter Tryz.func59,Tryz.ntmps59
   go_wp2_with fail
   go_region_with (go_at_call 60;refine (empty_w _).mono ?_;rintro _ w1 ⟨rfl,hb1⟩
                   have s0:w1.cell? ⟨w.heap.size,0,none⟩=some (.float .f64 lo):=(hb1.cell (by simp)).trans (by go_simp)
                   have s1:w1.cell? ⟨w.heap.size,1,none⟩=some (.float .f64 hi):=(hb1.cell (by simp)).trans (by go_simp))
   all_goals
     go_wp2
     go_ret
     exact⟨rfl,later (by go_grown) hb1⟩
 · have e:(b1&&b2)=false:=by simpa using hb
   rw [e,Bool.false_or]
   clear hb
   have o3:b1=false∨b1=true∧b2=false:=by cases b1 <;> simp_all
   clear e
   rcases o3 with rfl | ⟨rfl,rfl⟩
   all_goals
     go_enter Tryz.func59,Tryz.ntmps59
     go_wp2_with fail
     go_region_held3 (fun w'=>w'.cell? ⟨w.heap.size,0,none⟩=some (.float .f64 lo)∧w'.cell? ⟨w.heap.size,1,none⟩=some (.float .f64 hi)) (first | go_keep | exact⟨by assumption,by assumption⟩)
       (first
         | (go_at_call 60;refine (empty_w _).mono ?_;rintro _ w1 ⟨rfl,hb1⟩
            have s0:w1.cell? ⟨w.heap.size,0,none⟩=some (.float .f64 lo):=(hb1.cell (by simp)).trans (by go_simp)
            have s1:w1.cell? ⟨w.heap.size,1,none⟩=some (.float .f64 hi):=(hb1.cell (by simp)).trans (by go_simp)
            have hz:w.heap.size<w1.heap.size:=by have:=hb1.size;simp at this;omega)
         | (go_at_call 74;refine (hs _).mono ?_;rintro _ w2 ⟨rfl,hb2⟩
            have t0:w2.cell? ⟨w.heap.size,0,none⟩=some (.float .f64 lo):=(hb2.cell hz).trans s0
            have t1:w2.cell? ⟨w.heap.size,1,none⟩=some (.float .f64 hi):=(hb2.cell hz).trans s1))
     all_goals
       go_wp2
       go_ret
       exact⟨rfl,later (later (by go_grown) hb1) hb2⟩
theorem right_w (lo hi:Nat) (hl:lo<18446744073709551616) (hh:hi<18446744073709551616) (w:World) :
   Calls Tryz.prog 59 #[.agg #[.float .f64 lo,.float .f64 hi]] w fun e w'=>e=.returned (.bool (rightB lo hi))∧Below w.heap.size w w' :=
 right_core lo hi _ (fun w=>holdsSome_w lo hi hl hh w) _ _ (o_eq hl (infI_lt 1)) (o_eq hh (infI_lt (-1))) w
theorem abs_w (x:Nat) (hx:x<18446744073709551616) (w:World):Calls Tryz.prog 75 #[.float .f64 x] w fun e w'=>e=.returned (.float .f64 (x%9223372036854775808))∧w=w':=by
 have hn:bits .andNot .u64 (x:Int) 9223372036854775808=((x%9223372036854775808:Nat):Int):=by
   rw [show (9223372036854775808:Int)=((9223372036854775808:Nat):Int) from rfl,u64_andNot_nat x _ hx (by decide),show 18446744073709551615-9223372036854775808=2^63-1 from rfl,Nat.and_two_pow_sub_one_eq_mod]
 generalize x%9223372036854775808=r at *
 go_enter Tryz.func75,Tryz.ntmps75
 go_wp2
 all_goals (go_ret;exact⟨rfl,rfl⟩)
def infB (x:Nat):Bool:=decide (x%9223372036854775808=9218868437227405312)
theorem isInf0_w (x:Nat) (hx:x<18446744073709551616) (w:World):Calls Tryz.prog 61 #[.float .f64 x,.int .i64 0] w fun e w'=>e=.returned (.bool (infB x))∧w=w':=by
 have hm:x%9223372036854775808<18446744073709551616:=by omega
 have ho:(FloatKind.f64.format.order (x%9223372036854775808) 9218868437227405311==some .gt)=infB x:=by
   rw [o_gt hm (by omega)]
   unfold ltB infB nanB key
   rw [if_pos (by omega),if_pos (by omega)]
   rw [Bool.eq_iff_iff]
   simp only [Bool.and_eq_true,Bool.not_eq_true',decide_eq_false_iff_not,decide_eq_true_eq]
   omega
 have ha:=fun w=>abs_w x hx w
 generalize x%9223372036854775808=r at *
 generalize infB x=b at *
 go_enter Tryz.func61,Tryz.ntmps61
 go_wp2_with (go_at_call 75;refine (ha _).mono ?_;rintro _ _ ⟨rfl,rfl⟩)
 all_goals (go_ret;exact⟨rfl,rfl⟩)
def emptyP:Nat×Nat:=(infI 1,infI (-1))
def mirrorP (x:Nat×Nat):Nat×Nat:=makeP (negB x.2) (negB x.1)
def negP (x:Nat×Nat):Nat×Nat:=if hsB x.1 x.2 then mirrorP x else emptyP
theorem mirror_w (lo hi:Nat) (hl:lo<18446744073709551616) (hh:hi<18446744073709551616) (w:World) :
   Calls Tryz.prog 154 #[.agg #[.float .f64 lo,.float .f64 hi]] w fun e w'=>e=.returned (.agg #[.float .f64 (mirrorP (lo,hi)).1,.float .f64 (mirrorP (lo,hi)).2])∧Below w.heap.size w w':=by
 have c:=fun w=>make_w (negB hi) (negB lo) (negB_lt hh) (negB_lt hl) w
 have n1:Op.negFloat .f64 hi=negB hi:=negFloat_eq hi hh
 have n2:Op.negFloat .f64 lo=negB lo:=negFloat_eq lo hl
 unfold mirrorP
 simp only
 generalize makeP (negB hi) (negB lo)=p at *
 generalize negB hi=mh at *
 generalize negB lo=ml at *
 go_enter Tryz.func154,Tryz.ntmps154
 go_wp2_with
  (go_at_call 113;refine (c _).mono ?_;rintro _ w1 ⟨rfl,hb1⟩
   have k1:Has2 w1 (w.heap.size+1) (.float .f64 0) (.float .f64 0):=Has2.keep ⟨by go_simp,by go_simp,by go_simp,by go_simp,by go_size⟩ hb1
   obtain⟨a0,a1,a2,a3,a4⟩:=k1)
 refine bodyPost_ret (v:=.agg #[.float .f64 p.1,.float .f64 p.2]) (by simp [results,Tryz.results154,go_sem, *]) rfl ⟨rfl, ?_⟩
 have t:Below w.heap.size w w1:=later (by go_grown) hb1
 repeat' (first | (with_reducible exact t) | (with_reducible refine Below.setCell ?_ ?_ _) | go_size)
set_option maxHeartbeats 1000000 in
theorem add_i (xl xh yl yh:Nat) (h1:xl<18446744073709551616) (h2:xh<18446744073709551616) (h3:yl<18446744073709551616) (h4:yh<18446744073709551616) (o1 o2:Option Nat)
   (ca:∀w,Calls Tryz.prog 152 #[.float .f64 xl,.float .f64 yl,.int .i64 (-1)] w fun x w'=>Ans o1 x∧Below w.heap.size w w') (cb:∀w,Calls Tryz.prog 152 #[.float .f64 xh,.float .f64 yh,.int .i64 1] w fun x w'=>Ans o2 x∧Below w.heap.size w w')
   (hs:(hsB xl xh&&hsB yl yh)=true) (w:World) :
   Calls Tryz.prog 141 #[.agg #[.float .f64 xl,.float .f64 xh],.agg #[.float .f64 yl,.float .f64 yh]] w fun e w'=>(∃r1 r2,e=.returned (.agg #[.float .f64 r1,.float .f64 r2])∧Told o1 r1∧Told o2 r2)∧Below w.heap.size w w':=by
 have c1:=fun b W hlt c0 c1 c2 c3=>someEmpty2_w b xl xh yl yh h1 h2 h3 h4 W hlt c0 c1 c2 c3
 rw [hs] at c1
 clear hs h1 h2 h3 h4
 go_enter Tryz.func141,Tryz.ntmps141
 go_upto_region 3 with
  (go_at_call 114;refine (c1 (w.heap.size+1+1+1) _ (by go_size) (by go_simp) (by go_simp) (by go_simp) (by go_simp)).mono ?_;rintro _ w1 ⟨rfl,hb1⟩
   have R:Has2 w1 (w.heap.size+1+1) (.float .f64 0) (.float .f64 0):=Has2.keep ⟨by go_simp,by go_simp,by go_simp,by go_simp,by go_size⟩ hb1
   have X:Has2 w1 w.heap.size (.float .f64 xl) (.float .f64 xh):=Has2.keep ⟨by go_simp,by go_simp,by go_simp,by go_simp,by go_size⟩ hb1
   have Y:Has2 w1 (w.heap.size+1) (.float .f64 yl) (.float .f64 yh):=Has2.keep ⟨by go_simp,by go_simp,by go_simp,by go_simp,by go_size⟩ hb1
   have HB:Below w.heap.size w w1:=later (by go_grown) hb1)
 clear hb1
 have X':Has2 w1.drew w.heap.size (.float .f64 xl) (.float .f64 xh):=X
 have Y':Has2 w1.drew (w.heap.size+1) (.float .f64 yl) (.float .f64 yh):=Y
 have R':Has2 w1.drew (w.heap.size+1+1) (.float .f64 0) (.float .f64 0):=R
 have HB':Below w.heap.size w w1.drew:=HB.drew
 clear X Y R HB
 have ne1:w.heap.size+1+1≠w.heap.size:=by omega
 have ne2:w.heap.size≠w.heap.size+1+1:=by omega
 go_region_held3 (fun w'=>w'.cell? ⟨w.heap.size,0,none⟩=some (.float .f64 xl)∧w'.cell? ⟨w.heap.size,1,none⟩=some (.float .f64 xh)∧w'.cell? ⟨w.heap.size+1,0,none⟩=some (.float .f64 yl)∧w'.cell? ⟨w.heap.size+1,1,none⟩=some (.float .f64 yh)) (first | exact⟨X'.1,X'.2.1,Y'.1,Y'.2.1⟩ | go_keep)
   (first
     | (go_at_call_of 152 (Value.float .f64 xl);refine (ca _).mono ?_;rintro _ w2 ⟨⟨r1,rfl,t1⟩,hb1⟩;replace X':=X'.keep hb1;replace Y':=Y'.keep hb1;replace R':=R'.keep hb1;replace HB':=later HB' hb1;clear hb1)
     | (go_at_call_of 152 (Value.float .f64 xh);refine (cb _).mono ?_;rintro _ w3 ⟨⟨r2,rfl,t2⟩,hb1⟩;replace X':=X'.keep hb1;replace Y':=Y'.keep hb1;replace R':=R'.keep hb1;replace HB':=later HB' hb1;clear hb1;obtain⟨d0,d1,d2,d3,d4⟩:=R'))
 all_goals
   go_wp2_with fail
   refine bodyPost_ret (v:=.agg #[.float .f64 r1,.float .f64 r2]) (by simp [results,Tryz.results141,go_sem, *]) rfl ⟨⟨r1,r2,rfl,t1,t2⟩, ?_⟩
   repeat' (first | (with_reducible exact HB') | (with_reducible refine Below.setCell ?_ ?_ _) | go_size)
set_option maxHeartbeats 1000000 in
theorem sub_i (xl xh yl yh nl nh:Nat) (o1 o2:Option Nat)
   (cn:∀w,Calls Tryz.prog 150 #[.agg #[.float .f64 yl,.float .f64 yh]] w fun e w'=>e=.returned (.agg #[.float .f64 nl,.float .f64 nh])∧Below w.heap.size w w')
   (ca:∀w,Calls Tryz.prog 141 #[.agg #[.float .f64 xl,.float .f64 xh],.agg #[.float .f64 nl,.float .f64 nh]] w fun e w'=>(∃r1 r2,e=.returned (.agg #[.float .f64 r1,.float .f64 r2])∧Told o1 r1∧Told o2 r2)∧Below w.heap.size w w') (w:World) :
   Calls Tryz.prog 151 #[.agg #[.float .f64 xl,.float .f64 xh],.agg #[.float .f64 yl,.float .f64 yh]] w fun e w'=>(∃r1 r2,e=.returned (.agg #[.float .f64 r1,.float .f64 r2])∧Told o1 r1∧Told o2 r2)∧Below w.heap.size w w':=by
 go_enter Tryz.func151,Tryz.ntmps151
 go_upto_region 1 with fail
 have X:Has2 (((w.alloc (Obj.cells #[Value.float FloatKind.f64 xl,Value.float FloatKind.f64 xh] 43)).alloc (Obj.cells #[Value.float FloatKind.f64 yl,Value.float FloatKind.f64 yh] 43)).alloc (Obj.cells #[Value.float FloatKind.f64 0,Value.float FloatKind.f64 0] 43)).drew w.heap.size (.float .f64 xl) (.float .f64 xh):=⟨by go_simp,by go_simp,by go_simp,by go_simp,by go_size⟩
 have Y:Has2 (((w.alloc (Obj.cells #[Value.float FloatKind.f64 xl,Value.float FloatKind.f64 xh] 43)).alloc (Obj.cells #[Value.float FloatKind.f64 yl,Value.float FloatKind.f64 yh] 43)).alloc (Obj.cells #[Value.float FloatKind.f64 0,Value.float FloatKind.f64 0] 43)).drew (w.heap.size+1) (.float .f64 yl) (.float .f64 yh):=⟨by go_simp,by go_simp,by go_simp,by go_simp,by go_size⟩
 have R:Has2 (((w.alloc (Obj.cells #[Value.float FloatKind.f64 xl,Value.float FloatKind.f64 xh] 43)).alloc (Obj.cells #[Value.float FloatKind.f64 yl,Value.float FloatKind.f64 yh] 43)).alloc (Obj.cells #[Value.float FloatKind.f64 0,Value.float FloatKind.f64 0] 43)).drew (w.heap.size+1+1) (.float .f64 0) (.float .f64 0):=⟨by go_simp,by go_simp,by go_simp,by go_simp,by go_size⟩
 have HB:Below w.heap.size w (((w.alloc (Obj.cells #[Value.float FloatKind.f64 xl,Value.float FloatKind.f64 xh] 43)).alloc (Obj.cells #[Value.float FloatKind.f64 yl,Value.float FloatKind.f64 yh] 43)).alloc (Obj.cells #[Value.float FloatKind.f64 0,Value.float FloatKind.f64 0] 43)).drew:=by go_grown
 have ne1:w.heap.size+1+1≠w.heap.size:=by omega
 have ne2:w.heap.size≠w.heap.size+1+1:=by omega
 go_region_held3 (fun w'=>w'.cell? ⟨w.heap.size,0,none⟩=some (.float .f64 xl)∧w'.cell? ⟨w.heap.size,1,none⟩=some (.float .f64 xh)∧w'.cell? ⟨w.heap.size+1,0,none⟩=some (.float .f64 yl)∧w'.cell? ⟨w.heap.size+1,1,none⟩=some (.float .f64 yh)) (first | exact⟨X.1,X.2.1,Y.1,Y.2.1⟩ | go_keep)
   (first
     | (go_at_call 150;refine (cn _).mono ?_;rintro _ w2 ⟨rfl,hb1⟩;replace X:=X.keep hb1;replace Y:=Y.keep hb1;replace R:=R.keep hb1;replace HB:=later HB hb1;clear hb1)
     | (go_at_call 141;refine (ca _).mono ?_;rintro _ w3 ⟨⟨r1,r2,rfl,t1,t2⟩,hb1⟩;replace X:=X.keep hb1;replace Y:=Y.keep hb1;replace R:=R.keep hb1;replace HB:=later HB hb1;clear hb1;obtain⟨d0,d1,d2,d3,d4⟩:=R))
 all_goals
   go_wp2_with fail
   refine bodyPost_ret (v:=.agg #[.float .f64 r1,.float .f64 r2]) (by simp [results,Tryz.results151,go_sem, *]) rfl ⟨⟨r1,r2,rfl,t1,t2⟩, ?_⟩
   repeat' (first | (with_reducible exact HB) | (with_reducible refine Below.setCell ?_ ?_ _) | go_size)
def mulD (a b:Nat):Nat:=(mulR a b (-1)).getD 0
def lpP (a fl fh:Nat):Nat:=if ltB a 0 then mulD a fh else mulD a fl
theorem mulR_num {a b:Nat} (dir:Int) (na:nanB a=false) (nb:nanB b=false):∃r,mulR a b dir=some r:=by
 unfold mulR
 rw [na,nb]
 simp only [Bool.or_self,Bool.false_eq_true,if_false]
 split
 · exact⟨_,rfl⟩
 · split <;> exact⟨_,rfl⟩
theorem mulD_is {a b:Nat} (na:nanB a=false) (nb:nanB b=false):mulR a b (-1)=some (mulD a b):=by
 obtain⟨r,h⟩:=mulR_num (-1) na nb
 unfold mulD
 rw [h];rfl
theorem mulD_w (a b:Nat) (ha:a<18446744073709551616) (hb:b<18446744073709551616) (na:nanB a=false) (nb:nanB b=false) (w:World) :
   Calls Tryz.prog 164 #[.float .f64 a,.float .f64 b,.int .i64 (-1)] w fun e w'=>e=.returned (.float .f64 (mulD a b))∧Below w.heap.size w w':=by
 have h:=mul_w a b (-1) ha hb w
 rw [mulD_is na nb] at h
 refine h.mono ?_
 rintro _ _ ⟨⟨r,rfl, -,e⟩,hb⟩
 have e:r=mulD a b:=e
 rw [e]
 exact⟨rfl,hb⟩
theorem lp_w (a fl fh:Nat) (ha:a<18446744073709551616) (h1:fl<18446744073709551616) (h2:fh<18446744073709551616) (na:nanB a=false) (n1:nanB fl=false) (n2:nanB fh=false) (w:World) :
   Calls Tryz.prog 187 #[.float .f64 a,.agg #[.float .f64 fl,.float .f64 fh]] w fun e w'=>e=.returned (.float .f64 (lpP a fl fh))∧Below w.heap.size w w':=by
 have o:=o_lt ha (show 0<18446744073709551616 by omega)
 have c1:=fun w=>mulD_w a fh ha h2 na n2 w
 have c2:=fun w=>mulD_w a fl ha h1 na n1 w
 unfold lpP
 generalize mulD a fh=r1 at *
 generalize mulD a fl=r2 at *
 generalize ltB a 0=b at *
 clear ha h1 h2 na n1 n2
 cases b
 · go_enter Tryz.func187,Tryz.ntmps187
   go_wp2_with (go_at_call 164;refine (c2 _).mono ?_;rintro _ w1 ⟨rfl,hb1⟩)
   go_ret
   exact⟨rfl,later (by go_grown) hb1⟩
 · go_enter Tryz.func187,Tryz.ntmps187
   go_wp2_with (go_at_call 164;refine (c1 _).mono ?_;rintro _ w1 ⟨rfl,hb1⟩)
   go_ret
   exact⟨rfl,later (by go_grown) hb1⟩
set_option maxHeartbeats 1000000 in
theorem stretch_core (xl xh fl fh nx p1 p2 np m1 m2:Nat) (e1:Op.negFloat .f64 xh=nx) (e2:Op.negFloat .f64 p2=np)
   (c1:∀w,Calls Tryz.prog 187 #[.float .f64 xl,.agg #[.float .f64 fl,.float .f64 fh]] w fun e w'=>e=.returned (.float .f64 p1)∧Below w.heap.size w w')
   (c2:∀w,Calls Tryz.prog 187 #[.float .f64 nx,.agg #[.float .f64 fl,.float .f64 fh]] w fun e w'=>e=.returned (.float .f64 p2)∧Below w.heap.size w w')
   (c3:∀w,Calls Tryz.prog 113 #[.float .f64 p1,.float .f64 np] w fun e w'=>e=.returned (.agg #[.float .f64 m1,.float .f64 m2])∧Below w.heap.size w w') (w:World) :
   Calls Tryz.prog 163 #[.agg #[.float .f64 xl,.float .f64 xh],.agg #[.float .f64 fl,.float .f64 fh]] w fun e w'=>e=.returned (.agg #[.float .f64 m1,.float .f64 m2])∧Below w.heap.size w w':=by
 go_enter Tryz.func163,Tryz.ntmps163
 go_upto_region 1 with fail
 have X:Has2 (((w.alloc (Obj.cells #[Value.float FloatKind.f64 xl,Value.float FloatKind.f64 xh] 43)).alloc (Obj.cells #[Value.float FloatKind.f64 fl,Value.float FloatKind.f64 fh] 43)).alloc (Obj.cells #[Value.float FloatKind.f64 0,Value.float FloatKind.f64 0] 43)).drew w.heap.size (.float .f64 xl) (.float .f64 xh):=⟨by go_simp,by go_simp,by go_simp,by go_simp,by go_size⟩
 have Y:Has2 (((w.alloc (Obj.cells #[Value.float FloatKind.f64 xl,Value.float FloatKind.f64 xh] 43)).alloc (Obj.cells #[Value.float FloatKind.f64 fl,Value.float FloatKind.f64 fh] 43)).alloc (Obj.cells #[Value.float FloatKind.f64 0,Value.float FloatKind.f64 0] 43)).drew (w.heap.size+1) (.float .f64 fl) (.float .f64 fh):=⟨by go_simp,by go_simp,by go_simp,by go_simp,by go_size⟩
 have R:Has2 (((w.alloc (Obj.cells #[Value.float FloatKind.f64 xl,Value.float FloatKind.f64 xh] 43)).alloc (Obj.cells #[Value.float FloatKind.f64 fl,Value.float FloatKind.f64 fh] 43)).alloc (Obj.cells #[Value.float FloatKind.f64 0,Value.float FloatKind.f64 0] 43)).drew (w.heap.size+1+1) (.float .f64 0) (.float .f64 0):=⟨by go_simp,by go_simp,by go_simp,by go_simp,by go_size⟩
 have HB:Below w.heap.size w (((w.alloc (Obj.cells #[Value.float FloatKind.f64 xl,Value.float FloatKind.f64 xh] 43)).alloc (Obj.cells #[Value.float FloatKind.f64 fl,Value.float FloatKind.f64 fh] 43)).alloc (Obj.cells #[Value.float FloatKind.f64 0,Value.float FloatKind.f64 0] 43)).drew:=by go_grown
 have ne1:w.heap.size+1+1≠w.heap.size:=by omega
 have ne2:w.heap.size≠w.heap.size+1+1:=by omega
 go_region_held3 (fun w'=>w'.cell? ⟨w.heap.size,0,none⟩=some (.float .f64 xl)∧w'.cell? ⟨w.heap.size,1,none⟩=some (.float .f64 xh)∧w'.cell? ⟨w.heap.size+1,0,none⟩=some (.float .f64 fl)∧w'.cell? ⟨w.heap.size+1,1,none⟩=some (.float .f64 fh)) (first | exact⟨X.1,X.2.1,Y.1,Y.2.1⟩ | go_keep)
   (first
     | (go_at_call_of 187 (Value.float .f64 xl);refine (c1 _).mono ?_;rintro _ w2 ⟨rfl,hb1⟩;replace X:=X.keep hb1;replace Y:=Y.keep hb1;replace R:=R.keep hb1;replace HB:=later HB hb1;clear hb1)
     | (go_at_call_of 187 (Value.float .f64 nx);refine (c2 _).mono ?_;rintro _ w2 ⟨rfl,hb1⟩;replace X:=X.keep hb1;replace Y:=Y.keep hb1;replace R:=R.keep hb1;replace HB:=later HB hb1;clear hb1)
     | (go_at_call 113;refine (c3 _).mono ?_;rintro _ w3 ⟨rfl,hb1⟩;replace X:=X.keep hb1;replace Y:=Y.keep hb1;replace R:=R.keep hb1;replace HB:=later HB hb1;clear hb1;obtain⟨d0,d1,d2,d3,d4⟩:=R))
 all_goals
   go_wp2_with fail
   refine bodyPost_ret (v:=.agg #[.float .f64 m1,.float .f64 m2]) (by simp [results,Tryz.results163,go_sem, *]) rfl ⟨rfl, ?_⟩
   repeat' (first | (with_reducible exact HB) | (with_reducible refine Below.setCell ?_ ?_ _) | go_size)
def minW (a b:Nat):Nat:=if key a<key b then a else if key a=key b then (if (FloatKind.f64.decode a).neg then a else b) else b
def maxW (a b:Nat):Nat:=if key a<key b then b else if key a=key b then (if (FloatKind.f64.decode a).neg then b else a) else a
theorem min_f {a b:Nat} (ha:a<18446744073709551616) (hb:b<18446744073709551616) (na:nanB a=false) (nb:nanB b=false) (P:Program) (ts:Array TypeId) (t:TypeId) (w:World) :
   (Builtin.min_ ts t #[.float .f64 a,.float .f64 b]).run P w=.ok (.float .f64 (minW a b)) w:=by
 have o:=order_eq a b ha hb
 rw [na,nb] at o
 simp only [Bool.or_self,Bool.false_eq_true,if_false,compare_int] at o
 unfold minW
 by_cases c:key a<key b
 · rw [if_pos c] at o
   simp [Builtin.min_,Builtin.min2,o,c]
 · rw [if_neg c] at o
   by_cases d:key a=key b
   · rw [if_pos d] at o
     simp [Builtin.min_,Builtin.min2,o,d]
   · rw [if_neg d] at o
     simp [Builtin.min_,Builtin.min2,o,c,d]
theorem max_f {a b:Nat} (ha:a<18446744073709551616) (hb:b<18446744073709551616) (na:nanB a=false) (nb:nanB b=false) (P:Program) (ts:Array TypeId) (t:TypeId) (w:World) :
   (Builtin.max_ ts t #[.float .f64 a,.float .f64 b]).run P w=.ok (.float .f64 (maxW a b)) w:=by
 have o:=order_eq a b ha hb
 rw [na,nb] at o
 simp only [Bool.or_self,Bool.false_eq_true,if_false,compare_int] at o
 unfold maxW
 by_cases c:key a<key b
 · rw [if_pos c] at o
   simp [Builtin.max_,Builtin.max2,o,c]
 · rw [if_neg c] at o
   by_cases d:key a=key b
   · rw [if_pos d] at o
     simp [Builtin.max_,Builtin.max2,o,d]
   · rw [if_neg d] at o
     simp [Builtin.max_,Builtin.max2,o,c,d]
theorem minW_key (a b:Nat):key (minW a b)=min (key a) (key b)∧(minW a b=a∨minW a b=b):=by
 unfold minW
 split
 · exact⟨by omega,Or.inl rfl⟩
 · split
   · split
     · exact⟨by omega,Or.inl rfl⟩
     · exact⟨by omega,Or.inr rfl⟩
   · exact⟨by omega,Or.inr rfl⟩
theorem maxW_key (a b:Nat):key (maxW a b)=max (key a) (key b)∧(maxW a b=a∨maxW a b=b):=by
 unfold maxW
 split
 · exact⟨by omega,Or.inr rfl⟩
 · split
   · split
     · exact⟨by omega,Or.inr rfl⟩
     · exact⟨by omega,Or.inl rfl⟩
   · exact⟨by omega,Or.inl rfl⟩
set_option maxHeartbeats 1000000 in
theorem mul_a (xl xh yl yh  m1 m2:Nat) (c0:∀b W,b<W.heap.size→W.cell? ⟨b,0,none⟩=some (.float .f64 xl)→W.cell? ⟨b,1,none⟩=some (.float .f64 xh)→W.cell? ⟨b,2,none⟩=some (.float .f64 yl)→W.cell? ⟨b,3,none⟩=some (.float .f64 yh)→Calls Tryz.prog 114 #[.slice (some ⟨b,0,none⟩) 2 2] W fun e w'=>e=.returned (.bool false)∧Below W.heap.size W w')
   (g_xl:(FloatKind.f64.format.order xl 0==some .gt || FloatKind.f64.format.order xl 0==some .eq)=true)
   (c1:(∀w,Calls Tryz.prog 163 #[.agg #[.float .f64 yl,.float .f64 yh],.agg #[.float .f64 xl,.float .f64 xh]] w fun e w'=>e=.returned (.agg #[.float .f64 m1,.float .f64 m2])∧Below w.heap.size w w')) (w:World) :
   Calls Tryz.prog 149 #[.agg #[.float .f64 xl,.float .f64 xh],.agg #[.float .f64 yl,.float .f64 yh]] w fun e w'=>e=.returned (.agg #[.float .f64 m1,.float .f64 m2])∧Below w.heap.size w w':=by
 go_enter Tryz.func149,Tryz.ntmps149
 go_upto_region 4 with
  (go_at_call 114;refine (c0 (w.heap.size+1+1+1) _ (by go_size) (by go_simp) (by go_simp) (by go_simp) (by go_simp)).mono ?_;rintro _ w1 ⟨rfl,hb1⟩
   have R:Has2 w1 (w.heap.size+1+1) (.float .f64 0) (.float .f64 0):=Has2.keep ⟨by go_simp,by go_simp,by go_simp,by go_simp,by go_size⟩ hb1
   have X:Has2 w1 w.heap.size (.float .f64 xl) (.float .f64 xh):=Has2.keep ⟨by go_simp,by go_simp,by go_simp,by go_simp,by go_size⟩ hb1
   have Y:Has2 w1 (w.heap.size+1) (.float .f64 yl) (.float .f64 yh):=Has2.keep ⟨by go_simp,by go_simp,by go_simp,by go_simp,by go_size⟩ hb1
   have HB:Below w.heap.size w w1:=later (by go_grown) hb1
   have x0:=X.1;have x1:=X.2.1;have y0:=Y.1;have y1:=Y.2.1)
 clear hb1 c0
 have ne1:w.heap.size+1+1≠w.heap.size:=by omega
 have ne2:w.heap.size≠w.heap.size+1+1:=by omega
 go_wp2_with (go_at_call 163;refine (c1 _).mono ?_;rintro _ w3 ⟨rfl,hb1⟩;replace X:=X.keep hb1;replace Y:=Y.keep hb1;replace R:=R.keep hb1;replace HB:=later HB hb1;clear hb1;obtain⟨d0,d1,d2,d3,d4⟩:=R)
 all_goals
   refine bodyPost_ret (v:=.agg #[.float .f64 m1,.float .f64 m2]) (by simp [results,Tryz.results149,go_sem, *]) rfl ⟨rfl, ?_⟩
   repeat' (first | (with_reducible exact HB) | (with_reducible refine Below.setCell ?_ ?_ _) | go_size)
set_option maxHeartbeats 1000000 in
theorem mul_b (xl xh yl yh n1 n2 s1 s2 m1 m2:Nat) (c0:∀b W,b<W.heap.size→W.cell? ⟨b,0,none⟩=some (.float .f64 xl)→W.cell? ⟨b,1,none⟩=some (.float .f64 xh)→W.cell? ⟨b,2,none⟩=some (.float .f64 yl)→W.cell? ⟨b,3,none⟩=some (.float .f64 yh)→Calls Tryz.prog 114 #[.slice (some ⟨b,0,none⟩) 2 2] W fun e w'=>e=.returned (.bool false)∧Below W.heap.size W w')
   (g_xl:(FloatKind.f64.format.order xl 0==some .gt || FloatKind.f64.format.order xl 0==some .eq)=false) (l_xh:(FloatKind.f64.format.order xh 0==some .lt || FloatKind.f64.format.order xh 0==some .eq)=true)
   (c1:(∀w,Calls Tryz.prog 154 #[.agg #[.float .f64 xl,.float .f64 xh]] w fun e w'=>e=.returned (.agg #[.float .f64 n1,.float .f64 n2])∧Below w.heap.size w w')) (c2:(∀w,Calls Tryz.prog 163 #[.agg #[.float .f64 yl,.float .f64 yh],.agg #[.float .f64 n1,.float .f64 n2]] w fun e w'=>e=.returned (.agg #[.float .f64 s1,.float .f64 s2])∧Below w.heap.size w w')) (c3:(∀w,Calls Tryz.prog 154 #[.agg #[.float .f64 s1,.float .f64 s2]] w fun e w'=>e=.returned (.agg #[.float .f64 m1,.float .f64 m2])∧Below w.heap.size w w')) (w:World) :
   Calls Tryz.prog 149 #[.agg #[.float .f64 xl,.float .f64 xh],.agg #[.float .f64 yl,.float .f64 yh]] w fun e w'=>e=.returned (.agg #[.float .f64 m1,.float .f64 m2])∧Below w.heap.size w w':=by
 go_enter Tryz.func149,Tryz.ntmps149
 go_upto_region 6 with
  (go_at_call 114;refine (c0 (w.heap.size+1+1+1) _ (by go_size) (by go_simp) (by go_simp) (by go_simp) (by go_simp)).mono ?_;rintro _ w1 ⟨rfl,hb1⟩
   have R:Has2 w1 (w.heap.size+1+1) (.float .f64 0) (.float .f64 0):=Has2.keep ⟨by go_simp,by go_simp,by go_simp,by go_simp,by go_size⟩ hb1
   have X:Has2 w1 w.heap.size (.float .f64 xl) (.float .f64 xh):=Has2.keep ⟨by go_simp,by go_simp,by go_simp,by go_simp,by go_size⟩ hb1
   have Y:Has2 w1 (w.heap.size+1) (.float .f64 yl) (.float .f64 yh):=Has2.keep ⟨by go_simp,by go_simp,by go_simp,by go_simp,by go_size⟩ hb1
   have HB:Below w.heap.size w w1:=later (by go_grown) hb1
   have x0:=X.1;have x1:=X.2.1;have y0:=Y.1;have y1:=Y.2.1)
 clear hb1 c0
 have ne1:w.heap.size+1+1≠w.heap.size:=by omega
 have ne2:w.heap.size≠w.heap.size+1+1:=by omega
 have X:Has2 w1.drew w.heap.size (.float .f64 xl) (.float .f64 xh):=X
 have Y:Has2 w1.drew (w.heap.size+1) (.float .f64 yl) (.float .f64 yh):=Y
 have R:Has2 w1.drew (w.heap.size+1+1) (.float .f64 0) (.float .f64 0):=R
 have HB:Below w.heap.size w w1.drew:=HB.drew
 go_region_held3 (fun w'=>w'.cell? ⟨w.heap.size,0,none⟩=some (.float .f64 xl)∧w'.cell? ⟨w.heap.size,1,none⟩=some (.float .f64 xh)∧w'.cell? ⟨w.heap.size+1,0,none⟩=some (.float .f64 yl)∧w'.cell? ⟨w.heap.size+1,1,none⟩=some (.float .f64 yh)) (first | exact⟨X.1,X.2.1,Y.1,Y.2.1⟩ | go_keep)
   (first
     | (go_at_call_of 154 (Value.agg #[.float .f64 xl,.float .f64 xh]);refine (c1 _).mono ?_;rintro _ w2 ⟨rfl,hb1⟩;replace X:=X.keep hb1;replace Y:=Y.keep hb1;replace R:=R.keep hb1;replace HB:=later HB hb1;clear hb1)
     | (go_at_call 163;refine (c2 _).mono ?_;rintro _ w2 ⟨rfl,hb1⟩;replace X:=X.keep hb1;replace Y:=Y.keep hb1;replace R:=R.keep hb1;replace HB:=later HB hb1;clear hb1)
     | (go_at_call_of 154 (Value.agg #[.float .f64 s1,.float .f64 s2]);refine (c3 _).mono ?_;rintro _ w2 ⟨rfl,hb1⟩;replace X:=X.keep hb1;replace Y:=Y.keep hb1;replace R:=R.keep hb1;replace HB:=later HB hb1;clear hb1;obtain⟨d0,d1,d2,d3,d4⟩:=R))
 all_goals
   go_wp2_with fail
   refine bodyPost_ret (v:=.agg #[.float .f64 m1,.float .f64 m2]) (by simp [results,Tryz.results149,go_sem, *]) rfl ⟨rfl, ?_⟩
   repeat' (first | (with_reducible exact HB) | (with_reducible refine Below.setCell ?_ ?_ _) | go_size)
set_option maxHeartbeats 1000000 in
theorem mul_c (xl xh yl yh  m1 m2:Nat) (c0:∀b W,b<W.heap.size→W.cell? ⟨b,0,none⟩=some (.float .f64 xl)→W.cell? ⟨b,1,none⟩=some (.float .f64 xh)→W.cell? ⟨b,2,none⟩=some (.float .f64 yl)→W.cell? ⟨b,3,none⟩=some (.float .f64 yh)→Calls Tryz.prog 114 #[.slice (some ⟨b,0,none⟩) 2 2] W fun e w'=>e=.returned (.bool false)∧Below W.heap.size W w')
   (g_xl:(FloatKind.f64.format.order xl 0==some .gt || FloatKind.f64.format.order xl 0==some .eq)=false) (l_xh:(FloatKind.f64.format.order xh 0==some .lt || FloatKind.f64.format.order xh 0==some .eq)=false) (g_yl:(FloatKind.f64.format.order yl 0==some .gt || FloatKind.f64.format.order yl 0==some .eq)=true)
   (c1:(∀w,Calls Tryz.prog 163 #[.agg #[.float .f64 xl,.float .f64 xh],.agg #[.float .f64 yl,.float .f64 yh]] w fun e w'=>e=.returned (.agg #[.float .f64 m1,.float .f64 m2])∧Below w.heap.size w w')) (w:World) :
   Calls Tryz.prog 149 #[.agg #[.float .f64 xl,.float .f64 xh],.agg #[.float .f64 yl,.float .f64 yh]] w fun e w'=>e=.returned (.agg #[.float .f64 m1,.float .f64 m2])∧Below w.heap.size w w':=by
 go_enter Tryz.func149,Tryz.ntmps149
 go_upto_region 8 with
  (go_at_call 114;refine (c0 (w.heap.size+1+1+1) _ (by go_size) (by go_simp) (by go_simp) (by go_simp) (by go_simp)).mono ?_;rintro _ w1 ⟨rfl,hb1⟩
   have R:Has2 w1 (w.heap.size+1+1) (.float .f64 0) (.float .f64 0):=Has2.keep ⟨by go_simp,by go_simp,by go_simp,by go_simp,by go_size⟩ hb1
   have X:Has2 w1 w.heap.size (.float .f64 xl) (.float .f64 xh):=Has2.keep ⟨by go_simp,by go_simp,by go_simp,by go_simp,by go_size⟩ hb1
   have Y:Has2 w1 (w.heap.size+1) (.float .f64 yl) (.float .f64 yh):=Has2.keep ⟨by go_simp,by go_simp,by go_simp,by go_simp,by go_size⟩ hb1
   have HB:Below w.heap.size w w1:=later (by go_grown) hb1
   have x0:=X.1;have x1:=X.2.1;have y0:=Y.1;have y1:=Y.2.1)
 clear hb1 c0
 have ne1:w.heap.size+1+1≠w.heap.size:=by omega
 have ne2:w.heap.size≠w.heap.size+1+1:=by omega
 go_wp2_with (go_at_call 163;refine (c1 _).mono ?_;rintro _ w3 ⟨rfl,hb1⟩;replace X:=X.keep hb1;replace Y:=Y.keep hb1;replace R:=R.keep hb1;replace HB:=later HB hb1;clear hb1;obtain⟨d0,d1,d2,d3,d4⟩:=R)
 all_goals
   refine bodyPost_ret (v:=.agg #[.float .f64 m1,.float .f64 m2]) (by simp [results,Tryz.results149,go_sem, *]) rfl ⟨rfl, ?_⟩
   repeat' (first | (with_reducible exact HB) | (with_reducible refine Below.setCell ?_ ?_ _) | go_size)
set_option maxHeartbeats 1000000 in
theorem mul_d (xl xh yl yh n1 n2 s1 s2 m1 m2:Nat) (c0:∀b W,b<W.heap.size→W.cell? ⟨b,0,none⟩=some (.float .f64 xl)→W.cell? ⟨b,1,none⟩=some (.float .f64 xh)→W.cell? ⟨b,2,none⟩=some (.float .f64 yl)→W.cell? ⟨b,3,none⟩=some (.float .f64 yh)→Calls Tryz.prog 114 #[.slice (some ⟨b,0,none⟩) 2 2] W fun e w'=>e=.returned (.bool false)∧Below W.heap.size W w')
   (g_xl:(FloatKind.f64.format.order xl 0==some .gt || FloatKind.f64.format.order xl 0==some .eq)=false) (l_xh:(FloatKind.f64.format.order xh 0==some .lt || FloatKind.f64.format.order xh 0==some .eq)=false) (g_yl:(FloatKind.f64.format.order yl 0==some .gt || FloatKind.f64.format.order yl 0==some .eq)=false) (l_yh:(FloatKind.f64.format.order yh 0==some .lt || FloatKind.f64.format.order yh 0==some .eq)=true)
   (c1:(∀w,Calls Tryz.prog 154 #[.agg #[.float .f64 yl,.float .f64 yh]] w fun e w'=>e=.returned (.agg #[.float .f64 n1,.float .f64 n2])∧Below w.heap.size w w')) (c2:(∀w,Calls Tryz.prog 163 #[.agg #[.float .f64 xl,.float .f64 xh],.agg #[.float .f64 n1,.float .f64 n2]] w fun e w'=>e=.returned (.agg #[.float .f64 s1,.float .f64 s2])∧Below w.heap.size w w')) (c3:(∀w,Calls Tryz.prog 154 #[.agg #[.float .f64 s1,.float .f64 s2]] w fun e w'=>e=.returned (.agg #[.float .f64 m1,.float .f64 m2])∧Below w.heap.size w w')) (w:World) :
   Calls Tryz.prog 149 #[.agg #[.float .f64 xl,.float .f64 xh],.agg #[.float .f64 yl,.float .f64 yh]] w fun e w'=>e=.returned (.agg #[.float .f64 m1,.float .f64 m2])∧Below w.heap.size w w':=by
 go_enter Tryz.func149,Tryz.ntmps149
 go_upto_region 10 with
  (go_at_call 114;refine (c0 (w.heap.size+1+1+1) _ (by go_size) (by go_simp) (by go_simp) (by go_simp) (by go_simp)).mono ?_;rintro _ w1 ⟨rfl,hb1⟩
   have R:Has2 w1 (w.heap.size+1+1) (.float .f64 0) (.float .f64 0):=Has2.keep ⟨by go_simp,by go_simp,by go_simp,by go_simp,by go_size⟩ hb1
   have X:Has2 w1 w.heap.size (.float .f64 xl) (.float .f64 xh):=Has2.keep ⟨by go_simp,by go_simp,by go_simp,by go_simp,by go_size⟩ hb1
   have Y:Has2 w1 (w.heap.size+1) (.float .f64 yl) (.float .f64 yh):=Has2.keep ⟨by go_simp,by go_simp,by go_simp,by go_simp,by go_size⟩ hb1
   have HB:Below w.heap.size w w1:=later (by go_grown) hb1
   have x0:=X.1;have x1:=X.2.1;have y0:=Y.1;have y1:=Y.2.1)
 clear hb1 c0
 have ne1:w.heap.size+1+1≠w.heap.size:=by omega
 have ne2:w.heap.size≠w.heap.size+1+1:=by omega
 have X:Has2 w1.drew w.heap.size (.float .f64 xl) (.float .f64 xh):=X
 have Y:Has2 w1.drew (w.heap.size+1) (.float .f64 yl) (.float .f64 yh):=Y
 have R:Has2 w1.drew (w.heap.size+1+1) (.float .f64 0) (.float .f64 0):=R
 have HB:Below w.heap.size w w1.drew:=HB.drew
 go_region_held3 (fun w'=>w'.cell? ⟨w.heap.size,0,none⟩=some (.float .f64 xl)∧w'.cell? ⟨w.heap.size,1,none⟩=some (.float .f64 xh)∧w'.cell? ⟨w.heap.size+1,0,none⟩=some (.float .f64 yl)∧w'.cell? ⟨w.heap.size+1,1,none⟩=some (.float .f64 yh)) (first | exact⟨X.1,X.2.1,Y.1,Y.2.1⟩ | go_keep)
   (first
     | (go_at_call_of 154 (Value.agg #[.float .f64 yl,.float .f64 yh]);refine (c1 _).mono ?_;rintro _ w2 ⟨rfl,hb1⟩;replace X:=X.keep hb1;replace Y:=Y.keep hb1;replace R:=R.keep hb1;replace HB:=later HB hb1;clear hb1)
     | (go_at_call 163;refine (c2 _).mono ?_;rintro _ w2 ⟨rfl,hb1⟩;replace X:=X.keep hb1;replace Y:=Y.keep hb1;replace R:=R.keep hb1;replace HB:=later HB hb1;clear hb1)
     | (go_at_call_of 154 (Value.agg #[.float .f64 s1,.float .f64 s2]);refine (c3 _).mono ?_;rintro _ w2 ⟨rfl,hb1⟩;replace X:=X.keep hb1;replace Y:=Y.keep hb1;replace R:=R.keep hb1;replace HB:=later HB hb1;clear hb1;obtain⟨d0,d1,d2,d3,d4⟩:=R))
 all_goals
   go_wp2_with fail
   refine bodyPost_ret (v:=.agg #[.float .f64 m1,.float .f64 m2]) (by simp [results,Tryz.results149,go_sem, *]) rfl ⟨rfl, ?_⟩
   repeat' (first | (with_reducible exact HB) | (with_reducible refine Below.setCell ?_ ?_ _) | go_size)
end Go.Proofs.YtgfppdboogldlaaGreat
