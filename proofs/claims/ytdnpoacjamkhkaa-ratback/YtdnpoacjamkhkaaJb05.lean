/- Plain facts on the order of words, and what contracts tell of three answers. Plain facts for the law of the sides: answers of mirrored and of exchanged arguments. The walks of the program's small functions on intervals: infinite ends, signs of nought, which intervals hold some number. The walks of holdsSome and someEmpty: which intervals hold some number. The walks of Make, Point, Whole, mirror, Neg: intervals made of ends. The walks of Point, Whole, Right, and of math.Abs and math.IsInf. The walks of Has, Inside and Strict: what is asked of intervals. The walks of Inside and Strict. -/
import Derived.Test.YtdnpoacjamkhkaaJb04
import Derived.Test.YtdnpoacjamkhkaaJb03
import Derived.BigQuiet
import Derived.WalkSmall
import Derived.Deep.LoopGhost
namespace Go.Proofs.Ytdnpoacjamkhkaa
def SidesO (o1 o2 o3:Option Nat):Prop:=(o1=none∧o2=none∧o3=none)∨∃d n u,o1=some d∧o2=some n∧o3=some u∧SidesOK d n u
def Told (o:Option Nat) (r:Nat):Prop:=r<18446744073709551616∧match o with | some v=>r=v | none=>nanB r=true
end Go.Proofs.Ytdnpoacjamkhkaa
namespace Go.Proofs.Ytdnpoacjamkhkaa
theorem mod_negB {x:Nat} (hx:x<18446744073709551616):negB x%9223372036854775808=x%9223372036854775808:=by unfold negB;split <;> omega
theorem mod_negB' {x:Nat} (hx:x<18446744073709551616):negB x%4503599627370496=x%4503599627370496:=by unfold negB;split <;> omega
theorem finB_negB {x:Nat} (hx:x<18446744073709551616):finB (negB x)=finB x:=by unfold finB;rw [mod_negB hx]
theorem isZ_negB {x:Nat} (hx:x<18446744073709551616):isZ (negB x)=isZ x:=by unfold isZ;rw [mod_negB hx]
theorem splitM_negB {x:Nat} (hx:x<18446744073709551616):splitM (negB x)=splitM x:=by unfold splitM;rw [mod_negB hx,mod_negB' hx]
theorem splitE_negB {x:Nat} (hx:x<18446744073709551616):splitE (negB x)=splitE x:=by unfold splitE;rw [mod_negB hx]
theorem signB_negB {x:Nat} (hx:x<18446744073709551616):signB (negB x)=!signB x:=by
 unfold signB negB
 by_cases h:x<9223372036854775808
 · have h2:¬9223372036854775808≤x:=by omega
   have h3:9223372036854775808≤x+9223372036854775808:=by omega
   rw [if_pos h];simp [h2,h3]
 · have h2:9223372036854775808≤x:=by omega
   have h3:¬9223372036854775808≤x-9223372036854775808:=by omega
   rw [if_neg h];simp [h2,h3]
theorem splitG_negB {x:Nat} (hx:x<18446744073709551616) (hz:splitM x≠0):splitG (negB x)=!splitG x:=by
 have z:isZ x=false:=by
   cases h:isZ x
   · rfl
   · exfalso
     have:x%9223372036854775808=0:=by simpa [isZ] using h
     apply hz;unfold splitM;rw [if_pos (by omega),this]
 have z':isZ (negB x)=false:=by rw [isZ_negB hx,z]
 rw [splitG_sign z,splitG_sign z',signB_negB hx]
theorem sumM_mirror (ga:Bool) (ma:Nat) (ea:Int) (gb:Bool) (mb:Nat) (eb:Int) (ga' gb':Bool) (h1:ma≠0→ga'=!ga) (h2:mb≠0→gb'=!gb) :
   sumM ga' ma ea gb' mb eb=sumM ga ma ea gb mb eb∧(sumM ga ma ea gb mb eb=0∨sumG ga' ma ea gb' mb eb=!sumG ga ma ea gb mb eb):=by
 unfold sumM sumG
 by_cases z1:ma=0
 · simp only [z1,if_true,true_and]
   by_cases z2:mb=0
   · exact Or.inl z2
   · exact Or.inr (h2 z2)
 · simp only [z1,if_false]
   by_cases z2:mb=0
   · simp only [z2,if_true,true_and]
     exact Or.inr (h1 z1)
   · simp only [z2,if_false]
     have e1:=h1 z1
     have e2:=h2 z2
     subst e1 e2
     cases swapP ma ea mb eb <;> cases ga <;> cases gb <;> simp [addM]
theorem add_mirror {a b:Nat} (ha:a<18446744073709551616) (hb:b<18446744073709551616):key (addF (negB a) (negB b) 1)=- key (addF a b (-1)):=by
 unfold addF
 rw [splitM_negB ha,splitM_negB hb,splitE_negB ha,splitE_negB hb]
 have hm:=sumM_lt (splitG a) (splitM a) (splitE a) (splitG b) (splitM b) (splitE b) (splitM_lt a) (splitM_lt b)
 obtain⟨h1,h2⟩:=sumM_mirror (splitG a) (splitM a) (splitE a) (splitG b) (splitM b) (splitE b) (splitG (negB a)) (splitG (negB b)) (splitG_negB ha) (splitG_negB hb)
 rw [h1]
 rcases h2 with h2 | h2
 · rw [h2];rfl
 · rw [h2];exact round_mirror _ _ _ hm
def Mirror (o p:Option Nat):Prop:=(o=none∧p=none)∨∃x y,o=some x∧p=some y∧nanB x=false∧nanB y=false∧key y=- key x
theorem addR_mirror {a b:Nat} (ha:a<18446744073709551616) (hb:b<18446744073709551616):Mirror (addR a b (-1)) (addR (negB a) (negB b) 1):=by
 unfold addR
 rw [nanB_negB ha,nanB_negB hb,finB_negB ha,finB_negB hb,signB_negB ha,signB_negB hb]
 cases na:nanB a
 · cases nb:nanB b
   · simp only [Bool.or_self,Bool.false_eq_true,if_false]
     by_cases hf:(finB a&&finB b)=true
     · rw [if_pos hf,if_pos hf]
       refine Or.inr ⟨_,_,rfl,rfl, ?_, ?_,add_mirror ha hb⟩
       · exact (roundN_facts _ _ _ _ (sumM_lt _ _ _ _ _ _ (splitM_lt a) (splitM_lt b))).1
       · exact (roundN_facts _ _ _ _ (sumM_lt _ _ _ _ _ _ (splitM_lt _) (splitM_lt _))).1
     · rw [if_neg hf,if_neg hf]
       have e:((!signB a) != (!signB b))=(signB a != signB b):=by cases signB a <;> cases signB b <;> rfl
       rw [e]
       by_cases hn:(!finB a&&!finB b&&(signB a != signB b))=true
       · rw [if_pos hn,if_pos hn];exact Or.inl ⟨rfl,rfl⟩
       · rw [if_neg hn,if_neg hn]
         cases finB a
         · simp only [Bool.false_eq_true,if_false]
           exact Or.inr ⟨_,_,rfl,rfl,na,by rw [nanB_negB ha,na],key_negB ha⟩
         · simp only [if_true]
           exact Or.inr ⟨_,_,rfl,rfl,nb,by rw [nanB_negB hb,nb],key_negB hb⟩
   · simp only [Bool.or_true,if_true];exact Or.inl ⟨rfl,rfl⟩
 · simp only [Bool.true_or,if_true];exact Or.inl ⟨rfl,rfl⟩
theorem infW_facts (g:Bool):nanB (infW g)=false∧infW g≠9223372036854775808∧infW g<18446744073709551616∧key (infW (!g))=- key (infW g):=by cases g <;> decide
theorem sides_same {v:Nat} (hv:v<18446744073709551616) (hn:nanB v=false) (hz:v≠9223372036854775808):SidesOK v v v :=
 ⟨⟨hn,hn,hn⟩,⟨hz,hz,hz⟩,⟨hv,hv,hv⟩,Int.le_refl _,Int.le_refl _,Or.inl rfl⟩
theorem inf_ne {x:Nat} (hf:finB x=false):x≠9223372036854775808:=by
 rintro rfl;revert hf;decide
theorem addR_sides {a b:Nat} (ha:a<18446744073709551616) (hb:b<18446744073709551616):SidesO (addR a b (-1)) (addR a b 0) (addR a b 1):=by
 unfold addR
 cases na:nanB a
 · cases nb:nanB b
   · simp only [Bool.or_self,Bool.false_eq_true,if_false]
     by_cases hf:(finB a&&finB b)=true
     · simp only [hf,if_true]
       exact Or.inr ⟨_,_,_,rfl,rfl,rfl,round_sides _ _ _ (sumM_lt _ _ _ _ _ _ (splitM_lt a) (splitM_lt b))⟩
     · simp only [hf,Bool.false_eq_true,if_false]
       by_cases hn:(!finB a&&!finB b&&(signB a != signB b))=true
       · simp only [hn,if_true];exact Or.inl ⟨rfl,rfl,rfl⟩
       · simp only [hn,Bool.false_eq_true,if_false]
         cases fa:finB a
         · simp only [Bool.false_eq_true,if_false]
           exact Or.inr ⟨_,_,_,rfl,rfl,rfl,sides_same ha na (inf_ne fa)⟩
         · have fb:finB b=false:=by rw [fa] at hf;simpa using hf
           simp only [if_true]
           exact Or.inr ⟨_,_,_,rfl,rfl,rfl,sides_same hb nb (inf_ne fb)⟩
   · simp only [Bool.or_true,if_true];exact Or.inl ⟨rfl,rfl,rfl⟩
 · simp only [Bool.true_or,if_true];exact Or.inl ⟨rfl,rfl,rfl⟩
theorem zero_sides:SidesOK 0 0 0:=sides_same (by omega) (by decide) (by omega)
theorem mulR_sides (a b:Nat):SidesO (mulR a b (-1)) (mulR a b 0) (mulR a b 1):=by
 unfold mulR
 by_cases h1:(nanB a || nanB b)=true
 · simp only [h1,if_true];exact Or.inl ⟨rfl,rfl,rfl⟩
 · simp only [h1,Bool.false_eq_true,if_false]
   by_cases h2:(isZ a || isZ b)=true
   · simp only [h2,if_true];exact Or.inr ⟨_,_,_,rfl,rfl,rfl,zero_sides⟩
   · simp only [h2,Bool.false_eq_true,if_false]
     have za:isZ a=false:=by cases h:isZ a <;> simp_all
     have zb:isZ b=false:=by cases h:isZ b <;> simp_all
     by_cases h3:(finB a&&finB b)=true
     · simp only [h3,if_true]
       have l1:=splitM_lt a
       have l2:=splitM_lt b
       exact Or.inr ⟨_,_,_,rfl,rfl,rfl,round_sides _ _ _ (prodM_lt (splitM_zero za) (splitM_zero zb) (by omega) (by omega))⟩
     · simp only [h3,Bool.false_eq_true,if_false]
       have f:=infW_facts (signB a != signB b)
       exact Or.inr ⟨_,_,_,rfl,rfl,rfl,sides_same f.2.2.1 f.1 f.2.1⟩
theorem mulR_mirror {a b:Nat} (ha:a<18446744073709551616):Mirror (mulR a b (-1)) (mulR (negB a) b 1):=by
 unfold mulR
 rw [nanB_negB ha,finB_negB ha,isZ_negB ha,signB_negB ha]
 by_cases h1:(nanB a || nanB b)=true
 · simp only [h1,if_true];exact Or.inl ⟨rfl,rfl⟩
 · simp only [h1,Bool.false_eq_true,if_false]
   by_cases h2:(isZ a || isZ b)=true
   · simp only [h2,if_true];exact Or.inr ⟨_,_,rfl,rfl,by decide,by decide,by decide⟩
   · simp only [h2,Bool.false_eq_true,if_false]
     have za:isZ a=false:=by cases h:isZ a <;> simp_all
     have zb:isZ b=false:=by cases h:isZ b <;> simp_all
     by_cases h3:(finB a&&finB b)=true
     · simp only [h3,if_true]
       have l1:=splitM_lt a
       have l2:=splitM_lt b
       have hm:=prodM_lt (splitM_zero za) (splitM_zero zb) (show splitM a<18446744073709551616 by omega) (show splitM b<18446744073709551616 by omega)
       refine Or.inr ⟨_,_,rfl,rfl,(roundN_facts _ _ _ _ hm).1, ?_, ?_⟩
       · unfold mulF;rw [splitM_negB ha];exact (roundN_facts _ _ _ _ hm).1
       · unfold mulF
         rw [splitM_negB ha,splitE_negB ha,splitG_negB ha (splitM_zero za)]
         have e:((!splitG a) != splitG b)=!(splitG a != splitG b):=by cases splitG a <;> cases splitG b <;> rfl
         rw [e];exact round_mirror _ _ _ hm
     · simp only [h3,Bool.false_eq_true,if_false]
       have e:((!signB a) != signB b)=!(signB a != signB b):=by cases signB a <;> cases signB b <;> rfl
       rw [e]
       exact Or.inr ⟨_,_,rfl,rfl,(infW_facts _).1,(infW_facts _).1,(infW_facts _).2.2.2⟩
end Go.Proofs.Ytdnpoacjamkhkaa
namespace Go.Proofs.Ytdnpoacjamkhkaa
open Go.ChangeShapes Go.WideShapes Go.ChangeAt Go.RowKit
@[go_sem] theorem run_store_float (P:Program) (w:World) (a:Addr) (m:Mode) (k:FloatKind) (n:Nat):(store a (.float k n) m).run P w=stored P w a (.float k n) m:=run_store P w a _ m rfl
def infI (s:Int):Nat:=if s<0 then 18442240474082181120 else 9218868437227405312
theorem inf_w (s:Int) (w:World):Calls Try.prog 86 #[.int .i64 s] w fun e w'=>e=.returned (.float .f64 (infI s))∧w=w':=by
 unfold infI
 by_cases h:s<0
 · rw [if_pos h]
   go_enter Try.func86,Try.ntmps86
   go_wp2
   all_goals (go_ret;exact⟨rfl,rfl⟩)
 · rw [if_neg h]
   go_enter Try.func86,Try.ntmps86
   go_wp2
   all_goals (go_ret;exact⟨rfl,rfl⟩)
theorem signbit_w (x:Nat) (hx:x<18446744073709551616) (w:World):Calls Try.prog 115 #[.float .f64 x] w fun e w'=>e=.returned (.bool (decide (9223372036854775808≤x)))∧w=w':=by
 have hc:decide (wrap64 (x:Int)<0)=decide (9223372036854775808≤x):=by
   rw [wrap64]
   by_cases h:9223372036854775808≤x
   · simp only [h,decide_true,decide_eq_true_eq];omega
   · simp only [h,decide_false,decide_eq_false_iff_not];omega
 go_enter Try.func115,Try.ntmps115
 go_wp2
 all_goals (go_ret;exact⟨rfl,rfl⟩)
def mz (x:Nat):Bool:=decide (x=9223372036854775808)
theorem isMinusZero_w (x:Nat) (hx:x<18446744073709551616) (w:World):Calls Try.prog 104 #[.float .f64 x] w fun e w'=>e=.returned (.bool (mz x))∧w=w':=by
 rcases cases0 x hx with ⟨hn,ho,hc⟩ | ⟨hn,ho,hc⟩ | ⟨hn,ho,hc⟩ | ⟨hn,ho,hc⟩
 · have e:mz x=false:=by unfold mz;simp;omega
   rw [e]
   go_enter Try.func104,Try.ntmps104
   go_wp2_with (go_at_call 115;refine (signbit_w x hx _).mono ?_;rintro _ _ ⟨rfl,rfl⟩)
   all_goals (go_ret;exact⟨rfl,rfl⟩)
 · have e:mz x=decide (9223372036854775808≤x):=by
     unfold mz
     rw [Bool.eq_iff_iff];simp only [decide_eq_true_eq];omega
   rw [e]
   go_enter Try.func104,Try.ntmps104
   go_wp2_with (go_at_call 115;refine (signbit_w x hx _).mono ?_;rintro _ _ ⟨rfl,rfl⟩)
   all_goals (go_ret;exact⟨rfl,rfl⟩)
 · have e:mz x=false:=by unfold mz;simp;omega
   rw [e]
   go_enter Try.func104,Try.ntmps104
   go_wp2_with (go_at_call 115;refine (signbit_w x hx _).mono ?_;rintro _ _ ⟨rfl,rfl⟩)
   all_goals (go_ret;exact⟨rfl,rfl⟩)
 · have e:mz x=false:=by unfold mz;simp;omega
   rw [e]
   go_enter Try.func104,Try.ntmps104
   go_wp2_with (go_at_call 115;refine (signbit_w x hx _).mono ?_;rintro _ _ ⟨rfl,rfl⟩)
   all_goals (go_ret;exact⟨rfl,rfl⟩)
def pz (x:Nat):Nat:=if x=9223372036854775808 then 0 else x
theorem pz_lt {x:Nat} (hx:x<18446744073709551616):pz x<18446744073709551616:=by unfold pz;split <;> omega
theorem wosz_w (x:Nat) (hx:x<18446744073709551616) (w:World):Calls Try.prog 88 #[.float .f64 x] w fun e w'=>e=.returned (.float .f64 (pz x))∧w=w':=by
 rcases cases0 x hx with ⟨hn,ho,hc⟩ | ⟨hn,ho,hc⟩ | ⟨hn,ho,hc⟩ | ⟨hn,ho,hc⟩
 · have e:pz x=x:=by unfold pz;rw [if_neg (by omega)]
   rw [e]
   go_enter Try.func88,Try.ntmps88
   go_wp2
   all_goals (go_ret;exact⟨rfl,rfl⟩)
 · have e:pz x=0:=by unfold pz;split <;> omega
   rw [e]
   go_enter Try.func88,Try.ntmps88
   go_wp2
   all_goals (go_ret;exact⟨rfl,rfl⟩)
 · have e:pz x=x:=by unfold pz;rw [if_neg (by omega)]
   rw [e]
   go_enter Try.func88,Try.ntmps88
   go_wp2
   all_goals (go_ret;exact⟨rfl,rfl⟩)
 · have e:pz x=x:=by unfold pz;rw [if_neg (by omega)]
   rw [e]
   go_enter Try.func88,Try.ntmps88
   go_wp2
   all_goals (go_ret;exact⟨rfl,rfl⟩)
theorem empty_w (w:World):Calls Try.prog 59 #[] w fun e w'=>e=.returned (.agg #[.float .f64 (infI 1),.float .f64 (infI (-1))])∧Below w.heap.size w w':=by
 go_enter Try.func59,Try.ntmps59
 go_wp2_with (go_at_call 86;refine (inf_w _ _).mono ?_;rintro _ _ ⟨rfl,rfl⟩)
 all_goals (go_returns;exact⟨rfl,by go_grown⟩)
theorem turn {P:Program} {f:FuncId} {args:Array Value} {w:World} {v:Value} (h:Calls P f args w fun e w'=>e=.returned v∧w=w'):Calls P f args w fun e w'=>e=.returned v∧w'=w:=h.mono fun _ _ ⟨a,b⟩=>⟨a,b.symm⟩
theorem inf_q (s:Int) (w:World):Calls Try.prog 86 #[.int .i64 s] w fun e w'=>e=.returned (.float .f64 (infI s))∧w'=w:=turn (inf_w s w)
theorem isMinusZero_q (x:Nat) (hx:x<18446744073709551616) (w:World):Calls Try.prog 104 #[.float .f64 x] w fun e w'=>e=.returned (.bool (mz x))∧w'=w:=turn (isMinusZero_w x hx w)
def hsB (lo hi:Nat):Bool:=!nanB lo&&!nanB hi&&decide (key lo≤key hi)&&decide (key lo<9218868437227405312)&&decide (-9218868437227405312<key hi)&&!mz lo&&!mz hi
set_option maxHeartbeats 400000 in
theorem holdsSome_core (lo hi:Nat) (hl:lo<18446744073709551616) (hh:hi<18446744073709551616) (b1 b2 b3 b4 b5:Bool)
   (o1:(FloatKind.f64.format.order lo hi==some .lt || FloatKind.f64.format.order lo hi==some .eq)=b1) (o2:(FloatKind.f64.format.order lo (infI 1)==some .lt)=b2) (o3:(FloatKind.f64.format.order hi (infI (-1))==some .gt)=b3)
   (o4:mz lo=b4) (o5:mz hi=b5) (w:World) :
   Calls Try.prog 85 #[.agg #[.float .f64 lo,.float .f64 hi]] w fun e w'=>e=.returned (.bool (b1&&b2&&b3&&!b4&&!b5))∧Below w.heap.size w w':=by
 cases b1
 case' true=>cases b2
 case' true.true=>cases b3
 case' true.true.true=>cases b4
 case' true.true.true.false=>cases b5
 all_goals
   go_enter Try.func85,Try.ntmps85
   go_wp2_with fail
   go_quiet (first | (go_at_call 86;refine Calls.quiet_of_same (inf_q _ _)) | (go_at_call 104;refine Calls.quiet_of_same (isMinusZero_q _ (by assumption) _)))
   go_wp2
   go_ret
   exact⟨rfl,below_drewN (by go_grown) _⟩
def leB (a b:Nat):Bool:=!nanB a&&!nanB b&&decide (key a≤key b)
def ltB (a b:Nat):Bool:=!nanB a&&!nanB b&&decide (key a<key b)
theorem o_le {a b:Nat} (ha:a<18446744073709551616) (hb:b<18446744073709551616):(FloatKind.f64.format.order a b==some .lt || FloatKind.f64.format.order a b==some .eq)=leB a b:=by
 rw [order_eq a b ha hb]
 unfold leB
 cases nanB a <;> cases nanB b <;> simp only [Bool.or_self,Bool.or_true,Bool.or_false,if_true,Bool.false_eq_true,if_false,Bool.not_true,Bool.not_false,Bool.false_and,Bool.and_false,Bool.true_and]
 · simp only [compare_int]
   by_cases c:key a<key b
   · have:key a≤key b:=by omega
     rw [if_pos c];simp [this]
   · rw [if_neg c]
     by_cases e:key a=key b
     · rw [if_pos e];simp [e]
     · have:¬key a≤key b:=by omega
       rw [if_neg e];simp [this]
 all_goals rfl
theorem o_lt {a b:Nat} (ha:a<18446744073709551616) (hb:b<18446744073709551616):(FloatKind.f64.format.order a b==some .lt)=ltB a b:=by
 rw [order_eq a b ha hb]
 unfold ltB
 cases nanB a <;> cases nanB b <;> simp only [Bool.or_self,Bool.or_true,Bool.or_false,if_true,Bool.false_eq_true,if_false,Bool.not_true,Bool.not_false,Bool.false_and,Bool.and_false,Bool.true_and]
 · simp only [compare_int]
   by_cases c:key a<key b
   · rw [if_pos c];simp [c]
   · rw [if_neg c]
     by_cases e:key a=key b
     · rw [if_pos e];simp [e]
     · rw [if_neg e];simp [c]
 all_goals rfl
theorem o_gt {a b:Nat} (ha:a<18446744073709551616) (hb:b<18446744073709551616):(FloatKind.f64.format.order a b==some .gt)=ltB b a:=by
 rw [order_eq a b ha hb]
 unfold ltB
 cases nanB a <;> cases nanB b <;> simp only [Bool.or_self,Bool.or_true,Bool.or_false,if_true,Bool.false_eq_true,if_false,Bool.not_true,Bool.not_false,Bool.false_and,Bool.and_false,Bool.true_and]
 · simp only [compare_int]
   by_cases c:key a<key b
   · have:¬key b<key a:=by omega
     rw [if_pos c];simp [this]
   · rw [if_neg c]
     by_cases e:key a=key b
     · rw [if_pos e];simp [e]
     · have:key b<key a:=by omega
       rw [if_neg e];simp [this]
 all_goals rfl
theorem o_ge {a b:Nat} (ha:a<18446744073709551616) (hb:b<18446744073709551616):(FloatKind.f64.format.order a b==some .gt || FloatKind.f64.format.order a b==some .eq)=leB b a:=by
 rw [order_eq a b ha hb]
 unfold leB
 cases nanB a <;> cases nanB b <;> simp only [Bool.or_self,Bool.or_true,Bool.or_false,if_true,Bool.false_eq_true,if_false,Bool.not_true,Bool.not_false,Bool.false_and,Bool.and_false,Bool.true_and]
 · simp only [compare_int]
   by_cases c:key a<key b
   · have:¬key b≤key a:=by omega
     rw [if_pos c];simp [this]
   · have:key b≤key a:=by omega
     rw [if_neg c]
     by_cases e:key a=key b
     · rw [if_pos e];simp [e]
     · rw [if_neg e];simp [this]
 all_goals rfl
theorem infI_lt (s:Int):infI s<18446744073709551616:=by unfold infI;split <;> omega
theorem nan_inf (s:Int):nanB (infI s)=false:=by unfold infI;split <;> decide
theorem key_up:key (infI 1)=9218868437227405312:=by decide
theorem key_down:key (infI (-1))=-9218868437227405312:=by decide
theorem holdsSome_w (lo hi:Nat) (hl:lo<18446744073709551616) (hh:hi<18446744073709551616) (w:World) :
   Calls Try.prog 85 #[.agg #[.float .f64 lo,.float .f64 hi]] w fun e w'=>e=.returned (.bool (hsB lo hi))∧Below w.heap.size w w':=by
 have h:=holdsSome_core lo hi hl hh _ _ _ _ _ (o_le hl hh) (o_lt hl (infI_lt 1)) (o_gt hh (infI_lt (-1))) rfl rfl w
 have e:(leB lo hi&&ltB lo (infI 1)&&ltB (infI (-1)) hi&&!mz lo&&!mz hi)=hsB lo hi:=by
   unfold leB ltB hsB
   rw [nan_inf,nan_inf,key_up,key_down]
   cases nanB lo <;> cases nanB hi <;> simp
 rw [e] at h
 exact h
theorem someEmpty1_w (b lo hi:Nat) (hl:lo<18446744073709551616) (hh:hi<18446744073709551616) (w:World) (c0:w.cell? ⟨b,0,none⟩=some (.float .f64 lo)) (c1:w.cell? ⟨b,1,none⟩=some (.float .f64 hi)) :
   Calls Try.prog 58 #[.slice (some ⟨b,0,none⟩) 1 1] w fun e w'=>e=.returned (.bool (!hsB lo hi))∧Below w.heap.size w w':=by
 have hs:=fun w=>holdsSome_w lo hi hl hh w
 generalize hsB lo hi=t at *
 go_enter Try.func58,Try.ntmps58
 go_wp2_with fail
 go_loopg [7] 2 (fun g s7 wx=>Below w.heap.size w wx∧((g=2∧w=wx∧s7=.int .i64 0)∨(g=1∧t=true∧s7=.int .i64 1)))
 case atStart=>exact⟨Below.refl _ _,Or.inl ⟨rfl,rfl,rfl⟩⟩
 case round =>
   rcases hrel with ⟨hb,⟨rfl,rfl,rfl⟩ | ⟨rfl,rfl,rfl⟩⟩
   · cases t
     · go_wp2_with (go_at_call 85;refine (hs _).mono ?_;rintro _ w1 ⟨rfl,hb1⟩)
       go_ret
       exact⟨rfl,later (by go_grown) hb1⟩
     · go_wp2_with (go_at_call 85;refine (hs _).mono ?_;rintro _ w1 ⟨rfl,hb1⟩)
       go_roundg 1
       case rel=>exact⟨later (by go_grown) hb1,Or.inr ⟨(by first | rfl | trivial),(by first | rfl | trivial),(by first | rfl | trivial)⟩⟩
       case measure=>omega
   · go_wp2
     go_ret
     exact⟨rfl,hb⟩
theorem someEmpty2_w (b lo hi lo2 hi2:Nat) (hl:lo<18446744073709551616) (hh:hi<18446744073709551616) (hl2:lo2<18446744073709551616) (hh2:hi2<18446744073709551616) (w:World) (hlt:b<w.heap.size)
   (c0:w.cell? ⟨b,0,none⟩=some (.float .f64 lo)) (c1:w.cell? ⟨b,1,none⟩=some (.float .f64 hi)) (c2:w.cell? ⟨b,2,none⟩=some (.float .f64 lo2)) (c3:w.cell? ⟨b,3,none⟩=some (.float .f64 hi2)) :
   Calls Try.prog 58 #[.slice (some ⟨b,0,none⟩) 2 2] w fun e w'=>e=.returned (.bool (!(hsB lo hi&&hsB lo2 hi2)))∧Below w.heap.size w w':=by
 have hs:=fun w=>holdsSome_w lo hi hl hh w
 have hs2:=fun w=>holdsSome_w lo2 hi2 hl2 hh2 w
 generalize hsB lo hi=t at *
 generalize hsB lo2 hi2=t2 at *
 go_enter Try.func58,Try.ntmps58
 go_wp2_with fail
 go_loopg [7] 3 (fun g s7 wx=>Below w.heap.size w wx∧((g=3∧w=wx∧s7=.int .i64 0)∨(g=2∧t=true∧s7=.int .i64 1)∨(g=1∧t=true∧t2=true∧s7=.int .i64 2)))
 case atStart=>exact⟨Below.refl _ _,Or.inl ⟨rfl,rfl,rfl⟩⟩
 case round =>
   rcases hrel with ⟨hb,⟨rfl,rfl,rfl⟩ | ⟨rfl,rfl,rfl⟩ | ⟨rfl,rfl,rfl,rfl⟩⟩
   · cases t
     · go_wp2_with (go_at_call 85;refine (hs _).mono ?_;rintro _ w1 ⟨rfl,hb1⟩)
       go_ret
       exact⟨rfl,later (by go_grown) hb1⟩
     · go_wp2_with (go_at_call 85;refine (hs _).mono ?_;rintro _ w1 ⟨rfl,hb1⟩)
       go_roundg 2
       case rel=>exact⟨later (by go_grown) hb1,Or.inr (Or.inl ⟨(by first | rfl | trivial),(by first | rfl | trivial),(by first | rfl | trivial)⟩)⟩
       case measure=>omega
   · have d2:=keepsC hb c2 hlt
     have d3:=keepsC hb c3 hlt
     have hsz:=hb.size
     rename_i wx
     cases t2
     · go_wp2_with (go_at_call 85;refine (hs2 _).mono ?_;rintro _ w1 ⟨rfl,hb1⟩)
       go_ret
       exact⟨rfl,later (hb.alloc hsz _) hb1⟩
     · go_wp2_with (go_at_call 85;refine (hs2 _).mono ?_;rintro _ w1 ⟨rfl,hb1⟩)
       go_roundg 1
       case rel=>exact⟨later (hb.alloc hsz _) hb1,Or.inr (Or.inr ⟨(by first | rfl | trivial),(by first | rfl | trivial),(by first | rfl | trivial),(by first | rfl | trivial)⟩)⟩
       case measure=>omega
   · go_wp2
     go_ret
     exact⟨rfl,hb⟩
def Has2 (w:World) (b:Nat) (x y:Value):Prop:=w.cell? ⟨b,0,none⟩=some x∧w.cell? ⟨b,1,none⟩=some y∧w.frozen? ⟨b,0,none⟩=false∧w.frozen? ⟨b,1,none⟩=false∧b<w.heap.size
theorem Has2.keep {W0 w2:World} {b:Nat} {x y:Value} (h:Has2 W0 b x y) (hb:Below W0.heap.size W0 w2):Has2 w2 b x y:=by
 obtain⟨h0,h1,f0,f1,hl⟩:=h
 exact⟨keepsC hb h0 hl,keepsC hb h1 hl,keepsF hb f0 hl,keepsF hb f1 hl,Nat.lt_of_lt_of_le hl hb.size⟩
def makeP (lo hi:Nat):Nat×Nat:=if hsB (pz lo) (pz hi) then (pz lo,pz hi) else (infI 1,infI (-1))
set_option maxHeartbeats 400000 in
theorem make_w (lo hi:Nat) (hl:lo<18446744073709551616) (hh:hi<18446744073709551616) (w:World) :
   Calls Try.prog 61 #[.float .f64 lo,.float .f64 hi] w fun e w'=>e=.returned (.agg #[.float .f64 (makeP lo hi).1,.float .f64 (makeP lo hi).2])∧Below w.heap.size w w':=by
 have hs:=fun w=>holdsSome_w (pz lo) (pz hi) (pz_lt hl) (pz_lt hh) w
 have e:makeP lo hi=if hsB (pz lo) (pz hi) then (pz lo,pz hi) else (infI 1,infI (-1)):=rfl
 rw [e]
 clear e
 generalize hsB (pz lo) (pz hi)=b at *
 cases b
 · go_enter Try.func61,Try.ntmps61
   go_wp2_with (first
     | (go_at_call 88;refine (wosz_w _ (by assumption) _).mono ?_;rintro _ _ ⟨rfl,rfl⟩)
     | (go_at_call 85;refine (hs _).mono ?_;rintro _ w1 ⟨rfl,hb1⟩
        have k1:Has2 w1 w.heap.size (.float .f64 0) (.float .f64 0):=Has2.keep ⟨by go_simp,by go_simp,by go_simp,by go_simp,by go_size⟩ hb1
        obtain⟨a0,a1,a2,a3,a4⟩:=k1)
     | (go_at_call 59;refine (empty_w _).mono ?_;rintro _ w2 ⟨rfl,hb2⟩
        obtain⟨d0,d1,d2,d3,d4⟩:=Has2.keep ⟨a0,a1,a2,a3,a4⟩ hb2))
   all_goals
     refine bodyPost_ret (v:=.agg #[.float .f64 (infI 1),.float .f64 (infI (-1))]) (by simp [results,Try.results61,go_sem, *]) rfl ⟨rfl, ?_⟩
     have t:Below w.heap.size w w2:=later (later (by go_grown) hb1) hb2
     repeat' (first | (with_reducible exact t) | (with_reducible refine Below.setCell ?_ ?_ _) | go_size)
 · go_enter Try.func61,Try.ntmps61
   go_wp2_with (first
     | (go_at_call 88;refine (wosz_w _ (by assumption) _).mono ?_;rintro _ _ ⟨rfl,rfl⟩)
     | (go_at_call 85;refine (hs _).mono ?_;rintro _ w1 ⟨rfl,hb1⟩
        have k1:Has2 w1 w.heap.size (.float .f64 0) (.float .f64 0):=Has2.keep ⟨by go_simp,by go_simp,by go_simp,by go_simp,by go_size⟩ hb1
        have k2:Has2 w1 (w.heap.size+1) (.float .f64 (pz lo)) (.float .f64 (pz hi)):=Has2.keep ⟨by go_simp,by go_simp,by go_simp,by go_simp,by go_size⟩ hb1
        obtain⟨a0,a1,a2,a3,a4⟩:=k1
        obtain⟨d0,d1,d2,d3,d4⟩:=k2))
   all_goals
     refine bodyPost_ret (v:=.agg #[.float .f64 (pz lo),.float .f64 (pz hi)]) (by simp [results,Try.results61,go_sem, *]) rfl ⟨rfl, ?_⟩
     have t:Below w.heap.size w w1:=later (by go_grown) hb1
     repeat' (first | (with_reducible exact t) | (with_reducible refine Below.setCell ?_ ?_ _) | go_size)
@[go_sem] theorem equalIn_float (a b:Nat) (w:World):(Op.equalIn 9999 35 (.float .f64 a) (.float .f64 b)).run Try.prog w=.ok (FloatKind.f64.format.order a b==some .eq) w:=by
 unfold Op.equalIn
 simp [go_sem]
 rfl
theorem keepsA {w1 w2:World} {o:Obj} (hb:Below (w1.alloc o).heap.size (w1.alloc o) w2) {b k:Nat} {v:Value} (h:w1.cell? ⟨b,k,none⟩=some v) (hlt:b<w1.heap.size):w2.cell? ⟨b,k,none⟩=some v :=
 keepsC (W0:=w1.alloc o) hb (keepsC ((Below.refl _ _).alloc (Nat.le_refl _) o) h hlt) (by simp only [World.size_alloc];omega)
def insideB (xl xh yl yh:Nat):Bool:=!hsB xl xh || (hsB yl yh&&leB yl xl&&leB xh yh)
set_option maxHeartbeats 800000 in
theorem inside_w (xl xh yl yh:Nat) (h1:xl<18446744073709551616) (h2:xh<18446744073709551616) (h3:yl<18446744073709551616) (h4:yh<18446744073709551616) (w:World) :
   Calls Try.prog 26 #[.agg #[.float .f64 xl,.float .f64 xh],.agg #[.float .f64 yl,.float .f64 yh]] w fun e w'=>e=.returned (.bool (insideB xl xh yl yh))∧Below w.heap.size w w':=by
 have c1:=fun b W c0 c1=>someEmpty1_w b xl xh h1 h2 W c0 c1
 have c2:=fun b W c0 c1=>someEmpty1_w b yl yh h3 h4 W c0 c1
 have o1:=o_le h3 h1
 have o2:=o_le h2 h4
 unfold insideB
 generalize hsB xl xh=b1 at *
 generalize hsB yl yh=b2 at *
 generalize leB yl xl=b3 at *
 generalize leB xh yh=b4 at *
 clear h1 h2 h3 h4
 cases b1
 · go_enter Try.func26,Try.ntmps26
   go_wp2_with (go_at_call 58;refine (c1 (w.heap.size+1+1) _ (by go_simp) (by go_simp)).mono ?_;rintro _ w1 ⟨rfl,hb1⟩)
   go_ret
   exact⟨rfl,later (by go_grown) hb1⟩
 case' true=>cases b2
 case' true.true=>cases b3
 case' true.true.true=>cases b4
 all_goals
   go_enter Try.func26,Try.ntmps26
   go_upto_region 3 with
    (go_at_call 58;refine (c1 (w.heap.size+1+1) _ (by go_simp) (by go_simp)).mono ?_;rintro _ w1 ⟨rfl,hb1⟩
     have s0:w1.cell? ⟨w.heap.size,0,none⟩=some (.float .f64 xl):=(hb1.cell (by simp <;> omega)).trans (by go_simp)
     have s1:w1.cell? ⟨w.heap.size,1,none⟩=some (.float .f64 xh):=(hb1.cell (by simp <;> omega)).trans (by go_simp)
     have s2:w1.cell? ⟨w.heap.size+1,0,none⟩=some (.float .f64 yl):=(hb1.cell (by simp <;> omega)).trans (by go_simp)
     have s3:w1.cell? ⟨w.heap.size+1,1,none⟩=some (.float .f64 yh):=(hb1.cell (by simp <;> omega)).trans (by go_simp)
     have hz:w.heap.size+1<w1.heap.size:=by have:=hb1.size;simp only [World.size_alloc] at this;omega
     have hB:Below w.heap.size w w1:=later (by go_grown) hb1)
   go_wp2_with
    (go_at_call 58;refine (c2 w1.heap.size _ (by go_simp) (by go_simp)).mono ?_;rintro _ w2 ⟨rfl,hb2⟩
     have t0:w2.cell? ⟨w.heap.size,0,none⟩=some (.float .f64 xl):=keepsA hb2 s0 (by omega)
     have t1:w2.cell? ⟨w.heap.size,1,none⟩=some (.float .f64 xh):=keepsA hb2 s1 (by omega)
     have t2:w2.cell? ⟨w.heap.size+1,0,none⟩=some (.float .f64 yl):=keepsA hb2 s2 (by omega)
     have t3:w2.cell? ⟨w.heap.size+1,1,none⟩=some (.float .f64 yh):=keepsA hb2 s3 (by omega))
   go_ret
   exact⟨rfl,later (hB.alloc hB.size _) hb2⟩
end Go.Proofs.Ytdnpoacjamkhkaa
