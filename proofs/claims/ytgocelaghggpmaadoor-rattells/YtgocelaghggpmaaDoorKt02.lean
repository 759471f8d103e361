/- Plain facts: the parts that the program rounds, of sums, products, quotients and roots, stand for the exact ones. Plain facts: quotients and roots, rounded down, are the exact ones' places. Plain facts: sums, products, quotients and roots, rounded to a side, rise with the exact ones; infinite ends too. The walks of the reference's small functions on intervals: what may be, what holds nothing. The walks of the reference's Right, None, Make, Has, Inside, Strict, Same: they answer as the program's. The walks of the reference's Same, Has, Inside and Strict: they answer as the program's. The walks of counted, Hull and Meet. The walks of Meet, of the laws' hull, and of Add and Mul with an interval that holds nothing. Plain facts: hulls hold both, meets lie in both and hold just what both hold. What is taken off itself holds nought, what is divided by itself one; negatives twice; the least amount is not above the greatest. A region that draws its order, whose callees make memory of their own but change none: one walk, in the text's order, over all worlds that are as the first one was below its end. The walk of the statement IvalLattice: its two variables. IvalLattice: for every two intervals and every float64 the statement's answer is true. A region that draws the order of its first operations, all of them quiet over a class of worlds, and then has others one by one: the first ones are walked once, in the text's order. A region that draws its order and makes memory of its own beside quiet operations (x := f(y); x, y := f(z), g(z)): walked once. The program's whole numbers of one and two words (rat): amounts, divisors, halves, products. The program's whole numbers of two words (rat): products, sums, negatives, signs. The program's whole numbers of two words (rat): sums, negatives, products with a sign. The program's whole numbers of two words (rat): division bit by bit. Plain facts on the digits of whole numbers, 32 bits each, the lowest first. -/
import Derived.Test.YtgocelaghggpmaaDoorChecked
import Derived.Lib.Strings
import Derived.Lib.Slices
import Derived.Lib.Small
import Derived.Lib.Walk
import Derived.Lib.BitFns
import Derived.KernelRfl
import Derived.WalkKit
import Derived.Laws.Cover2
import Derived.Laws.FloatArith
import Derived.Laws.BitsAllLaws
import Derived.Test.YtgocelaghggpmaaDoorRows
import Derived.ProofKit
import Derived.OpenShut
import Derived.WalkSpells
import Derived.WalkLawsBesides
import Derived.Laws.Externs
import Derived.Laws.Bits64b
import Derived.Handy
import Derived.Deep.RegionWith
import Derived.Deep.QuietTactic
import Derived.BigQuiet
import Derived.Deep.RegionHeld3
import Derived.Deep.CutRange
import Derived.Deep.CutBlock
import Derived.Deep.LoopGhost
import Derived.WalkSmall
import Derived.Deep.Quiet
import Derived.StillTail
import Derived.Test.YtgocelaghggpmaaDoorShelf
import Derived.Lib.AppendIntMem
import Derived.Lib.ItoaLen
import Derived.ChangeSame
import Derived.JoinedOf
import Derived.JoinedAt
import Derived.RowKit3
import Derived.Lib.LaidTab
import Derived.Stop.LaidErr
import Derived.MakeChecks
import Derived.Test.YtgocelaghggpmaaDoorKa01
import Derived.Test.YtgocelaghggpmaaDoorKa02
import Derived.Test.YtgocelaghggpmaaDoorKa03
import Derived.Test.YtgocelaghggpmaaDoorKa04
import Derived.Test.YtgocelaghggpmaaDoorKa05
import Derived.Test.YtgocelaghggpmaaDoorKa06
import Derived.Test.YtgocelaghggpmaaDoorKa07
import Derived.Test.YtgocelaghggpmaaDoorKa08
import Derived.Test.YtgocelaghggpmaaDoorKa09
import Derived.Test.YtgocelaghggpmaaDoorKa10
import Derived.Test.YtgocelaghggpmaaDoorKa11
import Derived.Test.YtgocelaghggpmaaDoorKa12
import Derived.Test.YtgocelaghggpmaaDoorKa13
import Derived.Test.YtgocelaghggpmaaDoorKa14
import Derived.Test.YtgocelaghggpmaaDoorKa15
import Derived.Test.YtgocelaghggpmaaDoorKa16
import Derived.Test.YtgocelaghggpmaaDoorKa17
import Derived.Test.YtgocelaghggpmaaDoorKa18
import Derived.Test.YtgocelaghggpmaaDoorKa19
import Derived.Test.YtgocelaghggpmaaDoorKa20
import Derived.Test.YtgocelaghggpmaaDoorKa21
import Derived.Test.YtgocelaghggpmaaDoorKa22
import Derived.Test.YtgocelaghggpmaaDoorKa23
import Derived.Test.YtgocelaghggpmaaDoorKa24
import Derived.Test.YtgocelaghggpmaaDoorKa25
import Derived.Test.YtgocelaghggpmaaDoorKa26
import Derived.Test.YtgocelaghggpmaaDoorKa27
import Derived.Test.YtgocelaghggpmaaDoorKa28
import Derived.Test.YtgocelaghggpmaaDoorKa29
import Derived.Test.YtgocelaghggpmaaDoorKa30
import Derived.Test.YtgocelaghggpmaaDoorKa31
import Derived.Test.YtgocelaghggpmaaDoorKa32
import Derived.Test.YtgocelaghggpmaaDoorKa33
import Derived.Test.YtgocelaghggpmaaDoorKa34
import Derived.Test.YtgocelaghggpmaaDoorKa35
import Derived.Test.YtgocelaghggpmaaDoorKt01
namespace Go.Proofs.YtgocelaghggpmaaDoor
theorem mark_near (T D:Nat) (hD:0<D) {M:Nat} (hM:M=markN (T/D) (decide (T%D≠0))) :
   (T%D=0∧M*D=T)∨(T%D≠0∧M%2=1∧(M-1)*D<T∧T<(M+1)*D∧T/D≤M):=by
 have hm:=Nat.div_add_mod T D
 have hl:=Nat.mod_lt T hD
 rw [Nat.mul_comm] at hm
 by_cases h:T%D=0
 · left
   refine⟨h, ?_⟩
   rw [hM,h]
   show T/D*D=T
   omega
 · right
   have e:M=T/D/2*2+1:=by rw [hM];simp [h,markN]
   generalize T/D=q at *
   have h1:(M-1)*D≤q*D:=Nat.mul_le_mul_right D (by omega)
   have h2:(q+1)*D≤(M+1)*D:=Nat.mul_le_mul_right D (by omega)
   have h3:(q+1)*D=q*D+D:=Nat.succ_mul q D
   refine⟨h,by omega,by omega,by omega,by omega⟩
theorem near_of {C:Cut} {T D a b M:Nat} {E:Int} (hD:0<D) (hab:(b:Int)-a=E+1075) (hle:∀h,C.le h↔h*2^a*D≤T*2^b) (heq:∀h,C.eq h↔h*2^a*D=T*2^b)
   (hM:M=markN (T/D) (decide (T%D≠0))) (big:T%D≠0→36028797018963968≤T/D):Near M E C:=by
 refine⟨a,b,hab, ?_⟩
 rcases mark_near T D hD hM with ⟨-,e⟩ | ⟨hr,odd,lo,hi,le⟩
 · left
   intro h
   have e2:T*2^b=M*2^b*D:=by rw [←e,Nat.mul_right_comm]
   rw [hle h,heq h,e2]
   exact⟨Nat.mul_le_mul_right_iff hD,Nat.mul_left_inj (by omega)⟩
 · right
   refine⟨odd,by have:=big hr;omega,fun h=>?_⟩
   have p:=Nat.two_pow_pos b
   have l1:(M-1)*2^b*D<T*2^b:=by rw [Nat.mul_right_comm];exact Nat.mul_lt_mul_of_pos_right lo p
   have l2:T*2^b<(M+1)*2^b*D:=by rw [Nat.mul_right_comm];exact Nat.mul_lt_mul_of_pos_right hi p
   rw [hle h,heq h]
   constructor
   · intro c
     have:=Nat.mul_le_mul_right D c
     exact⟨by omega,by omega⟩
   · intro c
     have:=Nat.mul_le_mul_right D c
     exact⟨by omega,by omega⟩
theorem split_val {x:Nat} (hf:finB x=true):val (x%9223372036854775808)=splitM x*2^(splitE x+1074).toNat:=by
 have hr:x%9223372036854775808<9218868437227405312:=by simpa [finB] using hf
 have hm:x%4503599627370496=x%9223372036854775808%4503599627370496:=by omega
 unfold splitM splitE val
 rw [hm]
 generalize x%9223372036854775808=r at *
 by_cases h0:r=0
 · subst h0
   rw [if_pos (by omega),if_pos (by omega),Nat.zero_mul]
 · rw [if_neg h0]
   have e:(-1074+((r/4503599627370496-1:Nat):Int)+1074).toNat=r/4503599627370496-1:=by omega
   rw [e]
   by_cases h1:r<4503599627370496
   · have:r/4503599627370496-1=0:=by omega
     rw [if_pos h1,if_pos h1,this];simp
   · rw [if_neg h1,if_neg h1]
theorem key_val {x:Nat} (hx:x<18446744073709551616):V (key x)=if splitG x then -(val (x%9223372036854775808):Int) else (val (x%9223372036854775808):Int):=by
 unfold key splitG
 by_cases h:x<9223372036854775808
 · have h2:¬9223372036854775808<x:=by omega
   have h3:x%9223372036854775808=x:=by omega
   rw [if_pos h,h3,V_nat];simp [h2]
 · rw [if_neg h]
   have e:9223372036854775808-(x:Int)=-((x%9223372036854775808:Nat):Int):=by omega
   rw [e,V_negnat]
   by_cases h2:9223372036854775808<x
   · simp [h2]
   · have:x%9223372036854775808=0:=by omega
     rw [this,val_zero];simp [h2]
def exQ (N:Int) (D:Nat):Ex:=⟨fun h=>h*D≤N,fun h=>N≤h*D⟩
theorem exQ_ok (N:Int) {D:Nat} (hD:0<D):(exQ N D).Ok where
 down:=fun {h k} c d=>Int.le_trans (Int.mul_le_mul_of_nonneg_right c (by omega)) d
 total:=fun h=>Int.le_total _ _
 sep:=fun {h k} c d=>by
   have:k*(D:Int)≤h*D:=Int.le_trans d c
   exact Int.le_of_mul_le_mul_right this (by omega)
theorem amt_Q {N:Int} {D:Nat} {g:Bool} (hg:if g then N≤0 else 0≤N) (h:Nat):(((exQ N D).amt g).le h↔h*D≤N.natAbs)∧(((exQ N D).amt g).eq h↔h*D=N.natAbs):=by
 have e1:((h*D:Nat):Int)=(h:Int)*(D:Int):=by simp
 cases g
 · simp only [Bool.false_eq_true,if_false] at hg
   have l:((exQ N D).amt false).le h↔(h:Int)*D≤N:=Iff.rfl
   have q:((exQ N D).amt false).eq h↔((h:Int)*D≤N∧N≤(h:Int)*D):=Iff.rfl
   rw [l,q,←e1]
   omega
 · simp only [if_true] at hg
   have l:((exQ N D).amt true).le h↔N≤-(h:Int)*D:=Iff.rfl
   have q:((exQ N D).amt true).eq h↔(-(h:Int)*D≤N∧N≤-(h:Int)*D):=Iff.rfl
   rw [l,q,Int.neg_mul,←e1]
   omega
theorem signed_val {x:Nat} (hx:x<18446744073709551616) (hf:finB x=true):V (key x)=if splitG x then -((splitM x*2^(splitE x+1074).toNat:Nat):Int) else ((splitM x*2^(splitE x+1074).toNat:Nat):Int):=by
 rw [key_val hx,split_val hf]
end Go.Proofs.YtgocelaghggpmaaDoor
namespace Go.Proofs.YtgocelaghggpmaaDoor
end Go.Proofs.YtgocelaghggpmaaDoor
namespace Go.Proofs.YtgocelaghggpmaaDoor
end Go.Proofs.YtgocelaghggpmaaDoor
namespace Go.Proofs.YtgocelaghggpmaaDoor
open Go.ChangeShapes Go.WideShapes Go.ChangeAt Go.RowKit
theorem rinf_w (s:Int) (w:World):Calls Tryd.prog 76 #[.int .i64 s] w fun e w'=>e=.returned (.float .f64 (infI s))∧w=w':=by
 go_enter Tryd.func76,Tryd.ntmps76
 go_wp2_with (go_at_call 67;refine (inf_w _ _).mono ?_;rintro _ _ ⟨rfl,rfl⟩)
 all_goals (go_ret;exact⟨rfl,rfl⟩)
theorem rinf_q (s:Int) (w:World):Calls Tryd.prog 76 #[.int .i64 s] w fun e w'=>e=.returned (.float .f64 (infI s))∧w'=w:=turn (rinf_w s w)
theorem minus0_w (x:Nat) (hx:x<18446744073709551616) (w:World):Calls Tryd.prog 122 #[.float .f64 x] w fun e w'=>e=.returned (.bool (mz x))∧w=w':=by
 rcases cases0 x hx with ⟨hn,ho,hc⟩ | ⟨hn,ho,hc⟩ | ⟨hn,ho,hc⟩ | ⟨hn,ho,hc⟩
 · have e:mz x=false:=by unfold mz;simp;omega
   rw [e]
   go_enter Tryd.func122,Tryd.ntmps122
   go_wp2
   all_goals (go_ret;exact⟨rfl,rfl⟩)
 · have e:mz x=((x:Int) != 0):=by
     unfold mz
     rw [Bool.eq_iff_iff];simp only [decide_eq_true_eq,bne_iff_ne,ne_eq];omega
   rw [e]
   go_enter Tryd.func122,Tryd.ntmps122
   go_wp2
   all_goals (go_ret;exact⟨rfl,rfl⟩)
 · have e:mz x=false:=by unfold mz;simp;omega
   rw [e]
   go_enter Tryd.func122,Tryd.ntmps122
   go_wp2
   all_goals (go_ret;exact⟨rfl,rfl⟩)
 · have e:mz x=false:=by unfold mz;simp;omega
   rw [e]
   go_enter Tryd.func122,Tryd.ntmps122
   go_wp2
   all_goals (go_ret;exact⟨rfl,rfl⟩)
theorem minus0_q (x:Nat) (hx:x<18446744073709551616) (w:World):Calls Tryd.prog 122 #[.float .f64 x] w fun e w'=>e=.returned (.bool (mz x))∧w'=w:=turn (minus0_w x hx w)
set_option maxHeartbeats 800000 in
theorem refRight_core (lo hi:Nat) (hl:lo<18446744073709551616) (hh:hi<18446744073709551616) (b1 b2 b3 b4 b5:Bool)
   (o1:(FloatKind.f64.format.order lo hi==some .lt || FloatKind.f64.format.order lo hi==some .eq)=b1) (o2:(FloatKind.f64.format.order lo (infI 1)==some .eq)=b2) (o3:(FloatKind.f64.format.order hi (infI (-1))==some .eq)=b3)
   (o4:mz lo=b4) (o5:mz hi=b5) (w:World) :
   Calls Tryd.prog 78 #[.agg #[.float .f64 lo,.float .f64 hi]] w fun e w'=>e=.returned (.bool (b2&&b3 || b1&&!b2&&!b3&&!b4&&!b5))∧Below w.heap.size w w':=by
 have p2:(FloatKind.f64.format.order lo (infI 1) != some .eq)=!b2:=by rw [←o2];rfl
 have p3:(FloatKind.f64.format.order hi (infI (-1)) != some .eq)=!b3:=by rw [←o3];rfl
 cases b2
 case' false=>cases b1
 case' false.true=>cases b3
 case' false.true.false=>cases b4
 case' false.true.false.false=>cases b5
 case' true=>cases b3
 case' true.false=>cases b1
 all_goals
   try simp only [Bool.not_true,Bool.not_false] at p2 p3
   go_enter Tryd.func78,Tryd.ntmps78
   go_wp2_with fail
   go_quiet (first | (go_at_call 76;refine Calls.quiet_of_same (rinf_q _ _)) | (go_at_call 122;refine Calls.quiet_of_same (minus0_q _ (by assumption) _)))
   go_wp2
   have k0:((w.alloc (Obj.cells #[Value.float FloatKind.f64 lo,Value.float FloatKind.f64 hi] 32)).drewN nq).cell? ⟨w.heap.size,0,none⟩=some (.float .f64 lo):=by go_simp
   have k1:((w.alloc (Obj.cells #[Value.float FloatKind.f64 lo,Value.float FloatKind.f64 hi] 32)).drewN nq).cell? ⟨w.heap.size,1,none⟩=some (.float .f64 hi):=by go_simp
   have kb:Below w.heap.size w ((w.alloc (Obj.cells #[Value.float FloatKind.f64 lo,Value.float FloatKind.f64 hi] 32)).drewN nq):=Go.below_drewN (by go_grown) _
   generalize (w.alloc (Obj.cells #[Value.float FloatKind.f64 lo,Value.float FloatKind.f64 hi] 32)).drewN nq=W at *
   try (go_quiet (first | (go_at_call 76;refine Calls.quiet_of_same (rinf_q _ _)) | (go_at_call 122;refine Calls.quiet_of_same (minus0_q _ (by assumption) _))))
   try go_wp2
   go_ret
   first | exact⟨rfl,kb⟩ | exact⟨rfl,Go.below_drewN kb _⟩
theorem right_eq {lo hi:Nat} (hl:lo<18446744073709551616) (hh:hi<18446744073709551616) :
   (eqB lo (infI 1)&&eqB hi (infI (-1)) || leB lo hi&&!eqB lo (infI 1)&&!eqB hi (infI (-1))&&!mz lo&&!mz hi)=rightB lo hi:=by
 unfold rightB leB eqB hsB
 rw [nan_inf,nan_inf,key_up,key_down]
 cases n1:nanB lo
 · cases n2:nanB hi
   · have k1:=nanB_key hl n1
     have k2:=nanB_key hh n2
     rw [Bool.eq_iff_iff]
     simp only [Bool.not_false,Bool.true_and,Bool.or_eq_true,Bool.and_eq_true,decide_eq_true_eq,Bool.not_eq_true',decide_eq_false_iff_not]
     constructor
     · rintro (h | ⟨⟨⟨⟨h1,h2⟩,h3⟩,h4⟩,h5⟩)
       · exact Or.inl h
       · exact Or.inr ⟨⟨⟨⟨h1,by omega⟩,by omega⟩,h4⟩,h5⟩
     · rintro (h | ⟨⟨⟨⟨h1,h2⟩,h3⟩,h4⟩,h5⟩)
       · exact Or.inl h
       · exact Or.inr ⟨⟨⟨⟨h1,by omega⟩,by omega⟩,h4⟩,h5⟩
   · simp
 · simp
theorem refRight_w (lo hi:Nat) (hl:lo<18446744073709551616) (hh:hi<18446744073709551616) (w:World) :
   Calls Tryd.prog 78 #[.agg #[.float .f64 lo,.float .f64 hi]] w fun e w'=>e=.returned (.bool (rightB lo hi))∧Below w.heap.size w w':=by
 have h:=refRight_core lo hi hl hh _ _ _ _ _ (o_le hl hh) (o_eq hl (infI_lt 1)) (o_eq hh (infI_lt (-1))) rfl rfl w
 rw [right_eq hl hh] at h
 exact h
theorem zero_w (x:Nat) (hx:x<18446744073709551616) (w:World):Calls Tryd.prog 77 #[.float .f64 x] w fun e w'=>e=.returned (.float .f64 (pz x))∧w=w':=by
 rcases cases0 x hx with ⟨hn,ho,hc⟩ | ⟨hn,ho,hc⟩ | ⟨hn,ho,hc⟩ | ⟨hn,ho,hc⟩
 · have e:pz x=x:=by unfold pz;rw [if_neg (by omega)]
   rw [e]
   go_enter Tryd.func77,Tryd.ntmps77
   go_wp2
   all_goals (go_ret;exact⟨rfl,rfl⟩)
 · have e:pz x=0:=by unfold pz;split <;> omega
   rw [e]
   go_enter Tryd.func77,Tryd.ntmps77
   go_wp2
   all_goals (go_ret;exact⟨rfl,rfl⟩)
 · have e:pz x=x:=by unfold pz;rw [if_neg (by omega)]
   rw [e]
   go_enter Tryd.func77,Tryd.ntmps77
   go_wp2
   all_goals (go_ret;exact⟨rfl,rfl⟩)
 · have e:pz x=x:=by unfold pz;rw [if_neg (by omega)]
   rw [e]
   go_enter Tryd.func77,Tryd.ntmps77
   go_wp2
   all_goals (go_ret;exact⟨rfl,rfl⟩)
theorem rempty_w (w:World):Calls Tryd.prog 40 #[] w fun e w'=>e=.returned (.agg #[.float .f64 (infI 1),.float .f64 (infI (-1))])∧Below w.heap.size w w':=by
 go_enter Tryd.func40,Tryd.ntmps40
 go_wp2_with (go_at_call 76;refine (rinf_w _ _).mono ?_;rintro _ _ ⟨rfl,rfl⟩)
 all_goals (go_returns;exact⟨rfl,by go_grown⟩)
theorem key_word {x:Nat} (hx:x<18446744073709551616):(key x=9218868437227405312→x=9218868437227405312)∧(key x=-9218868437227405312→x=18442240474082181120):=by
 unfold key;split <;> omega
theorem makeP_right (lo hi:Nat) (hl:lo<18446744073709551616) (hh:hi<18446744073709551616):makeP lo hi=if rightB (pz lo) (pz hi) then (pz lo,pz hi) else (infI 1,infI (-1)):=by
 unfold makeP rightB
 cases h:hsB (pz lo) (pz hi)
 · simp only [Bool.or_false]
   split
   · rename_i h1
     split
     · rename_i h2;cases h1
     · rename_i h2
       cases h1
   · rename_i h1
     split
     · rename_i h2
       unfold eqB at h2
       rw [nan_inf,nan_inf,key_up,key_down] at h2
       simp only [Bool.not_false,Bool.and_true,Bool.and_eq_true,decide_eq_true_eq] at h2
       have e1:=(key_word (pz_lt hl)).1 h2.1.2
       have e2:=(key_word (pz_lt hh)).2 h2.2.2
       rw [e1,e2];rfl
     · rfl
 · simp
set_option maxHeartbeats 400000 in
theorem rmake_w (lo hi:Nat) (hl:lo<18446744073709551616) (hh:hi<18446744073709551616) (w:World) :
   Calls Tryd.prog 42 #[.float .f64 lo,.float .f64 hi] w fun e w'=>e=.returned (.agg #[.float .f64 (makeP lo hi).1,.float .f64 (makeP lo hi).2])∧Below w.heap.size w w':=by
 have hs:=fun w=>refRight_w (pz lo) (pz hi) (pz_lt hl) (pz_lt hh) w
 rw [makeP_right lo hi hl hh]
 generalize rightB (pz lo) (pz hi)=b at *
 cases b
 · go_enter Tryd.func42,Tryd.ntmps42
   go_wp2_with (first
     | (go_at_call 77;refine (zero_w _ (by assumption) _).mono ?_;rintro _ _ ⟨rfl,rfl⟩)
     | (go_at_call 78;refine (hs _).mono ?_;rintro _ w1 ⟨rfl,hb1⟩
        have k1:Has2 w1 w.heap.size (.float .f64 0) (.float .f64 0):=Has2.keep ⟨by go_simp,by go_simp,by go_simp,by go_simp,by go_size⟩ hb1
        obtain⟨a0,a1,a2,a3,a4⟩:=k1)
     | (go_at_call 40;refine (rempty_w _).mono ?_;rintro _ w2 ⟨rfl,hb2⟩
        obtain⟨d0,d1,d2,d3,d4⟩:=Has2.keep ⟨a0,a1,a2,a3,a4⟩ hb2))
   all_goals
     refine bodyPost_ret (v:=.agg #[.float .f64 (infI 1),.float .f64 (infI (-1))]) (by simp [results,Tryd.results42,go_sem, *]) rfl ⟨rfl, ?_⟩
     have t:Below w.heap.size w w2:=later (later (by go_grown) hb1) hb2
     repeat' (first | (with_reducible exact t) | (with_reducible refine Below.setCell ?_ ?_ _) | go_size)
 · go_enter Tryd.func42,Tryd.ntmps42
   go_wp2_with (first
     | (go_at_call 77;refine (zero_w _ (by assumption) _).mono ?_;rintro _ _ ⟨rfl,rfl⟩)
     | (go_at_call 78;refine (hs _).mono ?_;rintro _ w1 ⟨rfl,hb1⟩
        have k1:Has2 w1 w.heap.size (.float .f64 0) (.float .f64 0):=Has2.keep ⟨by go_simp,by go_simp,by go_simp,by go_simp,by go_size⟩ hb1
        have k2:Has2 w1 (w.heap.size+1) (.float .f64 (pz lo)) (.float .f64 (pz hi)):=Has2.keep ⟨by go_simp,by go_simp,by go_simp,by go_simp,by go_size⟩ hb1
        obtain⟨a0,a1,a2,a3,a4⟩:=k1
        obtain⟨d0,d1,d2,d3,d4⟩:=k2))
   all_goals
     refine bodyPost_ret (v:=.agg #[.float .f64 (pz lo),.float .f64 (pz hi)]) (by simp [results,Tryd.results42,go_sem, *]) rfl ⟨rfl, ?_⟩
     have t:Below w.heap.size w w1:=later (by go_grown) hb1
     repeat' (first | (with_reducible exact t) | (with_reducible refine Below.setCell ?_ ?_ _) | go_size)
theorem rsame_w (a b c d:Nat) (ha:a<18446744073709551616) (hb:b<18446744073709551616) (hc:c<18446744073709551616) (hd:d<18446744073709551616) (w:World) :
   Calls Tryd.prog 12 #[.agg #[.float .f64 a,.float .f64 b],.agg #[.float .f64 c,.float .f64 d]] w fun e w'=>e=.returned (.bool (sameB a c&&sameB b d))∧Below w.heap.size w w':=by
 have s1:=fun w=>same_w a c ha hc w
 have s2:=fun w=>same_w b d hb hd w
 generalize sameB a c=b1 at *
 generalize sameB b d=b2 at *
 cases b1
 all_goals
   go_enter Tryd.func12,Tryd.ntmps12
   go_wp2_with (first
     | (go_at_call_of 35 (Value.float .f64 a);refine (s1 _).mono ?_;rintro _ _ ⟨rfl,rfl⟩)
     | (go_at_call_of 35 (Value.float .f64 b);refine (s2 _).mono ?_;rintro _ _ ⟨rfl,rfl⟩))
   go_ret
   exact⟨rfl,by go_grown⟩
instance (w0:World):Nonempty (Behind w0):=⟨⟨w0,Below.refl _ _⟩⟩
theorem Behind.call {P:Program} {f:FuncId} {args:Array Value} {w0:World} {n:Behind w0} {v:Value} (h:Calls P f args n.W fun e w'=>e=.returned v∧Below n.W.heap.size n.W w') :
   Calls P f args n.W fun e w''=>e=.returned v∧∃m:Behind w0,w''=m.W :=
 h.mono fun _ w' ⟨a,b⟩=>⟨a,⟨⟨w',later n.bel b⟩,rfl⟩⟩
theorem Has2.c0 {w:World} {b:Nat} {x y:Value} (h:Has2 w b x y):w.cell? ⟨b,0,none⟩=some x:=h.1
theorem Has2.c1 {w:World} {b:Nat} {x y:Value} (h:Has2 w b x y):w.cell? ⟨b,1,none⟩=some y:=h.2.1
theorem below_alloc {w W:World} (h:Below w.heap.size w W) (o:Obj):Below w.heap.size w (W.alloc o):=h.alloc h.size o
theorem has2_new (w:World) (x y:Value) (T:TypeId):Has2 (w.alloc (.cells #[x,y] T)) w.heap.size x y:=⟨by go_simp,by go_simp,by go_simp,by go_simp,by go_size⟩
section
variable {P:Program} {ops hd:Array Oper} {C:World→Prop}
theorem any_more {md:Region.Mode} {Q:Exit→Act→World→Prop}:∀(f:Nat) (listed:Array Bool) (a:Act) (w:World),wpAny P md ops Q f listed a w→wpAny P md ops Q (f+1) listed a w
 | 0,_,_,_,h=>⟨fun _=>h.2,fun i hi=>by rw [h.1] at hi;cases hi⟩
 | f+1,_,_,_,h=>⟨h.1,fun i hi=>wpOp_mono (fun a' w' h'=>any_more f _ a' w' h') (h.2 i hi)⟩
theorem any_more' {md:Region.Mode} {Q:Exit→Act→World→Prop} {g:Nat} {listed:Array Bool} {a:Act} {w:World} (h:wpAny P md ops Q g listed a w):∀f,wpAny P md ops Q (f+g) listed a w
 | 0=>by rw [Nat.zero_add];exact h
 | f+1=>by rw [show f+1+g=(f+g)+1 by omega];exact any_more _ _ _ _ (any_more' h f)
structure Heads (md:Region.Mode) (ops hd:Array Oper) (n:Nat):Prop where
 size:hd.size=n
 lt:n<ops.size
 same:∀j,j<n→hd[j]?=ops[j]?
 low:∀j o,j<n→ops[j]?=some o→∀e∈o.after,Region.binds md e=true→e.on<j
 guard:∀j o k b,j<n→ops[j]?=some o→o.guard=some (k,b)→k<n
theorem head_wanted {md:Region.Mode} {n j:Nat} {o:Oper} (H:Heads md ops hd n) (hj:j<n) (ho:ops[j]?=some o) (t:Array Value):Region.wanted o (yielded hd t)=Region.wanted o (yielded ops t):=by
 unfold Region.wanted
 cases hg:o.guard with
 | none=>rfl
 | some p =>
   obtain⟨k,b⟩:=p
   have hk:=H.guard j o k b hj ho hg
   have e:=H.same k hk
   simp only [yielded,e]
theorem getD_any {l:Array Bool} {i:Nat} (hi:i<l.size) (b c:Bool):l.getD i b=l.getD i c:=by
 simp [hi]
theorem head_q {md:Region.Mode} {n j:Nat} (H:Heads md ops hd n) (hj:j<n) {K:Act→Prop} {a:Act} (h:qOp P hd C j K a):qOp P ops C j K a:=by
 have e:=H.same j hj
 unfold qOp at h ⊢
 rw [e] at h
 cases ho:ops[j]? with
 | none=>rw [ho] at h;exact h
 | some o =>
   rw [ho] at h
   simp only at h ⊢
   rw [head_wanted H hj ho] at h
   exact h
theorem head_split {md:Region.Mode} {n g:Nat} {Q:Exit→Act→World→Prop} {Qh:Act→Prop} (H:Heads md ops hd n) (hs:Region.sinkB md ops n=true) (hc:Region.chainB md ops n=true)
   (hT:∀listed a w,HeadInv md ops n listed→(∀j,j<n→listed.getD j true=true)→C w→Qh a→wpAny P md ops Q g listed a w) :
   ∀(f:Nat) (lh listed:Array Bool) (a:Act) (w:World),HeadInv md ops n listed→lh.size=n→(∀j,j<n→lh.getD j true=listed.getD j true)→C w→wpAnyQ P md hd C Qh f lh a→wpAny P md ops Q (f+g) listed a w:=by
 have up:∀(lh listed:Array Bool),HeadInv md ops n listed→lh.size=n→(∀j,j<n→lh.getD j true=listed.getD j true)→∀j,j<n→(j∈Region.ready md hd lh↔j∈Region.ready md ops listed):=fun lh listed inv hsz ag j hj=>by
   have hn:=H.lt
   rw [mem_ready,mem_ready,ag j hj,H.same j hj]
   have key:∀o,ops[j]?=some o→∀e∈o.after,Region.binds md e=true→lh.getD e.on false=listed.getD e.on false:=fun o ho e he hb=>by
     have hl:=H.low j o hj ho e he hb
     rw [getD_any (l:=lh) (by omega) false true,getD_any (l:=listed) (by rw [inv.size];omega) false true]
     exact ag e.on (by omega)
   refine and_congr_right fun _=>⟨fun ⟨o,ho,h⟩=>⟨o,ho,fun e he hb=>?_⟩,fun ⟨o,ho,h⟩=>⟨o,ho,fun e he hb=>?_⟩⟩
   · rw [←key o ho e he hb];exact h e he hb
   · rw [key o ho e he hb];exact h e he hb
 have full:∀(lh listed:Array Bool),HeadInv md ops n listed→lh.size=n→(∀j,j<n→lh.getD j true=listed.getD j true)→Region.ready md hd lh=[]→∀j,j<n→listed.getD j true=true:=fun lh listed inv hsz ag hr j=>by
   induction j using Nat.strongRecOn with
   | _ j ih =>
     intro hj
     cases hl:listed.getD j true with
     | true=>rfl
     | false =>
       have hn:=H.lt
       have:j∈Region.ready md hd lh:=by
         rw [up lh listed inv hsz ag j hj,mem_ready]
         refine⟨hl,ops[j]'(by omega),by simp,fun e he hb=>?_⟩
         have lw:=H.low j (ops[j]'(by omega)) hj (by simp) e he hb
         rw [getD_any (l:=listed) (by rw [inv.size];omega) false true]
         exact ih e.on lw (by omega)
       rw [hr] at this
       cases this
 intro f
 induction f with
 | zero =>
   intro lh listed a w inv hsz ag hC h
   rw [Nat.zero_add]
   exact hT listed a w inv (full lh listed inv hsz ag h.1) hC h.2
 | succ f ih =>
   intro lh listed a w inv hsz ag hC h
   by_cases hr:Region.ready md hd lh=[]
   · exact any_more' (hT listed a w inv (full lh listed inv hsz ag hr) hC (h.1 hr)) _
   · obtain⟨i,hi⟩:=List.exists_mem_of_ne_nil _ hr
     have hin:i<n:=by
       obtain⟨_,o,ho,_⟩:=mem_ready.1 hi
       have:=(Array.getElem?_eq_some_iff.1 ho).1
       rw [H.size] at this
       exact this
     have hi':=(up lh listed inv hsz ag i hin).1 hi
     rw [show f+1+g=(f+g)+1 by omega]
     refine⟨fun h0=>(by rw [h0] at hi';cases hi'),fun j hj=>?_⟩
     have hjn:j<n:=by
       rcases Nat.lt_or_ge j n with c | c
       · exact c
       · exact absurd hj (tail_waits hs hc H.lt inv _ i rfl hin (mem_ready.1 hi').1 j c)
     refine wpOp_of_qOp hC (fun a' w' hw' hK=>ih (lh.setIfInBounds j true) (listed.setIfInBounds j true) a' w' (inv.set hj hjn) (by simp [hsz]) (fun k hk=>?_) hw' hK) (head_q H hjn (h.2 j ((up lh listed inv hsz ag j hjn).2 hj)))
     by_cases hjk:j=k
     · subst hjk
       have:=H.lt
       simp [hsz,hk,inv.size,show j<ops.size by omega]
     · rw [Go.getD_set_ne true hjk,Go.getD_set_ne true hjk]
       exact ag k hk
def lowB (l:List Oper) (n:Nat):Bool:=(List.range n).all fun j=>match l[j]? with
 | some o=>(o.after.all fun e=>!Region.binds .any e || decide (e.on<j))&&(match o.guard with | some (k,_)=>decide (k<n) | none=>true)
 | none=>true
def tailB (l:List Oper) (n:Nat):Bool:=Region.lexB .any (l.take n).toArray&&decide (n<l.length)&&Region.sinkB .any l.toArray n&&Region.chainB .any l.toArray n&&lowB l n&&Region.seqB .any l.toArray (l.length-n) n (List.replicate n true++List.replicate (l.length-n) false).toArray
theorem heads_of {l:List Oper} {n:Nat} (hn:n<l.length) (h:lowB l n=true):Heads .any l.toArray (l.take n).toArray n:=by
 have g:∀j o,j<n→l.toArray[j]?=some o→(o.after.all fun e=>!Region.binds .any e || decide (e.on<j))=true∧(match o.guard with | some (k,_)=>decide (k<n) | none=>true)=true:=fun j o hj ho=>by
   have h1:=List.all_eq_true.1 h j (List.mem_range.2 hj)
   have ho':l[j]?=some o:=by simpa using ho
   rw [ho'] at h1
   exact Bool.and_eq_true_iff.1 h1
 refine⟨by simp;omega,by simpa using hn,fun j hj=>by simp [hj],fun j o hj ho e he hb=>?_,fun j o k b hj ho hg=>?_⟩
 · have h2:=Array.all_eq_true_iff_forall_mem.1 (g j o hj ho).1 e he
   rw [hb] at h2
   simpa using h2
 · have h2:=(g j o hj ho).2
   rw [hg] at h2
   simpa using h2
theorem region_tail {id:Nat} {Q:Exit→Act→World→Prop} {a:Act} {w:World} {l:List Oper} (n:Nat) (hm:P.follows .mixedOrders=true) (hB:tailB l n=true) (hC:C w.drew)
   (h:wpQuiet P (l.take n).toArray C (fun a'=>∀w',C w'→wpList P l.toArray Q (l.drop n) a' w') (l.take n) a):(Code.region id l.toArray true).wp P Q a w:=by
 simp only [tailB,Bool.and_eq_true,decide_eq_true_eq] at hB
 obtain⟨⟨⟨⟨⟨hlex,hn⟩,hs⟩,hc⟩,hlow⟩,hseq⟩:=hB
 have H:=heads_of hn hlow
 simp only [Region.lexB,Bool.and_eq_true] at hlex
 have hl:(l.take n).length=n:=by simp;omega
 have q:=wpAnyQ_lex (P:=P) (C:=C) (md:=.any) hlex.1 (l.take n) 0 (Array.replicate (l.take n).toArray.size false) a (by simp) (by simpa using hlex.2) h
 refine wp_region_any hm ?_
 have:=head_split (P:=P) (C:=C) (Q:=Q) (g:=l.length-n) H hs hc (fun listed a' w' inv full hw' hq=>by
   have e:listed=(List.replicate n true++List.replicate (l.length-n) false).toArray:=by
     have sz:=inv.size
     refine Array.ext (by simp [sz];omega) fun i h1 h2=>?_
     have hi:i<l.length:=by rw [sz] at h1;simpa using h1
     rcases Nat.lt_or_ge i n with c | c
     · have:=full i c
       simp [h1] at this
       simp [this,c]
     · have:=inv.tail i c (by simpa using hi)
       simp [h1] at this
       rw [this]
       simp [c]
   have s:=wpAny_of_seq (P:=P) (md:=.any) (Q':=Q) (l.drop n) n listed a' w' (fun j=>by simp [List.getElem?_drop]) (by rw [e,List.length_drop];exact hseq) (hq w' hw')
   rwa [List.length_drop] at s) (l.take n).length (Array.replicate (l.take n).toArray.size false) (Array.replicate l.toArray.size false) a w.drew
   ⟨by simp,fun j oj _ hl=>(by rw [getD_replicate_false] at hl;cases hl),fun t _ ht=>getD_in (by simpa using ht) (getD_replicate_false _ _)⟩ (by simp;omega) (fun j hj=>?_) hC q
 · rw [hl,show n+(l.length-n)=l.toArray.size by simp;omega] at this
   exact this
 · have hj':j<l.length:=by omega
   have hm':min n l.length=n:=by omega
   simp [hm',hj,hj']
theorem tail_behind {id:Nat} {Q:Exit→Act→World→Prop} {a:Act} {w:World} {l:List Oper} (n:Nat) (hm:P.follows .mixedOrders=true) (hB:tailB l n=true)
   (h:wpQuiet P (l.take n).toArray (fun w'=>∃n:Behind w,w'=n.W) (fun a'=>∀w',(∃n:Behind w,w'=n.W)→wpList P l.toArray Q (l.drop n) a' w') (l.take n) a):(Code.region id l.toArray true).wp P Q a w :=
 region_tail (C:=fun w'=>∃n:Behind w,w'=n.W) n hm hB ⟨⟨w.drew,(Below.refl _ _).drew⟩,rfl⟩ h
end
section
variable {P:Program} {ops hd:Array Oper}
end
theorem Has2.lt {w:World} {b:Nat} {x y:Value} (h:Has2 w b x y):b<w.heap.size:=h.2.2.2.2
theorem Has2.far2 {w:World} {b c:Nat} {x y:Value} (h:Has2 w b x y) (hne:c≠b) (u v:Value):Has2 ((w.setCell ⟨c,0,none⟩ u).setCell ⟨c,1,none⟩ v) b x y:=h.far hne u v
theorem Has3.lt {w:World} {b:Nat} {x y z:Value} (h:Has3 w b x y z):b<w.heap.size:=h.2.2.2.2.2.2
theorem Has3.far2 {w:World} {b c:Nat} {x y z:Value} (h:Has3 w b x y z) (hne:c≠b) (u v:Value):Has3 ((w.setCell ⟨c,0,none⟩ u).setCell ⟨c,1,none⟩ v) b x y z:=by
 obtain⟨h0,h1,h2,f0,f1,f2,hl⟩:=h
 have hne':b≠c:=fun e=>hne e.symm
 refine⟨by simp [World.cell?_setCell_far, *],by simp [World.cell?_setCell_far, *],by simp [World.cell?_setCell_far, *],by go_simp,by go_simp,by go_simp, ?_⟩
 simp only [World.size_setCell];exact hl
set_option maxHeartbeats 1000000 in
theorem rdivisor_w (a b:Nat) (w:World) :
   Calls Tryd.prog 60 #[.int .u64 (a:Int),.int .u64 (b:Int)] w fun r w'=>r=.returned (.int .u64 ((Nat.gcd a b:Nat):Int))∧Below w.heap.size w w':=by
 go_enter Tryd.func60,Tryd.ntmps60
 go_upto_region 1 with fail
 go_loopg [0,1] b (fun G s0 s1 wx=>∃(m n:Nat),n≤G∧Below w.heap.size w wx∧s0=.int .u64 (m:Int)∧s1=.int .u64 (n:Int)∧Hid (Nat.gcd m n=Nat.gcd a b))
 case atStart=>exact⟨a,b,Nat.le_refl _,Below.refl _ _,rfl,rfl,rfl⟩
 case round =>
   obtain⟨m,n,hG,HB,rfl,rfl,H⟩:=hrel
   by_cases cn:n=0
   · subst cn
     have e:Hid (m=Nat.gcd a b):=by
       show m=Nat.gcd a b
       rw [←H.out,Nat.gcd_zero_right]
     clear H
     go_wp2_with fail
     go_ret
     exact⟨congrArg (fun x:Nat=>Ending.returned (Value.int .u64 (x:Int))) e.out,HB⟩
   · have z:((n:Int) != 0)=true:=by simpa using cn
     have z1:¬(n:Int)=0:=by omega
     have lt:=Nat.mod_lt m (show 0<n by omega)
     have H2:Hid (Nat.gcd n (m%n)=Nat.gcd a b):=by
       show Nat.gcd n (m%n)=Nat.gcd a b
       rw [←H.out,Nat.gcd_comm n,←Nat.gcd_rec,Nat.gcd_comm]
     have er:=rem_u64 m n
     clear H
     generalize m%n=d at *
     go_wp2_with fail
     go_region
     all_goals
       go_wp2_with fail
       (go_roundg d
        case measure=>omega
        case rel=>exact⟨n,d,Nat.le_refl _,HB.drew,rfl,rfl,H2⟩)
theorem bit_of {l k:Nat} (hk:k<64):l*2^k%18446744073709551616/9223372036854775808=l/2^(64-(k+1))%2:=by
 have e:(9223372036854775808:Nat)=2^63:=by decide
 have e2:(18446744073709551616:Nat)=2^63*2:=by decide
 rw [e2,e,Nat.mod_mul_right_div_self]
 have:l*2^k/2^63=l/2^(64-(k+1)):=by
   have e3:(2:Nat)^63=2^(64-(k+1))*2^k:=by rw [←Nat.pow_add];congr 1;omega
   rw [e3,Nat.mul_div_mul_right _ _ (Nat.two_pow_pos k)]
 rw [this]
theorem half_of {l k:Nat} (hk:k<64):l/2^(64-k)=l/2^(64-(k+1))/2:=by
 rw [Nat.div_div_eq_div_mul,←Nat.pow_succ]
 congr 2
 omega
theorem twice_of {l k:Nat}:l*2^k%18446744073709551616*2%18446744073709551616=l*2^(k+1)%18446744073709551616:=by
 rw [Nat.mod_mul_mod,Nat.pow_succ,Nat.mul_assoc]
def ByI (h l d k r q a:Nat):Prop:=r<d∧a=l*2^k%18446744073709551616∧q<2^k∧h%d*2^k+l/2^(64-k)=q*d+r
theorem byI_start {h l d:Nat} (hd:0<d) (hl:l<18446744073709551616):ByI h l d 0 (h%d) 0 l:=by
 refine⟨Nat.mod_lt _ hd, ?_,by decide, ?_⟩
 · rw [Nat.pow_zero,Nat.mul_one,Nat.mod_eq_of_lt hl]
 · rw [Nat.pow_zero,Nat.mul_one,Nat.sub_zero,Nat.div_eq_of_lt (by simpa using hl)]
   omega
theorem byI_step {h l d k r q a:Nat} (hk:k<64) (H:ByI h l d k r q a):(d≤2*r+a/9223372036854775808→ByI h l d (k+1) (2*r+a/9223372036854775808-d) (2*q+1) (a*2%18446744073709551616)) ∧
   (¬d≤2*r+a/9223372036854775808→ByI h l d (k+1) (2*r+a/9223372036854775808) (2*q) (a*2%18446744073709551616)):=by
 obtain⟨h1,h2,h3,h4⟩:=H
 have b:=bit_of (l:=l) hk
 rw [←h2] at b
 have hf:=half_of (l:=l) hk
 have e:h%d*2^(k+1)+l/2^(64-(k+1))=2*(q*d+r)+a/9223372036854775808:=by
   rw [←h4,hf,b,Nat.pow_succ]
   generalize l/2^(64-(k+1))=x
   rw [←Nat.mul_assoc]
   generalize h%d*2^k=y
   omega
 have ha:a*2%18446744073709551616=l*2^(k+1)%18446744073709551616:=by rw [h2];exact twice_of
 have bb:a/9223372036854775808<2:=by rw [b];exact Nat.mod_lt _ (by omega)
 generalize a/9223372036854775808=t at *
 refine⟨fun c=>⟨by omega,ha,by rw [Nat.pow_succ];omega, ?_⟩,fun c=>⟨by omega,ha,by rw [Nat.pow_succ];omega, ?_⟩⟩
 · rw [e,Nat.add_mul,Nat.mul_assoc,Nat.one_mul]
   omega
 · rw [e,Nat.mul_assoc]
   omega
theorem byI_end {h l d r q a:Nat} (hd:0<d) (H:ByI h l d 64 r q a):q<18446744073709551616∧(h*18446744073709551616+l)/d=h/d*18446744073709551616+q∧(h*18446744073709551616+l)%d=r:=by
 obtain⟨h1,h2,h3,h4⟩:=H
 have e:(2:Nat)^64=18446744073709551616:=by decide
 rw [e] at h3 h4
 rw [Nat.sub_self,Nat.pow_zero,Nat.div_one] at h4
 refine⟨h3, ?_⟩
 have key:h*18446744073709551616+l=r+d*(h/d*18446744073709551616+q):=by
   have:=Nat.div_add_mod h d
   generalize h/d=x at *
   generalize h%d=y at *
   generalize 18446744073709551616=B at *
   subst this
   grind
 rw [key,Nat.add_mul_div_left _ _ hd,Nat.add_mul_mod_self_left,Nat.div_eq_of_lt h1,Nat.mod_eq_of_lt h1]
 simp
theorem or_two (r t:Nat) (hr:2*r+t<18446744073709551616) (ht:t<2):bits .or .u64 ((2*r:Nat):Int) (t:Int)=((2*r+t:Nat):Int):=by
 have e:2*r ||| t=2*r+t:=by
   have:=Nat.two_pow_add_eq_or_of_lt (i:=1) (b:=t) (by simpa using ht) r
   rw [show 2^1*r=2*r by omega] at this
   exact this.symm
 rw [u64_or_nat (2*r) t (by omega) (by omega),e]
theorem Has2.one {w:World} {b:Nat} {x y:Value} (h:Has2 w b x y) (y':Value):Has2 (w.setCell ⟨b,1,none⟩ y') b x y':=by
 obtain⟨h0,h1,f0,f1,hl⟩:=h
 refine⟨by go_simp,by go_simp,by go_simp,by go_simp, ?_⟩
 simp only [World.size_setCell];exact hl
theorem Has2.off1 {w:World} {b c o:Nat} {x y:Value} (h:Has2 w b x y) (hne:b≠c) (v:Value):Has2 (w.setCell ⟨c,o,none⟩ v) b x y:=by
 obtain⟨h0,h1,f0,f1,hl⟩:=h
 have hne':c≠b:=fun e=>hne e.symm
 refine⟨by simp [World.cell?_setCell_far, *],by simp [World.cell?_setCell_far, *],by go_simp,by go_simp, ?_⟩
 simp only [World.size_setCell];exact hl
set_option maxHeartbeats 2000000 in
theorem wby_0 (l d:Nat) (hl:l<18446744073709551616) (hd:0<d) (w:World) :
   Calls Tryd.prog 69 #[.agg #[.int .u64 ((0:Nat):Int),.int .u64 (l:Int)],.int .u64 (d:Int)] w fun r w'=>r=.returned (.tuple #[.agg #[.int .u64 ((0:Nat):Int),.int .u64 ((l/d:Nat):Int)],.int .u64 ((l%d:Nat):Int)])∧Below w.heap.size w w':=by
 have ed:¬(d:Int)=0:=by omega
 have e1:=quo_u64 l d
 have e2:=rem_u64 l d
 have h0:((0:Nat):Int)=0:=rfl
 rw [h0]
 obtain⟨q,hq⟩:∃x,x=l/d:=⟨_,rfl⟩
 obtain⟨r,hr⟩:∃x,x=l%d:=⟨_,rfl⟩
 rw [←hq] at e1 ⊢
 rw [←hr] at e2 ⊢
 have e3:IntKind.u64.wrap (q:Int)=(q:Int):=by rw [IntKind.wrap_u64,hq];have:=Nat.div_le_self l d;omega
 clear hq hr
 go_enter Tryd.func69,Tryd.ntmps69
 go_upto_region 2 with fail
 go_region
 go_wp2_with fail
 refine bodyPost_ret (v:=.tuple #[.agg #[.int .u64 0,.int .u64 (q:Int)],.int .u64 (r:Int)]) (by simp [results,Tryd.results69,go_sem, *]) rfl ⟨?_, ?_⟩
 · rfl
 · repeat' (first | go_grown | (with_reducible refine Below.setCell ?_ ?_ _) | go_size)
set_option maxHeartbeats 2000000 in
theorem wby_n (h l d H L:Nat) (h0:¬h=0) (hh:h<18446744073709551616) (hl:l<18446744073709551616) (hd:0<d) (hd2:d≤9223372036854775808) (S:Sg H L (((h*18446744073709551616+l)/d:Nat):Int)) (w:World) :
   Calls Tryd.prog 69 #[.agg #[.int .u64 (h:Int),.int .u64 (l:Int)],.int .u64 (d:Int)] w fun r w'=>r=.returned (.tuple #[.agg #[.int .u64 (H:Int),.int .u64 (L:Int)],.int .u64 (((h*18446744073709551616+l)%d:Nat):Int)])∧Below w.heap.size w w':=by
 have ed:¬(d:Int)=0:=by omega
 have hz:((h:Int)==0)=false:=by simp;omega
 have e1:=quo_u64 h d
 have e2:=rem_u64 h d
 have H0:Hid (ByI h l d 0 (h%d) 0 l):=byI_start hd hl
 obtain⟨qh,hqh⟩:∃x,x=h/d:=⟨_,rfl⟩
 obtain⟨r0,hr0⟩:∃x,x=h%d:=⟨_,rfl⟩
 have HE:Hid (∀r q a,ByI h l d 64 r q a→H=qh∧L=q∧(h*18446744073709551616+l)%d=r):=by
   intro r q a B
   obtain⟨b1,b2,b3⟩:=byI_end hd B
   have u:=S.uniq (h':=h/d) (l':=q) ⟨Nat.lt_of_le_of_lt (Nat.div_le_self _ _) hh,b1,by
     rw [b2]
     have:h/d<18446744073709551616:=Nat.lt_of_le_of_lt (Nat.div_le_self _ _) hh
     omega⟩
   exact⟨u.1.trans hqh.symm,u.2,b3⟩
 rw [←hqh] at e1
 rw [←hr0] at e2 H0
 have e3:IntKind.u64.wrap (qh:Int)=(qh:Int):=by rw [IntKind.wrap_u64,hqh];have:=Nat.div_le_self h d;omega
 clear S hqh hr0 hh hl h0
 go_enter Tryd.func69,Tryd.ntmps69
 go_upto_region 3 with fail
 go_region
 go_upto_region 5 with fail
 have X:Has2 ((w.alloc (.cells #[.int .u64 (h:Int),.int .u64 (l:Int)] 92)).alloc (.cells #[.int .u64 (qh:Int),.int .u64 0] 92)).drew w.heap.size (.int .u64 (h:Int)) (.int .u64 (l:Int)):=⟨by go_simp,by go_simp,by go_simp,by go_simp,by go_size⟩
 have Y:Has2 ((w.alloc (.cells #[.int .u64 (h:Int),.int .u64 (l:Int)] 92)).alloc (.cells #[.int .u64 (qh:Int),.int .u64 0] 92)).drew (w.heap.size+1) (.int .u64 (qh:Int)) (.int .u64 0):=⟨by go_simp,by go_simp,by go_simp,by go_simp,by go_size⟩
 have HB:Below w.heap.size w ((w.alloc (.cells #[.int .u64 (h:Int),.int .u64 (l:Int)] 92)).alloc (.cells #[.int .u64 (qh:Int),.int .u64 0] 92)).drew:=by go_grown
 generalize ((w.alloc (.cells #[.int .u64 (h:Int),.int .u64 (l:Int)] 92)).alloc (.cells #[.int .u64 (qh:Int),.int .u64 0] 92)).drew=V1 at *
 clear e1 e2 e3 ed hz
 go_loopg [5,27] (64:Nat) (fun G s5 s27 wx=>∃(k r q a:Nat),s5=.int .u64 (r:Int)∧s27=.int .i64 (k:Int)∧k≤64∧64≤k+G∧Below w.heap.size w wx∧Has2 wx w.heap.size (.int .u64 (h:Int)) (.int .u64 (a:Int))∧Has2 wx (w.heap.size+1) (.int .u64 (qh:Int)) (.int .u64 (q:Int))∧Hid (ByI h l d k r q a))
 case atStart=>exact⟨0,r0,0,l,rfl,rfl,by omega,by omega,HB,X,Y,H0⟩
 case round =>
   clear X Y HB H0
   obtain⟨k,r,q,a,rfl,rfl,hk,hG,HB,X,Y,HI⟩:=hrel
   obtain⟨x0,x1,x2,x3,x4⟩:=id X
   obtain⟨y0,y1,y2,y3,y4⟩:=id Y
   by_cases c:k=64
   · subst c
     obtain⟨v1,v2,v3⟩:=HE.out r q a HI.out
     have FE:Hid (H=qh∧L=q∧(h*18446744073709551616+l)%d=r):=⟨v1,v2,v3⟩
     clear v1 v2 v3 HE HI
     go_wp2_with fail
     refine bodyPost_ret (v:=.tuple #[.agg #[.int .u64 (qh:Int),.int .u64 (q:Int)],.int .u64 (r:Int)]) (by simp [results,Tryd.results69,go_sem, *]) rfl ⟨?_, ?_⟩
     · rw [FE.out.1,FE.out.2.1,FE.out.2.2]
     · repeat' (first | (with_reducible exact HB) | (with_reducible refine Below.setCell ?_ ?_ _) | go_size)
   · have kl:(k:Int)<64:=by omega
     obtain⟨s1,s2⟩:=byI_step (show k<64 by omega) HI.out
     have hrd:=HI.out.1
     have hq:q<9223372036854775808:=by
       have h1:=HI.out.2.2.1
       have:(2:Nat)^k≤2^63:=Nat.pow_le_pow_right (by omega) (by omega)
       have e:(2:Nat)^63=9223372036854775808:=by decide
       omega
     have ha:a<18446744073709551616:=by
       have h1:=HI.out.2.1
       have:=Nat.mod_lt (l*2^k) (show 0<18446744073709551616 by decide)
       omega
     obtain⟨t,ht⟩:∃t,t=a/9223372036854775808:=⟨_,rfl⟩
     obtain⟨a',ha'⟩:∃t,t=a*2%18446744073709551616:=⟨_,rfl⟩
     have t2:t<2:=by omega
     rw [←ht,←ha'] at s1 s2
     have f1:IntKind.u64.wrap ((r:Int)*2)=((2*r:Nat):Int):=by rw [IntKind.wrap_u64];omega
     have f2:(a:Int)/9223372036854775808=(t:Int):=by omega
     have f3:=or_two r t (by omega) t2
     have f4:IntKind.u64.wrap ((a:Int)*2)=(a':Int):=by rw [IntKind.wrap_u64];omega
     have f5:IntKind.u64.wrap ((q:Int)*2)=((2*q:Nat):Int):=by rw [IntKind.wrap_u64];omega
     have f6:=or_two q 1 (by omega) (by omega)
     have f7:((1:Nat):Int)=1:=rfl
     rw [f7] at f6
     have b3:2*r+t<18446744073709551616:=by omega
     clear f7 ht ha' HI HE
     generalize 2*r+t=R at *
     generalize 2*r=r2 at *
     generalize 2*q+1=q3 at *
     generalize 2*q=q2 at *
     by_cases cd:d≤R
     · have HN:Hid (ByI h l d (k+1) (R-d) q3 a'):=s1 cd
       have cd':(d:Int)≤(R:Int):=by omega
       have f8:IntKind.u64.wrap ((R:Int)-(d:Int))=((R-d:Nat):Int):=by rw [IntKind.wrap_u64];omega
       have nn:k+1≤64:=by omega
       clear s1 s2 cd hq ha hrd t2
       generalize R-d=R2 at *
       go_wp2_with fail
       (go_roundg (gk-1)
        case measure=>omega
        case rel=>exact⟨k+1,R2,q3,a',rfl,congrArg (Value.int .i64) (show (k:Int)+1=((k+1:Nat):Int) by omega),nn,by omega,by (repeat' (first | (with_reducible exact HB) | (with_reducible refine Below.setCell ?_ ?_ _) | go_size)),((X.one _).off1 (by omega) _).off1 (by omega) _,((Y.off1 (by omega) _).one _).one _,HN⟩)
     · have HN:Hid (ByI h l d (k+1) R q2 a'):=s2 cd
       have cd':¬(d:Int)≤(R:Int):=by omega
       have nn:k+1≤64:=by omega
       clear s1 s2 cd hq ha hrd t2
       go_wp2_with fail
       (go_roundg (gk-1)
        case measure=>omega
        case rel=>exact⟨k+1,R,q2,a',rfl,congrArg (Value.int .i64) (show (k:Int)+1=((k+1:Nat):Int) by omega),nn,by omega,by (repeat' (first | (with_reducible exact HB) | (with_reducible refine Below.setCell ?_ ?_ _) | go_size)),(X.one _).off1 (by omega) _,(Y.off1 (by omega) _).one _,HN⟩)
theorem wby_w (h l d H L:Nat) (hh:h<18446744073709551616) (hl:l<18446744073709551616) (hd:0<d) (hd2:d≤9223372036854775808) (S:Sg H L (((h*18446744073709551616+l)/d:Nat):Int)) (w:World) :
   Calls Tryd.prog 69 #[.agg #[.int .u64 (h:Int),.int .u64 (l:Int)],.int .u64 (d:Int)] w fun r w'=>r=.returned (.tuple #[.agg #[.int .u64 (H:Int),.int .u64 (L:Int)],.int .u64 (((h*18446744073709551616+l)%d:Nat):Int)])∧Below w.heap.size w w':=by
 by_cases h0:h=0
 · subst h0
   rw [Nat.zero_mul,Nat.zero_add] at S ⊢
   have q:l/d<18446744073709551616:=Nat.lt_of_le_of_lt (Nat.div_le_self _ _) hl
   have u:=S.uniq (h':=0) (l':=l/d) ⟨by decide,q,by generalize l/d=x at q ⊢;omega⟩
   rw [u.1,u.2]
   exact wby_0 l d hl hd w
 · exact wby_n h l d H L h0 hh hl hd hd2 S w
end Go.Proofs.YtgocelaghggpmaaDoor
namespace Go.Proofs.YtgocelaghggpmaaDoor
def natOf:List Nat→Nat
 | []=>0
 | d :: ds=>d+4294967296*natOf ds
def Digs (ds:List Nat):Prop:=∀d∈ds,d<4294967296
def Trimmed (ds:List Nat):Prop:=0<ds.length→ds.getD (ds.length-1) 0≠0
theorem natOf_append (a b:List Nat):natOf (a++b)=natOf a+4294967296^a.length*natOf b:=by
 induction a with
 | nil=>simp [natOf]
 | cons d a ih=>simp only [List.cons_append,natOf,ih,List.length_cons,Nat.pow_succ,Nat.mul_add];rw [Nat.mul_comm (4294967296^a.length) 4294967296,Nat.mul_assoc];omega
theorem natOf_lt {ds:List Nat} (h:Digs ds):natOf ds<4294967296^ds.length:=by
 induction ds with
 | nil=>simp [natOf]
 | cons d a ih =>
   have h1:=h d (by simp)
   have h2:=ih (fun x hx=>h x (by simp [hx]))
   simp only [natOf,List.length_cons,Nat.pow_succ]
   omega
theorem Digs.take {ds:List Nat} (h:Digs ds) (k:Nat):Digs (ds.take k):=fun d hd=>h d (List.mem_of_mem_take hd)
theorem Digs.getD {ds:List Nat} (h:Digs ds) (k:Nat):ds.getD k 0<4294967296:=by
 rw [List.getD_eq_getElem?_getD]
 rcases Nat.lt_or_ge k ds.length with c | c
 · rw [List.getElem?_eq_getElem c];exact h _ (List.getElem_mem c)
 · rw [List.getElem?_eq_none c];simp
theorem Digs.append {a b:List Nat} (h:Digs a) (k:Digs b):Digs (a++b):=fun d hd=>by rcases List.mem_append.1 hd with c | c;exact h d c;exact k d c
theorem Digs.one {d:Nat} (h:d<4294967296):Digs [d]:=fun x hx=>by simp at hx;omega
theorem Digs.nil:Digs []:=fun x hx=>by simp at hx
theorem take_succ_getD (ds:List Nat) {k:Nat} (h:k<ds.length):ds.take (k+1)=ds.take k++[ds.getD k 0]:=by
 rw [List.take_add_one,List.getD_eq_getElem?_getD,List.getElem?_eq_getElem h];simp
theorem natOf_take_succ (ds:List Nat) {k:Nat} (h:k<ds.length):natOf (ds.take (k+1))=natOf (ds.take k)+4294967296^k*ds.getD k 0:=by
 rw [take_succ_getD ds h,natOf_append,List.length_take,Nat.min_eq_left (by omega)];simp [natOf]
theorem natOf_take_ge (ds:List Nat) {k:Nat} (h:ds.length≤k):natOf (ds.take k)=natOf ds:=by rw [List.take_of_length_le h]
theorem getD_ge (ds:List Nat) {k:Nat} (h:ds.length≤k):ds.getD k 0=0:=by
 rw [List.getD_eq_getElem?_getD,List.getElem?_eq_none h];rfl
theorem natOf_take_step (ds:List Nat) (k:Nat):natOf (ds.take (k+1))=natOf (ds.take k)+4294967296^k*ds.getD k 0:=by
 rcases Nat.lt_or_ge k ds.length with c | c
 · exact natOf_take_succ ds c
 · rw [natOf_take_ge ds (by omega),natOf_take_ge ds c,getD_ge ds c];simp
theorem Trimmed.low {ds:List Nat} (h:Trimmed ds) (hl:0<ds.length):4294967296^(ds.length-1)≤natOf ds:=by
 have e:=natOf_take_succ ds (k:=ds.length-1) (by omega)
 rw [natOf_take_ge ds (by omega)] at e
 have p:=h hl
 have:=Nat.mul_le_mul_left (4294967296^(ds.length-1)) (show 1≤ds.getD (ds.length-1) 0 by omega)
 omega
theorem pow32 (k:Nat):4294967296^k=2^(32*k):=by rw [Nat.pow_mul]
theorem Trimmed.len {ds:List Nat} (h:Trimmed ds) {k:Nat} (hn:natOf ds<2^k):32*ds.length<k+32:=by
 rcases Nat.eq_zero_or_pos ds.length with c | c
 · omega
 · have h1:=h.low c
   rw [pow32] at h1
   have:=(Nat.pow_lt_pow_iff_right (show 1<2 by omega)).1 (Nat.lt_of_le_of_lt h1 hn)
   omega
theorem Trimmed.zero {ds:List Nat} (h:Trimmed ds):natOf ds=0↔ds.length=0:=by
 constructor
 · intro e
   rcases Nat.eq_zero_or_pos ds.length with c | c
   · exact c
   · have:=h.low c
     have:=Nat.pow_pos (a:=4294967296) (n:=ds.length-1) (by omega)
     omega
 · intro e
   have:ds=[]:=List.eq_nil_of_length_eq_zero e
   subst this;rfl
theorem trimmed_nil:Trimmed []:=fun h=>by simp at h
theorem natOf_lt_of_len {a b:List Nat} (ha:Digs a) (hb:Trimmed b) (h:a.length<b.length):natOf a<natOf b:=by
 have h1:=natOf_lt ha
 have h2:=hb.low (by omega)
 have h3:=Nat.pow_le_pow_right (show 4294967296>0 by omega) (show a.length≤b.length-1 by omega)
 omega
theorem natOf_split (ds:List Nat) (k:Nat):natOf ds=natOf (ds.take k)+4294967296^k*natOf (ds.drop k):=by
 rcases Nat.lt_or_ge k ds.length with c | c
 · have:=natOf_append (ds.take k) (ds.drop k)
   rw [List.take_append_drop,List.length_take,Nat.min_eq_left (by omega)] at this
   exact this
 · rw [natOf_take_ge ds c,List.drop_of_length_le c];simp [natOf]
theorem natOf_lt_at {a b:List Nat} (ha:Digs a) {k:Nat} (hk:k<a.length) (hl:a.length=b.length) (ht:a.drop (k+1)=b.drop (k+1)) (hd:a.getD k 0<b.getD k 0):natOf a<natOf b:=by
 rw [natOf_split a (k+1),natOf_split b (k+1),ht,natOf_take_succ a hk,natOf_take_succ b (by omega)]
 have h1:=natOf_lt (ha.take k)
 rw [List.length_take,Nat.min_eq_left (by omega)] at h1
 have h2:=Nat.mul_le_mul_left (4294967296^k) (show a.getD k 0+1≤b.getD k 0 by omega)
 rw [Nat.mul_add] at h2
 omega
theorem drop_eq_step {a b:List Nat} {k:Nat} (hk:k<a.length) (hl:a.length=b.length) (ht:a.drop (k+1)=b.drop (k+1)) (hd:a.getD k 0=b.getD k 0):a.drop k=b.drop k:=by
 rw [List.drop_eq_getElem_cons hk,List.drop_eq_getElem_cons (show k<b.length by omega),ht]
 rw [List.getD_eq_getElem?_getD,List.getD_eq_getElem?_getD,List.getElem?_eq_getElem hk,List.getElem?_eq_getElem (show k<b.length by omega)] at hd
 simp at hd
 rw [hd]
theorem trim_step (ds:List Nat) {k:Nat} (hk:k<ds.length) (h:ds.getD k 0=0):natOf (ds.take k)=natOf (ds.take (k+1)):=by
 rw [natOf_take_succ ds hk,h];simp
theorem trim_end (ds:List Nat) {k:Nat} (hk:k<ds.length) (h:ds.getD k 0≠0):Trimmed (ds.take (k+1)):=by
 intro _
 rw [List.length_take,Nat.min_eq_left (by omega),List.getD_eq_getElem?_getD,Nat.add_sub_cancel,List.getElem?_take,if_pos (by omega),←List.getD_eq_getElem?_getD]
 exact h
theorem natOf_set (ds:List Nat) (k v:Nat) (hk:k<ds.length):natOf (ds.set k v)+4294967296^k*ds.getD k 0=natOf ds+4294967296^k*v:=by
 induction ds generalizing k with
 | nil=>simp at hk
 | cons d a ih =>
   cases k with
   | zero=>simp [natOf];omega
   | succ k =>
     have:=ih k (by simpa using hk)
     simp only [List.set_cons_succ,natOf,List.getD_cons_succ,Nat.pow_succ]
     rw [Nat.mul_comm (4294967296^k) 4294967296,Nat.mul_assoc,Nat.mul_assoc]
     omega
theorem natOf_zeros (n:Nat):natOf (List.replicate n 0)=0:=by
 induction n with
 | zero=>rfl
 | succ n ih=>simp [List.replicate_succ,natOf,ih]
theorem digs_zeros (n:Nat):Digs (List.replicate n 0):=fun d hd=>by have:=(List.mem_replicate.1 hd).2;omega
theorem Digs.set {ds:List Nat} (h:Digs ds) (k:Nat) {v:Nat} (hv:v<4294967296):Digs (ds.set k v):=fun d hd=>by
 rcases List.mem_or_eq_of_mem_set hd with c | c
 · exact h d c
 · omega
end Go.Proofs.YtgocelaghggpmaaDoor
