/- The walks of the reference's small functions on intervals: what may be, what holds nothing. The walks of the reference's Right, None, Make, Has, Inside, Strict, Same: they answer as the program's. The walks of the reference's Same, Has, Inside and Strict: they answer as the program's. The walks of counted, Hull and Meet. The walks of Meet, of the laws' hull, and of Add and Mul with an interval that holds nothing. Plain facts: hulls hold both, meets lie in both and hold just what both hold. What is taken off itself holds nought, what is divided by itself one; negatives twice; the least amount is not above the greatest. A region that draws its order, whose callees make memory of their own but change none: one walk, in the text's order, over all worlds that are as the first one was below its end. The walk of the statement IvalLattice: its two variables. IvalLattice: for every two intervals and every float64 the statement's answer is true. -/
import Derived.Test.YtgfppdboogldlaaGreatZs06
import Derived.Test.YtgfppdboogldlaaGreatZs08
import Derived.Test.YtgfppdboogldlaaGreatZs11
import Derived.Test.YtgfppdboogldlaaGreatZs03
import Derived.BigQuiet
import Derived.Test.YtgfppdboogldlaaGreatZs07
import Derived.Deep.RegionWith
namespace Go.Proofs.YtgfppdboogldlaaGreat
open Go.ChangeShapes Go.WideShapes Go.ChangeAt Go.RowKit
theorem rinf_w (s:Int) (w:World):Calls Tryz.prog 44 #[.int .i64 s] w fun e w'=>e=.returned (.float .f64 (infI s))∧w=w':=by
 go_enter Tryz.func44,Tryz.ntmps44
 go_wp2_with (go_at_call 64;refine (inf_w _ _).mono ?_;rintro _ _ ⟨rfl,rfl⟩)
 all_goals (go_ret;exact⟨rfl,rfl⟩)
theorem rinf_q (s:Int) (w:World):Calls Tryz.prog 44 #[.int .i64 s] w fun e w'=>e=.returned (.float .f64 (infI s))∧w'=w:=turn (rinf_w s w)
theorem minus0_w (x:Nat) (hx:x<18446744073709551616) (w:World):Calls Tryz.prog 54 #[.float .f64 x] w fun e w'=>e=.returned (.bool (mz x))∧w=w':=by
 rcases cases0 x hx with ⟨hn,ho,hc⟩ | ⟨hn,ho,hc⟩ | ⟨hn,ho,hc⟩ | ⟨hn,ho,hc⟩
 · have e:mz x=false:=by unfold mz;simp;omega
   rw [e]
   go_enter Tryz.func54,Tryz.ntmps54
   go_wp2
   all_goals (go_ret;exact⟨rfl,rfl⟩)
 · have e:mz x=((x:Int) != 0):=by
     unfold mz
     rw [Bool.eq_iff_iff];simp only [decide_eq_true_eq,bne_iff_ne,ne_eq];omega
   rw [e]
   go_enter Tryz.func54,Tryz.ntmps54
   go_wp2
   all_goals (go_ret;exact⟨rfl,rfl⟩)
 · have e:mz x=false:=by unfold mz;simp;omega
   rw [e]
   go_enter Tryz.func54,Tryz.ntmps54
   go_wp2
   all_goals (go_ret;exact⟨rfl,rfl⟩)
 · have e:mz x=false:=by unfold mz;simp;omega
   rw [e]
   go_enter Tryz.func54,Tryz.ntmps54
   go_wp2
   all_goals (go_ret;exact⟨rfl,rfl⟩)
theorem minus0_q (x:Nat) (hx:x<18446744073709551616) (w:World):Calls Tryz.prog 54 #[.float .f64 x] w fun e w'=>e=.returned (.bool (mz x))∧w'=w:=turn (minus0_w x hx w)
set_option maxHeartbeats 800000 in
theorem refRight_core (lo hi:Nat) (hl:lo<18446744073709551616) (hh:hi<18446744073709551616) (b1 b2 b3 b4 b5:Bool)
   (o1:(FloatKind.f64.format.order lo hi==some .lt || FloatKind.f64.format.order lo hi==some .eq)=b1) (o2:(FloatKind.f64.format.order lo (infI 1)==some .eq)=b2) (o3:(FloatKind.f64.format.order hi (infI (-1))==some .eq)=b3)
   (o4:mz lo=b4) (o5:mz hi=b5) (w:World) :
   Calls Tryz.prog 33 #[.agg #[.float .f64 lo,.float .f64 hi]] w fun e w'=>e=.returned (.bool (b2&&b3 || b1&&!b2&&!b3&&!b4&&!b5))∧Below w.heap.size w w':=by
 have p2:(FloatKind.f64.format.order lo (infI 1) != some .eq)=!b2:=by rw [←o2];rfl
 have p3:(FloatKind.f64.format.order hi (infI (-1)) != some .eq)=!b3:=by rw [←o3];rfl
 cases b2
 case' false=>cases b1
 case' false.true=>cases b3
 case' false.true.false=>cases b4
 case' false.true.false.false=>cases b5
 case' true=>cases b3
 case' true.false=>cases b1
 all_goals
   try simp only [Bool.not_true,Bool.not_false] at p2 p3
   go_enter Tryz.func33,Tryz.ntmps33
   go_wp2_with fail
   go_quiet (first | (go_at_call 44;refine Calls.quiet_of_same (rinf_q _ _)) | (go_at_call 54;refine Calls.quiet_of_same (minus0_q _ (by assumption) _)))
   go_wp2
   have k0:((w.alloc (Obj.cells #[Value.float FloatKind.f64 lo,Value.float FloatKind.f64 hi] 43)).drewN nq).cell? ⟨w.heap.size,0,none⟩=some (.float .f64 lo):=by go_simp
   have k1:((w.alloc (Obj.cells #[Value.float FloatKind.f64 lo,Value.float FloatKind.f64 hi] 43)).drewN nq).cell? ⟨w.heap.size,1,none⟩=some (.float .f64 hi):=by go_simp
   have kb:Below w.heap.size w ((w.alloc (Obj.cells #[Value.float FloatKind.f64 lo,Value.float FloatKind.f64 hi] 43)).drewN nq):=below_drewN (by go_grown) _
   generalize (w.alloc (Obj.cells #[Value.float FloatKind.f64 lo,Value.float FloatKind.f64 hi] 43)).drewN nq=W at *
   try (go_quiet (first | (go_at_call 44;refine Calls.quiet_of_same (rinf_q _ _)) | (go_at_call 54;refine Calls.quiet_of_same (minus0_q _ (by assumption) _))))
   try go_wp2
   go_ret
   first | exact⟨rfl,kb⟩ | exact⟨rfl,below_drewN kb _⟩
theorem right_eq {lo hi:Nat} (hl:lo<18446744073709551616) (hh:hi<18446744073709551616) :
   (eqB lo (infI 1)&&eqB hi (infI (-1)) || leB lo hi&&!eqB lo (infI 1)&&!eqB hi (infI (-1))&&!mz lo&&!mz hi)=rightB lo hi:=by
 unfold rightB leB eqB hsB
 rw [nan_inf,nan_inf,key_up,key_down]
 cases n1:nanB lo
 · cases n2:nanB hi
   · have k1:=nanB_key hl n1
     have k2:=nanB_key hh n2
     rw [Bool.eq_iff_iff]
     simp only [Bool.not_false,Bool.true_and,Bool.or_eq_true,Bool.and_eq_true,decide_eq_true_eq,Bool.not_eq_true',decide_eq_false_iff_not]
     constructor
     · rintro (h | ⟨⟨⟨⟨h1,h2⟩,h3⟩,h4⟩,h5⟩)
       · exact Or.inl h
       · exact Or.inr ⟨⟨⟨⟨h1,by omega⟩,by omega⟩,h4⟩,h5⟩
     · rintro (h | ⟨⟨⟨⟨h1,h2⟩,h3⟩,h4⟩,h5⟩)
       · exact Or.inl h
       · exact Or.inr ⟨⟨⟨⟨h1,by omega⟩,by omega⟩,h4⟩,h5⟩
   · simp
 · simp
theorem refRight_w (lo hi:Nat) (hl:lo<18446744073709551616) (hh:hi<18446744073709551616) (w:World) :
   Calls Tryz.prog 33 #[.agg #[.float .f64 lo,.float .f64 hi]] w fun e w'=>e=.returned (.bool (rightB lo hi))∧Below w.heap.size w w':=by
 have h:=refRight_core lo hi hl hh _ _ _ _ _ (o_le hl hh) (o_eq hl (infI_lt 1)) (o_eq hh (infI_lt (-1))) rfl rfl w
 rw [right_eq hl hh] at h
 exact h
theorem none_eq {lo hi:Nat}:(!rightB lo hi || ltB hi lo)=!hsB lo hi:=by
 unfold rightB ltB eqB hsB
 rw [nan_inf,nan_inf,key_up,key_down]
 cases nanB lo
 · cases nanB hi
   · rw [Bool.eq_iff_iff]
     simp only [Bool.not_false,Bool.true_and,Bool.or_eq_true,decide_eq_true_eq,Bool.not_eq_true',Bool.or_eq_false_iff,Bool.and_eq_false_iff,decide_eq_false_iff_not]
     constructor
     · rintro (⟨-,h⟩ | h)
       · exact h
       · exact Or.inl (Or.inl (Or.inl (Or.inl (by omega))))
     · intro h
       by_cases c:key lo=9218868437227405312∧key hi=-9218868437227405312
       · right;omega
       · left
         refine⟨?_,h⟩
         by_cases c1:key lo=9218868437227405312
         · right;intro c2;exact c ⟨c1,c2⟩
         · left;exact c1
   · simp
 · simp
set_option maxHeartbeats 400000 in
theorem none_w (lo hi:Nat) (hl:lo<18446744073709551616) (hh:hi<18446744073709551616) (w:World) :
   Calls Tryz.prog 28 #[.agg #[.float .f64 lo,.float .f64 hi]] w fun e w'=>e=.returned (.bool (!hsB lo hi))∧Below w.heap.size w w':=by
 have c1:=fun w=>refRight_w lo hi hl hh w
 have o1:=o_gt hl hh
 rw [←none_eq]
 generalize rightB lo hi=b1 at *
 generalize ltB hi lo=b2 at *
 cases b1
 case' true=>cases b2
 all_goals
   go_enter Tryz.func28,Tryz.ntmps28
   go_wp2_with
    (go_at_call 33;refine (c1 _).mono ?_;rintro _ w1 ⟨rfl,hb1⟩
     have s0:w1.cell? ⟨w.heap.size,0,none⟩=some (.float .f64 lo):=(hb1.cell (by simp <;> omega)).trans (by go_simp)
     have s1:w1.cell? ⟨w.heap.size,1,none⟩=some (.float .f64 hi):=(hb1.cell (by simp <;> omega)).trans (by go_simp))
   go_ret
   exact⟨rfl,later (by go_grown) hb1⟩
theorem zero_w (x:Nat) (hx:x<18446744073709551616) (w:World):Calls Tryz.prog 32 #[.float .f64 x] w fun e w'=>e=.returned (.float .f64 (pz x))∧w=w':=by
 rcases cases0 x hx with ⟨hn,ho,hc⟩ | ⟨hn,ho,hc⟩ | ⟨hn,ho,hc⟩ | ⟨hn,ho,hc⟩
 · have e:pz x=x:=by unfold pz;rw [if_neg (by omega)]
   rw [e]
   go_enter Tryz.func32,Tryz.ntmps32
   go_wp2
   all_goals (go_ret;exact⟨rfl,rfl⟩)
 · have e:pz x=0:=by unfold pz;split <;> omega
   rw [e]
   go_enter Tryz.func32,Tryz.ntmps32
   go_wp2
   all_goals (go_ret;exact⟨rfl,rfl⟩)
 · have e:pz x=x:=by unfold pz;rw [if_neg (by omega)]
   rw [e]
   go_enter Tryz.func32,Tryz.ntmps32
   go_wp2
   all_goals (go_ret;exact⟨rfl,rfl⟩)
 · have e:pz x=x:=by unfold pz;rw [if_neg (by omega)]
   rw [e]
   go_enter Tryz.func32,Tryz.ntmps32
   go_wp2
   all_goals (go_ret;exact⟨rfl,rfl⟩)
theorem rempty_w (w:World):Calls Tryz.prog 34 #[] w fun e w'=>e=.returned (.agg #[.float .f64 (infI 1),.float .f64 (infI (-1))])∧Below w.heap.size w w':=by
 go_enter Tryz.func34,Tryz.ntmps34
 go_wp2_with (go_at_call 44;refine (rinf_w _ _).mono ?_;rintro _ _ ⟨rfl,rfl⟩)
 all_goals (go_returns;exact⟨rfl,by go_grown⟩)
theorem key_word {x:Nat} (hx:x<18446744073709551616):(key x=9218868437227405312→x=9218868437227405312)∧(key x=-9218868437227405312→x=18442240474082181120):=by
 unfold key;split <;> omega
theorem makeP_right (lo hi:Nat) (hl:lo<18446744073709551616) (hh:hi<18446744073709551616):makeP lo hi=if rightB (pz lo) (pz hi) then (pz lo,pz hi) else (infI 1,infI (-1)):=by
 unfold makeP rightB
 cases h:hsB (pz lo) (pz hi)
 · simp only [Bool.or_false]
   split
   · rename_i h1
     split
     · rename_i h2;cases h1
     · rename_i h2
       cases h1
   · rename_i h1
     split
     · rename_i h2
       unfold eqB at h2
       rw [nan_inf,nan_inf,key_up,key_down] at h2
       simp only [Bool.not_false,Bool.and_true,Bool.and_eq_true,decide_eq_true_eq] at h2
       have e1:=(key_word (pz_lt hl)).1 h2.1.2
       have e2:=(key_word (pz_lt hh)).2 h2.2.2
       rw [e1,e2];rfl
     · rfl
 · simp
set_option maxHeartbeats 400000 in
theorem rmake_w (lo hi:Nat) (hl:lo<18446744073709551616) (hh:hi<18446744073709551616) (w:World) :
   Calls Tryz.prog 15 #[.float .f64 lo,.float .f64 hi] w fun e w'=>e=.returned (.agg #[.float .f64 (makeP lo hi).1,.float .f64 (makeP lo hi).2])∧Below w.heap.size w w':=by
 have hs:=fun w=>refRight_w (pz lo) (pz hi) (pz_lt hl) (pz_lt hh) w
 rw [makeP_right lo hi hl hh]
 generalize rightB (pz lo) (pz hi)=b at *
 cases b
 · go_enter Tryz.func15,Tryz.ntmps15
   go_wp2_with (first
     | (go_at_call 32;refine (zero_w _ (by assumption) _).mono ?_;rintro _ _ ⟨rfl,rfl⟩)
     | (go_at_call 33;refine (hs _).mono ?_;rintro _ w1 ⟨rfl,hb1⟩
        have k1:Has2 w1 w.heap.size (.float .f64 0) (.float .f64 0):=Has2.keep ⟨by go_simp,by go_simp,by go_simp,by go_simp,by go_size⟩ hb1
        obtain⟨a0,a1,a2,a3,a4⟩:=k1)
     | (go_at_call 34;refine (rempty_w _).mono ?_;rintro _ w2 ⟨rfl,hb2⟩
        obtain⟨d0,d1,d2,d3,d4⟩:=Has2.keep ⟨a0,a1,a2,a3,a4⟩ hb2))
   all_goals
     refine bodyPost_ret (v:=.agg #[.float .f64 (infI 1),.float .f64 (infI (-1))]) (by simp [results,Tryz.results15,go_sem, *]) rfl ⟨rfl, ?_⟩
     have t:Below w.heap.size w w2:=later (later (by go_grown) hb1) hb2
     repeat' (first | (with_reducible exact t) | (with_reducible refine Below.setCell ?_ ?_ _) | go_size)
 · go_enter Tryz.func15,Tryz.ntmps15
   go_wp2_with (first
     | (go_at_call 32;refine (zero_w _ (by assumption) _).mono ?_;rintro _ _ ⟨rfl,rfl⟩)
     | (go_at_call 33;refine (hs _).mono ?_;rintro _ w1 ⟨rfl,hb1⟩
        have k1:Has2 w1 w.heap.size (.float .f64 0) (.float .f64 0):=Has2.keep ⟨by go_simp,by go_simp,by go_simp,by go_simp,by go_size⟩ hb1
        have k2:Has2 w1 (w.heap.size+1) (.float .f64 (pz lo)) (.float .f64 (pz hi)):=Has2.keep ⟨by go_simp,by go_simp,by go_simp,by go_simp,by go_size⟩ hb1
        obtain⟨a0,a1,a2,a3,a4⟩:=k1
        obtain⟨d0,d1,d2,d3,d4⟩:=k2))
   all_goals
     refine bodyPost_ret (v:=.agg #[.float .f64 (pz lo),.float .f64 (pz hi)]) (by simp [results,Tryz.results15,go_sem, *]) rfl ⟨rfl, ?_⟩
     have t:Below w.heap.size w w1:=later (by go_grown) hb1
     repeat' (first | (with_reducible exact t) | (with_reducible refine Below.setCell ?_ ?_ _) | go_size)
theorem Has2.put {w:World} {b:Nat} {x y:Value} (h:Has2 w b x y) (x' y':Value):Has2 ((w.setCell ⟨b,0,none⟩ x').setCell ⟨b,1,none⟩ y') b x' y':=by
 obtain⟨h0,h1,f0,f1,hl⟩:=h
 refine⟨by go_simp,by go_simp,by go_simp,by go_simp, ?_⟩
 simp only [World.size_setCell];exact hl
theorem Has2.far {w:World} {b c:Nat} {x y:Value} (h:Has2 w b x y) (hne:c≠b) (x' y':Value):Has2 ((w.setCell ⟨c,0,none⟩ x').setCell ⟨c,1,none⟩ y') b x y:=by
 obtain⟨h0,h1,f0,f1,hl⟩:=h
 have hne':b≠c:=fun e=>hne e.symm
 refine⟨by simp [World.cell?_setCell_far, *],by simp [World.cell?_setCell_far, *],by go_simp,by go_simp, ?_⟩
 simp only [World.size_setCell];exact hl
set_option maxHeartbeats 2000000 in
theorem hull_core (xl xh yl yh a1 a2 b1 b2 m1 m2:Nat)
   (c1:∀w,Calls Tryz.prog 209 #[.agg #[.float .f64 xl,.float .f64 xh]] w fun e w'=>e=.returned (.agg #[.float .f64 a1,.float .f64 a2])∧Below w.heap.size w w')
   (c2:∀w,Calls Tryz.prog 209 #[.agg #[.float .f64 yl,.float .f64 yh]] w fun e w'=>e=.returned (.agg #[.float .f64 b1,.float .f64 b2])∧Below w.heap.size w w')
   (hmin:∀ts t w,(Builtin.min_ ts t #[.float .f64 a1,.float .f64 b1]).run Tryz.prog w=.ok (.float .f64 m1) w) (hmax:∀ts t w,(Builtin.max_ ts t #[.float .f64 a2,.float .f64 b2]).run Tryz.prog w=.ok (.float .f64 m2) w) (w:World) :
   Calls Tryz.prog 182 #[.agg #[.float .f64 xl,.float .f64 xh],.agg #[.float .f64 yl,.float .f64 yh]] w fun e w'=>e=.returned (.agg #[.float .f64 m1,.float .f64 m2])∧Below w.heap.size w w':=by
 go_enter Tryz.func182,Tryz.ntmps182
 go_upto_region 1 with fail
 have X:Has2 (((w.alloc (Obj.cells #[Value.float FloatKind.f64 xl,Value.float FloatKind.f64 xh] 43)).alloc (Obj.cells #[Value.float FloatKind.f64 yl,Value.float FloatKind.f64 yh] 43)).alloc (Obj.cells #[Value.float FloatKind.f64 0,Value.float FloatKind.f64 0] 43)).drew w.heap.size (.float .f64 xl) (.float .f64 xh):=⟨by go_simp,by go_simp,by go_simp,by go_simp,by go_size⟩
 have Y:Has2 (((w.alloc (Obj.cells #[Value.float FloatKind.f64 xl,Value.float FloatKind.f64 xh] 43)).alloc (Obj.cells #[Value.float FloatKind.f64 yl,Value.float FloatKind.f64 yh] 43)).alloc (Obj.cells #[Value.float FloatKind.f64 0,Value.float FloatKind.f64 0] 43)).drew (w.heap.size+1) (.float .f64 yl) (.float .f64 yh):=⟨by go_simp,by go_simp,by go_simp,by go_simp,by go_size⟩
 have R:Has2 (((w.alloc (Obj.cells #[Value.float FloatKind.f64 xl,Value.float FloatKind.f64 xh] 43)).alloc (Obj.cells #[Value.float FloatKind.f64 yl,Value.float FloatKind.f64 yh] 43)).alloc (Obj.cells #[Value.float FloatKind.f64 0,Value.float FloatKind.f64 0] 43)).drew (w.heap.size+1+1) (.float .f64 0) (.float .f64 0):=⟨by go_simp,by go_simp,by go_simp,by go_simp,by go_size⟩
 have HB:Below w.heap.size w (((w.alloc (Obj.cells #[Value.float FloatKind.f64 xl,Value.float FloatKind.f64 xh] 43)).alloc (Obj.cells #[Value.float FloatKind.f64 yl,Value.float FloatKind.f64 yh] 43)).alloc (Obj.cells #[Value.float FloatKind.f64 0,Value.float FloatKind.f64 0] 43)).drew:=by go_grown
 go_cut [] from 5 to 8 (fun wx=>Below w.heap.size w wx∧Has2 wx w.heap.size (.float .f64 a1) (.float .f64 a2)∧Has2 wx (w.heap.size+1) (.float .f64 b1) (.float .f64 b2)∧Has2 wx (w.heap.size+1+1) (.float .f64 0) (.float .f64 0))
 case first =>
   go_region_with (first
     | (go_at_call_of 209 (Value.agg #[.float .f64 xl,.float .f64 xh]);refine (c1 _).mono ?_;rintro _ w1 ⟨rfl,hb1⟩;replace X:=X.keep hb1;replace Y:=Y.keep hb1;replace R:=R.keep hb1;replace HB:=later HB hb1;obtain⟨y0,y1,y2,y3,y4⟩:=id Y)
     | (go_at_call_of 209 (Value.agg #[.float .f64 yl,.float .f64 yh]);refine (c2 _).mono ?_;rintro _ w2 ⟨rfl,hb2⟩;replace X:=X.keep hb2;replace Y:=Y.keep hb2;replace R:=R.keep hb2;replace HB:=later HB hb2;obtain⟨x0,x1,x2,x3,x4⟩:=id X;obtain⟨z0,z1,z2,z3,z4⟩:=id Y))
   all_goals
     go_wp2_with fail
     go_meet
     case rel =>
       refine⟨?_,(X.put _ _).far (by omega) _ _,(Y.far (by omega) _ _).put _ _,(R.far (by omega) _ _).far (by omega) _ _⟩
       repeat' (first | (with_reducible exact HB) | (with_reducible refine Below.setCell ?_ ?_ _) | go_size)
 case rest =>
 obtain⟨hb,⟨x0,x1,x2,x3,x4⟩,⟨y0,y1,y2,y3,y4⟩,⟨d0,d1,d2,d3,d4⟩⟩:=hcut
 go_wp2_with fail
 refine bodyPost_ret (v:=.agg #[.float .f64 m1,.float .f64 m2]) (by simp [results,Tryz.results182,go_sem, *]) rfl ⟨rfl, ?_⟩
 repeat' (first | (with_reducible exact hb) | (with_reducible refine Below.setCell ?_ ?_ _) | go_size)
def meetP (xl xh yl yh:Nat):Nat×Nat:=if hsB xl xh&&hsB yl yh then makeP (maxW xl yl) (minW xh yh) else (infI 1,infI (-1))
theorem hs_num {lo hi:Nat} (h:hsB lo hi=true):nanB lo=false∧nanB hi=false:=by
 unfold hsB at h
 simp only [Bool.and_eq_true,Bool.not_eq_true'] at h
 exact⟨h.1.1.1.1.1.1,h.1.1.1.1.1.2⟩
set_option maxHeartbeats 1000000 in
theorem meet_w (xl xh yl yh:Nat) (h1:xl<18446744073709551616) (h2:xh<18446744073709551616) (h3:yl<18446744073709551616) (h4:yh<18446744073709551616) (w:World) :
   Calls Tryz.prog 159 #[.agg #[.float .f64 xl,.float .f64 xh],.agg #[.float .f64 yl,.float .f64 yh]] w fun e w'=>e=.returned (.agg #[.float .f64 (meetP xl xh yl yh).1,.float .f64 (meetP xl xh yl yh).2])∧Below w.heap.size w w':=by
 have c1:=fun b W hlt c0 c1 c2 c3=>someEmpty2_w b xl xh yl yh h1 h2 h3 h4 W hlt c0 c1 c2 c3
 unfold meetP
 by_cases hs:(hsB xl xh&&hsB yl yh)=true
 · obtain⟨hx,hy⟩:=Bool.and_eq_true_iff.1 hs
   have nx:=hs_num hx
   have ny:=hs_num hy
   have hmax:=fun ts t w=>max_f h1 h3 nx.1 ny.1 Tryz.prog ts t w
   have hmin:=fun ts t w=>min_f h2 h4 nx.2 ny.2 Tryz.prog ts t w
   have lm:maxW xl yl<18446744073709551616:=by rcases (maxW_key xl yl).2 with c | c <;> rw [c] <;> assumption
   have ln:minW xh yh<18446744073709551616:=by rcases (minW_key xh yh).2 with c | c <;> rw [c] <;> assumption
   have c2:=fun w=>make_w (maxW xl yl) (minW xh yh) lm ln w
   rw [hs] at c1 ⊢
   simp only [if_true]
   generalize makeP (maxW xl yl) (minW xh yh)=p at *
   generalize maxW xl yl=u at *
   generalize minW xh yh=v at *
   clear hs h1 h2 h3 h4 nx ny hx hy lm ln
   go_enter Tryz.func159,Tryz.ntmps159
   go_wp2_with (first
     | (go_at_call 114;refine (c1 (w.heap.size+1+1+1) _ (by go_size) (by go_simp) (by go_simp) (by go_simp) (by go_simp)).mono ?_;rintro _ w1 ⟨rfl,hb1⟩
        have R:Has2 w1 (w.heap.size+1+1) (.float .f64 0) (.float .f64 0):=Has2.keep ⟨by go_simp,by go_simp,by go_simp,by go_simp,by go_size⟩ hb1
        have X:Has2 w1 w.heap.size (.float .f64 xl) (.float .f64 xh):=Has2.keep ⟨by go_simp,by go_simp,by go_simp,by go_simp,by go_size⟩ hb1
        have Y:Has2 w1 (w.heap.size+1) (.float .f64 yl) (.float .f64 yh):=Has2.keep ⟨by go_simp,by go_simp,by go_simp,by go_simp,by go_size⟩ hb1
        have HB:Below w.heap.size w w1:=later (by go_grown) hb1
        have x0:=X.1
        have x1:=X.2.1
        have y0:=Y.1
        have y1:=Y.2.1)
     | (go_at_call 113;refine (c2 _).mono ?_;rintro _ w2 ⟨rfl,hb2⟩;replace HB:=later HB hb2;obtain⟨d0,d1,d2,d3,d4⟩:=R.keep hb2))
   refine bodyPost_ret (v:=.agg #[.float .f64 p.1,.float .f64 p.2]) (by simp [results,Tryz.results159,go_sem, *]) rfl ⟨rfl, ?_⟩
   repeat' (first | (with_reducible exact HB) | (with_reducible refine Below.setCell ?_ ?_ _) | go_size)
 · have hs:(hsB xl xh&&hsB yl yh)=false:=by simpa using hs
   rw [hs] at c1 ⊢
   simp only [Bool.false_eq_true,if_false]
   clear hs h1 h2 h3 h4
   go_enter Tryz.func159,Tryz.ntmps159
   go_wp2_with (first
     | (go_at_call 114;refine (c1 (w.heap.size+1+1+1) _ (by go_size) (by go_simp) (by go_simp) (by go_simp) (by go_simp)).mono ?_;rintro _ w1 ⟨rfl,hb1⟩
        have R:Has2 w1 (w.heap.size+1+1) (.float .f64 0) (.float .f64 0):=Has2.keep ⟨by go_simp,by go_simp,by go_simp,by go_simp,by go_size⟩ hb1
        have HB:Below w.heap.size w w1:=later (by go_grown) hb1)
     | (go_at_call 60;refine (empty_w _).mono ?_;rintro _ w2 ⟨rfl,hb2⟩;replace HB:=later HB hb2;obtain⟨d0,d1,d2,d3,d4⟩:=R.keep hb2))
   refine bodyPost_ret (v:=.agg #[.float .f64 (infI 1),.float .f64 (infI (-1))]) (by simp [results,Tryz.results159,go_sem, *]) rfl ⟨rfl, ?_⟩
   repeat' (first | (with_reducible exact HB) | (with_reducible refine Below.setCell ?_ ?_ _) | go_size)
set_option maxHeartbeats 1000000 in
theorem add_none (xl xh yl yh:Nat) (h1:xl<18446744073709551616) (h2:xh<18446744073709551616) (h3:yl<18446744073709551616) (h4:yh<18446744073709551616) (hs:(hsB xl xh&&hsB yl yh)=false) (w:World) :
   Calls Tryz.prog 141 #[.agg #[.float .f64 xl,.float .f64 xh],.agg #[.float .f64 yl,.float .f64 yh]] w fun e w'=>e=.returned (.agg #[.float .f64 (infI 1),.float .f64 (infI (-1))])∧Below w.heap.size w w':=by
 have c1:=fun b W hlt c0 c1 c2 c3=>someEmpty2_w b xl xh yl yh h1 h2 h3 h4 W hlt c0 c1 c2 c3
 rw [hs] at c1
 clear hs h1 h2 h3 h4
 go_enter Tryz.func141,Tryz.ntmps141
 go_wp2_with (first
   | (go_at_call 114;refine (c1 (w.heap.size+1+1+1) _ (by go_size) (by go_simp) (by go_simp) (by go_simp) (by go_simp)).mono ?_;rintro _ w1 ⟨rfl,hb1⟩
      have R:Has2 w1 (w.heap.size+1+1) (.float .f64 0) (.float .f64 0):=Has2.keep ⟨by go_simp,by go_simp,by go_simp,by go_simp,by go_size⟩ hb1
      have HB:Below w.heap.size w w1:=later (by go_grown) hb1)
   | (go_at_call 60;refine (empty_w _).mono ?_;rintro _ w2 ⟨rfl,hb2⟩;replace HB:=later HB hb2;obtain⟨d0,d1,d2,d3,d4⟩:=R.keep hb2))
 refine bodyPost_ret (v:=.agg #[.float .f64 (infI 1),.float .f64 (infI (-1))]) (by simp [results,Tryz.results141,go_sem, *]) rfl ⟨rfl, ?_⟩
 repeat' (first | (with_reducible exact HB) | (with_reducible refine Below.setCell ?_ ?_ _) | go_size)
set_option maxHeartbeats 1000000 in
theorem mul_none (xl xh yl yh:Nat) (h1:xl<18446744073709551616) (h2:xh<18446744073709551616) (h3:yl<18446744073709551616) (h4:yh<18446744073709551616) (hs:(hsB xl xh&&hsB yl yh)=false) (w:World) :
   Calls Tryz.prog 149 #[.agg #[.float .f64 xl,.float .f64 xh],.agg #[.float .f64 yl,.float .f64 yh]] w fun e w'=>e=.returned (.agg #[.float .f64 (infI 1),.float .f64 (infI (-1))])∧Below w.heap.size w w':=by
 have c1:=fun b W hlt c0 c1 c2 c3=>someEmpty2_w b xl xh yl yh h1 h2 h3 h4 W hlt c0 c1 c2 c3
 rw [hs] at c1
 clear hs h1 h2 h3 h4
 go_enter Tryz.func149,Tryz.ntmps149
 go_wp2_with (first
   | (go_at_call 114;refine (c1 (w.heap.size+1+1+1) _ (by go_size) (by go_simp) (by go_simp) (by go_simp) (by go_simp)).mono ?_;rintro _ w1 ⟨rfl,hb1⟩
      have R:Has2 w1 (w.heap.size+1+1) (.float .f64 0) (.float .f64 0):=Has2.keep ⟨by go_simp,by go_simp,by go_simp,by go_simp,by go_size⟩ hb1
      have HB:Below w.heap.size w w1:=later (by go_grown) hb1)
   | (go_at_call 60;refine (empty_w _).mono ?_;rintro _ w2 ⟨rfl,hb2⟩;replace HB:=later HB hb2;obtain⟨d0,d1,d2,d3,d4⟩:=R.keep hb2))
 refine bodyPost_ret (v:=.agg #[.float .f64 (infI 1),.float .f64 (infI (-1))]) (by simp [results,Tryz.results149,go_sem, *]) rfl ⟨rfl, ?_⟩
 repeat' (first | (with_reducible exact HB) | (with_reducible refine Below.setCell ?_ ?_ _) | go_size)
theorem pick_nan {z a b:Nat} (h:z=a∨z=b) (ha:nanB a=false) (hb:nanB b=false):nanB z=false:=by
 rcases h with rfl | rfl
 · exact ha
 · exact hb
theorem pick_ne {z a b:Nat} (h:z=a∨z=b) (ha:a≠9223372036854775808) (hb:b≠9223372036854775808):z≠9223372036854775808:=by
 rcases h with rfl | rfl
 · exact ha
 · exact hb
structure Some2 (lo hi:Nat):Prop where
 nl:nanB lo=false
 nh:nanB hi=false
 le:key lo≤key hi
 lt:key lo<9218868437227405312
 gt:-9218868437227405312<key hi
 zl:lo≠9223372036854775808
 zh:hi≠9223372036854775808
theorem hs_iff {lo hi:Nat}:hsB lo hi=true↔Some2 lo hi:=by
 unfold hsB mz
 simp only [Bool.and_eq_true,Bool.not_eq_true',decide_eq_true_eq,decide_eq_false_iff_not]
 constructor
 · rintro ⟨⟨⟨⟨⟨⟨a,b⟩,c⟩,d⟩,e⟩,f⟩,g⟩
   exact⟨a,b,c,d,e,f,g⟩
 · rintro ⟨a,b,c,d,e,f,g⟩
   exact⟨⟨⟨⟨⟨⟨a,b⟩,c⟩,d⟩,e⟩,f⟩,g⟩
theorem le_iff {a b:Nat}:leB a b=true↔nanB a=false∧nanB b=false∧key a≤key b:=by
 unfold leB
 simp only [Bool.and_eq_true,Bool.not_eq_true',decide_eq_true_eq]
 constructor
 · rintro ⟨⟨a,b⟩,c⟩;exact⟨a,b,c⟩
 · rintro ⟨a,b,c⟩;exact⟨⟨a,b⟩,c⟩
theorem not_some_empty:¬Some2 (infI 1) (infI (-1)):=fun s=>by have:=s.lt;rw [key_up] at this;omega
theorem held_at {lo hi v:Nat} (hl:lo<18446744073709551616) (hh:hi<18446744073709551616) (hv:v<18446744073709551616) (S:Some2 lo hi) (fv:finB v=true) (k1:key lo≤key v) (k2:key v≤key hi):Held lo hi v :=
 ⟨hl,hh,hv,S.nl,S.nh,fv,k1,k2,S.zl,S.zh,hs_iff.2 S⟩
theorem held_some {lo hi:Nat} (hl:lo<18446744073709551616) (hh:hi<18446744073709551616) (S:Some2 lo hi):∃a,Held lo hi a:=by
 cases f1:finB lo
 · cases f2:finB hi
   · refine⟨0,held_at hl hh (by omega) S (by decide) ?_ ?_⟩
     · have k0:key 0=0:=rfl
       rw [k0]
       have:=S.lt
       rcases (key_inf hl S.nl).1 f1 with c | c <;> omega
     · have k0:key 0=0:=rfl
       rw [k0]
       have:=S.gt
       rcases (key_inf hh S.nh).1 f2 with c | c <;> omega
   · exact⟨hi,held_at hl hh hh S f2 S.le (Int.le_refl _)⟩
 · exact⟨lo,held_at hl hh hl S f1 (Int.le_refl _) S.le⟩
theorem held_nonzero {lo hi:Nat} (hl:lo<18446744073709551616) (hh:hi<18446744073709551616) (S:Some2 lo hi) (h:¬(key lo=0∧key hi=0)):∃a,Held lo hi a∧key a≠0:=by
 have s1:=S.le
 have s2:=S.lt
 have s3:=S.gt
 by_cases c1:finB lo=true∧key lo≠0
 · exact⟨lo,held_at hl hh hl S c1.1 (Int.le_refl _) S.le,c1.2⟩
 · by_cases c2:finB hi=true∧key hi≠0
   · exact⟨hi,held_at hl hh hh S c2.1 S.le (Int.le_refl _),c2.2⟩
   · have l:key lo=-9218868437227405312∨key lo=0:=by
       cases f:finB lo
       · rcases (key_inf hl S.nl).1 f with c | c
         · omega
         · exact Or.inl c
       · exact Or.inr (Decidable.not_not.1 fun n=>c1 ⟨f,n⟩)
     have u:key hi=9218868437227405312∨key hi=0:=by
       cases f:finB hi
       · rcases (key_inf hh S.nh).1 f with c | c
         · exact Or.inl c
         · omega
       · exact Or.inr (Decidable.not_not.1 fun n=>c2 ⟨f,n⟩)
     rcases l with l | l
     · have k:key 13830554455654793216=-4607182418800017408:=by decide
       exact⟨13830554455654793216,held_at hl hh (by omega) S (by decide) (by rw [k];omega) (by rw [k];omega),by rw [k];omega⟩
     · have k:key 4607182418800017408=4607182418800017408:=by decide
       exact⟨4607182418800017408,held_at hl hh (by omega) S (by decide) (by rw [k];omega) (by rw [k];omega),by rw [k];omega⟩
theorem addR_nz {a b r:Nat} {d:Int} (h:addR a b d=some r):r≠9223372036854775808:=by
 unfold addR at h
 split at h
 · cases h
 · split at h
   · injection h with h
     rw [←h]
     exact (addF_facts a b d).2.1
   · rename_i nf
     split at h
     · cases h
     · injection h with h
       rw [←h]
       cases fa:finB a
       · simp only [Bool.false_eq_true,if_false]
         exact inf_ne fa
       · simp only [if_true]
         refine inf_ne ?_
         cases fb:finB b
         · rfl
         · rw [fa,fb] at nf;exact absurd rfl nf
structure Behind (w0:World) where
 W:World
 bel:Below w0.heap.size w0 W
instance (w0:World):Nonempty (Behind w0):=⟨⟨w0,Below.refl _ _⟩⟩
theorem region_behind {P:Program} {id:Nat} {Q:Exit→Act→World→Prop} {a:Act} {w:World} {l:List Oper} (hm:P.follows .mixedOrders=true) (hB:Region.lexB .any l.toArray=true)
   (h:wpQuiet P l.toArray (fun w'=>∃n:Behind w,w'=n.W) (fun a'=>∀w',(∃n:Behind w,w'=n.W)→Q .normal a' w') l a):(Code.region id l.toArray true).wp P Q a w :=
 wp_region_quiet (C:=fun w'=>∃n:Behind w,w'=n.W) hm hB ⟨⟨w.drew,(Below.refl _ _).drew⟩,rfl⟩ (by simpa using h)
theorem Behind.call {P:Program} {f:FuncId} {args:Array Value} {w0:World} {n:Behind w0} {v:Value} (h:Calls P f args n.W fun e w'=>e=.returned v∧Below n.W.heap.size n.W w') :
   Calls P f args n.W fun e w''=>e=.returned v∧∃m:Behind w0,w''=m.W :=
 h.mono fun _ w' ⟨a,b⟩=>⟨a,⟨⟨w',later n.bel b⟩,rfl⟩⟩
theorem Behind.cell {w0:World} (n:Behind w0) {b o:Nat} {v:Value} (h:w0.cell? ⟨b,o,none⟩=some v) (hl:b<w0.heap.size):n.W.cell? ⟨b,o,none⟩=some v:=keepsC n.bel h hl
theorem below_alloc {w W:World} (h:Below w.heap.size w W) (o:Obj):Below w.heap.size w (W.alloc o):=h.alloc h.size o
theorem has2_new (w:World) (x y:Value) (T:TypeId):Has2 (w.alloc (.cells #[x,y] T)) w.heap.size x y:=⟨by go_simp,by go_simp,by go_simp,by go_simp,by go_size⟩
theorem pick_lt {z a b:Nat} (h:z=a∨z=b) (ha:a<18446744073709551616) (hb:b<18446744073709551616):z<18446744073709551616:=by
 rcases h with h | h <;> rw [h] <;> assumption
end Go.Proofs.YtgfppdboogldlaaGreat
