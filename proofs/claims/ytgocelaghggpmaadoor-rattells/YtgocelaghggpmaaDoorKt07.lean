/- The walks of the reference's small functions on intervals: what may be, what holds nothing. The walks of the reference's Right, None, Make, Has, Inside, Strict, Same: they answer as the program's. The walks of the reference's Same, Has, Inside and Strict: they answer as the program's. -/
import Derived.Test.YtgocelaghggpmaaDoorKt05
namespace Go.Proofs.YtgocelaghggpmaaDoor
open Go.ChangeShapes Go.WideShapes Go.ChangeAt Go.RowKit
theorem rinf_w (s:Int) (w:World):Calls Tryd.prog 76 #[.int .i64 s] w fun e w'=>e=.returned (.float .f64 (infI s))∧w=w':=by
 go_enter Tryd.func76,Tryd.ntmps76
 go_wp2_with (go_at_call 67;refine (inf_w _ _).mono ?_;rintro _ _ ⟨rfl,rfl⟩)
 all_goals (go_ret;exact⟨rfl,rfl⟩)
theorem rinf_q (s:Int) (w:World):Calls Tryd.prog 76 #[.int .i64 s] w fun e w'=>e=.returned (.float .f64 (infI s))∧w'=w:=turn (rinf_w s w)
theorem minus0_w (x:Nat) (hx:x<18446744073709551616) (w:World):Calls Tryd.prog 122 #[.float .f64 x] w fun e w'=>e=.returned (.bool (mz x))∧w=w':=by
 rcases cases0 x hx with ⟨hn,ho,hc⟩ | ⟨hn,ho,hc⟩ | ⟨hn,ho,hc⟩ | ⟨hn,ho,hc⟩
 · have e:mz x=false:=by unfold mz;simp;omega
   rw [e]
   go_enter Tryd.func122,Tryd.ntmps122
   go_wp2
   all_goals (go_ret;exact⟨rfl,rfl⟩)
 · have e:mz x=((x:Int) != 0):=by
     unfold mz
     rw [Bool.eq_iff_iff];simp only [decide_eq_true_eq,bne_iff_ne,ne_eq];omega
   rw [e]
   go_enter Tryd.func122,Tryd.ntmps122
   go_wp2
   all_goals (go_ret;exact⟨rfl,rfl⟩)
 · have e:mz x=false:=by unfold mz;simp;omega
   rw [e]
   go_enter Tryd.func122,Tryd.ntmps122
   go_wp2
   all_goals (go_ret;exact⟨rfl,rfl⟩)
 · have e:mz x=false:=by unfold mz;simp;omega
   rw [e]
   go_enter Tryd.func122,Tryd.ntmps122
   go_wp2
   all_goals (go_ret;exact⟨rfl,rfl⟩)
theorem minus0_q (x:Nat) (hx:x<18446744073709551616) (w:World):Calls Tryd.prog 122 #[.float .f64 x] w fun e w'=>e=.returned (.bool (mz x))∧w'=w:=turn (minus0_w x hx w)
set_option maxHeartbeats 800000 in
theorem refRight_core (lo hi:Nat) (hl:lo<18446744073709551616) (hh:hi<18446744073709551616) (b1 b2 b3 b4 b5:Bool)
   (o1:(FloatKind.f64.format.order lo hi==some .lt || FloatKind.f64.format.order lo hi==some .eq)=b1) (o2:(FloatKind.f64.format.order lo (infI 1)==some .eq)=b2) (o3:(FloatKind.f64.format.order hi (infI (-1))==some .eq)=b3)
   (o4:mz lo=b4) (o5:mz hi=b5) (w:World) :
   Calls Tryd.prog 78 #[.agg #[.float .f64 lo,.float .f64 hi]] w fun e w'=>e=.returned (.bool (b2&&b3 || b1&&!b2&&!b3&&!b4&&!b5))∧Below w.heap.size w w':=by
 have p2:(FloatKind.f64.format.order lo (infI 1) != some .eq)=!b2:=by rw [←o2];rfl
 have p3:(FloatKind.f64.format.order hi (infI (-1)) != some .eq)=!b3:=by rw [←o3];rfl
 cases b2
 case' false=>cases b1
 case' false.true=>cases b3
 case' false.true.false=>cases b4
 case' false.true.false.false=>cases b5
 case' true=>cases b3
 case' true.false=>cases b1
 all_goals
   try simp only [Bool.not_true,Bool.not_false] at p2 p3
   go_enter Tryd.func78,Tryd.ntmps78
   go_wp2_with fail
   go_quiet (first | (go_at_call 76;refine Calls.quiet_of_same (rinf_q _ _)) | (go_at_call 122;refine Calls.quiet_of_same (minus0_q _ (by assumption) _)))
   go_wp2
   have k0:((w.alloc (Obj.cells #[Value.float FloatKind.f64 lo,Value.float FloatKind.f64 hi] 32)).drewN nq).cell? ⟨w.heap.size,0,none⟩=some (.float .f64 lo):=by go_simp
   have k1:((w.alloc (Obj.cells #[Value.float FloatKind.f64 lo,Value.float FloatKind.f64 hi] 32)).drewN nq).cell? ⟨w.heap.size,1,none⟩=some (.float .f64 hi):=by go_simp
   have kb:Below w.heap.size w ((w.alloc (Obj.cells #[Value.float FloatKind.f64 lo,Value.float FloatKind.f64 hi] 32)).drewN nq):=Go.below_drewN (by go_grown) _
   generalize (w.alloc (Obj.cells #[Value.float FloatKind.f64 lo,Value.float FloatKind.f64 hi] 32)).drewN nq=W at *
   try (go_quiet (first | (go_at_call 76;refine Calls.quiet_of_same (rinf_q _ _)) | (go_at_call 122;refine Calls.quiet_of_same (minus0_q _ (by assumption) _))))
   try go_wp2
   go_ret
   first | exact⟨rfl,kb⟩ | exact⟨rfl,Go.below_drewN kb _⟩
theorem right_eq {lo hi:Nat} (hl:lo<18446744073709551616) (hh:hi<18446744073709551616) :
   (eqB lo (infI 1)&&eqB hi (infI (-1)) || leB lo hi&&!eqB lo (infI 1)&&!eqB hi (infI (-1))&&!mz lo&&!mz hi)=rightB lo hi:=by
 unfold rightB leB eqB hsB
 rw [nan_inf,nan_inf,key_up,key_down]
 cases n1:nanB lo
 · cases n2:nanB hi
   · have k1:=nanB_key hl n1
     have k2:=nanB_key hh n2
     rw [Bool.eq_iff_iff]
     simp only [Bool.not_false,Bool.true_and,Bool.or_eq_true,Bool.and_eq_true,decide_eq_true_eq,Bool.not_eq_true',decide_eq_false_iff_not]
     constructor
     · rintro (h | ⟨⟨⟨⟨h1,h2⟩,h3⟩,h4⟩,h5⟩)
       · exact Or.inl h
       · exact Or.inr ⟨⟨⟨⟨h1,by omega⟩,by omega⟩,h4⟩,h5⟩
     · rintro (h | ⟨⟨⟨⟨h1,h2⟩,h3⟩,h4⟩,h5⟩)
       · exact Or.inl h
       · exact Or.inr ⟨⟨⟨⟨h1,by omega⟩,by omega⟩,h4⟩,h5⟩
   · simp
 · simp
theorem refRight_w (lo hi:Nat) (hl:lo<18446744073709551616) (hh:hi<18446744073709551616) (w:World) :
   Calls Tryd.prog 78 #[.agg #[.float .f64 lo,.float .f64 hi]] w fun e w'=>e=.returned (.bool (rightB lo hi))∧Below w.heap.size w w':=by
 have h:=refRight_core lo hi hl hh _ _ _ _ _ (o_le hl hh) (o_eq hl (infI_lt 1)) (o_eq hh (infI_lt (-1))) rfl rfl w
 rw [right_eq hl hh] at h
 exact h
theorem zero_w (x:Nat) (hx:x<18446744073709551616) (w:World):Calls Tryd.prog 77 #[.float .f64 x] w fun e w'=>e=.returned (.float .f64 (pz x))∧w=w':=by
 rcases cases0 x hx with ⟨hn,ho,hc⟩ | ⟨hn,ho,hc⟩ | ⟨hn,ho,hc⟩ | ⟨hn,ho,hc⟩
 · have e:pz x=x:=by unfold pz;rw [if_neg (by omega)]
   rw [e]
   go_enter Tryd.func77,Tryd.ntmps77
   go_wp2
   all_goals (go_ret;exact⟨rfl,rfl⟩)
 · have e:pz x=0:=by unfold pz;split <;> omega
   rw [e]
   go_enter Tryd.func77,Tryd.ntmps77
   go_wp2
   all_goals (go_ret;exact⟨rfl,rfl⟩)
 · have e:pz x=x:=by unfold pz;rw [if_neg (by omega)]
   rw [e]
   go_enter Tryd.func77,Tryd.ntmps77
   go_wp2
   all_goals (go_ret;exact⟨rfl,rfl⟩)
 · have e:pz x=x:=by unfold pz;rw [if_neg (by omega)]
   rw [e]
   go_enter Tryd.func77,Tryd.ntmps77
   go_wp2
   all_goals (go_ret;exact⟨rfl,rfl⟩)
theorem rempty_w (w:World):Calls Tryd.prog 40 #[] w fun e w'=>e=.returned (.agg #[.float .f64 (infI 1),.float .f64 (infI (-1))])∧Below w.heap.size w w':=by
 go_enter Tryd.func40,Tryd.ntmps40
 go_wp2_with (go_at_call 76;refine (rinf_w _ _).mono ?_;rintro _ _ ⟨rfl,rfl⟩)
 all_goals (go_returns;exact⟨rfl,by go_grown⟩)
theorem key_word {x:Nat} (hx:x<18446744073709551616):(key x=9218868437227405312→x=9218868437227405312)∧(key x=-9218868437227405312→x=18442240474082181120):=by
 unfold key;split <;> omega
theorem makeP_right (lo hi:Nat) (hl:lo<18446744073709551616) (hh:hi<18446744073709551616):makeP lo hi=if rightB (pz lo) (pz hi) then (pz lo,pz hi) else (infI 1,infI (-1)):=by
 unfold makeP rightB
 cases h:hsB (pz lo) (pz hi)
 · simp only [Bool.or_false]
   split
   · rename_i h1
     split
     · rename_i h2;cases h1
     · rename_i h2
       cases h1
   · rename_i h1
     split
     · rename_i h2
       unfold eqB at h2
       rw [nan_inf,nan_inf,key_up,key_down] at h2
       simp only [Bool.not_false,Bool.and_true,Bool.and_eq_true,decide_eq_true_eq] at h2
       have e1:=(key_word (pz_lt hl)).1 h2.1.2
       have e2:=(key_word (pz_lt hh)).2 h2.2.2
       rw [e1,e2];rfl
     · rfl
 · simp
set_option maxHeartbeats 400000 in
theorem rmake_w (lo hi:Nat) (hl:lo<18446744073709551616) (hh:hi<18446744073709551616) (w:World) :
   Calls Tryd.prog 42 #[.float .f64 lo,.float .f64 hi] w fun e w'=>e=.returned (.agg #[.float .f64 (makeP lo hi).1,.float .f64 (makeP lo hi).2])∧Below w.heap.size w w':=by
 have hs:=fun w=>refRight_w (pz lo) (pz hi) (pz_lt hl) (pz_lt hh) w
 rw [makeP_right lo hi hl hh]
 generalize rightB (pz lo) (pz hi)=b at *
 cases b
 · go_enter Tryd.func42,Tryd.ntmps42
   go_wp2_with (first
     | (go_at_call 77;refine (zero_w _ (by assumption) _).mono ?_;rintro _ _ ⟨rfl,rfl⟩)
     | (go_at_call 78;refine (hs _).mono ?_;rintro _ w1 ⟨rfl,hb1⟩
        have k1:Has2 w1 w.heap.size (.float .f64 0) (.float .f64 0):=Has2.keep ⟨by go_simp,by go_simp,by go_simp,by go_simp,by go_size⟩ hb1
        obtain⟨a0,a1,a2,a3,a4⟩:=k1)
     | (go_at_call 40;refine (rempty_w _).mono ?_;rintro _ w2 ⟨rfl,hb2⟩
        obtain⟨d0,d1,d2,d3,d4⟩:=Has2.keep ⟨a0,a1,a2,a3,a4⟩ hb2))
   all_goals
     refine bodyPost_ret (v:=.agg #[.float .f64 (infI 1),.float .f64 (infI (-1))]) (by simp [results,Tryd.results42,go_sem, *]) rfl ⟨rfl, ?_⟩
     have t:Below w.heap.size w w2:=later (later (by go_grown) hb1) hb2
     repeat' (first | (with_reducible exact t) | (with_reducible refine Below.setCell ?_ ?_ _) | go_size)
 · go_enter Tryd.func42,Tryd.ntmps42
   go_wp2_with (first
     | (go_at_call 77;refine (zero_w _ (by assumption) _).mono ?_;rintro _ _ ⟨rfl,rfl⟩)
     | (go_at_call 78;refine (hs _).mono ?_;rintro _ w1 ⟨rfl,hb1⟩
        have k1:Has2 w1 w.heap.size (.float .f64 0) (.float .f64 0):=Has2.keep ⟨by go_simp,by go_simp,by go_simp,by go_simp,by go_size⟩ hb1
        have k2:Has2 w1 (w.heap.size+1) (.float .f64 (pz lo)) (.float .f64 (pz hi)):=Has2.keep ⟨by go_simp,by go_simp,by go_simp,by go_simp,by go_size⟩ hb1
        obtain⟨a0,a1,a2,a3,a4⟩:=k1
        obtain⟨d0,d1,d2,d3,d4⟩:=k2))
   all_goals
     refine bodyPost_ret (v:=.agg #[.float .f64 (pz lo),.float .f64 (pz hi)]) (by simp [results,Tryd.results42,go_sem, *]) rfl ⟨rfl, ?_⟩
     have t:Below w.heap.size w w1:=later (by go_grown) hb1
     repeat' (first | (with_reducible exact t) | (with_reducible refine Below.setCell ?_ ?_ _) | go_size)
theorem rsame_w (a b c d:Nat) (ha:a<18446744073709551616) (hb:b<18446744073709551616) (hc:c<18446744073709551616) (hd:d<18446744073709551616) (w:World) :
   Calls Tryd.prog 12 #[.agg #[.float .f64 a,.float .f64 b],.agg #[.float .f64 c,.float .f64 d]] w fun e w'=>e=.returned (.bool (sameB a c&&sameB b d))∧Below w.heap.size w w':=by
 have s1:=fun w=>same_w a c ha hc w
 have s2:=fun w=>same_w b d hb hd w
 generalize sameB a c=b1 at *
 generalize sameB b d=b2 at *
 cases b1
 all_goals
   go_enter Tryd.func12,Tryd.ntmps12
   go_wp2_with (first
     | (go_at_call_of 35 (Value.float .f64 a);refine (s1 _).mono ?_;rintro _ _ ⟨rfl,rfl⟩)
     | (go_at_call_of 35 (Value.float .f64 b);refine (s2 _).mono ?_;rintro _ _ ⟨rfl,rfl⟩))
   go_ret
   exact⟨rfl,by go_grown⟩
end Go.Proofs.YtgocelaghggpmaaDoor
