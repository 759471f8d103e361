/- The walks of the reference's small functions on intervals: what may be, what holds nothing. The walks of the reference's Right, None, Make, Has, Inside, Strict, Same: they answer as the program's. The walks of the reference's Same, Has, Inside and Strict: they answer as the program's. -/
import Derived.Test.YtopfabemfbdccaaGreatZk07
namespace Go.Proofs.YtopfabemfbdccaaGreat
open Go.ChangeShapes Go.WideShapes Go.ChangeAt Go.RowKit
theorem rinf_w (s:Int) (w:World):Calls Tryz.prog 94 #[.int .i64 s] w fun e w'=>e=.returned (.float .f64 (infI s))/\w=w':=by
 go_enter Tryz.func94,Tryz.ntmps94
 go_wp2_with (go_at_call 97;refine (inf_w _ _).mono ?_;rintro _ _ ⟨rfl,rfl⟩)
 all_goals (go_ret;exact⟨rfl,rfl⟩)
theorem rinf_q (s:Int) (w:World):Calls Tryz.prog 94 #[.int .i64 s] w fun e w'=>e=.returned (.float .f64 (infI s))/\w'=w:=turn (rinf_w s w)
theorem minus0_w (x:Nat) (hx:x<18446744073709551616) (w:World):Calls Tryz.prog 95 #[.float .f64 x] w fun e w'=>e=.returned (.bool (mz x))/\w=w':=by
 rcases cases0 x hx with ⟨hn,ho,hc⟩ | ⟨hn,ho,hc⟩ | ⟨hn,ho,hc⟩ | ⟨hn,ho,hc⟩
 ·have e:mz x=false:=by unfold mz;simp;omega
  rw [e]
  go_enter Tryz.func95,Tryz.ntmps95
  go_wp2
  all_goals (go_ret;exact⟨rfl,rfl⟩)
 ·have e:mz x=((x:Int) != 0):=by
   unfold mz
   rw [Bool.eq_iff_iff];simp only [decide_eq_true_eq,bne_iff_ne,ne_eq];omega
  rw [e]
  go_enter Tryz.func95,Tryz.ntmps95
  go_wp2
  all_goals (go_ret;exact⟨rfl,rfl⟩)
 ·have e:mz x=false:=by unfold mz;simp;omega
  rw [e]
  go_enter Tryz.func95,Tryz.ntmps95
  go_wp2
  all_goals (go_ret;exact⟨rfl,rfl⟩)
 ·have e:mz x=false:=by unfold mz;simp;omega
  rw [e]
  go_enter Tryz.func95,Tryz.ntmps95
  go_wp2
  all_goals (go_ret;exact⟨rfl,rfl⟩)
theorem minus0_q (x:Nat) (hx:x<18446744073709551616) (w:World):Calls Tryz.prog 95 #[.float .f64 x] w fun e w'=>e=.returned (.bool (mz x))/\w'=w:=turn (minus0_w x hx w)
set_option maxHeartbeats 800000 in
theorem refRight_core (lo hi:Nat) (hl:lo<18446744073709551616) (hh:hi<18446744073709551616) (b1 b2 b3 b4 b5:Bool)
  (o1:(FloatKind.f64.format.order lo hi==some .lt || FloatKind.f64.format.order lo hi==some .eq)=b1) (o2:(FloatKind.f64.format.order lo (infI 1)==some .eq)=b2) (o3:(FloatKind.f64.format.order hi (infI (-1))==some .eq)=b3)
  (o4:mz lo=b4) (o5:mz hi=b5) (w:World) :
  Calls Tryz.prog 45 #[.agg #[.float .f64 lo,.float .f64 hi]] w fun e w'=>e=.returned (.bool (b2&&b3 || b1&&!b2&&!b3&&!b4&&!b5))/\Below w.heap.size w w':=by
 have p2:(FloatKind.f64.format.order lo (infI 1) != some .eq)=!b2:=by rw [<-o2];rfl
 have p3:(FloatKind.f64.format.order hi (infI (-1)) != some .eq)=!b3:=by rw [<-o3];rfl
 cases b2
 case' false=>cases b1
 case' false.true=>cases b3
 case' false.true.false=>cases b4
 case' false.true.false.false=>cases b5
 case' true=>cases b3
 case' true.false=>cases b1
 all_goals
  try simp only [Bool.not_true,Bool.not_false] at p2 p3
  go_enter Tryz.func45,Tryz.ntmps45
  go_wp2_with fail
  go_quiet (first | (go_at_call 94;refine Calls.quiet_of_same (rinf_q _ _)) | (go_at_call 95;refine Calls.quiet_of_same (minus0_q _ (by assumption) _)))
  go_wp2
  have k0:((w.alloc (Obj.cells #[Value.float FloatKind.f64 lo,Value.float FloatKind.f64 hi] 24)).drewN nq).cell? ⟨w.heap.size,0,none⟩=some (.float .f64 lo):=by go_simp
  have k1:((w.alloc (Obj.cells #[Value.float FloatKind.f64 lo,Value.float FloatKind.f64 hi] 24)).drewN nq).cell? ⟨w.heap.size,1,none⟩=some (.float .f64 hi):=by go_simp
  have kb:Below w.heap.size w ((w.alloc (Obj.cells #[Value.float FloatKind.f64 lo,Value.float FloatKind.f64 hi] 24)).drewN nq):=below_drewN (by go_grown) _
  generalize (w.alloc (Obj.cells #[Value.float FloatKind.f64 lo,Value.float FloatKind.f64 hi] 24)).drewN nq=W at *
  try (go_quiet (first | (go_at_call 94;refine Calls.quiet_of_same (rinf_q _ _)) | (go_at_call 95;refine Calls.quiet_of_same (minus0_q _ (by assumption) _))))
  try go_wp2
  go_ret
  first | exact⟨rfl,kb⟩ | exact⟨rfl,below_drewN kb _⟩
theorem right_eq {lo hi:Nat} (hl:lo<18446744073709551616) (hh:hi<18446744073709551616) :
  (eqB lo (infI 1)&&eqB hi (infI (-1)) || leB lo hi&&!eqB lo (infI 1)&&!eqB hi (infI (-1))&&!mz lo&&!mz hi)=rightB lo hi:=by
 unfold rightB leB eqB hsB
 rw [nan_inf,nan_inf,key_up,key_down]
 cases n1:nanB lo
 ·cases n2:nanB hi
  ·have k1:=nanB_key hl n1
   have k2:=nanB_key hh n2
   rw [Bool.eq_iff_iff]
   simp only [Bool.not_false,Bool.true_and,Bool.or_eq_true,Bool.and_eq_true,decide_eq_true_eq,Bool.not_eq_true',decide_eq_false_iff_not]
   constructor
   ·rintro (h | ⟨⟨⟨⟨h1,h2⟩,h3⟩,h4⟩,h5⟩)
    ·exact Or.inl h
    ·exact Or.inr ⟨⟨⟨⟨h1,by omega⟩,by omega⟩,h4⟩,h5⟩
   ·rintro (h | ⟨⟨⟨⟨h1,h2⟩,h3⟩,h4⟩,h5⟩)
    ·exact Or.inl h
    ·exact Or.inr ⟨⟨⟨⟨h1,by omega⟩,by omega⟩,h4⟩,h5⟩
  ·simp
 ·simp
theorem refRight_w (lo hi:Nat) (hl:lo<18446744073709551616) (hh:hi<18446744073709551616) (w:World) :
  Calls Tryz.prog 45 #[.agg #[.float .f64 lo,.float .f64 hi]] w fun e w'=>e=.returned (.bool (rightB lo hi))/\Below w.heap.size w w':=by
 have h:=refRight_core lo hi hl hh _ _ _ _ _ (o_le hl hh) (o_eq hl (infI_lt 1)) (o_eq hh (infI_lt (-1))) rfl rfl w
 rw [right_eq hl hh] at h
 exact h
theorem none_eq {lo hi:Nat}:(!rightB lo hi || ltB hi lo)=!hsB lo hi:=by
 unfold rightB ltB eqB hsB
 rw [nan_inf,nan_inf,key_up,key_down]
 cases nanB lo
 ·cases nanB hi
  ·rw [Bool.eq_iff_iff]
   simp only [Bool.not_false,Bool.true_and,Bool.or_eq_true,decide_eq_true_eq,Bool.not_eq_true',Bool.or_eq_false_iff,Bool.and_eq_false_iff,decide_eq_false_iff_not]
   constructor
   ·rintro (⟨-,h⟩ | h)
    ·exact h
    ·exact Or.inl (Or.inl (Or.inl (Or.inl (by omega))))
   ·intro h
    by_cases c:key lo=9218868437227405312/\key hi=-9218868437227405312
    ·right;omega
    ·left
     refine⟨?_,h⟩
     by_cases c1:key lo=9218868437227405312
     ·right;intro c2;exact c ⟨c1,c2⟩
     ·left;exact c1
  ·simp
 ·simp
set_option maxHeartbeats 400000 in
theorem none_w (lo hi:Nat) (hl:lo<18446744073709551616) (hh:hi<18446744073709551616) (w:World) :
   Calls Tryz.prog 30 #[.agg #[.float .f64 lo,.float .f64 hi]] w fun e w'=>e=.returned (.bool (!hsB lo hi))/\Below w.heap.size w w':=by
 have c1:=fun w=>refRight_w lo hi hl hh w
 have o1:=o_gt hl hh
 rw [<-none_eq]
 generalize rightB lo hi=b1 at *
 generalize ltB hi lo=b2 at *
 cases b1
 case' true=>cases b2
 all_goals
   go_enter Tryz.func30,Tryz.ntmps30
   go_wp2_with
    (go_at_call 45;refine (c1 _).mono ?_;rintro _ w1 ⟨rfl,hb1⟩
     have s0:w1.cell? ⟨w.heap.size,0,none⟩=some (.float .f64 lo):=(hb1.cell (by simp <;> omega)).trans (by go_simp)
     have s1:w1.cell? ⟨w.heap.size,1,none⟩=some (.float .f64 hi):=(hb1.cell (by simp <;> omega)).trans (by go_simp))
   go_ret
   exact⟨rfl,later (by go_grown) hb1⟩
theorem key_word {x:Nat} (hx:x<18446744073709551616):(key x=9218868437227405312->x=9218868437227405312)/\(key x=-9218868437227405312->x=18442240474082181120):=by
 unfold key;split <;> omega
set_option maxHeartbeats 800000 in
theorem rinside_w (xl xh yl yh:Nat) (h1:xl<18446744073709551616) (h2:xh<18446744073709551616) (h3:yl<18446744073709551616) (h4:yh<18446744073709551616) (w:World) :
   Calls Tryz.prog 31 #[.agg #[.float .f64 xl,.float .f64 xh],.agg #[.float .f64 yl,.float .f64 yh]] w fun e w'=>e=.returned (.bool (insideB xl xh yl yh))/\Below w.heap.size w w':=by
 have c1:=fun W=>none_w xl xh h1 h2 W
 have c2:=fun W=>none_w yl yh h3 h4 W
 have o1:=o_ge h1 h3
 have o2:=o_le h2 h4
 unfold insideB
 generalize hsB xl xh=b1 at *
 generalize hsB yl yh=b2 at *
 generalize leB yl xl=b3 at *
 generalize leB xh yh=b4 at *
 clear h1 h2 h3 h4
 cases b1
 · go_enter Tryz.func31,Tryz.ntmps31
   go_wp2_with (go_at_call 30;refine (c1 _).mono ?_;rintro _ w1 ⟨rfl,hb1⟩)
   go_ret
   exact⟨rfl,later (by go_grown) hb1⟩
 case' true=>cases b2
 case' true.true=>cases b3
 case' true.true.true=>cases b4
 all_goals
   go_enter Tryz.func31,Tryz.ntmps31
   go_upto_region 3 with
    (go_at_call 30;refine (c1 _).mono ?_;rintro _ w1 ⟨rfl,hb1⟩
     have s0:w1.cell? ⟨w.heap.size,0,none⟩=some (.float .f64 xl):=(hb1.cell (by simp <;> omega)).trans (by go_simp)
     have s1:w1.cell? ⟨w.heap.size,1,none⟩=some (.float .f64 xh):=(hb1.cell (by simp <;> omega)).trans (by go_simp)
     have s2:w1.cell? ⟨w.heap.size+1,0,none⟩=some (.float .f64 yl):=(hb1.cell (by simp <;> omega)).trans (by go_simp)
     have s3:w1.cell? ⟨w.heap.size+1,1,none⟩=some (.float .f64 yh):=(hb1.cell (by simp <;> omega)).trans (by go_simp)
     have hz:w.heap.size+1<w1.heap.size:=by have:=hb1.size;simp only [World.size_alloc] at this;omega
     have hB:Below w.heap.size w w1:=later (by go_grown) hb1)
   go_wp2_with
    (go_at_call 30;refine (c2 _).mono ?_;rintro _ w2 ⟨rfl,hb2⟩
     have t0:w2.cell? ⟨w.heap.size,0,none⟩=some (.float .f64 xl):=keepsC hb2 s0 (by omega)
     have t1:w2.cell? ⟨w.heap.size,1,none⟩=some (.float .f64 xh):=keepsC hb2 s1 (by omega)
     have t2:w2.cell? ⟨w.heap.size+1,0,none⟩=some (.float .f64 yl):=keepsC hb2 s2 (by omega)
     have t3:w2.cell? ⟨w.heap.size+1,1,none⟩=some (.float .f64 yh):=keepsC hb2 s3 (by omega))
   go_ret
   exact⟨rfl,later hB hb2⟩
end Go.Proofs.YtopfabemfbdccaaGreat
