/- What Mul of intervals that hold numbers answers: ends with the product between them. What Div, Sqr and Sqrt of intervals that hold numbers answer: ends with the quotient, the square, the root between them. The statement IvalHolds, walked: at every input it answers true. Whole numbers as floats: what is exact is rounded to itself, to whichever side; the walk of the statement UlpWhole. The walks of the reference's small functions on intervals: what may be, what holds nothing. The walks of the reference's Right, None, Make, Has, Inside, Strict, Same: they answer as the program's. The walks of the reference's Same, Has, Inside and Strict: they answer as the program's. -/
import Derived.Test.YtlabmpngbcnhpaaGreatZi14
import Derived.Test.YtlabmpngbcnhpaaGreatZi15
import Derived.Test.YtlabmpngbcnhpaaGreatZi13
import Derived.Test.YtlabmpngbcnhpaaGreatZi12
namespace Go.Proofs.YtlabmpngbcnhpaaGreat
open Go.ChangeShapes Go.WideShapes Go.ChangeAt Go.RowKit
theorem ge0 {x:Nat} (hx:x<18446744073709551616) (hn:nanB x=false):(FloatKind.f64.format.order x 0==some .gt || FloatKind.f64.format.order x 0==some .eq)=decide (0≤key x):=by
 rw [o_ge hx (by omega)]
 unfold leB
 have h0:nanB 0=false:=by decide
 have k0:key 0=0:=rfl
 rw [hn,h0,k0];simp
theorem le0 {x:Nat} (hx:x<18446744073709551616) (hn:nanB x=false):(FloatKind.f64.format.order x 0==some .lt || FloatKind.f64.format.order x 0==some .eq)=decide (key x≤0):=by
 rw [o_le hx (by omega)]
 unfold leB
 have h0:nanB 0=false:=by decide
 have k0:key 0=0:=rfl
 rw [hn,h0,k0];simp
theorem lpP_lt {t fl fh:Nat} (nt:nanB t=false) (n1:nanB fl=false) (n2:nanB fh=false):lpP t fl fh<18446744073709551616:=by
 unfold lpP
 split
 · exact (mulV_facts (-1) nt n2).2
 · exact (mulV_facts (-1) nt n1).2
theorem stretch_w (xl xh fl fh:Nat) (h1:xl<18446744073709551616) (h2:xh<18446744073709551616) (h3:fl<18446744073709551616) (h4:fh<18446744073709551616) (n1:nanB xl=false) (n2:nanB xh=false) (n3:nanB fl=false) (n4:nanB fh=false) (w:World) :
   Calls Tryz.prog 105 #[.agg #[.float .f64 xl,.float .f64 xh],.agg #[.float .f64 fl,.float .f64 fh]] w fun e w'=>e=.returned (.agg #[.float .f64 (makeP (lpP xl fl fh) (negB (lpP (negB xh) fl fh))).1,.float .f64 (makeP (lpP xl fl fh) (negB (lpP (negB xh) fl fh))).2])∧Below w.heap.size w w':=by
 have n5:nanB (negB xh)=false:=by rw [nanB_negB h2];exact n2
 have b1:=lpP_lt (t:=xl) n1 n3 n4
 have b2:=lpP_lt (t:=negB xh) n5 n3 n4
 exact stretch_core xl xh fl fh (negB xh) (lpP xl fl fh) (lpP (negB xh) fl fh) (negB (lpP (negB xh) fl fh)) _ _ (negFloat_eq xh h2) (negFloat_eq _ b2)
   (fun w=>lp_w xl fl fh h1 h3 h4 n1 n3 n4 w) (fun w=>lp_w (negB xh) fl fh (negB_lt h2) h3 h4 n5 n3 n4 w) (fun w=>make_w _ _ b1 (negB_lt b2) w) w
theorem some2 {xl xh yl yh a b:Nat} (X:Held xl xh a) (Y:Held yl yh b):∀b W,b<W.heap.size→W.cell? ⟨b,0,none⟩=some (.float .f64 xl)→W.cell? ⟨b,1,none⟩=some (.float .f64 xh)→W.cell? ⟨b,2,none⟩=some (.float .f64 yl)→W.cell? ⟨b,3,none⟩=some (.float .f64 yh) →
   Calls Tryz.prog 76 #[.slice (some ⟨b,0,none⟩) 2 2] W fun e w'=>e=.returned (.bool false)∧Below W.heap.size W w':=by
 intro b W hlt c0 c1 c2 c3
 have h:=someEmpty2_w b xl xh yl yh X.hl X.hh Y.hl Y.hh W hlt c0 c1 c2 c3
 rw [X.hs,Y.hs] at h
 exact h
theorem mulV_nz {p q:Nat} (d:Int) (np:nanB p=false) (nq:nanB q=false):mulV p q d≠9223372036854775808:=by
 have e:=mulV_is d np nq
 unfold mulR at e
 rw [np,nq] at e
 simp only [Bool.or_self,Bool.false_eq_true,if_false] at e
 split at e
 · injection e with e;rw [←e];decide
 · rename_i z
   split at e
   · injection e with e
     rw [←e]
     have z':(isZ p || isZ q)=false:=by simpa using z
     have z2:=Bool.or_eq_false_iff.1 z'
     have h1:=splitM_lt p
     have h2:=splitM_lt q
     exact (roundN_facts (splitG p != splitG q) (prodM (splitM p) (splitM q)) (prodE (splitM p) (splitE p) (splitM q) (splitE q)) d (prodM_lt (splitM_zero z2.1) (splitM_zero z2.2) (by omega) (by omega))).2.1
   · injection e with e
     rw [←e]
     exact (infW_facts _).2.1
theorem divR_fin {a b:Nat} (d:Int) (fa:finB a=true) (fb:finB b=true) (zb:isZ b=false):divR a b d=some (divF a b d):=by
 unfold divR
 rw [fin_not_nan fa,fin_not_nan fb,zb,fa,fb]
 simp
theorem divF_facts {a b:Nat} (d:Int) (zb:isZ b=false):nanB (divF a b d)=false∧divF a b d≠9223372036854775808∧divF a b d<18446744073709551616:=roundN_facts _ _ _ d (divM_lt zb)
theorem div_mirror {a b:Nat} (hb:b<18446744073709551616) (fa:finB a=true) (fb:finB b=true) (zb:isZ b=false):key (divF a b 1)=- key (divF a (negB b) (-1)):=by
 have m:=divR_mirror (a:=a) (b:=negB b) (negB_lt hb)
 rw [negB_negB hb,divR_fin (-1) fa (by rw [finB_negB hb];exact fb) (by rw [isZ_negB hb];exact zb),divR_fin 1 fa fb zb] at m
 rcases m with ⟨c, -⟩ | ⟨x,y,e1,e2, -, -,k⟩
 · cases c
 · injection e1 with e1
   injection e2 with e2
   rw [e1,e2];exact k
theorem div_sides {a b:Nat} (ha:a<18446744073709551616) (hb:b<18446744073709551616) (fa:finB a=true) (fb:finB b=true) (zb:isZ b=false) :
   Le (divF a b (-1)) (divF a b 0)∧Le (divF a b 0) (divF a b 1)∧key (divF a b (-1))≤9218868437227405311∧-9218868437227405311≤key (divF a b 1):=by
 obtain⟨u,hu⟩:∃u:Nat,u=1075:=⟨_,rfl⟩
 have s:=divR_sides a b
 rw [divR_fin (-1) fa fb zb,divR_fin 0 fa fb zb,divR_fin 1 fa fb zb] at s
 have t1:=(div_bot hu ha fa fb zb).2
 have t2:=(div_bot hu ha fa (b:=negB b) (by rw [finB_negB hb];exact fb) (by rw [isZ_negB hb];exact zb)).2
 have t3:=div_mirror hb fa fb zb
 rcases s with ⟨c, -, -⟩ | ⟨d,n,v,e1,e2,e3,ok⟩
 · cases c
 · injection e1 with e1
   injection e2 with e2
   injection e3 with e3
   obtain⟨⟨nd,nn,nu⟩, -,⟨ld,ln,lu⟩,k1,k2, -⟩:=ok
   rw [e1] at t1 ⊢
   rw [e3] at t3 ⊢
   rw [e2]
   exact⟨⟨ld,ln,nd,nn,k1⟩,⟨ln,lu,nn,nu,k2⟩,t1,by omega⟩
theorem isZ_pos {b:Nat} (hb:b<18446744073709551616) (h:key b≠0):isZ b=false:=by
 cases c:isZ b
 · rfl
 · exact absurd ((key_zero hb).1 c) h
theorem point0_w (w:World):Calls Tryz.prog 42 #[.float .f64 0] w fun e w'=>e=.returned (.agg #[.float .f64 0,.float .f64 0])∧Below w.heap.size w w':=by
 have h:=point_w 0 (by omega) w
 have e:makeP 0 0=(0,0):=by
   have h1:pz 0=0:=rfl
   have h2:hsB 0 0=true:=by decide
   unfold makeP
   rw [h1,if_pos h2]
 rw [e] at h
 exact h
theorem told_calls {f:FuncId} {args:Array Value} {o:Option Nat} {v:Nat} (h:o=some v) (c:∀w,Calls Tryz.prog f args w fun x w'=>Ans o x∧Below w.heap.size w w') :
   ∀w,Calls Tryz.prog f args w fun e w'=>e=.returned (.float .f64 v)∧Below w.heap.size w w':=fun w=>by
 have c:=c w
 rw [h] at c
 refine c.mono ?_
 rintro _ _ ⟨⟨r,rfl, -,e⟩,hb⟩
 have e:r=v:=e
 rw [e]
 exact⟨rfl,hb⟩
theorem kdown_exact {x:Ex} (ok:x.Ok) {k l:Int} (h1:-9218868437227405312≤k) (h2:k≤9218868437227405311) (le:x.le (2*V k)) (ge:x.ge (2*V k)) (h:KDown x l):l=k:=by
 have hk:KDown x k:=⟨h1,h2,Or.inr le,Or.inr fun c=>by
   have:=ok.sep ge c
   have:=V_mono (show k<k+1 by omega)
   omega⟩
 exact Int.le_antisymm (kdown_mono ok (fun _ c=>c) h hk) (kdown_mono ok (fun _ c=>c) hk h)
theorem side_dir (dir:Int) (g:Bool):(dir<0→sideN dir g=sideN (-1) g)∧(dir=0→sideN dir g=sideN 0 g)∧(0<dir→sideN dir g=sideN 1 g):=by
 unfold sideN
 refine⟨fun h=>?_,fun h=>by rw [h],fun h=>?_⟩
 · have h1:¬dir=0:=by omega
   have h2:¬0<dir:=by omega
   simp [h1,h2]
 · have h1:¬dir=0:=by omega
   simp [h1,h]
theorem round_dir (g:Bool) (m:Nat) (e dir:Int):(dir<0∧roundN g m e dir=roundN g m e (-1))∨(dir=0∧roundN g m e dir=roundN g m e 0)∨(0<dir∧roundN g m e dir=roundN g m e 1):=by
 have s:=side_dir dir g
 unfold roundN
 rcases Int.lt_trichotomy dir 0 with c | c | c
 · left;exact⟨c,by rw [s.1 c]⟩
 · right;left;exact⟨c,by rw [s.2.1 c]⟩
 · right;right;exact⟨c,by rw [s.2.2 c]⟩
theorem all_sides {f:Int→Nat} {k:Int} (hd:∀d,(d<0∧f d=f (-1))∨(d=0∧f d=f 0)∨(0<d∧f d=f 1)) (h1:key (f (-1))=k) (h2:key (f 1)=k) (h3:key (f (-1))≤key (f 0)) (h4:key (f 0)≤key (f 1)) (d:Int):key (f d)=k:=by
 rcases hd d with ⟨-,e⟩ | ⟨-,e⟩ | ⟨-,e⟩ <;> rw [e] <;> omega
theorem both {k:Int} (h:-9218868437227405311≤k∧k≤9218868437227405311):(-9218868437227405312≤k∧k≤9218868437227405311)∧(-9218868437227405312≤-k∧-k≤9218868437227405311):=by omega
theorem div_exact {u:Nat} (hu:u=1075) {a b c:Nat} (ha:a<18446744073709551616) (hb:b<18446744073709551616) (hc:c<18446744073709551616) (fa:finB a=true) (fb:finB b=true) (fc:finB c=true) (zb:isZ b=false)
   (h:V (key a)*((2^u:Nat):Int)=2*V (key c)*V (key b)) (dir:Int):key (divF a b dir)=key c:=by
 have kc:=fin_key hc fc
 have core:∀{a b c:Nat},a<18446744073709551616→b<18446744073709551616→finB a=true→finB b=true→isZ b=false→-9218868437227405312≤key c→key c≤9218868437227405311→V (key a)*((2^u:Nat):Int)=2*V (key c)*V (key b)→key (divF a b (-1))=key c:=by
   intro a b c ha hb fa fb zb k1 k2 h
   have kv:=key_val hb
   have e:(if splitG b then -V (key a) else V (key a))*((2^u:Nat):Int)=2*V (key c)*((val (b%9223372036854775808):Nat):Int):=by
     cases g:splitG b
     · rw [g] at kv
       simp only [Bool.false_eq_true,if_false] at kv ⊢
       rw [h,kv]
     · rw [g] at kv
       simp only [if_true] at kv ⊢
       rw [Int.neg_mul,h,kv,Int.mul_neg,Int.neg_neg]
   exact kdown_exact (exQ_ok _ (valz zb)) k1 k2 (by show 2*V (key c)*_≤_;rw [e];exact Int.le_refl _) (by show _≤2*V (key c)*_;rw [e];exact Int.le_refl _) (divF_down hu ha fa fb zb)
 have h1:=core ha hb fa fb zb (both kc).1.1 (both kc).1.2 h
 have h2:=core (c:=negB c) ha (negB_lt hb) fa (by rw [finB_negB hb];exact fb) (by rw [isZ_negB hb];exact zb) (by rw [key_negB hc];exact (both kc).2.1) (by rw [key_negB hc];exact (both kc).2.2) (by rw [key_negB hb,key_negB hc,V_neg,V_neg,h,Int.mul_neg 2,Int.neg_mul_neg])
 have m:=div_mirror hb fa fb zb
 rw [h2,key_negB hc] at m
 obtain⟨s1,s2, -, -⟩:=div_sides ha hb fa fb zb
 exact all_sides (f:=divF a b) (fun d=>round_dir _ _ _ d) h1 (by rw [m,Int.neg_neg]) s1.le s2.le dir
theorem addF_facts (a b:Nat) (d:Int):nanB (addF a b d)=false∧addF a b d≠9223372036854775808∧addF a b d<18446744073709551616:=by
 unfold addF
 exact roundN_facts _ _ _ d (sumM_lt (splitG a) (splitM a) (splitE a) (splitG b) (splitM b) (splitE b) (splitM_lt a) (splitM_lt b))
theorem addR_fin {a b:Nat} (d:Int) (fa:finB a=true) (fb:finB b=true):addR a b d=some (addF a b d):=by
 unfold addR
 rw [fin_not_nan fa,fin_not_nan fb,fa,fb,if_neg (by decide),if_pos (by decide)]
theorem rinf_w (s:Int) (w:World):Calls Tryz.prog 36 #[.int .i64 s] w fun e w'=>e=.returned (.float .f64 (infI s))∧w=w':=by
 go_enter Tryz.func36,Tryz.ntmps36
 go_wp2_with (go_at_call 71;refine (inf_w _ _).mono ?_;rintro _ _ ⟨rfl,rfl⟩)
 all_goals (go_ret;exact⟨rfl,rfl⟩)
theorem rinf_q (s:Int) (w:World):Calls Tryz.prog 36 #[.int .i64 s] w fun e w'=>e=.returned (.float .f64 (infI s))∧w'=w:=turn (rinf_w s w)
theorem minus0_w (x:Nat) (hx:x<18446744073709551616) (w:World):Calls Tryz.prog 88 #[.float .f64 x] w fun e w'=>e=.returned (.bool (mz x))∧w=w':=by
 rcases cases0 x hx with ⟨hn,ho,hc⟩ | ⟨hn,ho,hc⟩ | ⟨hn,ho,hc⟩ | ⟨hn,ho,hc⟩
 · have e:mz x=false:=by unfold mz;simp;omega
   rw [e]
   go_enter Tryz.func88,Tryz.ntmps88
   go_wp2
   all_goals (go_ret;exact⟨rfl,rfl⟩)
 · have e:mz x=((x:Int) != 0):=by
     unfold mz
     rw [Bool.eq_iff_iff];simp only [decide_eq_true_eq,bne_iff_ne,ne_eq];omega
   rw [e]
   go_enter Tryz.func88,Tryz.ntmps88
   go_wp2
   all_goals (go_ret;exact⟨rfl,rfl⟩)
 · have e:mz x=false:=by unfold mz;simp;omega
   rw [e]
   go_enter Tryz.func88,Tryz.ntmps88
   go_wp2
   all_goals (go_ret;exact⟨rfl,rfl⟩)
 · have e:mz x=false:=by unfold mz;simp;omega
   rw [e]
   go_enter Tryz.func88,Tryz.ntmps88
   go_wp2
   all_goals (go_ret;exact⟨rfl,rfl⟩)
theorem minus0_q (x:Nat) (hx:x<18446744073709551616) (w:World):Calls Tryz.prog 88 #[.float .f64 x] w fun e w'=>e=.returned (.bool (mz x))∧w'=w:=turn (minus0_w x hx w)
set_option maxHeartbeats 800000 in
theorem refRight_core (lo hi:Nat) (hl:lo<18446744073709551616) (hh:hi<18446744073709551616) (b1 b2 b3 b4 b5:Bool)
   (o1:(FloatKind.f64.format.order lo hi==some .lt || FloatKind.f64.format.order lo hi==some .eq)=b1) (o2:(FloatKind.f64.format.order lo (infI 1)==some .eq)=b2) (o3:(FloatKind.f64.format.order hi (infI (-1))==some .eq)=b3)
   (o4:mz lo=b4) (o5:mz hi=b5) (w:World) :
   Calls Tryz.prog 61 #[.agg #[.float .f64 lo,.float .f64 hi]] w fun e w'=>e=.returned (.bool (b2&&b3 || b1&&!b2&&!b3&&!b4&&!b5))∧Below w.heap.size w w':=by
 have p2:(FloatKind.f64.format.order lo (infI 1) != some .eq)=!b2:=by rw [←o2];rfl
 have p3:(FloatKind.f64.format.order hi (infI (-1)) != some .eq)=!b3:=by rw [←o3];rfl
 cases b2
 case' false=>cases b1
 case' false.true=>cases b3
 case' false.true.false=>cases b4
 case' false.true.false.false=>cases b5
 case' true=>cases b3
 case' true.false=>cases b1
 all_goals
   try simp only [Bool.not_true,Bool.not_false] at p2 p3
   go_enter Tryz.func61,Tryz.ntmps61
   go_wp2_with fail
   go_quiet (first | (go_at_call 36;refine Calls.quiet_of_same (rinf_q _ _)) | (go_at_call 88;refine Calls.quiet_of_same (minus0_q _ (by assumption) _)))
   go_wp2
   have k0:((w.alloc (Obj.cells #[Value.float FloatKind.f64 lo,Value.float FloatKind.f64 hi] 36)).drewN nq).cell? ⟨w.heap.size,0,none⟩=some (.float .f64 lo):=by go_simp
   have k1:((w.alloc (Obj.cells #[Value.float FloatKind.f64 lo,Value.float FloatKind.f64 hi] 36)).drewN nq).cell? ⟨w.heap.size,1,none⟩=some (.float .f64 hi):=by go_simp
   have kb:Below w.heap.size w ((w.alloc (Obj.cells #[Value.float FloatKind.f64 lo,Value.float FloatKind.f64 hi] 36)).drewN nq):=below_drewN (by go_grown) _
   generalize (w.alloc (Obj.cells #[Value.float FloatKind.f64 lo,Value.float FloatKind.f64 hi] 36)).drewN nq=W at *
   try (go_quiet (first | (go_at_call 36;refine Calls.quiet_of_same (rinf_q _ _)) | (go_at_call 88;refine Calls.quiet_of_same (minus0_q _ (by assumption) _))))
   try go_wp2
   go_ret
   first | exact⟨rfl,kb⟩ | exact⟨rfl,below_drewN kb _⟩
theorem right_eq {lo hi:Nat} (hl:lo<18446744073709551616) (hh:hi<18446744073709551616) :
   (eqB lo (infI 1)&&eqB hi (infI (-1)) || leB lo hi&&!eqB lo (infI 1)&&!eqB hi (infI (-1))&&!mz lo&&!mz hi)=rightB lo hi:=by
 unfold rightB leB eqB hsB
 rw [nan_inf,nan_inf,key_up,key_down]
 cases n1:nanB lo
 · cases n2:nanB hi
   · have k1:=nanB_key hl n1
     have k2:=nanB_key hh n2
     rw [Bool.eq_iff_iff]
     simp only [Bool.not_false,Bool.true_and,Bool.or_eq_true,Bool.and_eq_true,decide_eq_true_eq,Bool.not_eq_true',decide_eq_false_iff_not]
     constructor
     · rintro (h | ⟨⟨⟨⟨h1,h2⟩,h3⟩,h4⟩,h5⟩)
       · exact Or.inl h
       · exact Or.inr ⟨⟨⟨⟨h1,by omega⟩,by omega⟩,h4⟩,h5⟩
     · rintro (h | ⟨⟨⟨⟨h1,h2⟩,h3⟩,h4⟩,h5⟩)
       · exact Or.inl h
       · exact Or.inr ⟨⟨⟨⟨h1,by omega⟩,by omega⟩,h4⟩,h5⟩
   · simp
 · simp
theorem refRight_w (lo hi:Nat) (hl:lo<18446744073709551616) (hh:hi<18446744073709551616) (w:World) :
   Calls Tryz.prog 61 #[.agg #[.float .f64 lo,.float .f64 hi]] w fun e w'=>e=.returned (.bool (rightB lo hi))∧Below w.heap.size w w':=by
 have h:=refRight_core lo hi hl hh _ _ _ _ _ (o_le hl hh) (o_eq hl (infI_lt 1)) (o_eq hh (infI_lt (-1))) rfl rfl w
 rw [right_eq hl hh] at h
 exact h
theorem none_eq {lo hi:Nat}:(!rightB lo hi || ltB hi lo)=!hsB lo hi:=by
 unfold rightB ltB eqB hsB
 rw [nan_inf,nan_inf,key_up,key_down]
 cases nanB lo
 · cases nanB hi
   · rw [Bool.eq_iff_iff]
     simp only [Bool.not_false,Bool.true_and,Bool.or_eq_true,decide_eq_true_eq,Bool.not_eq_true',Bool.or_eq_false_iff,Bool.and_eq_false_iff,decide_eq_false_iff_not]
     constructor
     · rintro (⟨-,h⟩ | h)
       · exact h
       · exact Or.inl (Or.inl (Or.inl (Or.inl (by omega))))
     · intro h
       by_cases c:key lo=9218868437227405312∧key hi=-9218868437227405312
       · right;omega
       · left
         refine⟨?_,h⟩
         by_cases c1:key lo=9218868437227405312
         · right;intro c2;exact c ⟨c1,c2⟩
         · left;exact c1
   · simp
 · simp
set_option maxHeartbeats 400000 in
theorem none_w (lo hi:Nat) (hl:lo<18446744073709551616) (hh:hi<18446744073709551616) (w:World) :
   Calls Tryz.prog 35 #[.agg #[.float .f64 lo,.float .f64 hi]] w fun e w'=>e=.returned (.bool (!hsB lo hi))∧Below w.heap.size w w':=by
 have c1:=fun w=>refRight_w lo hi hl hh w
 have o1:=o_gt hl hh
 rw [←none_eq]
 generalize rightB lo hi=b1 at *
 generalize ltB hi lo=b2 at *
 cases b1
 case' true=>cases b2
 all_goals
   go_enter Tryz.func35,Tryz.ntmps35
   go_wp2_with
    (go_at_call 61;refine (c1 _).mono ?_;rintro _ w1 ⟨rfl,hb1⟩
     have s0:w1.cell? ⟨w.heap.size,0,none⟩=some (.float .f64 lo):=(hb1.cell (by simp <;> omega)).trans (by go_simp)
     have s1:w1.cell? ⟨w.heap.size,1,none⟩=some (.float .f64 hi):=(hb1.cell (by simp <;> omega)).trans (by go_simp))
   go_ret
   exact⟨rfl,later (by go_grown) hb1⟩
theorem zero_w (x:Nat) (hx:x<18446744073709551616) (w:World):Calls Tryz.prog 69 #[.float .f64 x] w fun e w'=>e=.returned (.float .f64 (pz x))∧w=w':=by
 rcases cases0 x hx with ⟨hn,ho,hc⟩ | ⟨hn,ho,hc⟩ | ⟨hn,ho,hc⟩ | ⟨hn,ho,hc⟩
 · have e:pz x=x:=by unfold pz;rw [if_neg (by omega)]
   rw [e]
   go_enter Tryz.func69,Tryz.ntmps69
   go_wp2
   all_goals (go_ret;exact⟨rfl,rfl⟩)
 · have e:pz x=0:=by unfold pz;split <;> omega
   rw [e]
   go_enter Tryz.func69,Tryz.ntmps69
   go_wp2
   all_goals (go_ret;exact⟨rfl,rfl⟩)
 · have e:pz x=x:=by unfold pz;rw [if_neg (by omega)]
   rw [e]
   go_enter Tryz.func69,Tryz.ntmps69
   go_wp2
   all_goals (go_ret;exact⟨rfl,rfl⟩)
 · have e:pz x=x:=by unfold pz;rw [if_neg (by omega)]
   rw [e]
   go_enter Tryz.func69,Tryz.ntmps69
   go_wp2
   all_goals (go_ret;exact⟨rfl,rfl⟩)
theorem rempty_w (w:World):Calls Tryz.prog 70 #[] w fun e w'=>e=.returned (.agg #[.float .f64 (infI 1),.float .f64 (infI (-1))])∧Below w.heap.size w w':=by
 go_enter Tryz.func70,Tryz.ntmps70
 go_wp2_with (go_at_call 36;refine (rinf_w _ _).mono ?_;rintro _ _ ⟨rfl,rfl⟩)
 all_goals (go_returns;exact⟨rfl,by go_grown⟩)
theorem key_word {x:Nat} (hx:x<18446744073709551616):(key x=9218868437227405312→x=9218868437227405312)∧(key x=-9218868437227405312→x=18442240474082181120):=by
 unfold key;split <;> omega
theorem makeP_right (lo hi:Nat) (hl:lo<18446744073709551616) (hh:hi<18446744073709551616):makeP lo hi=if rightB (pz lo) (pz hi) then (pz lo,pz hi) else (infI 1,infI (-1)):=by
 unfold makeP rightB
 cases h:hsB (pz lo) (pz hi)
 · simp only [Bool.or_false]
   split
   · rename_i h1
     split
     · rename_i h2;cases h1
     · rename_i h2
       cases h1
   · rename_i h1
     split
     · rename_i h2
       unfold eqB at h2
       rw [nan_inf,nan_inf,key_up,key_down] at h2
       simp only [Bool.not_false,Bool.and_true,Bool.and_eq_true,decide_eq_true_eq] at h2
       have e1:=(key_word (pz_lt hl)).1 h2.1.2
       have e2:=(key_word (pz_lt hh)).2 h2.2.2
       rw [e1,e2];rfl
     · rfl
 · simp
set_option maxHeartbeats 400000 in
theorem rmake_w (lo hi:Nat) (hl:lo<18446744073709551616) (hh:hi<18446744073709551616) (w:World) :
   Calls Tryz.prog 34 #[.float .f64 lo,.float .f64 hi] w fun e w'=>e=.returned (.agg #[.float .f64 (makeP lo hi).1,.float .f64 (makeP lo hi).2])∧Below w.heap.size w w':=by
 have hs:=fun w=>refRight_w (pz lo) (pz hi) (pz_lt hl) (pz_lt hh) w
 rw [makeP_right lo hi hl hh]
 generalize rightB (pz lo) (pz hi)=b at *
 cases b
 · go_enter Tryz.func34,Tryz.ntmps34
   go_wp2_with (first
     | (go_at_call 69;refine (zero_w _ (by assumption) _).mono ?_;rintro _ _ ⟨rfl,rfl⟩)
     | (go_at_call 61;refine (hs _).mono ?_;rintro _ w1 ⟨rfl,hb1⟩
        have k1:Has2 w1 w.heap.size (.float .f64 0) (.float .f64 0):=Has2.keep ⟨by go_simp,by go_simp,by go_simp,by go_simp,by go_size⟩ hb1
        obtain⟨a0,a1,a2,a3,a4⟩:=k1)
     | (go_at_call 70;refine (rempty_w _).mono ?_;rintro _ w2 ⟨rfl,hb2⟩
        obtain⟨d0,d1,d2,d3,d4⟩:=Has2.keep ⟨a0,a1,a2,a3,a4⟩ hb2))
   all_goals
     refine bodyPost_ret (v:=.agg #[.float .f64 (infI 1),.float .f64 (infI (-1))]) (by simp [results,Tryz.results34,go_sem, *]) rfl ⟨rfl, ?_⟩
     have t:Below w.heap.size w w2:=later (later (by go_grown) hb1) hb2
     repeat' (first | (with_reducible exact t) | (with_reducible refine Below.setCell ?_ ?_ _) | go_size)
 · go_enter Tryz.func34,Tryz.ntmps34
   go_wp2_with (first
     | (go_at_call 69;refine (zero_w _ (by assumption) _).mono ?_;rintro _ _ ⟨rfl,rfl⟩)
     | (go_at_call 61;refine (hs _).mono ?_;rintro _ w1 ⟨rfl,hb1⟩
        have k1:Has2 w1 w.heap.size (.float .f64 0) (.float .f64 0):=Has2.keep ⟨by go_simp,by go_simp,by go_simp,by go_simp,by go_size⟩ hb1
        have k2:Has2 w1 (w.heap.size+1) (.float .f64 (pz lo)) (.float .f64 (pz hi)):=Has2.keep ⟨by go_simp,by go_simp,by go_simp,by go_simp,by go_size⟩ hb1
        obtain⟨a0,a1,a2,a3,a4⟩:=k1
        obtain⟨d0,d1,d2,d3,d4⟩:=k2))
   all_goals
     refine bodyPost_ret (v:=.agg #[.float .f64 (pz lo),.float .f64 (pz hi)]) (by simp [results,Tryz.results34,go_sem, *]) rfl ⟨rfl, ?_⟩
     have t:Below w.heap.size w w1:=later (by go_grown) hb1
     repeat' (first | (with_reducible exact t) | (with_reducible refine Below.setCell ?_ ?_ _) | go_size)
theorem has_eq {lo hi v:Nat} (hv:v<18446744073709551616):(hsB lo hi&&leB lo v&&leB v hi&&!eqB v (infI 1)&&!eqB v (infI (-1)))=hasB lo hi v:=by
 unfold hasB
 cases hsB lo hi
 · rfl
 · cases n:nanB v
   · have e:infB v=(eqB v (infI 1) || eqB v (infI (-1))):=by
       unfold infB eqB
       rw [nan_inf,nan_inf,key_up,key_down,n]
       rw [Bool.eq_iff_iff]
       simp only [Bool.not_false,Bool.true_and,Bool.or_eq_true,decide_eq_true_eq]
       unfold key
       split <;> omega
     rw [e]
     cases leB lo v <;> cases leB v hi <;> cases eqB v (infI 1) <;> cases eqB v (infI (-1)) <;> rfl
   · have e1:leB lo v=false:=by unfold leB;rw [n];simp
     rw [e1];simp
set_option maxHeartbeats 400000 in
theorem rhas_w (lo hi v:Nat) (hl:lo<18446744073709551616) (hh:hi<18446744073709551616) (hv:v<18446744073709551616) (w:World) :
   Calls Tryz.prog 10 #[.agg #[.float .f64 lo,.float .f64 hi],.float .f64 v] w fun e w'=>e=.returned (.bool (hasB lo hi v))∧Below w.heap.size w w':=by
 have c1:=fun w=>none_w lo hi hl hh w
 have o1:=o_ge hv hl
 have o2:=o_le hv hh
 have o3:=o_eq hv (infI_lt 1)
 have o4:=o_eq hv (infI_lt (-1))
 rw [←has_eq hv]
 generalize hsB lo hi=b1 at *
 generalize leB lo v=b2 at *
 generalize leB v hi=b3 at *
 generalize eqB v (infI 1)=b4 at *
 generalize eqB v (infI (-1))=b5 at *
 have p4:(FloatKind.f64.format.order v (infI 1) != some .eq)=!b4:=by rw [←o3];rfl
 have p5:(FloatKind.f64.format.order v (infI (-1)) != some .eq)=!b5:=by rw [←o4];rfl
 cases b1
 case' true=>cases b2
 case' true.true=>cases b3
 case' true.true.true=>cases b4
 case' true.true.true.false=>cases b5
 all_goals
   try simp only [Bool.not_true,Bool.not_false] at p4 p5
   go_enter Tryz.func10,Tryz.ntmps10
   go_wp2_with (first
    | (go_at_call 35;refine (c1 _).mono ?_;rintro _ w1 ⟨rfl,hb1⟩
       have s0:w1.cell? ⟨w.heap.size,0,none⟩=some (.float .f64 lo):=(hb1.cell (by simp <;> omega)).trans (by go_simp)
       have s1:w1.cell? ⟨w.heap.size,1,none⟩=some (.float .f64 hi):=(hb1.cell (by simp <;> omega)).trans (by go_simp))
    | (go_at_call 36;refine (rinf_w _ _).mono ?_;rintro _ _ ⟨rfl,rfl⟩))
   go_ret
   exact⟨rfl,later (by go_grown) hb1⟩
end Go.Proofs.YtlabmpngbcnhpaaGreat
