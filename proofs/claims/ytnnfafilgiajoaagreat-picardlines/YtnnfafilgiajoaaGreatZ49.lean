/- picard: what tape.Eval answers, as functions of words; the law's own questions. picard: does a box bound (the law's words); which questions may be asked. picard: Bound, whole; PicardBounds. PicardBounds: the law's walk; of tapes and boxes as they lie in memory. -/
import Derived.Test.YtnnfafilgiajoaaGreatZ48
namespace Go.Proofs.YtnnfafilgiajoaaGreat
open Go.ChangeShapes Go.WideShapes Go.ChangeAt Go.RowKit
def wdsB (k:Nat) (B:Nat→Nat×Nat):Bool:=(List.range k).all fun i=>decide ((B i).1<18446744073709551616)&&decide ((B i).2<18446744073709551616)
def okE (n:Nat) (O:Nat→Opw) (k:Nat):OkF:=fun B=>(allB k B&&wdsB k B)&&(List.range n).all fun j=>errI O B j==0
def rtE (n:Nat) (O:Nat→Opw) (Y:Nat→Int):RtF:=fun B i=>vAt O B n (Y i).toNat
theorem okE_iff {n:Nat} {O:Nat→Opw} {k:Nat} {B:Nat→Nat×Nat}:okE n O k B=true↔(∀i,i<k→hsB (B i).1 (B i).2=true)∧(∀i,i<k→W2 (B i))∧∀j,j<n→errI O B j=0:=by
 unfold okE allB wdsB
 rw [Bool.and_eq_true,Bool.and_eq_true,all_upto,all_upto,all_upto]
 refine⟨fun h=>⟨h.1.1,fun i hi=>?_,fun j hj=>by have:=h.2 j hj;simpa using this⟩,fun h=>⟨⟨h.1,fun i hi=>?_⟩,fun j hj=>by rw [h.2.2 j hj];rfl⟩⟩
 · have:=h.1.2 i hi
   simp only [Bool.and_eq_true,decide_eq_true_eq] at this
   exact this
 · have:=h.2.1 i hi
   simp only [Bool.and_eq_true,decide_eq_true_eq]
   exact this
theorem rt_facts {k n:Nat} {O:Nat→Opw} {Y:Nat→Int} {B:Nat→Nat×Nat} (hr:∀i,i<n→opB (O i) (i:Int) (k:Int)=true) (hl:∀i,i<n→W2 ((O i).lo,(O i).hi)) (hY:∀i,i<k→0≤Y i∧Y i<(n:Int)) (ho:okE n O k B=true) (i:Nat) (hi:i<k):W2 (rtE n O Y B i)∧Some2 (rtE n O Y B i).1 (rtE n O Y B i).2:=by
 obtain⟨h1,hB,h2⟩:=okE_iff.1 ho
 have lj:(Y i).toNat<(vsL O B n).length:=by rw [vsL_len];have:=hY i hi;omega
 have e:rtE n O Y B i=(vsL O B n)[(Y i).toNat]:=by unfold rtE vAt;simp [lj]
 rw [e]
 have hX:∀j:Nat,(j:Int)<(k:Int)→W2 (B j)∧hsB (B j).1 (B j).2=true:=fun j hj=>⟨hB j (by omega),h1 j (by omega)⟩
 exact⟨vsL_W2 hr hl (fun j hj=>(hX j hj).1) n (Nat.le_refl _) _ (List.getElem_mem lj),vals_some hr hl hX n (Nat.le_refl _) h2 _ (List.getElem_mem lj)⟩
theorem ev_c (q:Qst) (O:Nat→Opw) (Y:Nat→Int) (hr:rightT q.v q.n O q.m Y=true) (hv:q.v=(q.k:Int)) (hm:q.m=q.k) (w:World) (VO:Ops w q.A q.n O) (VY:Ins w q.D q.m Y):EvC q (okE q.n O q.k) (rtE q.n O Y) w:=by
 intro W hW A C B U
 obtain⟨⟨h1,h2,h3,h4⟩,h5,h6⟩:=right_all hr
 have cr:=fun (W':World) (hW':Below W.heap.size W W')=>ref_say q.v q.A q.n q.C q.D q.m q.E O Y hr A q.k C B (by omega) W' ((VO.keep hW).keep hW') ((VY.keep hW).keep hW') (U.keep hW')
 have VO':=VO.keep hW
 have VY':=VY.keep hW
 cases ha:allB q.k B
 · have e:(if (q.k:Int)=q.v∧allB q.k B=true then (0:Int) else 1)=1:=if_neg (fun c=>by rw [ha] at c;cases c.2)
   rw [e] at cr
   refine (eval_bad q.v q.A q.n q.C q.D q.m q.E (.slice A q.k C) 1 (Or.inr rfl) W cr).mono ?_
   rintro _ w' ⟨rfl,hb⟩
   exact⟨Or.inr ⟨by unfold okE;rw [ha];rfl,1,by decide,rfl⟩,hb⟩
 · have e:(if (q.k:Int)=q.v∧allB q.k B=true then (0:Int) else 1)=0:=if_pos ⟨hv.symm,ha⟩
   rw [e] at cr
   rw [hv] at h5
   have c:=eval_t q.v q.A q.n q.C q.D q.m q.E O Y A q.k C B (by omega) (by omega) hv h5 h6 W VO' VY' U cr
   refine c.mono ?_
   rintro e w' ⟨⟨g,he,I,h0⟩ | ⟨j,hj, -,hne,he⟩,hb⟩
   · rw [hm] at he I
     exact⟨Or.inl ⟨okE_iff.2 ⟨fun i hi=>all_upto.1 (show (List.range q.k).all _=true from ha) i hi,fun i hi=>ivs_words U i hi,h0⟩,g,he,I⟩,hb⟩
   · refine⟨Or.inr ⟨?_,_,by simpa using hne,he⟩,hb⟩
     cases ho:okE q.n O q.k B
     · rfl
     · exact absurd ((okE_iff.1 ho).2.2 j hj) hne
def bdQ (v:Nat×Nat):Bool:=hsB v.1 v.2&&bndB v
theorem cRBd {v:Nat×Nat} (hv:W2 v) (w:World):Calls Tryz.prog 27 #[.agg #[.float .f64 v.1,.float .f64 v.2]] w fun e w'=>e=.returned (.bool (bdQ v))∧Below w.heap.size w w':=by
 have c1:=fun w=>none_w v.1 v.2 hv.1 hv.2 w
 unfold bdQ
 cases hs:hsB v.1 v.2
 · rw [hs] at c1
   exact rb_none v c1 w
 · rw [Bool.true_and]
   exact cRBnd hv (Or.inr (hs_iff.1 hs)) w
def allBd (n:Nat) (X:Nat→Nat×Nat):Bool:=(List.range n).all fun i=>bdQ (X i)
set_option maxHeartbeats 1000000 in
theorem bounded_w (A:Option Addr) (n C:Nat) (X:Nat→Nat×Nat) (hn:n≤9223372036854775807) (w:World) (V:Ivs w A n X) :
   Calls Tryz.prog 10 #[.slice A n C] w fun e w'=>e=.returned (.bool (allBd n X))∧Below w.heap.size w w':=by
 go_enter Tryz.func10,Tryz.ntmps10
 go_wp2_with fail
 go_loopg [7] n (fun G s7 wx=>Below w.heap.size w wx∧∃i:Nat,i+G=n∧s7=.int .i64 (i:Int)∧Hid (∀j,j<i→bdQ (X j)=true))
 case atStart=>exact⟨Below.refl _ _,0,by omega,rfl,fun j hj=>absurd hj (by omega)⟩
 case round =>
   obtain⟨HB,i,hi,rfl,hall⟩:=hrel
   by_cases ci:i=n
   · subst ci
     have e:Hid (allBd i X=true):=by show _=_;unfold allBd;exact all_upto.2 hall
     go_wp2_with fail
     go_ret
     exact⟨(congrArg (fun q=>Ending.returned (Value.bool q)) e.out).symm,HB⟩
   · have hlt:(i:Int)<(n:Int):=by omega
     obtain⟨b,o,hA,hb,x0,x1,l0,l1⟩:=(V.keep HB) i (by omega)
     have c:=fun w=>cRBd (v:=X i) ⟨l0,l1⟩ w
     have hcase:bdQ (X i)=true∨bdQ (X i)=false:=by cases bdQ (X i) <;> simp
     rcases hcase with hq | hq
     · rw [hq] at c
       replace hq:Hid (bdQ (X i)=true):=hq
       subst hA
       go_wp2_with (go_at_call 27;refine (c _).mono ?_;rintro _ w1 ⟨rfl,hb1⟩;replace HB:=later (below_alloc HB _) hb1)
       go_roundg (n-i-1)
       case measure=>omega
       case rel=>exact⟨HB,i+1,by omega,by go_num,fun j hj=>by rcases Nat.lt_or_ge j i with h | h;exact hall j h;rw [show j=i by omega];exact hq⟩
     · rw [hq] at c
       have e:Hid (allBd n X=false):=by
         show _=_
         unfold allBd
         exact all_not (i:=i) (by omega) hq
       replace hq:Hid (bdQ (X i)=false):=hq
       subst hA
       go_wp2_with (go_at_call 27;refine (c _).mono ?_;rintro _ w1 ⟨rfl,hb1⟩;replace HB:=later (below_alloc HB _) hb1)
       go_ret
       exact⟨(congrArg (fun q=>Ending.returned (Value.bool q)) e.out).symm,HB⟩
theorem reach_core (x r z p s:Nat×Nat) (t:Nat) (c1:∀w,Calls Tryz.prog 16 #[.float .f64 0,.float .f64 t] w fun e w'=>e=.returned (.agg #[.float .f64 z.1,.float .f64 z.2])∧Below w.heap.size w w') (c2:∀w,Calls Tryz.prog 33 #[.agg #[.float .f64 z.1,.float .f64 z.2],.agg #[.float .f64 r.1,.float .f64 r.2]] w fun e w'=>e=.returned (.agg #[.float .f64 p.1,.float .f64 p.2])∧Below w.heap.size w w') (c3:∀w,Calls Tryz.prog 34 #[.agg #[.float .f64 x.1,.float .f64 x.2],.agg #[.float .f64 p.1,.float .f64 p.2]] w fun e w'=>e=.returned (.agg #[.float .f64 s.1,.float .f64 s.2])∧Below w.heap.size w w') (w:World):Calls Tryz.prog 19 #[.agg #[.float .f64 x.1,.float .f64 x.2],.agg #[.float .f64 r.1,.float .f64 r.2],.float .f64 t] w fun e w'=>e=.returned (.agg #[.float .f64 s.1,.float .f64 s.2])∧Below w.heap.size w w':=by
 have X:Has2 (((w.alloc (.cells #[.float .f64 x.1,.float .f64 x.2] 40)).alloc (.cells #[.float .f64 r.1,.float .f64 r.2] 40)).alloc (.cells #[.float .f64 0,.float .f64 0] 40)) w.heap.size (.float .f64 x.1) (.float .f64 x.2):=⟨by go_simp,by go_simp,by go_simp,by go_simp,by go_size⟩
 have Y:Has2 (((w.alloc (.cells #[.float .f64 x.1,.float .f64 x.2] 40)).alloc (.cells #[.float .f64 r.1,.float .f64 r.2] 40)).alloc (.cells #[.float .f64 0,.float .f64 0] 40)) (w.heap.size+1) (.float .f64 r.1) (.float .f64 r.2):=⟨by go_simp,by go_simp,by go_simp,by go_simp,by go_size⟩
 have R:Has2 (((w.alloc (.cells #[.float .f64 x.1,.float .f64 x.2] 40)).alloc (.cells #[.float .f64 r.1,.float .f64 r.2] 40)).alloc (.cells #[.float .f64 0,.float .f64 0] 40)) (w.heap.size+1+1) (.float .f64 0) (.float .f64 0):=⟨by go_simp,by go_simp,by go_simp,by go_simp,by go_size⟩
 have HB:Below w.heap.size w (((w.alloc (.cells #[.float .f64 x.1,.float .f64 x.2] 40)).alloc (.cells #[.float .f64 r.1,.float .f64 r.2] 40)).alloc (.cells #[.float .f64 0,.float .f64 0] 40)):=by go_grown
 go_enter Tryz.func19,Tryz.ntmps19
 go_upto_region 1 with fail
 generalize ((w.alloc (.cells #[.float .f64 x.1,.float .f64 x.2] 40)).alloc (.cells #[.float .f64 r.1,.float .f64 r.2] 40)).alloc (.cells #[.float .f64 0,.float .f64 0] 40)=V1 at *
 have kX0:=fun n:Behind V1=>n.cell X.1 X.2.2.2.2;have kX1:=fun n:Behind V1=>n.cell X.2.1 X.2.2.2.2;have kY0:=fun n:Behind V1=>n.cell Y.1 Y.2.2.2.2;have kY1:=fun n:Behind V1=>n.cell Y.2.1 Y.2.2.2.2
 refine tail_behind 6 (by kernel_rfl) (by kernel_rfl) ?_
 simp only [List.take_succ_cons,List.take_zero,List.drop_succ_cons,List.drop_zero]
 repeat (go_big_quiet_step (first | (go_at_call 16;with_reducible refine Behind.call (c1 _)) | (go_at_call 33;with_reducible refine Behind.call (c2 _)) | (go_at_call 34;with_reducible refine Behind.call (c3 _))))
 refine wpQuiet_nil ?_
 rintro _ ⟨m',rfl⟩
 obtain⟨W,hb1⟩:=m'
 dsimp only
 clear kX0 kX1 kY0 kY1
 replace R:=R.keep hb1;replace HB:=later HB hb1;clear hb1
 obtain⟨k0,k1,k2,k3,k4⟩:=id R
 go_wp2_with fail
 refine bodyPost_ret (v:=.agg #[.float .f64 s.1,.float .f64 s.2]) (by simp [results,Tryz.results19,go_sem, *]) rfl ⟨rfl, ?_⟩;repeat' (first | (with_reducible exact HB) | (with_reducible refine Below.setCell ?_ ?_ _) | go_size)
theorem cReach {x r:Nat×Nat} {t:Nat} (hx:W2 x) (hr:W2 r) (ht:t<18446744073709551616) (w:World):Calls Tryz.prog 19 #[.agg #[.float .f64 x.1,.float .f64 x.2],.agg #[.float .f64 r.1,.float .f64 r.2],.float .f64 t] w fun e w'=>e=.returned (.agg #[.float .f64 (rchQ x r t).1,.float .f64 (rchQ x r t).2])∧Below w.heap.size w w' :=
 reach_core x r (mkQ 0 t) (mulQ (mkQ 0 t) r) (rchQ x r t) t (fun w=>rmake_w 0 t (by omega) ht w) (fun w=>rMulQ (mkQ_W2 (by omega) ht) hr w) (fun w=>rAddQ hx (mulQ_W2 (mkQ_W2 (by omega) ht) hr) w) w
def bd1 (x b r:Nat×Nat) (t:Nat):Bool:=bdQ b&&(insideB x.1 x.2 b.1 b.2&&insideB (rchQ x r t).1 (rchQ x r t).2 b.1 b.2)
def bdsB (n:Nat) (X B R:Nat→Nat×Nat) (t:Nat):Bool:=(List.range n).all fun i=>bd1 (X i) (B i) (R i) t
set_option maxHeartbeats 4000000 in
theorem rbounds_w (AX AB AR:Option Addr) (n CX CB CR:Nat) (X B R:Nat→Nat×Nat) (t:Nat) (hn:n≤9223372036854775807) (ht:t<18446744073709551616) (w:World) (VX:Ivs w AX n X) (VB:Ivs w AB n B) (VR:Ivs w AR n R) :
   Calls Tryz.prog 28 #[.slice AX n CX,.slice AB n CB,.slice AR n CR,.float .f64 t] w fun e w'=>e=.returned (.bool (bdsB n X B R t))∧Below w.heap.size w w':=by
 go_enter Tryz.func28,Tryz.ntmps28
 go_wp2_with fail
 go_loopg [24] n (fun G s24 wx=>Below w.heap.size w wx∧∃i:Nat,i+G=n∧s24=.int .i64 (i:Int)∧Hid (∀j,j<i→bd1 (X j) (B j) (R j) t=true))
 case atStart=>exact⟨Below.refl _ _,0,by omega,rfl,fun j hj=>absurd hj (by omega)⟩
 case round =>
   obtain⟨HB,i,hi,rfl,hall⟩:=hrel
   by_cases ci:i=n
   · subst ci
     have e:Hid (bdsB i X B R t=true):=by show _=_;unfold bdsB;exact all_upto.2 hall
     go_wp2_with fail
     go_ret
     exact⟨(congrArg (fun q=>Ending.returned (Value.bool q)) e.out).symm,HB⟩
   · have hlt:(i:Int)<(n:Int):=by omega
     obtain⟨xb,xo,hA,hxb,x0,x1,l0,l1⟩:=(VX.keep HB) i (by omega)
     obtain⟨bb,bo,hB,hbb,y0,y1,m0,m1⟩:=(VB.keep HB) i (by omega)
     obtain⟨rb,ro,hR,hrb,z0,z1,k0,k1⟩:=(VR.keep HB) i (by omega)
     have c1:=fun w=>cRBd (v:=B i) ⟨m0,m1⟩ w
     have c2:=fun w=>rinside_w (X i).1 (X i).2 (B i).1 (B i).2 l0 l1 m0 m1 w
     have c3:=fun w=>cReach (x:=X i) (r:=R i) (t:=t) ⟨l0,l1⟩ ⟨k0,k1⟩ ht w
     have hp:=rchQ_W2 (x:=X i) (r:=R i) (t:=t) ⟨l0,l1⟩ ⟨k0,k1⟩ ht
     have c4:=fun w=>rinside_w (rchQ (X i) (R i) t).1 (rchQ (X i) (R i) t).2 (B i).1 (B i).2 hp.1 hp.2 m0 m1 w
     have no:bd1 (X i) (B i) (R i) t=false→bdsB n X B R t=false:=fun h=>by unfold bdsB;exact all_not (i:=i) (by omega) h
     have yes:bd1 (X i) (B i) (R i) t=true→Hid (∀j,j<i+1→bd1 (X j) (B j) (R j) t=true):=fun h j hj=>by
       rcases Nat.lt_or_ge j i with h' | h'
       · exact hall j h'
       · rw [show j=i by omega];exact h
     unfold bd1 at no yes
     generalize rchQ (X i) (R i) t=p at *
     generalize bdQ (B i)=b1 at *
     generalize insideB (X i).1 (X i).2 (B i).1 (B i).2=b2 at *
     generalize insideB p.1 p.2 (B i).1 (B i).2=b3 at *
     replace no:Hid _:=no
     replace yes:Hid _:=yes
     subst hA hB hR
     have kx0:=fun n:Behind wr=>n.cell x0 hxb
     have kx1:=fun n:Behind wr=>n.cell x1 hxb
     have ky0:=fun n:Behind wr=>n.cell y0 hbb
     have ky1:=fun n:Behind wr=>n.cell y1 hbb
     have kz0:=fun n:Behind wr=>n.cell z0 hrb
     have kz1:=fun n:Behind wr=>n.cell z1 hrb
     clear x0 x1 y0 y1 z0 z1 hall
     cases b1
     case' true=>cases b2
     case' true.true=>cases b3
     all_goals
       go_upto_region 6 with fail
       refine region_behind (by kernel_rfl) (by kernel_rfl) ?_
       repeat (go_big_quiet_step (first | (go_at_call 27;with_reducible refine Behind.call (c1 _)) | (go_at_call 18;with_reducible refine Behind.call (c2 _)) | (go_at_call 19;with_reducible refine Behind.call (c3 _)) | (go_at_call 18;with_reducible refine Behind.call (c4 _))))
       refine wpQuiet_nil ?_
       rintro _ ⟨q,rfl⟩
       obtain⟨W,hb1⟩:=q
       dsimp only
       replace HB:=later HB hb1
       clear kx0 kx1 ky0 ky1 kz0 kz1 hb1
       go_wp2_with fail
       first
         | (go_ret
            exact⟨(congrArg (fun q=>Ending.returned (Value.bool q)) (no.out rfl)).symm,HB⟩)
         | (go_roundg (n-i-1)
            case measure=>omega
            case rel=>exact⟨HB,i+1,by omega,by go_num,yes.out rfl⟩)
set_option maxHeartbeats 1000000 in
theorem field_w (v:Int) (A:Option Addr) (n C:Nat) (D:Option Addr) (m E:Nat) (r:Bool) (w:World) (c1:∀W,Below w.heap.size w W→Calls Tryz.prog 8 #[tapeV v A n C D m E] W fun e w'=>e=.returned (.bool r)∧Below W.heap.size W w') :
   Calls Tryz.prog 25 #[tapeV v A n C D m E] w fun e w'=>e=.returned (.bool (r&&fldB v m))∧Below w.heap.size w w':=by
 unfold tapeV at *
 have T:=hasT_new w v A n C D m E
 have HB:Below w.heap.size w (w.alloc (.cells #[.int .i64 v,.slice A n C,.slice D m E] 25)):=by go_grown
 have h:∃b:Bool,fldB v m=b∧((v<1∧b=false)∨(1≤v∧24<v∧b=false)∨(1≤v∧v≤24∧b=((m:Int)==v))):=by
   refine⟨_,rfl, ?_⟩
   unfold fldB
   by_cases h1:1≤v
   · by_cases h2:v≤24
     · exact Or.inr (Or.inr ⟨h1,h2,by rw [decide_eq_true h1,decide_eq_true h2];rfl⟩)
     · exact Or.inr (Or.inl ⟨h1,by omega,by rw [decide_eq_true h1,decide_eq_false h2];rfl⟩)
   · exact Or.inl ⟨by omega,by rw [decide_eq_false h1];rfl⟩
 obtain⟨b,hb,hc⟩:=h
 rw [hb]
 clear hb
 cases r
 · clear hc
   go_enter Tryz.func25,Tryz.ntmps25
   go_upto_region 1 with fail
   generalize (w.alloc (.cells #[.int .i64 v,.slice A n C,.slice D m E] 25))=V1 at *
   obtain⟨t0,t1,t2,tl⟩:=id T
   go_wp2_with (go_at_call 8;refine (c1 _ HB).mono ?_;rintro _ V2 ⟨rfl,hb1⟩;replace T:=T.keep hb1;replace HB:=later HB hb1;clear hb1;clear t0 t1 t2 tl;obtain⟨t0,t1,t2,tl⟩:=id T)
   go_ret
   exact⟨rfl,HB⟩
 · rcases hc with ⟨h1,rfl⟩ | ⟨h1,h2,rfl⟩ | ⟨h1,h2,rfl⟩
   all_goals
     go_enter Tryz.func25,Tryz.ntmps25
     go_upto_region 1 with fail
     generalize (w.alloc (.cells #[.int .i64 v,.slice A n C,.slice D m E] 25))=V1 at *
     obtain⟨t0,t1,t2,tl⟩:=id T
     go_wp2_with (go_at_call 8;refine (c1 _ HB).mono ?_;rintro _ V2 ⟨rfl,hb1⟩;replace T:=T.keep hb1;replace HB:=later HB hb1;clear hb1;clear t0 t1 t2 tl;obtain⟨t0,t1,t2,tl⟩:=id T)
     go_ret
     exact⟨rfl,HB⟩
set_option maxHeartbeats 2000000 in
theorem may_core (v:Int) (A:Option Addr) (n C:Nat) (D:Option Addr) (m E:Nat) (xs:Value) (t:Nat) (bF bV b1 b2:Bool) (w:World)
   (cF:∀W,Below w.heap.size w W→Calls Tryz.prog 25 #[tapeV v A n C D m E] W fun e w'=>e=.returned (.bool bF)∧Below W.heap.size W w')
   (cV:∀W,Below w.heap.size w W→Calls Tryz.prog 26 #[tapeV v A n C D m E,xs] W fun e w'=>e=.returned (.bool bV)∧Below W.heap.size W w')
   (o1:(FloatKind.f64.format.order t 0==some .gt || FloatKind.f64.format.order t 0==some .eq)=b1) (o2:(FloatKind.f64.format.order t 4697254411347427328==some .lt || FloatKind.f64.format.order t 4697254411347427328==some .eq)=b2) :
   Calls Tryz.prog 9 #[tapeV v A n C D m E,xs,.float .f64 t] w fun e w'=>e=.returned (.bool (bF&&bV&&(b1&&b2)))∧Below w.heap.size w w':=by
 unfold tapeV at *
 have T:=hasT_new w v A n C D m E
 have HB:Below w.heap.size w (w.alloc (.cells #[.int .i64 v,.slice A n C,.slice D m E] 25)):=by go_grown
 cases bF
 case' true=>cases bV
 case' true.true=>cases b1
 case' true.true.true=>cases b2
 all_goals
   go_enter Tryz.func9,Tryz.ntmps9
   go_upto_region 1 with fail
   generalize (w.alloc (.cells #[.int .i64 v,.slice A n C,.slice D m E] 25))=V1 at *
   obtain⟨t0,t1,t2,tl⟩:=id T
   go_wp2_with (first
     | (go_at_call 25;refine (cF _ HB).mono ?_;rintro _ V2 ⟨rfl,hb1⟩;replace T:=T.keep hb1;replace HB:=later HB hb1;clear hb1;clear t0 t1 t2 tl;obtain⟨t0,t1,t2,tl⟩:=id T)
     | (go_at_call 26;refine (cV _ HB).mono ?_;rintro _ V3 ⟨rfl,hb1⟩;replace T:=T.keep hb1;replace HB:=later HB hb1;clear hb1;clear t0 t1 t2 tl))
   go_ret
   exact⟨rfl,HB⟩
theorem may_w (v:Int) (A:Option Addr) (n C:Nat) (D:Option Addr) (m E:Nat) (O:Nat→Opw) (Y:Nat→Int) (AX:Option Addr) (mx CX t:Nat) (X:Nat→Nat×Nat) (hmx:mx≤9223372036854775807) (ht:t<18446744073709551616) (w:World) (VO:Ops w A n O) (VY:Ins w D m Y) (VX:Ivs w AX mx X) :
   Calls Tryz.prog 9 #[tapeV v A n C D m E,.slice AX mx CX,.float .f64 t] w fun e w'=>e=.returned (.bool ((rightT v n O m Y&&fldB v m)&&(allB mx X&&((mx:Int)==v))&&tmB t))∧Below w.heap.size w w' :=
 may_core v A n C D m E _ t _ _ _ _ w (fun W hW=>field_w v A n C D m E _ W fun W' hW'=>rright_t v A n C D m E O Y W' ((VO.keep hW).keep hW') ((VY.keep hW).keep hW')) (fun W hW=>vars_t v A n C D m E AX mx CX X hmx W (VX.keep hW)) (o_ge ht (by omega)) (o_le ht (by omega))
set_option maxHeartbeats 2000000 in
theorem bounds_w (q:Qst) (ok:OkF) (rt:RtF) (X B:Nat→Nat×Nat) (AX AB:Option Addr) (CX CB t:Nat) (hk:q.k≤24) (ht:t<18446744073709551616) (hrt:ok B=true→∀i,i<q.k→W2 (rt B i)) (w:World) (cE:EvC q ok rt w) (VX:Ivs w AX q.k X) (VB:Ivs w AB q.k B) :
   Calls Tryz.prog 11 #[tapeV q.v q.A q.n q.C q.D q.m q.E,.slice AX q.k CX,.slice AB q.k CB,.float .f64 t] w fun e w'=>e=.returned (.bool (ok B&&bdsB q.k X B (rt B) t))∧Below w.heap.size w w':=by
 have T:=hasT_new w q.v q.A q.n q.C q.D q.m q.E
 have HB:Below w.heap.size w (w.alloc (.cells #[.int .i64 q.v,.slice q.A q.n q.C,.slice q.D q.m q.E] 25)):=by go_grown
 have cE':=fun (W:World) (hW:Below w.heap.size w W)=>cE W hW AB CB B (VB.keep hW)
 have cB:=fun (W:World) (hW:Below w.heap.size w W) (g:Nat) (I:Ivs W (some ⟨g,0,none⟩) q.k (rt B))=>rbounds_w AX AB (some ⟨g,0,none⟩) q.k CX CB q.k X B (rt B) t (by omega) ht W (VX.keep hW) (VB.keep hW) I
 unfold tapeV at *
 cases ho:ok B
 · replace cE':∀W,Below w.heap.size w W→Calls Tryz.prog 12 #[.agg #[.int .i64 q.v,.slice q.A q.n q.C,.slice q.D q.m q.E],.slice AB q.k CB] W fun e w'=>(∃er:Int,(er != 0)=true∧e=.returned (.tuple #[.slice none 0 0,.int .i64 er]))∧Below W.heap.size W w':=fun W hW=>(cE' W hW).mono fun e w' h=>⟨(by
     rcases h.1 with ⟨h, -⟩ | ⟨-,h⟩
     · rw [ho] at h
       cases h
     · exact h),h.2⟩
   clear cB hrt ho
   go_enter Tryz.func11,Tryz.ntmps11
   go_upto_region 1 with fail
   generalize (w.alloc (.cells #[.int .i64 q.v,.slice q.A q.n q.C,.slice q.D q.m q.E] 25))=V1 at *
   obtain⟨t0,t1,t2,tl⟩:=id T
   go_upto_region 2 with (go_at_call 12;refine (cE' _ HB).mono ?_;rintro _ V2 ⟨⟨er,her,rfl⟩,hb1⟩;replace HB:=later HB hb1)
   have he:(er==0)=false:=by simpa using her
   go_wp2_with fail
   go_ret
   exact⟨rfl,HB⟩
 · replace cE':∀W,Below w.heap.size w W→Calls Tryz.prog 12 #[.agg #[.int .i64 q.v,.slice q.A q.n q.C,.slice q.D q.m q.E],.slice AB q.k CB] W fun e w'=>(∃g,e=.returned (.tuple #[.slice (some ⟨g,0,none⟩) q.k q.k,.int .i64 0])∧Img w' g q.k (rt B))∧Below W.heap.size W w':=fun W hW=>(cE' W hW).mono fun e w' h=>⟨(by
     rcases h.1 with ⟨-,h⟩ | ⟨h, -⟩
     · exact h
     · rw [ho] at h
       cases h),h.2⟩
   have hw2:Hid (∀i,i<q.k→W2 (rt B i)):=hrt ho
   clear hrt ho
   generalize bdsB q.k X B (rt B) t=r at *
   go_enter Tryz.func11,Tryz.ntmps11
   go_upto_region 1 with fail
   generalize (w.alloc (.cells #[.int .i64 q.v,.slice q.A q.n q.C,.slice q.D q.m q.E] 25))=V1 at *
   obtain⟨t0,t1,t2,tl⟩:=id T
   go_wp2_with (first
     | (go_at_call 12;refine (cE' _ HB).mono ?_;rintro _ V2 ⟨⟨g,rfl,I⟩,hb1⟩;replace HB:=later HB hb1)
     | (go_at_call 28;refine (cB _ HB g (I.ivs hw2.out)).mono ?_;rintro _ V3 ⟨rfl,hb1⟩;replace HB:=later HB hb1))
   go_ret
   exact⟨rfl,HB⟩
theorem pmul0k {q:Nat×Nat} (S:Some2 q.1 q.2) (w:W2 q):mulP 0 0 q.1 q.2=(0,0):=by
 obtain⟨A,k1,k2⟩:=mul_keys (xl:=0) (xh:=0) (by omega) (by omega) w.1 w.2 zero_some S
 obtain⟨l1,l2⟩:=mulP_lt (xl:=0) (xh:=0) (by omega) (by omega) w.1 w.2
 have z:∀d,mulV 0 q.1 d=0:=fun d=>mulV_zl d (by decide) S.nl (by decide)
 have y:∀d,mulV 0 q.2 d=0:=fun d=>mulV_zl d (by decide) S.nh (by decide)
 unfold lowK at k1
 unfold topK at k2
 rw [z,y,show key 0=0 by decide] at k1 k2
 have e:∀x:Nat,x<18446744073709551616→x≠9223372036854775808→key x=0→x=0:=fun x hx hz hk=>by
   unfold key at hk
   split at hk <;> omega
 have e1:=e _ l1 A.zl (by rw [k1];decide)
 have e2:=e _ l2 A.zh (by rw [k2];decide)
 exact Prod.ext e1 e2
theorem padd0k {q:Nat×Nat} (S:Some2 q.1 q.2) (w:W2 q):In (addP q.1 q.2 0 0).1 (addP q.1 q.2 0 0).2 q.1 q.2:=by
 have ex:∀(a:Nat) (d:Int),a<18446744073709551616→nanB a=false→∃r,addR a 0 d=some r∧key r=key a:=fun a d ha na=>by
   by_cases f:finB a=true
   · refine⟨_,addR_fin d f (by decide), ?_⟩
     exact add_exact ha (by omega) ha f (by decide) f (by rw [show key 0=0 by decide,show V 0=0 by decide];omega) d
   · have f':finB a=false:=by simpa using f
     refine⟨a, ?_,rfl⟩
     unfold addR
     rw [na,f',show nanB 0=false by decide,show finB 0=true by decide]
     rfl
 obtain⟨l,u,e1,e2,T,l1,l2⟩:=add_some w.1 w.2 (by omega) (by omega) S zero_some
 have p1:addP q.1 q.2 0 0=(l,u):=by unfold addP;rw [hs_iff.2 S,hs_iff.2 zero_some,e1,e2];rfl
 obtain⟨r1,f1,k1⟩:=ex q.1 (-1) w.1 S.nl
 obtain⟨r2,f2,k2⟩:=ex q.2 1 w.2 S.nh
 rw [f1] at e1
 rw [f2] at e2
 have g1:=Option.some.inj e1
 have g2:=Option.some.inj e2
 rw [p1]
 subst g1 g2
 exact⟨T,S,by show _≤key r1;omega,by show key r2≤_;omega,l1,l2,w.1,w.2⟩
theorem rch_zero {x r:Nat×Nat} {t:Nat} (S:Some2 x.1 x.2) (hx:W2 x) (R:Some2 r.1 r.2) (hr:W2 r) (T:Tm t) (h:eqB t 0=true):insideB (rchQ x r t).1 (rchQ x r t).2 x.1 x.2=true:=by
 have hk:key t=0:=by
   unfold eqB at h
   simp only [Bool.and_eq_true,decide_eq_true_eq] at h
   rw [h.2]
   decide
 have hp:pz t=0:=by
   unfold pz
   split
   · rfl
   · rename_i hz
     have:=T.lt
     unfold key at hk
     split at hk <;> omega
 have e:rchQ x r t=addP x.1 x.2 0 0:=by
   unfold rchQ addQ mulQ
   rw [(tm_mk T).1,hp,pmul0k R hr]
 rw [e]
 exact (padd0k S hx).inside
def BndR (q:Qst) (ok:OkF) (rt:RtF) (X:Nat→Nat×Nat) (w:World) (v:Value):Prop :=
 (∃(b C:Nat) (B:Nat→Nat×Nat),v=.tuple #[.slice (some ⟨b,0,none⟩) q.k C,.int .i64 0]∧Img w b q.k B∧(∀i,i<q.k→W2 (B i))∧gdB q ok rt X B=true∧(∀i,i<q.k→bndB (B i)=true)∧(eqB q.t 0=true→ok X=true∧∀i,i<q.k→B i=X i)∧(eqB q.t 0=false→gdB q ok rt X (wdB X)=true→allIn q.k B (wdB X)=true)) ∨
 (v=.tuple #[.slice none 0 0,.int .i64 80]∧(eqB q.t 0=true→ok X=false)∧(eqB q.t 0=false→gdB q ok rt X (wdB X)=true→∃B,(∀i,i<q.k→W2 (B i))∧gdB q ok rt X B=true∧allIn q.k B (wdB X)=true∧∃i,i<q.k∧bndB (B i)=false))
theorem bound_good {q:Qst} {ok:OkF} {rt:RtF} {X:Nat→Nat×Nat} {w:World} (K:Ask q ok rt X w) (hb:∀i,i<q.k→bndB (X i)=true) (h0:eqB q.t 0=true→ok X=true→gdB q ok rt X X=true)
   (c1:∀W,Below w.heap.size w W→Calls Tryz.prog 20 #[tapeV q.v q.A q.n q.C q.D q.m q.E,.slice q.AX q.k q.CX,.float .f64 q.t] W fun e' w'=>e'=.returned (.int .i64 0)∧Below W.heap.size W w') :
   Calls Tryz.prog 7 #[tapeV q.v q.A q.n q.C q.D q.m q.E,.slice q.AX q.k q.CX,.float .f64 q.t] w fun e' w'=>(∃r,e'=.returned r∧BndR q ok rt X w' r)∧Below w.heap.size w w':=by
 have hX:∀i,i<q.k→W2 (X i):=fun i hi=>ivs_words K.begin i hi
 refine bd_good q.v q.A q.n q.C q.D q.m q.E q.AX q.k q.CX q.t _ (o_eq K.tm.lt (by omega)) (BndR q ok rt X) w c1 ?_ ?_ ?_
 · rintro W r (⟨b,C,B,e, -⟩ | ⟨e, -⟩)
   · exact⟨_,_,e⟩
   · exact⟨_,_,e⟩
 · intro hz W hW
   cases ho:ok X
   · refine (once_bad (K.keep hW) ho).mono ?_
     rintro _ w' ⟨rfl,hb1⟩
     exact⟨⟨_,rfl,Or.inr ⟨rfl,fun _=>ho,fun h=>(by rw [hz] at h;cases h)⟩⟩,hb1⟩
   · refine (once_good (K.keep hW) ho).mono ?_
     rintro _ w' ⟨⟨b,C,rfl,I⟩,hb1⟩
     exact⟨⟨_,rfl,Or.inl ⟨b,C,X,rfl,I,hX,h0 hz ho,hb,fun _=>⟨ho,fun _ _=>rfl⟩,fun h=>(by rw [hz] at h;cases h)⟩⟩,hb1⟩
 · intro hz W hW
   refine (search_w (K.keep hW)).mono ?_
   rintro _ w' ⟨⟨v,rfl,hs⟩,hb1⟩
   rcases hs with ⟨b,C,B,rfl,I,hB,hg,hwd,hf⟩ | ⟨rfl,hs⟩
   · exact⟨⟨_,rfl,Or.inl ⟨b,C,B,rfl,I,hB,hg,hf,fun h=>(by rw [hz] at h;cases h),fun _ h=>hwd h⟩⟩,hb1⟩
   · refine⟨⟨_,rfl,Or.inr ⟨rfl,fun h=>(by rw [hz] at h;cases h),fun _ h=>?_⟩⟩,hb1⟩
     rcases hs with hs | ⟨B,hB,hg,hwd,hi⟩
     · rw [hs] at h
       cases h
     · exact⟨B,hB,hg,hwd h,hi⟩
set_option maxHeartbeats 2000000 in
theorem pbl_bad (v:Int) (A:Option Addr) (n C:Nat) (D:Option Addr) (m E:Nat) (xs:Value) (t:Nat) (e:Int) (bR bM bD:Bool) (hn:¬(n:Int)>200) (he:(bR=false∧e=50)∨(bR=true∧bM=false∧e=1)∨(bR=true∧bM=true∧bD=false∧e=5)∨(bR=true∧bM=true∧bD=true∧e=80)) (w:World)
   (cB:∀W,Below w.heap.size w W→Calls Tryz.prog 7 #[tapeV v A n C D m E,xs,.float .f64 t] W fun r w'=>r=.returned (.tuple #[.slice none 0 0,.int .i64 e])∧Below W.heap.size W w')
   (cR:∀W,Below w.heap.size w W→Calls Tryz.prog 8 #[tapeV v A n C D m E] W fun r w'=>r=.returned (.bool bR)∧Below W.heap.size W w')
   (cM:∀W,Below w.heap.size w W→Calls Tryz.prog 9 #[tapeV v A n C D m E,xs,.float .f64 t] W fun r w'=>r=.returned (.bool bM)∧Below W.heap.size W w')
   (cD:∀W,Below w.heap.size w W→Calls Tryz.prog 10 #[xs] W fun r w'=>r=.returned (.bool bD)∧Below W.heap.size W w') :
   Calls Tryz.prog 3 #[tapeV v A n C D m E,xs,.float .f64 t] w fun r w'=>r=.returned (.bool true)∧Below w.heap.size w w':=by
 unfold tapeV at *
 have T:=hasT_new w v A n C D m E
 have HB:Below w.heap.size w (w.alloc (.cells #[.int .i64 v,.slice A n C,.slice D m E] 25)):=by go_grown
 rcases he with ⟨rfl,rfl⟩ | ⟨rfl,rfl,rfl⟩ | ⟨rfl,rfl,rfl,rfl⟩ | ⟨rfl,rfl,rfl,rfl⟩
 all_goals
   go_enter Tryz.func3,Tryz.ntmps3
   go_upto_region 1 with fail
   generalize (w.alloc (.cells #[.int .i64 v,.slice A n C,.slice D m E] 25))=V1 at *
   obtain⟨t0,t1,t2,tl⟩:=id T
   go_wp2_with (first
     | (go_at_call 7;refine (cB _ HB).mono ?_;rintro _ V2 ⟨rfl,hb1⟩;replace T:=T.keep hb1;replace HB:=later HB hb1;clear hb1;clear t0 t1 t2 tl;obtain⟨t0,t1,t2,tl⟩:=id T)
     | (go_at_call 8;refine (cR _ HB).mono ?_;rintro _ V3 ⟨rfl,hb1⟩;replace T:=T.keep hb1;replace HB:=later HB hb1;clear hb1;clear t0 t1 t2 tl;obtain⟨t0,t1,t2,tl⟩:=id T)
     | (go_at_call 9;refine (cM _ HB).mono ?_;rintro _ V4 ⟨rfl,hb1⟩;replace T:=T.keep hb1;replace HB:=later HB hb1;clear hb1;clear t0 t1 t2 tl;obtain⟨t0,t1,t2,tl⟩:=id T)
     | (go_at_call 10;refine (cD _ HB).mono ?_;rintro _ V5 ⟨rfl,hb1⟩;replace T:=T.keep hb1;replace HB:=later HB hb1;clear hb1;clear t0 t1 t2 tl;obtain⟨t0,t1,t2,tl⟩:=id T))
   go_ret
   exact⟨rfl,HB⟩
def Ans8 (k:Nat) (G:World→Nat→Prop) (w:World) (A:Option Addr) (n:Nat) (e:Int):Prop:=(e=0∧n=k∧∃b,A=some ⟨b,0,none⟩∧G w b)∨(e=80∧A=none∧n=0)
theorem Ans8.keep {k:Nat} {G:World→Nat→Prop} {w w2:World} {A:Option Addr} {n:Nat} {e:Int} (hG:∀W W' b,G W b→Below W.heap.size W W'→G W' b) (h:Ans8 k G w A n e) (hb:Below w.heap.size w w2):Ans8 k G w2 A n e:=by
 rcases h with ⟨h1,h2,b,h3,h4⟩ | h
 · exact Or.inl ⟨h1,h2,b,h3,hG _ _ _ h4 hb⟩
 · exact Or.inr h
set_option maxHeartbeats 2000000 in
theorem pbl_good (v:Int) (A:Option Addr) (n C:Nat) (D:Option Addr) (m E:Nat) (xs:Value) (t k:Nat) (G:World→Nat→Prop) (hG:∀W W' b,G W b→Below W.heap.size W W'→G W' b) (hn:¬(n:Int)>200) (w:World)
   (cB:∀W,Below w.heap.size w W→Calls Tryz.prog 7 #[tapeV v A n C D m E,xs,.float .f64 t] W fun r w'=>(∃Ab kb Cb e,r=.returned (.tuple #[.slice Ab kb Cb,.int .i64 e])∧Ans8 k G w' Ab kb e)∧Below W.heap.size W w')
   (cR:∀W,Below w.heap.size w W→Calls Tryz.prog 8 #[tapeV v A n C D m E] W fun r w'=>r=.returned (.bool true)∧Below W.heap.size W w')
   (cM:∀W,Below w.heap.size w W→Calls Tryz.prog 9 #[tapeV v A n C D m E,xs,.float .f64 t] W fun r w'=>r=.returned (.bool true)∧Below W.heap.size W w')
   (cD:∀W,Below w.heap.size w W→Calls Tryz.prog 10 #[xs] W fun r w'=>r=.returned (.bool true)∧Below W.heap.size W w')
   (cO:∀W b C',Below w.heap.size w W→G W b→Calls Tryz.prog 11 #[tapeV v A n C D m E,xs,.slice (some ⟨b,0,none⟩) k C',.float .f64 t] W fun r w'=>r=.returned (.bool true)∧Below W.heap.size W w') :
   Calls Tryz.prog 3 #[tapeV v A n C D m E,xs,.float .f64 t] w fun r w'=>r=.returned (.bool true)∧Below w.heap.size w w':=by
 unfold tapeV at *
 have T:=hasT_new w v A n C D m E
 have HB:Below w.heap.size w (w.alloc (.cells #[.int .i64 v,.slice A n C,.slice D m E] 25)):=by go_grown
 replace hG:Hid (∀W W' b,G W b→Below W.heap.size W W'→G W' b):=hG
 go_enter Tryz.func3,Tryz.ntmps3
 go_upto_region 1 with fail
 generalize (w.alloc (.cells #[.int .i64 v,.slice A n C,.slice D m E] 25))=V1 at *
 obtain⟨t0,t1,t2,tl⟩:=id T
 go_upto_region 10 with (first
   | (go_at_call 7;refine (cB _ HB).mono ?_;rintro _ V2 ⟨⟨Ab,kb,Cb,e,rfl,g⟩,hb1⟩;replace T:=T.keep hb1;replace HB:=later HB hb1;clear hb1;clear t0 t1 t2 tl;obtain⟨t0,t1,t2,tl⟩:=id T)
   | (go_at_call 8;refine (cR _ HB).mono ?_;rintro _ V3 ⟨rfl,hb1⟩;replace g:=g.keep hG.out hb1;replace T:=T.keep hb1;replace HB:=later HB hb1;clear hb1;clear t0 t1 t2 tl;obtain⟨t0,t1,t2,tl⟩:=id T)
   | (go_at_call 9;refine (cM _ HB).mono ?_;rintro _ V4 ⟨rfl,hb1⟩;replace g:=g.keep hG.out hb1;replace T:=T.keep hb1;replace HB:=later HB hb1;clear hb1;clear t0 t1 t2 tl;obtain⟨t0,t1,t2,tl⟩:=id T)
   | (go_at_call 10;refine (cD _ HB).mono ?_;rintro _ V5 ⟨rfl,hb1⟩;replace g:=g.keep hG.out hb1;replace T:=T.keep hb1;replace HB:=later HB hb1;clear hb1;clear t0 t1 t2 tl;obtain⟨t0,t1,t2,tl⟩:=id T))
 rcases g with ⟨rfl,rfl,b,rfl,g⟩ | ⟨rfl,rfl,rfl⟩
 · go_wp2_with (go_at_call 11;refine (cO _ _ _ HB g).mono ?_;rintro _ V6 ⟨rfl,hb1⟩;replace HB:=later HB hb1)
   go_ret
   exact⟨rfl,HB⟩
 · go_wp2_with fail
   go_ret
   exact⟨rfl,HB⟩
theorem pbl_long (v:Int) (A:Option Addr) (n C:Nat) (D:Option Addr) (m E:Nat) (xs:Value) (t:Nat) (hn:(n:Int)>200) (w:World):Calls Tryz.prog 3 #[tapeV v A n C D m E,xs,.float .f64 t] w fun r w'=>r=.returned (.bool true)∧Below w.heap.size w w':=by
 unfold tapeV
 go_enter Tryz.func3,Tryz.ntmps3
 go_wp2_with fail
 go_ret
 exact⟨rfl,by go_grown⟩
structure Fair (v:Int) (n:Nat) (O:Nat→Opw) (m:Nat) (Y:Nat→Int) (mx t:Nat) (X:Nat→Nat×Nat):Prop where
 r:rightT v n O m Y=true
 v:v=(mx:Int)
 m:m=mx
 k0:0<mx
 k24:mx≤24
 tm:Tm t
 hs:∀i,i<mx→hsB (X i).1 (X i).2=true
 bnd:∀i,i<mx→bndB (X i)=true
theorem fair_of {v:Int} {n:Nat} {O:Nat→Opw} {m:Nat} {Y:Nat→Int} {mx t:Nat} {X:Nat→Nat×Nat} (ht:t<18446744073709551616) (hm:((rightT v n O m Y&&fldB v m)&&(allB mx X&&((mx:Int)==v))&&tmB t)=true) (hb:allBd mx X=true):Fair v n O m Y mx t X:=by
 simp only [Bool.and_eq_true,beq_iff_eq] at hm
 obtain⟨⟨⟨h1,h2⟩,h3,h4⟩,h5⟩:=hm
 unfold fldB at h2
 simp only [Bool.and_eq_true,decide_eq_true_eq,beq_iff_eq] at h2
 unfold allB at h3
 unfold allBd at hb
 exact⟨h1,h4.symm,by omega,by omega,by omega,tm_of ht h5,all_upto.1 h3,fun i hi=>by have:=all_upto.1 hb i hi;unfold bdQ at this;simp only [Bool.and_eq_true] at this;exact this.2⟩
theorem Fair.facts {v:Int} {n:Nat} {O:Nat→Opw} {m:Nat} {Y:Nat→Int} {mx t:Nat} {X:Nat→Nat×Nat} (F:Fair v n O m Y mx t X) {w:World} {A:Option Addr} (VO:Ops w A n O) {B:Nat→Nat×Nat} (ho:okE n O mx B=true) (i:Nat) (hi:i<mx):W2 (rtE n O Y B i)∧Some2 (rtE n O Y B i).1 (rtE n O Y B i).2:=by
 obtain⟨h1,h2,h3⟩:=right_all F.r
 have hv:=F.v
 have hm:=F.m
 subst hv hm
 exact rt_facts h2 (fun i hi=>by obtain⟨b,o,e,l,c0,c1,c2,c3,c4,c5,r⟩:=VO i hi;exact r) h3 ho i hi
theorem Fair.ask {q:Qst} {O:Nat→Opw} {Y:Nat→Int} {X:Nat→Nat×Nat} (F:Fair q.v q.n O q.m Y q.k q.t X) {w:World} (VO:Ops w q.A q.n O) (VY:Ins w q.D q.m Y) (VX:Ivs w q.AX q.k X):Ask q (okE q.n O q.k) (rtE q.n O Y) X w :=
 ⟨F.k24,F.k0,F.tm,fun _ ho i hi=>(F.facts VO ho i hi).1,ev_c q O Y F.r F.v F.m w VO VY,VX⟩
theorem Fair.less {q:Qst} {O:Nat→Opw} {Y:Nat→Int} {X Z B:Nat→Nat×Nat} {s:Nat} (F:Fair q.v q.n O q.m Y q.k q.t X) {w:World} (VO:Ops w q.A q.n O) (hB:∀i,i<q.k→W2 (B i)) (hg:gdB q (okE q.n O q.k) (rtE q.n O Y) X B=true) (hf:∀i,i<q.k→bndB (B i)=true) (S:Tm s) (hs:key s≤key q.t) (hZ:∀i,i<q.k→In (Z i).1 (Z i).2 (X i).1 (X i).2) :
   (okE q.n O q.k B&&bdsB q.k Z B (rtE q.n O Y B) s)=true:=by
 unfold gdB at hg
 simp only [Bool.and_eq_true] at hg ⊢
 refine⟨hg.1, ?_⟩
 unfold bdsB
 refine all_upto.2 fun i hi=>?_
 obtain⟨r1,r2⟩:=F.facts VO hg.1 i hi
 obtain⟨a,b,c⟩:=rch_less (hZ i hi) r2 r1 (hB i hi) S F.tm hs (allIn_iff.1 hg.2 i hi)
 unfold bd1 bdQ
 rw [a,b,hs_iff.2 c,hf i hi]
 rfl
theorem picardBounds_all (v:Int) (A:Option Addr) (n C:Nat) (D:Option Addr) (m E:Nat) (O:Nat→Opw) (Y:Nat→Int) (AX:Option Addr) (mx CX:Nat) (X:Nat→Nat×Nat) (t:Nat) (hn:n≤9223372036854775807) (hm:m≤9223372036854775807) (hmx:mx≤9223372036854775807) (ht:t<18446744073709551616) (w:World) (VO:Ops w A n O) (VY:Ins w D m Y) (VX:Ivs w AX mx X) :
   Calls Tryz.prog 3 #[tapeV v A n C D m E,.slice AX mx CX,.float .f64 t] w fun r w'=>r=.returned (.bool true)∧Below w.heap.size w w':=by
 by_cases hn2:(n:Int)>200
 · exact pbl_long v A n C D m E _ t hn2 w
 have cP:=fun (W:World) (hW:Below w.heap.size w W)=>pref_w v A n C D m E O Y AX mx CX t X hn hm hmx ht W (VO.keep hW) (VY.keep hW) (VX.keep hW)
 have cR:=fun (W:World) (hW:Below w.heap.size w W)=>rright_t v A n C D m E O Y W (VO.keep hW) (VY.keep hW)
 have cM:=fun (W:World) (hW:Below w.heap.size w W)=>may_w v A n C D m E O Y AX mx CX t X hmx ht W (VO.keep hW) (VY.keep hW) (VX.keep hW)
 have cD:=fun (W:World) (hW:Below w.heap.size w W)=>bounded_w AX mx CX X hmx W (VX.keep hW)
 have hsame:(!(anyU mx fun i=>!hsB (X i).1 (X i).2))=allB mx X:=by
   unfold anyU allB
   simp only [Bool.not_not]
 have hpm:(fldB v m&&!((mx:Int) != v)&&!(anyU mx fun i=>!hsB (X i).1 (X i).2)&&tmB t)=(fldB v m&&(allB mx X&&((mx:Int)==v))&&tmB t):=by
   rw [hsame]
   have:(!((mx:Int) != v))=((mx:Int)==v):=by simp [bne]
   rw [this]
   cases fldB v m <;> cases ((mx:Int)==v) <;> cases allB mx X <;> rfl
 rw [hpm] at cP
 have hbad:∀e:Int,(e != 0)=true→(if rightT v n O m Y then (if fldB v m&&(allB mx X&&((mx:Int)==v))&&tmB t then (if anyU mx fun i=>!bndB (X i) then (5:Int) else 0) else 1) else 50)=e→∀W,Below w.heap.size w W→Calls Tryz.prog 7 #[tapeV v A n C D m E,.slice AX mx CX,.float .f64 t] W fun r w'=>r=.returned (.tuple #[.slice none 0 0,.int .i64 e])∧Below W.heap.size W w':=fun e he hee W hW=>by
   refine bd_bad v A n C D m E _ t e he W fun W' hW'=>?_
   have c:=cP W' (later hW hW')
   rw [hee] at c
   exact c
 cases hr:rightT v n O m Y
 · rw [hr] at cR
   exact pbl_bad v A n C D m E _ t 50 false _ _ hn2 (Or.inl ⟨rfl,rfl⟩) w (hbad 50 (by decide) (by rw [hr];rfl)) cR cM cD
 cases hmm:(fldB v m&&(allB mx X&&((mx:Int)==v))&&tmB t)
 · rw [hr] at cR
   rw [hr,Bool.true_and,hmm] at cM
   exact pbl_bad v A n C D m E _ t 1 true false _ hn2 (Or.inr (Or.inl ⟨rfl,rfl,rfl⟩)) w (hbad 1 (by decide) (by rw [hr,hmm];rfl)) cR cM cD
 have hall:∀i,i<mx→hsB (X i).1 (X i).2=true:=by
   simp only [Bool.and_eq_true] at hmm
   exact all_upto.1 (show (List.range mx).all _=true from hmm.1.2.1)
 have hend:(!(anyU mx fun i=>!bndB (X i)))=allBd mx X:=by
   unfold anyU allBd
   simp only [Bool.not_not]
   rw [Bool.eq_iff_iff,all_upto,all_upto]
   refine⟨fun h i hi=>?_,fun h i hi=>?_⟩
   · unfold bdQ
     rw [hall i hi,h i hi]
     rfl
   · have:=h i hi
     unfold bdQ at this
     simp only [Bool.and_eq_true] at this
     exact this.2
 cases hbb:allBd mx X
 · rw [hr] at cR
   rw [hr,Bool.true_and,hmm] at cM
   rw [hbb] at cD
   have:(anyU mx fun i=>!bndB (X i))=true:=by rw [hbb] at hend;simpa using hend
   exact pbl_bad v A n C D m E _ t 5 true true false hn2 (Or.inr (Or.inr (Or.inl ⟨rfl,rfl,rfl,rfl⟩))) w (hbad 5 (by decide) (by rw [hr,hmm,this];rfl)) cR cM cD
 have hno:(anyU mx fun i=>!bndB (X i))=false:=by rw [hbb] at hend;simpa using hend
 have F:Fair v n O m Y mx t X:=fair_of ht (by rw [hr,Bool.true_and];exact hmm) hbb
 rw [hr] at cR
 rw [hr,Bool.true_and,hmm] at cM
 rw [hbb] at cD
 rw [hr,hmm,hno] at cP
 let q:Qst:=⟨v,A,n,C,D,m,E,AX,mx,CX,t⟩
 have K:Ask q (okE n O mx) (rtE n O Y) X w:=Fair.ask (q:=q) F VO VY VX
 have hX:∀i,i<mx→W2 (X i):=fun i hi=>ivs_words VX i hi
 have h0:eqB t 0=true→okE n O mx X=true→gdB q (okE n O mx) (rtE n O Y) X X=true:=fun hz ho=>by
   unfold gdB
   rw [ho,Bool.true_and]
   refine allIn_iff.2 fun i hi=>?_
   obtain⟨r1,r2⟩:=F.facts VO ho i hi
   exact rch_zero (hs_iff.1 (F.hs i hi)) (hX i hi) r2 r1 F.tm hz
 let G:World→Nat→Prop:=fun W b=>∃B:Nat→Nat×Nat,Img W b mx B∧(∀i,i<mx→W2 (B i))∧gdB q (okE n O mx) (rtE n O Y) X B=true∧∀i,i<mx→bndB (B i)=true
 refine pbl_good v A n C D m E (.slice AX mx CX) t mx G (fun W W' b h hb=>by
   obtain⟨B,I,r⟩:=h
   exact⟨B,I.keep hb,r⟩) hn2 w (fun W hW=>?_) cR cM cD (fun W b C' hW hG=>?_)
 · refine (bound_good (q:=q) (K.keep hW) F.bnd h0 (fun W' hW'=>cP W' (later hW hW'))).mono ?_
   rintro _ w' ⟨⟨r,rfl,hr'⟩,hb⟩
   refine⟨?_,hb⟩
   rcases hr' with ⟨b,C',B,rfl,I,hB,hg,hf, -, -⟩ | ⟨rfl, -⟩
   · exact⟨_,_,_,_,rfl,Or.inl ⟨rfl,rfl,b,rfl,B,I,hB,hg,hf⟩⟩
   · exact⟨_,_,_,_,rfl,Or.inr ⟨rfl,rfl,rfl⟩⟩
 · obtain⟨B,I,hB,hg,hf⟩:=hG
   have c:=bounds_w q (okE n O mx) (rtE n O Y) X B AX (some ⟨b,0,none⟩) CX C' t F.k24 ht (fun ho i hi=>(F.facts VO ho i hi).1) W (K.keep hW).ev (VX.keep hW) (I.ivs hB)
   rw [Fair.less (q:=q) F VO hB hg hf F.tm (Int.le_refl _) (fun i hi=>In.refl (hX i hi).1 (hX i hi).2 (hs_iff.1 (F.hs i hi)))] at c
   exact c
end Go.Proofs.YtnnfafilgiajoaaGreat
