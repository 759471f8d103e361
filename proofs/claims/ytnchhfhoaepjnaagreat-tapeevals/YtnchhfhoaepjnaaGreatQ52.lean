/- What an operation makes is an interval or none; the laws' value, Bounded and Vars answer the program's functions of words. Columns, and rows of noughts: what the program makes. The program's product of two matrices. The program's Mul; two matrices of the same intervals are the same to the reference. The reference's product of two matrices. -/
import Derived.Test.YtnchhfhoaepjnaaGreatQ51
import Derived.Test.YtnchhfhoaepjnaaGreatQ49
namespace Go.Proofs.YtnchhfhoaepjnaaGreat
open Go.ChangeShapes Go.WideShapes Go.ChangeAt Go.RowKit
def Shp (p:Nat×Nat):Prop:=p=noneQ∨Some2 p.1 p.2
theorem Gr.shp {p q:Nat×Nat} (h:Gr p q):Shp p:=by
 rcases h with ⟨e, -⟩ | ⟨S, -⟩
 · exact Or.inl e
 · exact Or.inr S
theorem mk_shp (a b:Nat):Shp (mkQ a b):=by
 unfold mkQ makeP
 split
 · rename_i h
   exact Or.inr (hs_iff.1 h)
 · exact Or.inl rfl
theorem ris_shp (f:Nat→Nat×Nat) (x:Nat×Nat):Shp (risQ f x):=by
 unfold risQ
 split
 · exact Or.inl rfl
 · exact mk_shp _ _
theorem log_shp (x:Nat×Nat):Shp (logQ x):=by
 unfold logQ
 split
 · exact Or.inl rfl
 · exact ris_shp _ _
theorem wave_shp (x:Nat×Nat) (a:Int):Shp (waveQ x a):=by
 unfold waveQ
 split
 · exact Or.inl rfl
 · split
   · exact mk_shp _ _
   · exact meet_ways _ _
theorem evalQ_shp {o:Opw} {a b:Nat×Nat} {X:Nat→Nat×Nat} (ho:o.k=1→hsB o.lo o.hi=true) (hX:o.k=2→hsB (X o.n.toNat).1 (X o.n.toNat).2=true) (wa:W2 a) (wb:W2 b) (A:Some2 a.1 a.2) (B:Some2 b.1 b.2):Shp (evalQ o a b X):=by
 have ia:=In.refl wa.1 wa.2 A
 have ib:=In.refl wb.1 wb.2 B
 unfold evalQ
 by_cases h1:o.k=1
 · rw [if_pos h1];exact Or.inr (hs_iff.1 (ho h1))
 rw [if_neg h1]
 by_cases h2:o.k=2
 · rw [if_pos h2];exact Or.inr (hs_iff.1 (hX h2))
 rw [if_neg h2]
 clear h1 h2
 split
 · exact Gr.shp (add_gr ia ib)
 split
 · exact Gr.shp (add_gr ia (neg_in ib))
 split
 · exact Gr.shp (mul_gr ia wb.1 wb.2 B)
 split
 · exact Gr.shp (div_gr ia ib)
 split
 · exact Or.inr (neg_in ia).S
 split
 · exact Gr.shp (pow_gr ia _)
 split
 · exact Gr.shp (sqrt_gr ia)
 split
 · exact ris_shp _ _
 split
 · exact log_shp _
 split
 · exact wave_shp _ 0
 split
 · exact wave_shp _ 1
 · exact ris_shp _ _
set_option maxHeartbeats 1000000 in
theorem rb_none (v:Nat×Nat) (c1:∀w,Calls Tryz.prog 39 #[.agg #[.float .f64 v.1,.float .f64 v.2]] w fun e w'=>e=.returned (.bool true)∧Below w.heap.size w w') (w:World):Calls Tryz.prog 21 #[.agg #[.float .f64 v.1,.float .f64 v.2]] w fun e w'=>e=.returned (.bool false)∧Below w.heap.size w w':=by
 have X:Has2 (w.alloc (.cells #[.float .f64 v.1,.float .f64 v.2] 46)) w.heap.size (.float .f64 v.1) (.float .f64 v.2):=has2_new _ _ _ _
 have HB:Below w.heap.size w (w.alloc (.cells #[.float .f64 v.1,.float .f64 v.2] 46)):=by go_grown
 go_enter Tryz.func21,Tryz.ntmps21
 go_upto_region 1 with fail
 generalize (w.alloc (.cells #[.float .f64 v.1,.float .f64 v.2] 46))=V1 at *
 have kX0:=fun n:Behind V1=>n.cell X.1 X.2.2.2.2;have kX1:=fun n:Behind V1=>n.cell X.2.1 X.2.2.2.2
 refine region_behind (by kernel_rfl) (by kernel_rfl) ?_
 repeat (go_big_quiet_step (first | (go_at_call 39;with_reducible refine Behind.call (c1 _))))
 refine wpQuiet_nil ?_
 rintro _ ⟨m',rfl⟩
 obtain⟨W,hb1⟩:=m'
 dsimp only
 replace HB:=later HB hb1
 go_wp2_with fail
 go_ret
 exact⟨rfl,HB⟩
set_option maxHeartbeats 1000000 in
theorem rb_some (v:Nat×Nat) (b1 b2:Bool) (c1:∀w,Calls Tryz.prog 39 #[.agg #[.float .f64 v.1,.float .f64 v.2]] w fun e w'=>e=.returned (.bool false)∧Below w.heap.size w w') (o1:(FloatKind.f64.format.order v.1 (infI (-1)) != some .eq)=b1) (o2:(FloatKind.f64.format.order v.2 (infI 1) != some .eq)=b2) (w:World):Calls Tryz.prog 21 #[.agg #[.float .f64 v.1,.float .f64 v.2]] w fun e w'=>e=.returned (.bool (b1&&b2))∧Below w.heap.size w w':=by
 have X:Has2 (w.alloc (.cells #[.float .f64 v.1,.float .f64 v.2] 46)) w.heap.size (.float .f64 v.1) (.float .f64 v.2):=has2_new _ _ _ _
 have HB:Below w.heap.size w (w.alloc (.cells #[.float .f64 v.1,.float .f64 v.2] 46)):=by go_grown
 go_enter Tryz.func21,Tryz.ntmps21
 go_upto_region 1 with fail
 generalize (w.alloc (.cells #[.float .f64 v.1,.float .f64 v.2] 46))=V1 at *
 have kX0:=fun n:Behind V1=>n.cell X.1 X.2.2.2.2;have kX1:=fun n:Behind V1=>n.cell X.2.1 X.2.2.2.2
 cases b1 <;> cases b2
 all_goals
   refine region_behind (by kernel_rfl) (by kernel_rfl) ?_
   repeat (go_big_quiet_step (first | (go_at_call 39;with_reducible refine Behind.call (c1 _)) | (go_at_call 46;refine Behind.same (rinf_w _ _))))
   refine wpQuiet_nil ?_
   rintro _ ⟨m',rfl⟩
   obtain⟨W,hb1⟩:=m'
   dsimp only
   replace HB:=later HB hb1
   go_wp2_with fail
   go_ret
   exact⟨rfl,HB⟩
theorem inf_lo {x:Nat} (hx:x<18446744073709551616) (n:nanB x=false) (lt:key x<9218868437227405312):eqB x (infI (-1))=infB x:=by
 unfold eqB infB
 rw [n,nan_inf,key_down]
 simp only [Bool.not_false,Bool.true_and]
 refine decide_eq_decide.2 ?_
 unfold key at lt ⊢
 by_cases c:x<9223372036854775808
 · rw [if_pos c] at lt ⊢;omega
 · rw [if_neg c] at lt ⊢;omega
theorem inf_hi {x:Nat} (hx:x<18446744073709551616) (n:nanB x=false) (gt:-9218868437227405312<key x):eqB x (infI 1)=infB x:=by
 unfold eqB infB
 rw [n,nan_inf,key_up]
 simp only [Bool.not_false,Bool.true_and]
 refine decide_eq_decide.2 ?_
 unfold key at gt ⊢
 by_cases c:x<9223372036854775808
 · rw [if_pos c] at gt ⊢;omega
 · rw [if_neg c] at gt ⊢;omega
theorem cRBnd {v:Nat×Nat} (hv:W2 v) (h:Shp v) (w:World):Calls Tryz.prog 21 #[.agg #[.float .f64 v.1,.float .f64 v.2]] w fun e w'=>e=.returned (.bool (bndB v))∧Below w.heap.size w w':=by
 have c1:=fun w=>none_w v.1 v.2 hv.1 hv.2 w
 rcases h with rfl | S
 · have e:bndB noneQ=false:=by decide
   rw [e]
   rw [show hsB noneQ.1 noneQ.2=false from empty_some] at c1
   exact rb_none noneQ c1 w
 · rw [hs_iff.2 S] at c1
   have o1:=congrArg (fun q=>!q) (o_eq hv.1 (infI_lt (-1)))
   have o2:=congrArg (fun q=>!q) (o_eq hv.2 (infI_lt 1))
   simp only [inf_lo hv.1 S.nl S.lt,inf_hi hv.2 S.nh S.gt] at o1 o2
   exact rb_some v _ _ c1 o1 o2 w
theorem rAddQ {p q:Nat×Nat} (hp:W2 p) (hq:W2 q) (w:World):Calls Tryz.prog 49 #[.agg #[.float .f64 p.1,.float .f64 p.2],.agg #[.float .f64 q.1,.float .f64 q.2]] w fun e w'=>e=.returned (.agg #[.float .f64 (addQ p q).1,.float .f64 (addQ p q).2])∧Below w.heap.size w w':=rAdd_w p.1 p.2 q.1 q.2 hp.1 hp.2 hq.1 hq.2 w
theorem rSubQ {p q:Nat×Nat} (hp:W2 p) (hq:W2 q) (w:World):Calls Tryz.prog 50 #[.agg #[.float .f64 p.1,.float .f64 p.2],.agg #[.float .f64 q.1,.float .f64 q.2]] w fun e w'=>e=.returned (.agg #[.float .f64 (subQ p q).1,.float .f64 (subQ p q).2])∧Below w.heap.size w w':=rSub_w p.1 p.2 q.1 q.2 hp.1 hp.2 hq.1 hq.2 w
theorem rMulQ {p q:Nat×Nat} (hp:W2 p) (hq:W2 q) (w:World):Calls Tryz.prog 51 #[.agg #[.float .f64 p.1,.float .f64 p.2],.agg #[.float .f64 q.1,.float .f64 q.2]] w fun e w'=>e=.returned (.agg #[.float .f64 (mulQ p q).1,.float .f64 (mulQ p q).2])∧Below w.heap.size w w':=rMul_w p.1 p.2 q.1 q.2 hp.1 hp.2 hq.1 hq.2 w
theorem rDivQ {p q:Nat×Nat} (hp:W2 p) (hq:W2 q) (w:World):Calls Tryz.prog 52 #[.agg #[.float .f64 p.1,.float .f64 p.2],.agg #[.float .f64 q.1,.float .f64 q.2]] w fun e w'=>e=.returned (.agg #[.float .f64 (divQ p q).1,.float .f64 (divQ p q).2])∧Below w.heap.size w w':=rDiv_w p.1 p.2 q.1 q.2 hp.1 hp.2 hq.1 hq.2 w
theorem rNegQ {p:Nat×Nat} (hp:W2 p) (w:World):Calls Tryz.prog 53 #[.agg #[.float .f64 p.1,.float .f64 p.2]] w fun e w'=>e=.returned (.agg #[.float .f64 (negQ p).1,.float .f64 (negQ p).2])∧Below w.heap.size w w':=rNeg_w p.1 p.2 hp.1 hp.2 w
theorem rPowQ {p:Nat×Nat} (hp:W2 p) (n:Int) (w:World):Calls Tryz.prog 54 #[.agg #[.float .f64 p.1,.float .f64 p.2],.int .i64 n] w fun e w'=>e=.returned (.agg #[.float .f64 (powQ p n).1,.float .f64 (powQ p n).2])∧Below w.heap.size w w':=rPow_w p.1 p.2 hp.1 hp.2 n w
theorem rSqrtQ {p:Nat×Nat} (hp:W2 p) (w:World):Calls Tryz.prog 87 #[.agg #[.float .f64 p.1,.float .f64 p.2]] w fun e w'=>e=.returned (.agg #[.float .f64 (sqrtQ p).1,.float .f64 (sqrtQ p).2])∧Below w.heap.size w w':=rSqrt_w p.1 p.2 hp.1 hp.2 w
theorem not_lt0 {x:Nat} (n:nanB x=false):leB 0 x=!ltB x 0:=by
 unfold leB ltB
 rw [n,show nanB 0=false by decide,show key 0=0 by decide]
 rw [Bool.eq_iff_iff]
 simp
theorem not_le0 {x:Nat} (n:nanB x=false):ltB 0 x=!leB x 0:=by
 unfold leB ltB
 rw [n,show nanB 0=false by decide,show key 0=0 by decide]
 rw [Bool.eq_iff_iff]
 simp
theorem cBasic {o:Opw} (hk:1≤o.k∧o.k≤9) {a b:Nat×Nat} (ha:W2 a) (hb:W2 b) (na:nanB a.1=false) (A:Option Addr) (m C:Nat) (X:Nat→Nat×Nat) (hn:o.k=2→0≤o.n∧o.n<(m:Int)) (w:World) (V:Ivs w A m X) :
   Calls Tryz.prog 45 #[o.val,.agg #[.float .f64 a.1,.float .f64 a.2],.agg #[.float .f64 b.1,.float .f64 b.2],.slice A m C] w fun e w'=>e=.returned (.tuple #[.agg #[.float .f64 (evalQ o a b X).1,.float .f64 (evalQ o a b X).2],.bool (!outQ o a b)])∧Below w.heap.size w w':=by
 obtain⟨k,oa,ob,n,lo,hi⟩:=o
 have hh:k=1∨k=2∨k=3∨k=4∨k=5∨k=6∨k=7∨k=8∨k=9:=by
   have:=hk.1;have:=hk.2;simp only at *;omega
 rcases hh with rfl | rfl | rfl | rfl | rfl | rfl | rfl | rfl | rfl
 · exact ba_1 oa ob n (lo,hi) a b _ w
 · obtain⟨h0,h1⟩:=hn rfl
   simp only at h0 h1
   obtain⟨i,rfl⟩:∃i:Nat,n=(i:Int):=⟨n.toNat,by omega⟩
   obtain⟨xb,xo,rfl,hl,x0,x1, -⟩:=V i (by omega)
   have e:evalQ ⟨2,oa,ob,(i:Int),lo,hi⟩ a b X=X i:=rfl
   rw [e]
   exact ba_2 oa ob i m C xb xo (lo,hi) a b (X i) (by omega) w hl x0 x1
 · exact ba_3 oa ob n (lo,hi) a b _ _ (fun w=>rAddQ ha hb w) w
 · exact ba_4 oa ob n (lo,hi) a b _ _ (fun w=>rSubQ ha hb w) w
 · exact ba_5 oa ob n (lo,hi) a b _ _ (fun w=>rMulQ ha hb w) w
 · exact ba_6 oa ob n (lo,hi) a b _ _ (fun w=>rDivQ ha hb w) _ (fun w=>rhas_w b.1 b.2 0 hb.1 hb.2 (by omega) w) w
 · exact ba_7 oa ob n (lo,hi) a b _ _ (fun w=>rNegQ ha w) w
 · have e:outQ ⟨8,oa,ob,n,lo,hi⟩ a b=(decide (n<0)&&hasB a.1 a.2 0):=rfl
   rw [e]
   exact ba_8 oa ob n (lo,hi) a b _ _ (fun w=>rPowQ ha n w) _ (fun hn w=>by rw [decide_eq_true hn,Bool.true_and];exact rhas_w a.1 a.2 0 ha.1 ha.2 (by omega) w) (fun hn=>by rw [decide_eq_false hn];rfl) w
 · have e:outQ ⟨9,oa,ob,n,lo,hi⟩ a b=ltB a.1 0:=rfl
   rw [e,←not_lt0 na]
   exact ba_9 oa ob n (lo,hi) a b _ _ (fun w=>rSqrtQ ha w) _ (o_ge ha.1 (by omega)) w
theorem rvalue_w {o:Opw} {i:Nat} (B:Option Addr) (D:Nat) (V:Nat→Nat×Nat) (A:Option Addr) (m C:Nat) (X:Nat→Nat×Nat) (h:opB o (i:Int) (m:Int)=true) (w:World) (U:Ivs w B i V) (VX:Ivs w A m X) (na:nanB (argA o V).1=false) :
   Calls Tryz.prog 20 #[o.val,.slice B i D,.slice A m C] w fun e w'=>e=.returned (.tuple #[.agg #[.float .f64 (evalQ o (argA o V) (argB o V) X).1,.float .f64 (evalQ o (argA o V) (argB o V) X).2],.bool (!outQ o (argA o V) (argB o V))])∧Below w.heap.size w w':=by
 obtain⟨hk,g1,g2,g3,g4⟩:=opB_says h
 obtain⟨wa,wb⟩:=args_W2 g1 g2 U
 have cb:=fun (h9:o.k≤9) W (hW:Below w.heap.size w W)=>cBasic ⟨hk.1,h9⟩ wa wb na A m C X g3 W (VX.keep hW)
 obtain⟨k,oa,ob,n,lo,hi⟩:=o
 have ca:=fun w=>args_w k w
 simp only at g1 g2
 have hh:k=1∨k=2∨k=3∨k=4∨k=5∨k=6∨k=7∨k=8∨k=9∨k=10∨k=11∨k=12∨k=13∨k=14:=by
   have:=hk.1;have:=hk.2;simp only at *;omega
 rcases hh with rfl | rfl | rfl | rfl | rfl | rfl | rfl | rfl | rfl | rfl | rfl | rfl | rfl | rfl
 · exact vl_1 oa ob n (lo,hi) _ _ ca w _ _ (cb (by simp))
 · exact vl_2 oa ob n (lo,hi) _ _ ca w _ _ (cb (by simp))
 · obtain⟨a0,a1⟩:=g1 (by decide)
   obtain⟨b0,b1⟩:=g2 (by decide)
   obtain⟨j,rfl⟩:∃j:Nat,oa=(j:Int):=⟨oa.toNat,by omega⟩
   obtain⟨q,rfl⟩:∃q:Nat,ob=(q:Int):=⟨ob.toNat,by omega⟩
   obtain⟨xb,xo,hB,hl,x0,x1, -⟩:=U j (by omega)
   obtain⟨yb,yo,hB2,hl2,y0,y1, -⟩:=U q (by omega)
   rw [hB] at hB2 ⊢
   cases hB2
   exact vl_3 n j q i D xb xo (lo,hi) (V j) (V q) _ (by omega) (by omega) ca w hl x0 x1 y0 y1 _ _ (cb (by simp))
 · obtain⟨a0,a1⟩:=g1 (by decide)
   obtain⟨b0,b1⟩:=g2 (by decide)
   obtain⟨j,rfl⟩:∃j:Nat,oa=(j:Int):=⟨oa.toNat,by omega⟩
   obtain⟨q,rfl⟩:∃q:Nat,ob=(q:Int):=⟨ob.toNat,by omega⟩
   obtain⟨xb,xo,hB,hl,x0,x1, -⟩:=U j (by omega)
   obtain⟨yb,yo,hB2,hl2,y0,y1, -⟩:=U q (by omega)
   rw [hB] at hB2 ⊢
   cases hB2
   exact vl_4 n j q i D xb xo (lo,hi) (V j) (V q) _ (by omega) (by omega) ca w hl x0 x1 y0 y1 _ _ (cb (by simp))
 · obtain⟨a0,a1⟩:=g1 (by decide)
   obtain⟨b0,b1⟩:=g2 (by decide)
   obtain⟨j,rfl⟩:∃j:Nat,oa=(j:Int):=⟨oa.toNat,by omega⟩
   obtain⟨q,rfl⟩:∃q:Nat,ob=(q:Int):=⟨ob.toNat,by omega⟩
   obtain⟨xb,xo,hB,hl,x0,x1, -⟩:=U j (by omega)
   obtain⟨yb,yo,hB2,hl2,y0,y1, -⟩:=U q (by omega)
   rw [hB] at hB2 ⊢
   cases hB2
   exact vl_5 n j q i D xb xo (lo,hi) (V j) (V q) _ (by omega) (by omega) ca w hl x0 x1 y0 y1 _ _ (cb (by simp))
 · obtain⟨a0,a1⟩:=g1 (by decide)
   obtain⟨b0,b1⟩:=g2 (by decide)
   obtain⟨j,rfl⟩:∃j:Nat,oa=(j:Int):=⟨oa.toNat,by omega⟩
   obtain⟨q,rfl⟩:∃q:Nat,ob=(q:Int):=⟨ob.toNat,by omega⟩
   obtain⟨xb,xo,hB,hl,x0,x1, -⟩:=U j (by omega)
   obtain⟨yb,yo,hB2,hl2,y0,y1, -⟩:=U q (by omega)
   rw [hB] at hB2 ⊢
   cases hB2
   exact vl_6 n j q i D xb xo (lo,hi) (V j) (V q) _ (by omega) (by omega) ca w hl x0 x1 y0 y1 _ _ (cb (by simp))
 · obtain⟨a0,a1⟩:=g1 (by decide)
   obtain⟨j,rfl⟩:∃j:Nat,oa=(j:Int):=⟨oa.toNat,by omega⟩
   obtain⟨xb,xo,rfl,hl,x0,x1, -⟩:=U j (by omega)
   exact vl_7 ob n j i D xb xo (lo,hi) (V j) _ (by omega) ca w hl x0 x1 _ _ (cb (by simp))
 · obtain⟨a0,a1⟩:=g1 (by decide)
   obtain⟨j,rfl⟩:∃j:Nat,oa=(j:Int):=⟨oa.toNat,by omega⟩
   obtain⟨xb,xo,rfl,hl,x0,x1, -⟩:=U j (by omega)
   exact vl_8 ob n j i D xb xo (lo,hi) (V j) _ (by omega) ca w hl x0 x1 _ _ (cb (by simp))
 · obtain⟨a0,a1⟩:=g1 (by decide)
   obtain⟨j,rfl⟩:∃j:Nat,oa=(j:Int):=⟨oa.toNat,by omega⟩
   obtain⟨xb,xo,rfl,hl,x0,x1, -⟩:=U j (by omega)
   exact vl_9 ob n j i D xb xo (lo,hi) (V j) _ (by omega) ca w hl x0 x1 _ _ (cb (by simp))
 · obtain⟨a0,a1⟩:=g1 (by decide)
   obtain⟨j,rfl⟩:∃j:Nat,oa=(j:Int):=⟨oa.toNat,by omega⟩
   obtain⟨xb,xo,rfl,hl,x0,x1, -⟩:=U j (by omega)
   exact vl_10 ob n j i D xb xo (lo,hi) (V j) _ (by omega) ca w hl x0 x1 _ (fun w=>cExp wa w)
 · obtain⟨a0,a1⟩:=g1 (by decide)
   obtain⟨j,rfl⟩:∃j:Nat,oa=(j:Int):=⟨oa.toNat,by omega⟩
   obtain⟨xb,xo,rfl,hl,x0,x1, -⟩:=U j (by omega)
   have e:outQ ⟨11,(j:Int),ob,n,lo,hi⟩ (argA ⟨11,(j:Int),ob,n,lo,hi⟩ V) (argB ⟨11,(j:Int),ob,n,lo,hi⟩ V)=leB (V j).1 0:=rfl
   rw [e,←not_le0 (x:=(V j).1) na]
   exact vl_11 ob n j i D xb xo (lo,hi) (V j) _ (by omega) ca w hl x0 x1 _ (fun w=>cLog wa w) _ (o_gt wa.1 (by omega))
 · obtain⟨a0,a1⟩:=g1 (by decide)
   obtain⟨j,rfl⟩:∃j:Nat,oa=(j:Int):=⟨oa.toNat,by omega⟩
   obtain⟨xb,xo,rfl,hl,x0,x1, -⟩:=U j (by omega)
   exact vl_12 ob n j i D xb xo (lo,hi) (V j) _ (by omega) ca w hl x0 x1 _ (fun w=>cSin wa w)
 · obtain⟨a0,a1⟩:=g1 (by decide)
   obtain⟨j,rfl⟩:∃j:Nat,oa=(j:Int):=⟨oa.toNat,by omega⟩
   obtain⟨xb,xo,rfl,hl,x0,x1, -⟩:=U j (by omega)
   exact vl_13 ob n j i D xb xo (lo,hi) (V j) _ (by omega) ca w hl x0 x1 _ (fun w=>cCos wa w)
 · obtain⟨a0,a1⟩:=g1 (by decide)
   obtain⟨j,rfl⟩:∃j:Nat,oa=(j:Int):=⟨oa.toNat,by omega⟩
   obtain⟨xb,xo,rfl,hl,x0,x1, -⟩:=U j (by omega)
   exact vl_14 ob n j i D xb xo (lo,hi) (V j) _ (by omega) ca w hl x0 x1 _ (fun w=>cAtan wa w)
set_option maxHeartbeats 1000000 in
theorem vars_t (v:Int) (A:Option Addr) (n C:Nat) (D:Option Addr) (m E:Nat) (AX:Option Addr) (mx CX:Nat) (X:Nat→Nat×Nat) (hm:mx≤9223372036854775807) (w:World) (VX:Ivs w AX mx X) :
   Calls Tryz.prog 19 #[tapeV v A n C D m E,.slice AX mx CX] w fun e w'=>e=.returned (.bool (allB mx X&&((mx:Int)==v)))∧Below w.heap.size w w':=by
 have cr:=fun (i:Nat) (h1:(X i).1<18446744073709551616) (h2:(X i).2<18446744073709551616) w=>none_w (X i).1 (X i).2 h1 h2 w
 unfold tapeV at *
 have T:=hasT_new w v A n C D m E
 have HB:Below w.heap.size w (w.alloc (.cells #[.int .i64 v,.slice A n C,.slice D m E] 25)):=by go_grown
 go_enter Tryz.func19,Tryz.ntmps19
 go_upto_region 1 with fail
 generalize (w.alloc (.cells #[.int .i64 v,.slice A n C,.slice D m E] 25))=V1 at *
 go_wp2_with fail
 go_loopg [9] mx (fun G s9 wx=>Below V1.heap.size V1 wx∧∃i:Nat,i+G=mx∧s9=.int .i64 (i:Int)∧Hid (∀j,j<i→hsB (X j).1 (X j).2=true))
 case atStart=>exact⟨Below.refl _ _,0,by omega,rfl,fun j hj=>absurd hj (by omega)⟩
 case round =>
   obtain⟨HV,i,hi,rfl,hall⟩:=hrel
   replace T:=T.keep HV
   replace HB:=later HB HV
   by_cases ci:i=mx
   · subst ci
     have e:allB i X=true:=by unfold allB;exact all_upto.2 hall
     replace e:Hid (allB i X=true):=e
     obtain⟨t0,t1,t2,tl⟩:=id T
     go_wp2_with fail
     go_ret
     refine⟨?_,HB⟩
     show _=Ending.returned (Value.bool (allB i X&&((i:Int)==v)))
     rw [e]
     rfl
   · have hlt:(i:Int)<(mx:Int):=by omega
     obtain⟨b,o,hA,hb,x0,x1,l0,l1⟩:=(VX.keep HB) i (by omega)
     have c:=cr i l0 l1
     have hcase:hsB (X i).1 (X i).2=true∨hsB (X i).1 (X i).2=false:=by cases hsB (X i).1 (X i).2 <;> simp
     rcases hcase with hq | hq
     · rw [hq] at c
       subst hA
       go_wp2_with (go_at_call 39;refine (c _).mono ?_;rintro _ w1 ⟨rfl,hb1⟩;replace HV:=later (below_alloc HV _) hb1)
       go_roundg (mx-i-1)
       case measure=>omega
       case rel=>exact⟨HV,i+1,by omega,by go_num,fun j hj=>by rcases Nat.lt_or_ge j i with h | h;exact hall j h;rw [show j=i by omega];exact hq⟩
     · rw [hq] at c
       have e:allB mx X=false:=by
         unfold allB
         exact all_not (i:=i) (by omega) hq
       replace e:Hid (allB mx X=false):=e
       subst hA
       go_wp2_with (go_at_call 39;refine (c _).mono ?_;rintro _ w1 ⟨rfl,hb1⟩;replace HB:=later (below_alloc HB _) hb1)
       all_goals
         go_ret
         refine⟨?_,HB⟩
         show _=Ending.returned (Value.bool (allB mx X&&((mx:Int)==v)))
         rw [e]
         rfl
theorem Tryz.infoRow:(Tryz.prog.info? 26).map (fun i=>(i.zero,i.size,i.bytes))=some (some (.slice none 0 0),1,24):=by kernel_rfl
def OwnR (B:Nat) (w:World) (v:Value) (vs:List Value):Prop:=w.ownsRow B 26 1 v vs.length vs
theorem OwnR.keep {B:Nat} {w w2:World} {v:Value} {vs:List Value} (h:OwnR B w v vs) (hb:Below w.heap.size w w2):OwnR B w2 v vs:=by
 refine⟨h.1, ?_⟩
 rcases h.2 with hn | ⟨g,cap,cur,hv,hb2,hg,rest⟩
 · exact .inl hn
 · have hlt:g<w.heap.size:=(Array.getElem?_eq_some_iff.1 hg).1
   refine .inr ⟨g,cap,cur,hv,hb2, ?_,rest⟩
   rw [←hg]
   exact hb.block g hlt
theorem own_apart {B:Nat} {w:World} {u v:Value} {xs:List (Nat×Nat)} {vs:List Value} (h:OwnI B w u xs) (k:OwnR B w v vs):u.ownBlock=none∨u.ownBlock≠v.ownBlock:=by
 rcases h.2 with ⟨rfl, -⟩ | ⟨g,cap,cur,rfl, -,hg, -⟩
 · exact .inl rfl
 · right
   rcases k.2 with ⟨rfl, -⟩ | ⟨g',cap',cur',rfl, -,hg', -⟩
   · intro e
     cases e
   · intro e
     have e':g=g':=Option.some.inj e
     subst e'
     rw [hg] at hg'
     simp at hg'
theorem wpList_pushR {B:Nat} {w0 wr:World} {ops:Array Oper} {rest:List Oper} {o:Oper} {a:Act} {Q:Exit→Act→World→Prop} (hgd:o.guard=none) (s x:Operand)
   (ho:o.op=.call { callee:=.builtin .append,args:=#[s,x],argTypes:=#[31,31] }) (v:Value) (vs:List Value) (A:Option Addr) (n c:Nat) (hs:a.eval s=v) (hx:a.eval x=.slice (some ⟨wr.heap.size,0,none⟩) 1 1)
   (hown:OwnR B wr v vs) (hl:vs.length≤2000000) (hB:B≤wr.heap.size) (hbel:Below B w0 wr)
   (h:∀v' w',OwnR B w' v' (vs++[.slice A n c])→Below B w0 w'→B≤w'.heap.size→(∀u xs,OwnI B wr u xs→OwnI B w' u xs)→wpList Tryz.prog ops Q rest (a.put o.dst v') w'):wpList Tryz.prog ops Q (o :: rest) a (wr.alloc (.cells #[.slice A n c] 26)):=by
 obtain⟨i0,hi,hz0,hz1,hz2⟩:=info_parts Tryz.infoRow
 have hal:Below wr.heap.size wr (wr.alloc (.cells #[.slice A n c] 26)):=(Below.refl _ _).alloc (Nat.le_refl _) _
 refine wpList_append_own _ hgd s x 31 ho B 26 i0 (.slice none 0 0) 1 24 Tryz.underlying31 hi hz0 hz1 hz2 rfl (by decide) v vs.length vs hs (hown.keep hal) ⟨wr.heap.size,0,none⟩ 1 1 [.slice A n c] hx rfl ?_ ?_ (by unfold maxLen;omega) (by omega) (by simp;omega) ?_
 · intro j u hj
   match j,hj with
   | 0,hj=>simp at hj;subst hj;simp [Addr.add]
 · intro u hu
   simp at hu
   rw [hu]
   rfl
 · intro v' w' h1 h2 _
   refine h v' w' ?_ ((hbel.alloc hB _).grown h2 (by simp;omega) ?_) (by have:=h2.size;simp at this;omega) fun u xs hu=>?_
   · unfold OwnR
     rw [List.length_append]
     exact h1
   · intro k hk
     exact (World.ownsRow.lt hown k hk).1
   · exact World.ownsRow.kept (hu.keep hal) h2 (own_apart (hu.keep hal) (hown.keep hal))
end Go.Proofs.YtnchhfhoaepjnaaGreat
