/- lohner: what is no number, has no end, holds nothing; slices.ContainsFunc of floats and of intervals; what the reference calls bounded and finite. -/
import Derived.Test.YtdokikhhlmelkaaGreatZs36
import Derived.Test.YtdokikhhlmelkaaGreatZs38
namespace Go.Proofs.YtdokikhhlmelkaaGreat
open Go.ChangeShapes Go.WideShapes Go.ChangeAt Go.RowKit
def bdB (p:Nat×Nat):Bool:=rightB p.1 p.2&&(!infB p.1&&!infB p.2)
theorem nofin_eq (x:Nat):(!finB x)=(nanB x || infB x):=by
 unfold finB nanB infB
 generalize x%9223372036854775808=y
 rcases Nat.lt_trichotomy y 9218868437227405312 with h | h | h
 · rw [decide_eq_true h,decide_eq_false (by omega),decide_eq_false (by omega)];rfl
 · rw [decide_eq_false (by omega),decide_eq_false (by omega),decide_eq_true h];rfl
 · rw [decide_eq_false (by omega),decide_eq_true h];rfl
theorem nonum_core (x:Nat) (b1 b2:Bool) (c1:∀w,Calls Tryz.prog 45 #[.float .f64 x] w fun e w'=>e=.returned (.bool b1)∧w=w') (c2:∀w,Calls Tryz.prog 46 #[.float .f64 x,.int .i64 0] w fun e w'=>e=.returned (.bool b2)∧w=w') (w:World):Calls Tryz.prog 21 #[.float .f64 x] w fun e w'=>e=.returned (.bool (Bool.or b1 b2))∧Below w.heap.size w w':=by
 cases b1
 all_goals
   go_enter Tryz.func21,Tryz.ntmps21
   go_wp2_with (first
     | (go_at_call 45;(with_reducible refine (c1 _).mono ?_);rintro _ _ ⟨rfl,rfl⟩)
     | (go_at_call 46;(with_reducible refine (c2 _).mono ?_);rintro _ _ ⟨rfl,rfl⟩))
   go_ret
   exact⟨rfl,by go_grown⟩
theorem nonum_w {x:Nat} (hx:x<18446744073709551616) (w:World):Calls Tryz.prog 21 #[.float .f64 x] w fun e w'=>e=.returned (.bool (!finB x))∧Below w.heap.size w w':=by
 rw [nofin_eq]
 exact nonum_core x _ _ (fun w=>isNaN_w x hx w) (fun w=>isInf0_w x hx w) w
set_option maxHeartbeats 1000000 in
theorem lend_core (p:Nat×Nat) (r b1 b2:Bool) (cr:∀w,Calls Tryz.prog 48 #[.agg #[.float .f64 p.1,.float .f64 p.2]] w fun e w'=>e=.returned (.bool r)∧Below w.heap.size w w') (c1:∀w,Calls Tryz.prog 46 #[.float .f64 p.1,.int .i64 0] w fun e w'=>e=.returned (.bool b1)∧w=w') (c2:∀w,Calls Tryz.prog 46 #[.float .f64 p.2,.int .i64 0] w fun e w'=>e=.returned (.bool b2)∧w=w') (w:World):Calls Tryz.prog 23 #[.agg #[.float .f64 p.1,.float .f64 p.2]] w fun e w'=>e=.returned (.bool (!(r&&(!b1&&!b2))))∧Below w.heap.size w w':=by
 have X:Has2 (w.alloc (.cells #[.float .f64 p.1,.float .f64 p.2] 38)) w.heap.size (.float .f64 p.1) (.float .f64 p.2):=has2_new _ _ _ _
 have HB:Below w.heap.size w (w.alloc (.cells #[.float .f64 p.1,.float .f64 p.2] 38)):=by go_grown
 cases r
 case' true=>cases b1
 case' true.false=>cases b2
 all_goals
   go_enter Tryz.func23,Tryz.ntmps23
   go_upto_region 1 with fail
   generalize (w.alloc (.cells #[.float .f64 p.1,.float .f64 p.2] 38))=V1 at *
   obtain⟨x0,x1,x2,x3,x4⟩:=id X
   go_wp2_with (first
     | (go_at_call 48;(with_reducible refine (cr _).mono ?_);rintro _ W1 ⟨rfl,hb1⟩;replace HB:=later HB hb1;replace X:=X.keep hb1;clear hb1 x0 x1 x2 x3 x4;obtain⟨x0,x1,x2,x3,x4⟩:=id X)
     | (go_at_call 46;(with_reducible refine (c1 _).mono ?_);rintro _ _ ⟨rfl,rfl⟩)
     | (go_at_call 46;(with_reducible refine (c2 _).mono ?_);rintro _ _ ⟨rfl,rfl⟩))
   go_ret
   exact⟨rfl,HB⟩
theorem lend_w {p:Nat×Nat} (h1:p.1<18446744073709551616) (h2:p.2<18446744073709551616) (w:World):Calls Tryz.prog 23 #[.agg #[.float .f64 p.1,.float .f64 p.2]] w fun e w'=>e=.returned (.bool (!bdB p))∧Below w.heap.size w w' :=
 lend_core p _ _ _ (fun w=>right_w p.1 p.2 h1 h2 w) (fun w=>isInf0_w p.1 h1 w) (fun w=>isInf0_w p.2 h2 w) w
theorem lholds_eq {lo hi:Nat}:(rightB lo hi&&!(eqB lo (infI 1)&&eqB hi (infI (-1))))=hsB lo hi:=by
 unfold rightB
 cases h:(eqB lo (infI 1)&&eqB hi (infI (-1)))
 · simp
 · simp only [Bool.true_or,Bool.not_true,Bool.and_false]
   simp only [Bool.and_eq_true] at h
   have k:key lo=9218868437227405312:=by
     have q:=h.1
     unfold eqB at q
     simp only [Bool.and_eq_true,decide_eq_true_eq] at q
     rw [q.2,key_up]
   symm
   unfold hsB
   simp [k]
set_option maxHeartbeats 400000 in
theorem lnone_core (lo hi:Nat) (r b1 b2:Bool) (cr:∀w,Calls Tryz.prog 48 #[.agg #[.float .f64 lo,.float .f64 hi]] w fun e w'=>e=.returned (.bool r)∧Below w.heap.size w w')
   (o1:(FloatKind.f64.format.order lo (infI 1)==some .eq)=b1) (o2:(FloatKind.f64.format.order hi (infI (-1))==some .eq)=b2) (w:World) :
   Calls Tryz.prog 31 #[.agg #[.float .f64 lo,.float .f64 hi]] w fun e w'=>e=.returned (.bool (!(r&&!(b1&&b2))))∧Below w.heap.size w w':=by
 cases r
 case' true=>cases b1
 case' true.true=>cases b2
 all_goals
   go_enter Tryz.func31,Tryz.ntmps31
   go_wp2_with fail
   have e0:(w.alloc (Obj.cells #[.float .f64 lo,.float .f64 hi] 38)).cell? ⟨w.heap.size,0,none⟩=some (.float .f64 lo):=by go_simp
   have e1:(w.alloc (Obj.cells #[.float .f64 lo,.float .f64 hi] 38)).cell? ⟨w.heap.size,1,none⟩=some (.float .f64 hi):=by go_simp
   have es:w.heap.size<(w.alloc (Obj.cells #[.float .f64 lo,.float .f64 hi] 38)).heap.size:=by go_size
   have eb:Below w.heap.size w (w.alloc (Obj.cells #[.float .f64 lo,.float .f64 hi] 38)):=by go_grown
   generalize w.alloc (Obj.cells #[.float .f64 lo,.float .f64 hi] 38)=wc at *
   have k0:=fun n:Behind wc=>n.cell e0 es
   have k1:=fun n:Behind wc=>n.cell e1 es
   refine region_behind (by kernel_rfl) (by kernel_rfl) ?_
   repeat (go_big_quiet_step (first | (go_at_call 48;with_reducible refine Behind.call (cr _)) | (go_at_call 55;with_reducible refine Behind.call (empty_w _))))
   refine wpQuiet_nil ?_
   rintro _ ⟨n,rfl⟩
   obtain⟨W,hb⟩:=n
   go_wp2_with fail
   go_ret
   exact⟨rfl,later eb hb⟩
theorem lnone_w {p:Nat×Nat} (h1:p.1<18446744073709551616) (h2:p.2<18446744073709551616) (w:World):Calls Tryz.prog 31 #[.agg #[.float .f64 p.1,.float .f64 p.2]] w fun e w'=>e=.returned (.bool (!hsB p.1 p.2))∧Below w.heap.size w w':=by
 have e:(!hsB p.1 p.2)=(!(rightB p.1 p.2&&!(eqB p.1 (infI 1)&&eqB p.2 (infI (-1))))):=by rw [lholds_eq]
 rw [e]
 exact lnone_core p.1 p.2 _ _ _ (fun w=>right_w p.1 p.2 h1 h2 w) (o_eq h1 (infI_lt 1)) (o_eq h2 (infI_lt (-1))) w
def someU (n:Nat) (p:Nat→Bool):Bool:=!((List.range n).all fun i=>!p i)
theorem someU_false {n:Nat} {p:Nat→Bool}:someU n p=false↔∀i,i<n→p i=false:=by
 unfold someU
 rw [Bool.not_eq_false',all_upto]
 exact⟨fun h i hi=>by have:=h i hi;simpa using this,fun h i hi=>by rw [h i hi];rfl⟩
theorem someU_true {n i:Nat} {p:Nat→Bool} (hi:i<n) (h:p i=true):someU n p=true:=by
 unfold someU
 rw [all_not (i:=i) hi (by rw [h];rfl)]
 rfl
set_option maxHeartbeats 1000000 in
theorem snum_i (A:Option Addr) (n C:Nat) (X:Nat→Nat) (hn:n≤9223372036854775807) (w:World) (V:Fls w A n X) :
   Calls Tryz.prog 44 #[.slice A n C,.func (.func 21) #[] #[]] w fun e w'=>(∃k:Int,e=.returned (.int .i64 k)∧-1≤k∧decide (k≥0)=someU n fun i=>!finB (X i))∧Below w.heap.size w w':=by
 go_enter Tryz.func44,Tryz.ntmps44
 go_wp2_with fail
 go_loopg [8] n (fun G s8 wx=>Below w.heap.size w wx∧∃i:Nat,i+G=n∧s8=.int .i64 (i:Int)∧Hid (∀i',i'<i→(!finB (X i'))=false))
 case atStart=>exact⟨Below.refl _ _,0,by omega,rfl,fun j hj=>absurd hj (by omega)⟩
 case round =>
   obtain⟨HB,i,hi,rfl,hall⟩:=hrel
   by_cases ci:i=n
   · subst ci
     go_wp2_with fail
     go_ret
     exact⟨⟨-1,rfl,by omega,(someU_false.2 hall).symm⟩,HB⟩
   · have hlt:(i:Int)<(n:Int):=by omega
     obtain⟨b,o,hA,hb,x0,l0⟩:=(V.keep HB) i (by omega)
     have c:=fun w=>nonum_w (x:=X i) l0 w
     have hcase:(!finB (X i))=true∨(!finB (X i))=false:=by cases (!finB (X i)) <;> simp
     rcases hcase with hq | hq
     · rw [hq] at c
       have e:(someU n fun i=>!finB (X i))=true:=someU_true (i:=i) (by omega) hq
       replace hq:Hid ((!finB (X i))=true):=hq
       subst hA
       go_wp2_with (go_at_call 21;refine (c _).mono ?_;rintro _ w1 ⟨rfl,hb1⟩;replace HB:=later HB hb1)
       go_ret
       exact⟨⟨(i:Int),rfl,by omega,by rw [e];exact decide_eq_true (by omega)⟩,HB⟩
     · rw [hq] at c
       replace hq:Hid ((!finB (X i))=false):=hq
       subst hA
       go_wp2_with (go_at_call 21;refine (c _).mono ?_;rintro _ w1 ⟨rfl,hb1⟩;replace HB:=later HB hb1)
       go_roundg (n-i-1)
       case measure=>omega
       case rel=>exact⟨HB,i+1,by omega,by go_num,fun j hj=>by rcases Nat.lt_or_ge j i with h | h;exact hall j h;rw [show j=i by omega];exact hq⟩
theorem snum_w (A:Option Addr) (n C:Nat) (X:Nat→Nat) (hn:n≤9223372036854775807) (w:World) (V:Fls w A n X) :
   Calls Tryz.prog 20 #[.slice A n C,.func (.func 21) #[] #[]] w fun e w'=>e=.returned (.bool (someU n fun i=>!finB (X i)))∧Below w.heap.size w w':=by
 have c:=snum_i A n C X hn w V
 go_enter Tryz.func20,Tryz.ntmps20
 go_wp2_with (go_at_call 44;refine c.mono ?_;rintro _ w1 ⟨⟨k,rfl,k1,k2⟩,hb1⟩)
 go_ret
 exact⟨rfl,hb1⟩
set_option maxHeartbeats 1000000 in
theorem send_i (A:Option Addr) (n C:Nat) (X:Nat→Nat×Nat) (hn:n≤9223372036854775807) (w:World) (V:Ivs w A n X) :
   Calls Tryz.prog 47 #[.slice A n C,.func (.func 23) #[] #[]] w fun e w'=>(∃k:Int,e=.returned (.int .i64 k)∧-1≤k∧decide (k≥0)=someU n fun i=>!bdB (X i))∧Below w.heap.size w w':=by
 go_enter Tryz.func47,Tryz.ntmps47
 go_wp2_with fail
 go_loopg [8] n (fun G s8 wx=>Below w.heap.size w wx∧∃i:Nat,i+G=n∧s8=.int .i64 (i:Int)∧Hid (∀i',i'<i→(!bdB (X i'))=false))
 case atStart=>exact⟨Below.refl _ _,0,by omega,rfl,fun j hj=>absurd hj (by omega)⟩
 case round =>
   obtain⟨HB,i,hi,rfl,hall⟩:=hrel
   by_cases ci:i=n
   · subst ci
     go_wp2_with fail
     go_ret
     exact⟨⟨-1,rfl,by omega,(someU_false.2 hall).symm⟩,HB⟩
   · have hlt:(i:Int)<(n:Int):=by omega
     obtain⟨b,o,hA,hb,x0,x1,l0,l1⟩:=(V.keep HB) i (by omega)
     have c:=fun w=>lend_w (p:=X i) l0 l1 w
     have hcase:(!bdB (X i))=true∨(!bdB (X i))=false:=by cases (!bdB (X i)) <;> simp
     rcases hcase with hq | hq
     · rw [hq] at c
       have e:(someU n fun i=>!bdB (X i))=true:=someU_true (i:=i) (by omega) hq
       replace hq:Hid ((!bdB (X i))=true):=hq
       subst hA
       go_wp2_with (go_at_call 23;refine (c _).mono ?_;rintro _ w1 ⟨rfl,hb1⟩;replace HB:=later HB hb1)
       go_ret
       exact⟨⟨(i:Int),rfl,by omega,by rw [e];exact decide_eq_true (by omega)⟩,HB⟩
     · rw [hq] at c
       replace hq:Hid ((!bdB (X i))=false):=hq
       subst hA
       go_wp2_with (go_at_call 23;refine (c _).mono ?_;rintro _ w1 ⟨rfl,hb1⟩;replace HB:=later HB hb1)
       go_roundg (n-i-1)
       case measure=>omega
       case rel=>exact⟨HB,i+1,by omega,by go_num,fun j hj=>by rcases Nat.lt_or_ge j i with h | h;exact hall j h;rw [show j=i by omega];exact hq⟩
theorem send_w (A:Option Addr) (n C:Nat) (X:Nat→Nat×Nat) (hn:n≤9223372036854775807) (w:World) (V:Ivs w A n X) :
   Calls Tryz.prog 22 #[.slice A n C,.func (.func 23) #[] #[]] w fun e w'=>e=.returned (.bool (someU n fun i=>!bdB (X i)))∧Below w.heap.size w w':=by
 have c:=send_i A n C X hn w V
 go_enter Tryz.func22,Tryz.ntmps22
 go_wp2_with (go_at_call 47;refine c.mono ?_;rintro _ w1 ⟨⟨k,rfl,k1,k2⟩,hb1⟩)
 go_ret
 exact⟨rfl,hb1⟩
set_option maxHeartbeats 1000000 in
theorem snone_i (A:Option Addr) (n C:Nat) (X:Nat→Nat×Nat) (hn:n≤9223372036854775807) (w:World) (V:Ivs w A n X) :
   Calls Tryz.prog 47 #[.slice A n C,.func (.func 31) #[] #[]] w fun e w'=>(∃k:Int,e=.returned (.int .i64 k)∧-1≤k∧decide (k≥0)=someU n fun i=>!hsB (X i).1 (X i).2)∧Below w.heap.size w w':=by
 go_enter Tryz.func47,Tryz.ntmps47
 go_wp2_with fail
 go_loopg [8] n (fun G s8 wx=>Below w.heap.size w wx∧∃i:Nat,i+G=n∧s8=.int .i64 (i:Int)∧Hid (∀i',i'<i→(!hsB (X i').1 (X i').2)=false))
 case atStart=>exact⟨Below.refl _ _,0,by omega,rfl,fun j hj=>absurd hj (by omega)⟩
 case round =>
   obtain⟨HB,i,hi,rfl,hall⟩:=hrel
   by_cases ci:i=n
   · subst ci
     go_wp2_with fail
     go_ret
     exact⟨⟨-1,rfl,by omega,(someU_false.2 hall).symm⟩,HB⟩
   · have hlt:(i:Int)<(n:Int):=by omega
     obtain⟨b,o,hA,hb,x0,x1,l0,l1⟩:=(V.keep HB) i (by omega)
     have c:=fun w=>lnone_w (p:=X i) l0 l1 w
     have hcase:(!hsB (X i).1 (X i).2)=true∨(!hsB (X i).1 (X i).2)=false:=by cases (!hsB (X i).1 (X i).2) <;> simp
     rcases hcase with hq | hq
     · rw [hq] at c
       have e:(someU n fun i=>!hsB (X i).1 (X i).2)=true:=someU_true (i:=i) (by omega) hq
       replace hq:Hid ((!hsB (X i).1 (X i).2)=true):=hq
       subst hA
       go_wp2_with (go_at_call 31;refine (c _).mono ?_;rintro _ w1 ⟨rfl,hb1⟩;replace HB:=later HB hb1)
       go_ret
       exact⟨⟨(i:Int),rfl,by omega,by rw [e];exact decide_eq_true (by omega)⟩,HB⟩
     · rw [hq] at c
       replace hq:Hid ((!hsB (X i).1 (X i).2)=false):=hq
       subst hA
       go_wp2_with (go_at_call 31;refine (c _).mono ?_;rintro _ w1 ⟨rfl,hb1⟩;replace HB:=later HB hb1)
       go_roundg (n-i-1)
       case measure=>omega
       case rel=>exact⟨HB,i+1,by omega,by go_num,fun j hj=>by rcases Nat.lt_or_ge j i with h | h;exact hall j h;rw [show j=i by omega];exact hq⟩
theorem snone_w (A:Option Addr) (n C:Nat) (X:Nat→Nat×Nat) (hn:n≤9223372036854775807) (w:World) (V:Ivs w A n X) :
   Calls Tryz.prog 22 #[.slice A n C,.func (.func 31) #[] #[]] w fun e w'=>e=.returned (.bool (someU n fun i=>!hsB (X i).1 (X i).2))∧Below w.heap.size w w':=by
 have c:=snone_i A n C X hn w V
 go_enter Tryz.func22,Tryz.ntmps22
 go_wp2_with (go_at_call 47;refine c.mono ?_;rintro _ w1 ⟨⟨k,rfl,k1,k2⟩,hb1⟩)
 go_ret
 exact⟨rfl,hb1⟩
theorem rbd_none (v:Nat×Nat) (c1:∀w,Calls Tryz.prog 11 #[.agg #[.float .f64 v.1,.float .f64 v.2]] w fun e w'=>e=.returned (.bool true)∧Below w.heap.size w w') (w:World):Calls Tryz.prog 15 #[.agg #[.float .f64 v.1,.float .f64 v.2]] w fun e w'=>e=.returned (.bool false)∧Below w.heap.size w w':=by
 have X:Has2 (w.alloc (.cells #[.float .f64 v.1,.float .f64 v.2] 38)) w.heap.size (.float .f64 v.1) (.float .f64 v.2):=has2_new _ _ _ _
 have HB:Below w.heap.size w (w.alloc (.cells #[.float .f64 v.1,.float .f64 v.2] 38)):=by go_grown
 go_enter Tryz.func15,Tryz.ntmps15
 go_upto_region 1 with fail
 generalize (w.alloc (.cells #[.float .f64 v.1,.float .f64 v.2] 38))=V1 at *
 have kX0:=fun n:Behind V1=>n.cell X.1 X.2.2.2.2;have kX1:=fun n:Behind V1=>n.cell X.2.1 X.2.2.2.2
 refine region_behind (by kernel_rfl) (by kernel_rfl) ?_
 repeat (go_big_quiet_step (first | (go_at_call 11;with_reducible refine Behind.call (c1 _))))
 refine wpQuiet_nil ?_
 rintro _ ⟨m',rfl⟩
 obtain⟨W,hb1⟩:=m'
 dsimp only
 replace HB:=later HB hb1
 go_wp2_with fail
 go_ret
 exact⟨rfl,HB⟩
set_option maxHeartbeats 1000000 in
theorem rbd_some (v:Nat×Nat) (b1 b2:Bool) (c1:∀w,Calls Tryz.prog 11 #[.agg #[.float .f64 v.1,.float .f64 v.2]] w fun e w'=>e=.returned (.bool false)∧Below w.heap.size w w') (o1:(FloatKind.f64.format.order v.1 (infI (-1)) != some .eq)=b1) (o2:(FloatKind.f64.format.order v.2 (infI 1) != some .eq)=b2) (w:World):Calls Tryz.prog 15 #[.agg #[.float .f64 v.1,.float .f64 v.2]] w fun e w'=>e=.returned (.bool (b1&&b2))∧Below w.heap.size w w':=by
 have X:Has2 (w.alloc (.cells #[.float .f64 v.1,.float .f64 v.2] 38)) w.heap.size (.float .f64 v.1) (.float .f64 v.2):=has2_new _ _ _ _
 have HB:Below w.heap.size w (w.alloc (.cells #[.float .f64 v.1,.float .f64 v.2] 38)):=by go_grown
 go_enter Tryz.func15,Tryz.ntmps15
 go_upto_region 1 with fail
 generalize (w.alloc (.cells #[.float .f64 v.1,.float .f64 v.2] 38))=V1 at *
 have kX0:=fun n:Behind V1=>n.cell X.1 X.2.2.2.2;have kX1:=fun n:Behind V1=>n.cell X.2.1 X.2.2.2.2
 cases b1 <;> cases b2
 all_goals
   refine region_behind (by kernel_rfl) (by kernel_rfl) ?_
   repeat (go_big_quiet_step (first | (go_at_call 11;with_reducible refine Behind.call (c1 _)) | (go_at_call 36;refine Behind.same (rinf_w _ _))))
   refine wpQuiet_nil ?_
   rintro _ ⟨m',rfl⟩
   obtain⟨W,hb1⟩:=m'
   dsimp only
   replace HB:=later HB hb1
   go_wp2_with fail
   go_ret
   exact⟨rfl,HB⟩
theorem binf_lo {x:Nat} (hx:x<18446744073709551616) (n:nanB x=false) (lt:key x<9218868437227405312):eqB x (infI (-1))=infB x:=by
 unfold eqB infB
 rw [n,nan_inf,key_down]
 simp only [Bool.not_false,Bool.true_and]
 refine decide_eq_decide.2 ?_
 unfold key at lt ⊢
 by_cases c:x<9223372036854775808
 · rw [if_pos c] at lt ⊢;omega
 · rw [if_neg c] at lt ⊢;omega
theorem binf_hi {x:Nat} (hx:x<18446744073709551616) (n:nanB x=false) (gt:-9218868437227405312<key x):eqB x (infI 1)=infB x:=by
 unfold eqB infB
 rw [n,nan_inf,key_up]
 simp only [Bool.not_false,Bool.true_and]
 refine decide_eq_decide.2 ?_
 unfold key at gt ⊢
 by_cases c:x<9223372036854775808
 · rw [if_pos c] at gt ⊢;omega
 · rw [if_neg c] at gt ⊢;omega
theorem bd_hs {p:Nat×Nat} (h:bdB p=true):hsB p.1 p.2=true:=by
 unfold bdB at h
 simp only [Bool.and_eq_true,Bool.not_eq_true'] at h
 obtain⟨hr,h1,h2⟩:=h
 rw [←lholds_eq,hr]
 cases q:(eqB p.1 (infI 1)&&eqB p.2 (infI (-1)))
 · rfl
 · exfalso
   simp only [Bool.and_eq_true] at q
   have q1:=q.1
   unfold eqB at q1
   simp only [Bool.and_eq_true,decide_eq_true_eq] at q1
   rw [key_up] at q1
   unfold infB at h1
   simp only [decide_eq_false_iff_not] at h1
   have k:=q1.2
   unfold key at k
   split at k <;> omega
theorem bd_is (p:Nat×Nat) (h:hsB p.1 p.2=false):bdB p=false:=by
 cases q:bdB p
 · rfl
 · rw [bd_hs q] at h;cases h
theorem rbd_w {v:Nat×Nat} (h1:v.1<18446744073709551616) (h2:v.2<18446744073709551616) (w:World):Calls Tryz.prog 15 #[.agg #[.float .f64 v.1,.float .f64 v.2]] w fun e w'=>e=.returned (.bool (bdB v))∧Below w.heap.size w w':=by
 have c1:=fun w=>none_w v.1 v.2 h1 h2 w
 cases hs:hsB v.1 v.2
 · rw [hs] at c1
   rw [bd_is v hs]
   exact rbd_none v c1 w
 · have S:=hs_iff.1 hs
   rw [hs] at c1
   have o1:=congrArg (fun q=>!q) (o_eq h1 (infI_lt (-1)))
   have o2:=congrArg (fun q=>!q) (o_eq h2 (infI_lt 1))
   simp only [binf_lo h1 S.nl S.lt,binf_hi h2 S.nh S.gt] at o1 o2
   have e:bdB v=(!infB v.1&&!infB v.2):=by
     unfold bdB rightB
     rw [hs,Bool.or_true,Bool.true_and]
   rw [e]
   exact rbd_some v _ _ c1 o1 o2 w
theorem fin_make {x:Nat} (hx:x<18446744073709551616):bdB (makeP x x)=finB x:=by
 cases hf:finB x
 · have q:=nofin_eq x
   rw [hf] at q
   have z:pz x=x:=by
     unfold pz
     unfold finB at hf
     simp only [decide_eq_false_iff_not] at hf
     split
     · omega
     · rfl
   unfold makeP
   rw [z]
   have hn:hsB x x=false:=by
     unfold hsB
     cases hnan:nanB x
     · rw [hnan] at q
       simp only [Bool.not_false,Bool.false_or] at q
       unfold infB at q
       have q:=of_decide_eq_true q.symm
       have k:key x=9218868437227405312∨key x=-9218868437227405312:=by unfold key;split <;> omega
       rcases k with k | k <;> simp [k]
     · rfl
   rw [hn]
   exact bd_is _ empty_some
 · have S:hsB (pz x) (pz x)=true:=by
     have k:-9218868437227405312<key (pz x)∧key (pz x)<9218868437227405312:=by
       unfold finB at hf
       have hf:=of_decide_eq_true hf
       unfold pz
       split
       · exact⟨by decide,by decide⟩
       · unfold key;split <;> omega
     have hn:nanB (pz x)=false:=by
       unfold finB at hf
       have hf:=of_decide_eq_true hf
       unfold pz nanB
       split
       · decide
       · exact decide_eq_false (by omega)
     have hz:mz (pz x)=false:=by
       unfold mz
       exact decide_eq_false (pz_ne x)
     unfold hsB
     rw [hn,hz,decide_eq_true (Int.le_refl _),decide_eq_true k.2,decide_eq_true k.1]
     rfl
   unfold makeP
   rw [S]
   simp only [if_true]
   have i:infB (pz x)=false:=by
     unfold finB at hf
     have hf:=of_decide_eq_true hf
     unfold pz infB
     split
     · decide
     · exact decide_eq_false (by omega)
   unfold bdB rightB
   rw [S,i,Bool.or_true]
   rfl
theorem rfin9_w {x:Nat} (hx:x<18446744073709551616) (w:World):Calls Tryz.prog 24 #[.float .f64 x] w fun e w'=>e=.returned (.bool (finB x))∧Below w.heap.size w w':=by
 have c1:=fun w=>rmake_w x x hx hx w
 have c2:=fun w=>rbd_w (v:=makeP x x) (makeP_lt hx hx).1 (makeP_lt hx hx).2 w
 rw [fin_make hx] at c2
 generalize makeP x x=p at *
 go_enter Tryz.func24,Tryz.ntmps24
 go_wp2_with (first
   | (go_at_call 14;(with_reducible refine (c1 _).mono ?_);rintro _ w1 ⟨rfl,hb1⟩)
   | (go_at_call 15;(with_reducible refine (c2 _).mono ?_);rintro _ w2 ⟨rfl,hb2⟩))
 go_ret
 exact⟨rfl,later hb1 hb2⟩
set_option maxHeartbeats 1000000 in
theorem lbounded_w (A:Option Addr) (n C:Nat) (X:Nat→Nat×Nat) (hn:n≤9223372036854775807) (w:World) (V:Ivs w A n X) :
   Calls Tryz.prog 7 #[.slice A n C] w fun e w'=>e=.returned (.bool ((List.range n).all fun i=>bdB (X i)))∧Below w.heap.size w w':=by
 go_enter Tryz.func7,Tryz.ntmps7
 go_wp2_with fail
 go_loopg [7] n (fun G s7 wx=>Below w.heap.size w wx∧∃i:Nat,i+G=n∧s7=.int .i64 (i:Int)∧Hid (∀j,j<i→bdB (X j)=true))
 case atStart=>exact⟨Below.refl _ _,0,by omega,rfl,fun j hj=>absurd hj (by omega)⟩
 case round =>
   obtain⟨HB,i,hi,rfl,hall⟩:=hrel
   by_cases ci:i=n
   · subst ci
     have e:((List.range i).all fun i=>bdB (X i))=true:=all_upto.2 hall
     go_wp2_with fail
     go_ret
     exact⟨(congrArg (fun q=>Ending.returned (Value.bool q)) e).symm,HB⟩
   · have hlt:(i:Int)<(n:Int):=by omega
     obtain⟨b,o,hA,hb,x0,x1,l0,l1⟩:=(V.keep HB) i (by omega)
     have c:=fun w=>rbd_w (v:=X i) l0 l1 w
     have hcase:bdB (X i)=true∨bdB (X i)=false:=by cases bdB (X i) <;> simp
     rcases hcase with hq | hq
     · rw [hq] at c
       replace hq:Hid (bdB (X i)=true):=hq
       subst hA
       go_wp2_with (go_at_call 15;refine (c _).mono ?_;rintro _ w1 ⟨rfl,hb1⟩;have HB2:=later (below_alloc HB _) hb1)
       go_roundg (n-i-1)
       case measure=>omega
       case rel=>exact⟨HB2,i+1,by omega,by go_num,fun j hj=>by rcases Nat.lt_or_ge j i with h | h;exact hall j h;rw [show j=i by omega];exact hq⟩
     · rw [hq] at c
       have e:((List.range n).all fun i=>bdB (X i))=false:=all_not (i:=i) (by omega) hq
       subst hA
       go_wp2_with (go_at_call 15;refine (c _).mono ?_;rintro _ w1 ⟨rfl,hb1⟩;have HB2:=later (below_alloc HB _) hb1)
       go_ret
       exact⟨(congrArg (fun q=>Ending.returned (Value.bool q)) e).symm,HB2⟩
end Go.Proofs.YtdokikhhlmelkaaGreat
