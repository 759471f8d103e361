/- The walks of Add, Mul, Div and Sqrt, way by way: what is no number, what is infinite, nought, and the finite ones. The walks of Div, Sqrt and Sub, way by way. What Add, Mul, Div and Sqrt answer, of all words: by plain functions on numbers. What Add, Sub, Mul, Div and Sqrt answer, of all words: the whole contracts. What Mul, Div and Sqrt answer, of all words: the whole contracts. What Sqrt answers, of all words. Plain facts on the order of words, and what contracts tell of three answers. Plain facts for the law of the sides: answers of mirrored and of exchanged arguments. -/
import Derived.Test.YtgfppdboogldlaaGreatZs04
import Derived.Test.YtgfppdboogldlaaGreatZs02
namespace Go.Proofs.YtgfppdboogldlaaGreat
open Go.ChangeShapes Go.WideShapes Go.ChangeAt Go.RowKit
def nanOf (a b:Nat) (w:World):Nat:=Question.cut (.nanBits .f64 a b) (w.tape w.drawn (.nanBits .f64 a b))
theorem nanOf_nan (a b:Nat) (w:World):nanB (nanOf a b w)=true∧nanOf a b w<18446744073709551616:=by
 unfold nanOf Question.cut nanB
 generalize w.tape w.drawn (.nanBits .f64 a b)=t
 have hm:t/2%(2^52-1)<4503599627370495:=Nat.mod_lt _ (by decide)
 simp only [decide_eq_true_eq]
 generalize t/2%(2^52-1)=u at *
 rcases Nat.mod_two_eq_zero_or_one t with h | h
 · rw [h];omega
 · rw [h];omega
theorem run_float_none (op:BinOp) (t:TypeId) (a b:Nat) (hop:op=.add∨op=.mul∨op=.quo) (h:floatBits op .f64 a b=none) (w:World) :
   (binOp op t (.float .f64 a) (.float .f64 b)).run Tryz.prog w=.ok (.float .f64 (nanOf a b w)) w.drew:=by
 rcases hop with rfl | rfl | rfl
 all_goals
   unfold floatBits at h
   simp only at h
   simp [binOp,Op.floatArith,h,nanOf,Question.forced]
def Ans (o:Option Nat) (x:Ending):Prop:=∃r,x=.returned (.float .f64 r)∧r<18446744073709551616∧match o with | some v=>r=v | none=>nanB r=true
theorem ans_nan:Ans none (.returned (.float .f64 9221120237041090561)):=⟨_,rfl,by omega,by decide⟩
set_option maxHeartbeats 400000 in
theorem add_out (a b:Nat) (dir:Int) (ga gb fa fb:Bool) (ma mb:Nat) (ea eb:Int) (o:Option Nat) (hf:(fa&&fb)=false) (hlt:∀r,o=some r→r<18446744073709551616)
   (ha:∀w,Calls Tryz.prog 165 #[.float .f64 a] w fun x w'=>x=.returned (.tuple #[.agg #[.bool ga,.int .u64 ma,.int .i64 ea],.bool fa])∧Below w.heap.size w w')
   (hb:∀w,Calls Tryz.prog 165 #[.float .f64 b] w fun x w'=>x=.returned (.tuple #[.agg #[.bool gb,.int .u64 mb,.int .i64 eb],.bool fb])∧Below w.heap.size w w')
   (ho:floatBits .add .f64 a b=o) (w:World) :
   Calls Tryz.prog 152 #[.float .f64 a,.float .f64 b,.int .i64 dir] w fun x w'=>Ans o x∧Below w.heap.size w w':=by
 have fin:∀(w1 w2:World) (hb1:Below w.heap.size w w1) (hb2:Below (w1.alloc (Obj.cells #[Value.bool ga,Value.int IntKind.u64 ma,Value.int IntKind.i64 ea] 63)).heap.size (w1.alloc (Obj.cells #[Value.bool ga,Value.int IntKind.u64 ma,Value.int IntKind.i64 ea] 63)) w2),
     Below w.heap.size w (w2.alloc (Obj.cells #[Value.bool gb,Value.int IntKind.u64 mb,Value.int IntKind.i64 eb] 63)):=fun w1 w2 hb1 hb2=>by
   have t2:Below w.heap.size w (w1.alloc (Obj.cells #[Value.bool ga,Value.int IntKind.u64 ma,Value.int IntKind.i64 ea] 63)):=hb1.alloc hb1.size _
   have t3:=later t2 hb2
   exact t3.alloc t3.size _
 cases o with
 | some r =>
   have hop:=fun (t:TypeId) (w:World)=>run_float_arith (P:=Tryz.prog) w .add t .f64 a b r ho
   have hl:=hlt r rfl
   clear ho hlt
   cases fa <;> cases fb <;> (try (cases hf;done))
   all_goals
     go_enter Tryz.func152,Tryz.ntmps152
     go_upto_region 2 with (first | (go_at_call_of 165 (Value.float .f64 a);refine (ha _).mono ?_;rintro _ w1 ⟨rfl,hb1⟩))
     go_wp2_with (first | (go_at_call_of 165 (Value.float .f64 b);refine (hb _).mono ?_;rintro _ w2 ⟨rfl,hb2⟩))
     go_ret
     exact⟨⟨r,rfl,hl,rfl⟩,fin w1 w2 hb1 hb2⟩
 | none =>
   have hop:=fun (t:TypeId) (w:World)=>run_float_none .add t a b (Or.inl rfl) ho w
   clear ho hlt
   cases fa <;> cases fb <;> (try (cases hf;done))
   all_goals
     go_enter Tryz.func152,Tryz.ntmps152
     go_upto_region 2 with (first | (go_at_call_of 165 (Value.float .f64 a);refine (ha _).mono ?_;rintro _ w1 ⟨rfl,hb1⟩))
     go_wp2_with (first | (go_at_call_of 165 (Value.float .f64 b);refine (hb _).mono ?_;rintro _ w2 ⟨rfl,hb2⟩))
     go_ret
     exact⟨⟨_,rfl,(nanOf_nan _ _ _).2,(nanOf_nan _ _ _).1⟩,(fin w1 w2 hb1 hb2).drew⟩
set_option maxHeartbeats 400000 in
theorem mul_core (a b:Nat) (dir:Int) (hx:a<18446744073709551616) (hy:b<18446744073709551616) (na:nanB a=false) (nb:nanB b=false) (za:(FloatKind.f64.format.order a 0==some .eq)=false) (zb:(FloatKind.f64.format.order b 0==some .eq)=false)
   (ga gb gs:Bool) (ma mb ms:Nat) (ea eb es:Int) (r:Nat)
   (ha:∀w,Calls Tryz.prog 165 #[.float .f64 a] w fun x w'=>x=.returned (.tuple #[.agg #[.bool ga,.int .u64 ma,.int .i64 ea],.bool true])∧Below w.heap.size w w')
   (hb:∀w,Calls Tryz.prog 165 #[.float .f64 b] w fun x w'=>x=.returned (.tuple #[.agg #[.bool gb,.int .u64 mb,.int .i64 eb],.bool true])∧Below w.heap.size w w')
   (hs:∀w,Calls Tryz.prog 188 #[.agg #[.bool ga,.int .u64 ma,.int .i64 ea],.agg #[.bool gb,.int .u64 mb,.int .i64 eb]] w fun x w'=>x=.returned (.agg #[.bool gs,.int .u64 ms,.int .i64 es])∧Below w.heap.size w w')
   (hr:∀w,Calls Tryz.prog 166 #[.agg #[.bool gs,.int .u64 ms,.int .i64 es],.int .i64 dir] w fun x w'=>x=.returned (.float .f64 r)∧Below w.heap.size w w') (w:World) :
   Calls Tryz.prog 164 #[.float .f64 a,.float .f64 b,.int .i64 dir] w fun x w'=>x=.returned (.float .f64 r)∧Below w.heap.size w w':=by
 go_enter Tryz.func164,Tryz.ntmps164
 go_upto_region 6 with (first | (go_at_call 169;refine (isNaN_w _ (by assumption) _).mono ?_;rintro _ _ ⟨rfl,rfl⟩) | (go_at_call_of 165 (Value.float .f64 a);refine (ha _).mono ?_;rintro _ w1 ⟨rfl,hb1⟩))
 go_wp2_with (first
   | (go_at_call_of 165 (Value.float .f64 b);refine (hb _).mono ?_;rintro _ w2 ⟨rfl,hb2⟩
      have c0:=keepsC hb2 (b:=w1.heap.size) (o:=0) (v:=.bool ga) (by go_simp) (by simp)
      have c1:=keepsC hb2 (b:=w1.heap.size) (o:=1) (v:=.int .u64 ma) (by go_simp) (by simp)
      have c2:=keepsC hb2 (b:=w1.heap.size) (o:=2) (v:=.int .i64 ea) (by go_simp) (by simp)
      have hsz:w1.heap.size<w2.heap.size:=by have:=hb2.size;simp only [World.size_alloc] at this;omega)
   | (go_at_call 188;refine (hs _).mono ?_;rintro _ w3 ⟨rfl,hb3⟩)
   | (go_at_call 166;refine (hr _).mono ?_;rintro _ w4 ⟨rfl,hb4⟩))
 all_goals
   go_ret
   refine⟨rfl, ?_⟩
   have t2:Below w.heap.size w (w1.alloc (Obj.cells #[Value.bool ga,Value.int IntKind.u64 ma,Value.int IntKind.i64 ea] 63)):=hb1.alloc hb1.size _
   have t3:=later t2 hb2
   have t4:Below w.heap.size w (w2.alloc (Obj.cells #[Value.bool gb,Value.int IntKind.u64 mb,Value.int IntKind.i64 eb] 63)):=t3.alloc t3.size _
   exact later (later t4 hb3) hb4
theorem mul_nan (a b:Nat) (dir:Int) (hx:a<18446744073709551616) (hy:b<18446744073709551616) (h:nanB a=true∨nanB a=false∧nanB b=true) (w:World) :
   Calls Tryz.prog 164 #[.float .f64 a,.float .f64 b,.int .i64 dir] w fun x w'=>Ans none x∧Below w.heap.size w w':=by
 rcases h with h | ⟨h,h2⟩
 all_goals
   go_enter Tryz.func164,Tryz.ntmps164
   go_wp2_with (first | (go_at_call 169;refine (isNaN_w _ (by assumption) _).mono ?_;rintro _ _ ⟨rfl,rfl⟩) | (go_at_call 66;refine (nan_w _).mono ?_;rintro _ _ ⟨rfl,rfl⟩))
   go_ret
   exact⟨ans_nan,Below.refl _ _⟩
theorem mul_zero (a b:Nat) (dir:Int) (hx:a<18446744073709551616) (hy:b<18446744073709551616) (na:nanB a=false) (nb:nanB b=false)
   (h:(FloatKind.f64.format.order a 0==some .eq)=true∨(FloatKind.f64.format.order a 0==some .eq)=false∧(FloatKind.f64.format.order b 0==some .eq)=true) (w:World) :
   Calls Tryz.prog 164 #[.float .f64 a,.float .f64 b,.int .i64 dir] w fun x w'=>Ans (some 0) x∧Below w.heap.size w w':=by
 rcases h with h | ⟨h,h2⟩
 all_goals
   go_enter Tryz.func164,Tryz.ntmps164
   go_wp2_with (first | (go_at_call 169;refine (isNaN_w _ (by assumption) _).mono ?_;rintro _ _ ⟨rfl,rfl⟩))
   go_ret
   exact⟨⟨0,rfl,by omega,rfl⟩,Below.refl _ _⟩
set_option maxHeartbeats 400000 in
theorem mul_inf (a b:Nat) (dir:Int) (hx:a<18446744073709551616) (hy:b<18446744073709551616) (na:nanB a=false) (nb:nanB b=false) (za:(FloatKind.f64.format.order a 0==some .eq)=false) (zb:(FloatKind.f64.format.order b 0==some .eq)=false)
   (ga gb fa fb:Bool) (ma mb:Nat) (ea eb:Int) (r:Nat) (hl:r<18446744073709551616) (hf:(fa&&fb)=false)
   (ha:∀w,Calls Tryz.prog 165 #[.float .f64 a] w fun x w'=>x=.returned (.tuple #[.agg #[.bool ga,.int .u64 ma,.int .i64 ea],.bool fa])∧Below w.heap.size w w')
   (hb:∀w,Calls Tryz.prog 165 #[.float .f64 b] w fun x w'=>x=.returned (.tuple #[.agg #[.bool gb,.int .u64 mb,.int .i64 eb],.bool fb])∧Below w.heap.size w w')
   (ho:floatBits .mul .f64 a b=some r) (w:World) :
   Calls Tryz.prog 164 #[.float .f64 a,.float .f64 b,.int .i64 dir] w fun x w'=>Ans (some r) x∧Below w.heap.size w w':=by
 have hop:=fun (t:TypeId) (w:World)=>run_float_arith (P:=Tryz.prog) w .mul t .f64 a b r ho
 clear ho
 cases fa <;> cases fb <;> (try (cases hf;done))
 all_goals
   go_enter Tryz.func164,Tryz.ntmps164
   go_upto_region 6 with (first | (go_at_call 169;refine (isNaN_w _ (by assumption) _).mono ?_;rintro _ _ ⟨rfl,rfl⟩) | (go_at_call_of 165 (Value.float .f64 a);refine (ha _).mono ?_;rintro _ w1 ⟨rfl,hb1⟩))
   go_wp2_with (first | (go_at_call_of 165 (Value.float .f64 b);refine (hb _).mono ?_;rintro _ w2 ⟨rfl,hb2⟩))
   go_ret
   have t2:Below w.heap.size w (w1.alloc (Obj.cells #[Value.bool ga,Value.int IntKind.u64 ma,Value.int IntKind.i64 ea] 63)):=hb1.alloc hb1.size _
   have t3:=later t2 hb2
   exact⟨⟨r,rfl,hl,rfl⟩,t3.alloc t3.size _⟩
set_option maxHeartbeats 400000 in
theorem div_core (a b:Nat) (dir:Int) (hx:a<18446744073709551616) (hy:b<18446744073709551616) (na:nanB a=false) (nb:nanB b=false) (zb:(FloatKind.f64.format.order b 0==some .eq)=false)
   (ga gb gs:Bool) (ma mb ms:Nat) (ea eb es:Int) (r:Nat)
   (ha:∀w,Calls Tryz.prog 165 #[.float .f64 a] w fun x w'=>x=.returned (.tuple #[.agg #[.bool ga,.int .u64 ma,.int .i64 ea],.bool true])∧Below w.heap.size w w')
   (hb:∀w,Calls Tryz.prog 165 #[.float .f64 b] w fun x w'=>x=.returned (.tuple #[.agg #[.bool gb,.int .u64 mb,.int .i64 eb],.bool true])∧Below w.heap.size w w')
   (hs:∀w,Calls Tryz.prog 221 #[.agg #[.bool ga,.int .u64 ma,.int .i64 ea],.agg #[.bool gb,.int .u64 mb,.int .i64 eb]] w fun x w'=>x=.returned (.agg #[.bool gs,.int .u64 ms,.int .i64 es])∧Below w.heap.size w w')
   (hr:∀w,Calls Tryz.prog 166 #[.agg #[.bool gs,.int .u64 ms,.int .i64 es],.int .i64 dir] w fun x w'=>x=.returned (.float .f64 r)∧Below w.heap.size w w') (w:World) :
   Calls Tryz.prog 195 #[.float .f64 a,.float .f64 b,.int .i64 dir] w fun x w'=>x=.returned (.float .f64 r)∧Below w.heap.size w w':=by
 go_enter Tryz.func195,Tryz.ntmps195
 go_upto_region 4 with (first | (go_at_call 169;refine (isNaN_w _ (by assumption) _).mono ?_;rintro _ _ ⟨rfl,rfl⟩) | (go_at_call_of 165 (Value.float .f64 a);refine (ha _).mono ?_;rintro _ w1 ⟨rfl,hb1⟩))
 go_wp2_with (first
   | (go_at_call_of 165 (Value.float .f64 b);refine (hb _).mono ?_;rintro _ w2 ⟨rfl,hb2⟩
      have c0:=keepsC hb2 (b:=w1.heap.size) (o:=0) (v:=.bool ga) (by go_simp) (by simp)
      have c1:=keepsC hb2 (b:=w1.heap.size) (o:=1) (v:=.int .u64 ma) (by go_simp) (by simp)
      have c2:=keepsC hb2 (b:=w1.heap.size) (o:=2) (v:=.int .i64 ea) (by go_simp) (by simp)
      have hsz:w1.heap.size<w2.heap.size:=by have:=hb2.size;simp only [World.size_alloc] at this;omega)
   | (go_at_call 221;refine (hs _).mono ?_;rintro _ w3 ⟨rfl,hb3⟩)
   | (go_at_call 166;refine (hr _).mono ?_;rintro _ w4 ⟨rfl,hb4⟩))
 all_goals
   go_ret
   refine⟨rfl, ?_⟩
   have t2:Below w.heap.size w (w1.alloc (Obj.cells #[Value.bool ga,Value.int IntKind.u64 ma,Value.int IntKind.i64 ea] 63)):=hb1.alloc hb1.size _
   have t3:=later t2 hb2
   have t4:Below w.heap.size w (w2.alloc (Obj.cells #[Value.bool gb,Value.int IntKind.u64 mb,Value.int IntKind.i64 eb] 63)):=t3.alloc t3.size _
   exact later (later t4 hb3) hb4
theorem div_nan (a b:Nat) (dir:Int) (hx:a<18446744073709551616) (hy:b<18446744073709551616)
   (h:nanB a=true∨nanB a=false∧nanB b=true∨nanB a=false∧nanB b=false∧(FloatKind.f64.format.order b 0==some .eq)=true) (w:World) :
   Calls Tryz.prog 195 #[.float .f64 a,.float .f64 b,.int .i64 dir] w fun x w'=>Ans none x∧Below w.heap.size w w':=by
 rcases h with h | ⟨h,h2⟩ | ⟨h,h2,h3⟩
 all_goals
   go_enter Tryz.func195,Tryz.ntmps195
   go_wp2_with (first | (go_at_call 169;refine (isNaN_w _ (by assumption) _).mono ?_;rintro _ _ ⟨rfl,rfl⟩) | (go_at_call 66;refine (nan_w _).mono ?_;rintro _ _ ⟨rfl,rfl⟩))
   go_ret
   exact⟨ans_nan,Below.refl _ _⟩
set_option maxHeartbeats 400000 in
theorem div_inf (a b:Nat) (dir:Int) (hx:a<18446744073709551616) (hy:b<18446744073709551616) (na:nanB a=false) (nb:nanB b=false) (zb:(FloatKind.f64.format.order b 0==some .eq)=false)
   (ga gb fb:Bool) (ma mb:Nat) (ea eb:Int) (o:Option Nat) (hlt:∀r,o=some r→r<18446744073709551616)
   (ha:∀w,Calls Tryz.prog 165 #[.float .f64 a] w fun x w'=>x=.returned (.tuple #[.agg #[.bool ga,.int .u64 ma,.int .i64 ea],.bool false])∧Below w.heap.size w w')
   (hb:∀w,Calls Tryz.prog 165 #[.float .f64 b] w fun x w'=>x=.returned (.tuple #[.agg #[.bool gb,.int .u64 mb,.int .i64 eb],.bool fb])∧Below w.heap.size w w')
   (ho:floatBits .quo .f64 a b=o) (w:World) :
   Calls Tryz.prog 195 #[.float .f64 a,.float .f64 b,.int .i64 dir] w fun x w'=>Ans o x∧Below w.heap.size w w':=by
 cases o with
 | some r =>
   have hop:=fun (t:TypeId) (w:World)=>run_float_arith (P:=Tryz.prog) w .quo t .f64 a b r ho
   have hl:=hlt r rfl
   clear ho hlt
   go_enter Tryz.func195,Tryz.ntmps195
   go_upto_region 4 with (first | (go_at_call 169;refine (isNaN_w _ (by assumption) _).mono ?_;rintro _ _ ⟨rfl,rfl⟩) | (go_at_call_of 165 (Value.float .f64 a);refine (ha _).mono ?_;rintro _ w1 ⟨rfl,hb1⟩))
   go_wp2_with (first | (go_at_call_of 165 (Value.float .f64 b);refine (hb _).mono ?_;rintro _ w2 ⟨rfl,hb2⟩))
   go_ret
   have t2:Below w.heap.size w (w1.alloc (Obj.cells #[Value.bool ga,Value.int IntKind.u64 ma,Value.int IntKind.i64 ea] 63)):=hb1.alloc hb1.size _
   have t3:=later t2 hb2
   exact⟨⟨r,rfl,hl,rfl⟩,t3.alloc t3.size _⟩
 | none =>
   have hop:=fun (t:TypeId) (w:World)=>run_float_none .quo t a b (Or.inr (Or.inr rfl)) ho w
   clear ho hlt
   go_enter Tryz.func195,Tryz.ntmps195
   go_upto_region 4 with (first | (go_at_call 169;refine (isNaN_w _ (by assumption) _).mono ?_;rintro _ _ ⟨rfl,rfl⟩) | (go_at_call_of 165 (Value.float .f64 a);refine (ha _).mono ?_;rintro _ w1 ⟨rfl,hb1⟩))
   go_wp2_with (first | (go_at_call_of 165 (Value.float .f64 b);refine (hb _).mono ?_;rintro _ w2 ⟨rfl,hb2⟩))
   go_ret
   have t2:Below w.heap.size w (w1.alloc (Obj.cells #[Value.bool ga,Value.int IntKind.u64 ma,Value.int IntKind.i64 ea] 63)):=hb1.alloc hb1.size _
   have t3:=later t2 hb2
   exact⟨⟨_,rfl,(nanOf_nan _ _ _).2,(nanOf_nan _ _ _).1⟩,(t3.alloc t3.size _).drew⟩
set_option maxHeartbeats 400000 in
theorem div_by_inf (a b:Nat) (dir:Int) (hx:a<18446744073709551616) (hy:b<18446744073709551616) (na:nanB a=false) (nb:nanB b=false) (zb:(FloatKind.f64.format.order b 0==some .eq)=false)
   (ga gb:Bool) (ma mb:Nat) (ea eb:Int)
   (ha:∀w,Calls Tryz.prog 165 #[.float .f64 a] w fun x w'=>x=.returned (.tuple #[.agg #[.bool ga,.int .u64 ma,.int .i64 ea],.bool true])∧Below w.heap.size w w')
   (hb:∀w,Calls Tryz.prog 165 #[.float .f64 b] w fun x w'=>x=.returned (.tuple #[.agg #[.bool gb,.int .u64 mb,.int .i64 eb],.bool false])∧Below w.heap.size w w') (w:World) :
   Calls Tryz.prog 195 #[.float .f64 a,.float .f64 b,.int .i64 dir] w fun x w'=>Ans (some 0) x∧Below w.heap.size w w':=by
 go_enter Tryz.func195,Tryz.ntmps195
 go_upto_region 4 with (first | (go_at_call 169;refine (isNaN_w _ (by assumption) _).mono ?_;rintro _ _ ⟨rfl,rfl⟩) | (go_at_call_of 165 (Value.float .f64 a);refine (ha _).mono ?_;rintro _ w1 ⟨rfl,hb1⟩))
 go_wp2_with (first | (go_at_call_of 165 (Value.float .f64 b);refine (hb _).mono ?_;rintro _ w2 ⟨rfl,hb2⟩))
 go_ret
 have t2:Below w.heap.size w (w1.alloc (Obj.cells #[Value.bool ga,Value.int IntKind.u64 ma,Value.int IntKind.i64 ea] 63)):=hb1.alloc hb1.size _
 have t3:=later t2 hb2
 exact⟨⟨0,rfl,by omega,rfl⟩,t3.alloc t3.size _⟩
theorem lz_zero (w:World):Calls Tryz.prog 220 #[.int .u64 0] w fun e w'=>e=.returned (.int .i64 64)∧w=w':=by
 have c:=fun w=>len64_i 0 w (by omega) (by omega)
 have e:((Lib.bitLen (0:Int).toNat:Nat):Int)=0:=rfl
 rw [e] at c
 go_enter Tryz.func220,Tryz.ntmps220
 go_wp2_with (go_at_call 226;refine (c _).mono ?_;rintro _ _ ⟨rfl,rfl⟩)
 all_goals (go_ret;exact⟨rfl,rfl⟩)
theorem normal_zero (g:Bool) (e:Int) (he1:-1000000≤e) (he2:e≤1000000) (w:World) :
   Calls Tryz.prog 191 #[.agg #[.bool g,.int .u64 0,.int .i64 e]] w fun r w'=>r=.returned (.agg #[.bool g,.int .u64 0,.int .i64 (e-64)])∧Below w.heap.size w w':=by
 go_enter Tryz.func191,Tryz.ntmps191
 go_wp2_with (go_at_call 220;refine (lz_zero _).mono ?_;rintro _ _ ⟨rfl,rfl⟩)
 all_goals (go_returns;exact⟨rfl,by go_grown⟩)
theorem div64_zero (y:Nat) (hy0:((y:Int)==0)=false) (hyl:y<18446744073709551616) (w:World) :
   Calls Tryz.prog 227 #[.int .u64 0,.int .u64 0,.int .u64 y] w fun r w'=>r=.returned (.tuple #[.int .u64 0,.int .u64 0])∧∃n,w'=w.drewN n:=by
 have hp:¬(y:Int)≤0:=by simp at hy0;omega
 have hn:¬y=0:=by simp at hy0;omega
 go_enter Tryz.func227,Tryz.ntmps227
 go_wp2
 go_region
 all_goals go_wp2
 all_goals go_ret2
 all_goals exact⟨rfl,1,rfl⟩
theorem read_nan {x:Nat} (hx:x<18446744073709551616) (h:nanB x=true):∃s f,Ieee.double.read x=.nan s f:=by
 have hr:9218868437227405312<x%9223372036854775808:=by simpa [nanB] using h
 rw [read_eq x hx,if_neg (by omega),if_neg (by omega)]
 exact⟨_,_,rfl⟩
theorem read_inf {x:Nat} (hx:x<18446744073709551616) (h:nanB x=false) (hf:finB x=false):Ieee.double.read x=.infinity (decide (9223372036854775808≤x)):=by
 have hr:¬9218868437227405312<x%9223372036854775808:=by simpa [nanB] using h
 have hg:¬x%9223372036854775808<9218868437227405312:=by simpa [finB] using hf
 rw [read_eq x hx,if_neg hg,if_pos (by omega)]
theorem read_fin {x:Nat} (hx:x<18446744073709551616) (hf:finB x=true):∃e,Ieee.double.read x=.number (decide (9223372036854775808≤x)) (splitM x) e:=by
 have hg:x%9223372036854775808<9218868437227405312:=by simpa [finB] using hf
 rw [read_eq x hx,if_pos hg]
 exact⟨_,rfl⟩
theorem write_inf (s:Bool):Ieee.double.write (.infinity s)=if s then 18442240474082181120 else 9218868437227405312:=by cases s <;> decide
theorem inf_word {x:Nat} (hx:x<18446744073709551616) (h:nanB x=false) (hf:finB x=false):x=if decide (9223372036854775808≤x) then 18442240474082181120 else 9218868437227405312:=by
 have hr:¬9218868437227405312<x%9223372036854775808:=by simpa [nanB] using h
 have hg:¬x%9223372036854775808<9218868437227405312:=by simpa [finB] using hf
 by_cases c:9223372036854775808≤x
 · simp only [c,decide_true,if_true];omega
 · simp only [c,decide_false,Bool.false_eq_true,if_false];omega
theorem fin_not_nan {x:Nat} (hf:finB x=true):nanB x=false:=by
 have hg:x%9223372036854775808<9218868437227405312:=by simpa [finB] using hf
 simp [nanB];omega
theorem split_any (x:Nat) (hx:x<18446744073709551616):∃(g:Bool) (m:Nat) (e:Int),∀w,Calls Tryz.prog 165 #[.float .f64 x] w fun r w'=>r=.returned (.tuple #[.agg #[.bool g,.int .u64 m,.int .i64 e],.bool (finB x)])∧Below w.heap.size w w':=by
 cases hf:finB x
 · exact⟨false,0,0,fun w=>split_not x hx hf w⟩
 · exact⟨_,_,_,fun w=>split_w x hx hf w⟩
theorem splitM_norm {x:Nat} (hf:finB x=true):splitM x≠0→-1074<splitE x→4503599627370496≤splitM x:=by
 have hg:x%9223372036854775808<9218868437227405312:=by simpa [finB] using hf
 unfold splitM splitE
 intro h1 h2
 split at h2
 · split at h1 <;> omega
 · split <;> omega
def isZ (x:Nat):Bool:=decide (x%9223372036854775808=0)
def infW (g:Bool):Nat:=if g then 18442240474082181120 else 9218868437227405312
def signB (x:Nat):Bool:=decide (9223372036854775808≤x)
def addF (a b:Nat) (dir:Int):Nat:=roundN (sumG (splitG a) (splitM a) (splitE a) (splitG b) (splitM b) (splitE b)) (sumM (splitG a) (splitM a) (splitE a) (splitG b) (splitM b) (splitE b)) (sumE (splitM a) (splitE a) (splitM b) (splitE b)) dir
def addR (a b:Nat) (dir:Int):Option Nat :=
 if nanB a || nanB b then none else if finB a&&finB b then some (addF a b dir) else if !finB a&&!finB b&&(signB a != signB b) then none else some (if finB a then b else a)
theorem markN_lt {m:Nat} {l:Bool} (h:m<18446744073709551616):markN m l<18446744073709551616:=by unfold markN;split <;> omega
theorem moveN_le {m n:Nat} (h:m≤9223372036854775807):moveN m n≤9223372036854775808:=by
 have:=Nat.div_le_self m (2^n)
 unfold moveN markN;split <;> omega
theorem sumM_lt (ga:Bool) (ma:Nat) (ea:Int) (gb:Bool) (mb:Nat) (eb:Int) (h1:ma<9007199254740992) (h2:mb<9007199254740992):sumM ga ma ea gb mb eb<18446744073709551616:=by
 have hA:∀(g:Bool) (x:Nat) (e:Int) (g':Bool) (y:Nat) (e':Int),x<9007199254740992→y<9007199254740992→addM g x e g' y e'<18446744073709551616:=fun g x e g' y e' hx hy=>by
   have:=moveN_le (m:=y*1024) (n:=(e-e').toNat) (by omega)
   unfold addM;split <;> omega
 unfold sumM
 split
 · omega
 · split
   · omega
   · split
     · exact hA _ _ _ _ _ _ h2 h1
     · exact hA _ _ _ _ _ _ h1 h2
theorem add_bits {a b:Nat} (ha:a<18446744073709551616) (hb:b<18446744073709551616) (dir:Int) (hf:(finB a&&finB b)=false):floatBits .add .f64 a b=addR a b dir:=by
 show ((Ieee.double.read a).sum (Ieee.double.read b)).map Ieee.double.write=_
 unfold addR
 cases na:nanB a
 · cases nb:nanB b
   · simp only [Bool.or_self,Bool.false_eq_true,if_false,hf]
     cases fa:finB a
     · rw [read_inf ha na fa]
       have ea:=inf_word ha na fa
       cases fb:finB b
       · rw [read_inf hb nb fb]
         unfold signB
         simp only [Ieee.Datum.sum,Bool.not_false,Bool.true_and,Bool.false_eq_true,if_false]
         generalize decide (9223372036854775808≤a)=s at *
         generalize decide (9223372036854775808≤b)=t at *
         cases s <;> cases t <;> simp only [if_true,if_false,Option.map,write_inf,bne_self_eq_false,Bool.false_eq_true,Bool.true_eq_false] <;> first | rfl | (rw [ea];rfl)
       · obtain⟨e,he⟩:=read_fin hb fb
         rw [he]
         simp only [Ieee.Datum.sum,Option.map,write_inf,Bool.not_true,Bool.and_false,Bool.false_and,Bool.false_eq_true,if_false]
         rw [←ea]
     · have fb:finB b=false:=by rw [fa] at hf;simpa using hf
       rw [read_inf hb nb fb]
       have eb:=inf_word hb nb fb
       obtain⟨e,he⟩:=read_fin ha fa
       rw [he]
       simp only [Ieee.Datum.sum,Option.map,write_inf,Bool.not_true,Bool.false_and,Bool.false_eq_true,if_false,if_true]
       rw [←eb]
   · obtain⟨s,f,he⟩:=read_nan hb nb
     rw [he]
     simp only [Bool.or_true,if_true]
     cases Ieee.double.read a <;> rfl
 · obtain⟨s,f,he⟩:=read_nan ha na
   rw [he]
   simp only [Bool.true_or,if_true]
   rfl
theorem add_w (a b:Nat) (dir:Int) (ha:a<18446744073709551616) (hb:b<18446744073709551616) (w:World) :
   Calls Tryz.prog 152 #[.float .f64 a,.float .f64 b,.int .i64 dir] w fun x w'=>Ans (addR a b dir) x∧Below w.heap.size w w':=by
 by_cases hf:(finB a&&finB b)=true
 · have fa:finB a=true:=by cases h:finB a <;> simp_all
   have fb:finB b=true:=by cases h:finB b <;> simp_all
   have e:addR a b dir=some (addF a b dir):=by unfold addR;simp only [fin_not_nan fa,fin_not_nan fb,fa,fb,Bool.or_self,Bool.and_self,Bool.false_eq_true,if_false,if_true]
   rw [e]
   have hm:=sumM_lt (splitG a) (splitM a) (splitE a) (splitG b) (splitM b) (splitE b) (splitM_lt a) (splitM_lt b)
   have c:=add_core a b dir _ _ _ _ _ _ _ _ _ _ (fun w=>split_w a ha fa w) (fun w=>split_w b hb fb w)
     (fun w=>sum_w (splitG a) (splitG b) (splitM a) (splitM b) (splitE a) (splitE b) (splitM_lt a) (splitM_lt b) (splitE_bounds fa) (splitE_bounds fb) (splitM_norm fa) (splitM_norm fb) w)
     (fun w=>round_w _ _ _ dir hm w) w
   exact c.mono fun x w' h=>⟨⟨_,h.1,(roundN_facts _ _ _ dir hm).2.2,rfl⟩,h.2⟩
 · have hf:(finB a&&finB b)=false:=by simpa using hf
   obtain⟨ga,ma,ea,sa⟩:=split_any a ha
   obtain⟨gb,mb,eb,sb⟩:=split_any b hb
   refine add_out a b dir ga gb (finB a) (finB b) ma mb ea eb (addR a b dir) hf ?_ sa sb (add_bits ha hb dir hf) w
   intro r hr
   have:=floatBits_wf (op:=.add) (k:=.f64) (x:=a) (y:=b) (r:=r) (by rw [add_bits ha hb dir hf,hr])
   simpa [Lit.wf] using this
theorem ord_zero {x:Nat} (hx:x<18446744073709551616) (hn:nanB x=false):(FloatKind.f64.format.order x 0==some .eq)=isZ x:=by
 unfold isZ
 rcases cases0 x hx with ⟨h,_,_⟩ | ⟨_,ho,hc⟩ | ⟨_,ho,hc⟩ | ⟨_,ho,hc⟩
 · rw [hn] at h;cases h
 · rw [ho];simp [hc]
 · rw [ho]
   have:¬x%9223372036854775808=0:=by omega
   simp [this]
 · rw [ho]
   have:¬x%9223372036854775808=0:=by omega
   simp [this]
theorem splitM_zero {x:Nat} (h:isZ x=false):splitM x≠0:=by
 have hz:¬x%9223372036854775808=0:=by simpa [isZ] using h
 unfold splitM;split <;> omega
theorem splitG_sign {x:Nat} (h:isZ x=false):splitG x=signB x:=by
 have hz:¬x%9223372036854775808=0:=by simpa [isZ] using h
 unfold splitG signB
 rw [Bool.eq_iff_iff];simp only [decide_eq_true_eq];omega
def mulF (a b:Nat) (dir:Int):Nat:=roundN (splitG a != splitG b) (prodM (splitM a) (splitM b)) (prodE (splitM a) (splitE a) (splitM b) (splitE b)) dir
def mulR (a b:Nat) (dir:Int):Option Nat :=
 if nanB a || nanB b then none else if isZ a || isZ b then some 0 else if finB a&&finB b then some (mulF a b dir) else some (infW (signB a != signB b))
theorem prodM_lt {a b:Nat} (z1:a≠0) (z2:b≠0) (h1:a<18446744073709551616) (h2:b<18446744073709551616):prodM a b<18446744073709551616 :=
 markN_lt (Nat.div_lt_of_lt_mul (Nat.mul_lt_mul'' (topN_bounds z1 h1).2 (topN_bounds z2 h2).2))
theorem mul_bits {a b:Nat} (ha:a<18446744073709551616) (hb:b<18446744073709551616) (na:nanB a=false) (nb:nanB b=false) (za:isZ a=false) (zb:isZ b=false) (hf:(finB a&&finB b)=false) :
   floatBits .mul .f64 a b=some (infW (signB a != signB b)):=by
 show ((Ieee.double.read a).product (Ieee.double.read b)).map Ieee.double.write=_
 have wi:∀s t:Bool,Ieee.double.write (.infinity (s ^^ t))=infW (s != t):=by intro s t;cases s <;> cases t <;> decide
 unfold signB
 cases fa:finB a
 · rw [read_inf ha na fa]
   cases fb:finB b
   · rw [read_inf hb nb fb]
     simp only [Ieee.Datum.product,Option.map,wi]
   · obtain⟨e,he⟩:=read_fin hb fb
     rw [he]
     simp only [Ieee.Datum.product,splitM_zero zb,if_false,Option.map,wi]
 · have fb:finB b=false:=by rw [fa] at hf;simpa using hf
   rw [read_inf hb nb fb]
   obtain⟨e,he⟩:=read_fin ha fa
   rw [he]
   simp only [Ieee.Datum.product,splitM_zero za,if_false,Option.map,wi]
   generalize decide (9223372036854775808≤a)=s
   generalize decide (9223372036854775808≤b)=t
   cases s <;> cases t <;> rfl
theorem infW_lt (g:Bool):infW g<18446744073709551616:=by cases g <;> decide
theorem mul_w (a b:Nat) (dir:Int) (ha:a<18446744073709551616) (hb:b<18446744073709551616) (w:World) :
   Calls Tryz.prog 164 #[.float .f64 a,.float .f64 b,.int .i64 dir] w fun x w'=>Ans (mulR a b dir) x∧Below w.heap.size w w':=by
 unfold mulR
 cases na:nanB a
 · cases nb:nanB b
   · simp only [Bool.or_self,Bool.false_eq_true,if_false]
     cases za:isZ a
     · cases zb:isZ b
       · simp only [Bool.or_self,Bool.false_eq_true,if_false]
         have oa:=ord_zero ha na
         have ob:=ord_zero hb nb
         rw [za] at oa
         rw [zb] at ob
         by_cases hf:(finB a&&finB b)=true
         · have fa:finB a=true:=by cases h:finB a <;> simp_all
           have fb:finB b=true:=by cases h:finB b <;> simp_all
           rw [if_pos hf]
           have h1:=splitM_lt a
           have h2:=splitM_lt b
           have e1:=splitE_bounds fa
           have e2:=splitE_bounds fb
           have hm:=prodM_lt (splitM_zero za) (splitM_zero zb) (show splitM a<18446744073709551616 by omega) (show splitM b<18446744073709551616 by omega)
           have c:=mul_core a b dir ha hb na nb oa ob _ _ _ _ _ _ _ _ _ _ (fun w=>split_w a ha fa w) (fun w=>split_w b hb fb w)
             (fun w=>product_w (splitG a) (splitG b) (splitM a) (splitM b) (splitE a) (splitE b) (splitM_zero za) (splitM_zero zb) (by omega) (by omega) (by omega) (by omega) w)
             (fun w=>round_w _ _ _ dir hm w) w
           exact c.mono fun x w' h=>⟨⟨_,h.1,(roundN_facts _ _ _ dir hm).2.2,rfl⟩,h.2⟩
         · have hf:(finB a&&finB b)=false:=by simpa using hf
           rw [hf]
           simp only [Bool.false_eq_true,if_false]
           obtain⟨ga,ma,ea,sa⟩:=split_any a ha
           obtain⟨gb,mb,eb,sb⟩:=split_any b hb
           exact mul_inf a b dir ha hb na nb oa ob ga gb (finB a) (finB b) ma mb ea eb _ (infW_lt _) hf sa sb (mul_bits ha hb na nb za zb hf) w
       · have oa:=ord_zero ha na
         have ob:=ord_zero hb nb
         rw [za] at oa
         rw [zb] at ob
         simp only [Bool.or_true,if_true]
         exact mul_zero a b dir ha hb na nb (Or.inr ⟨oa,ob⟩) w
     · have oa:=ord_zero ha na
       rw [za] at oa
       simp only [Bool.true_or,if_true]
       exact mul_zero a b dir ha hb na nb (Or.inl oa) w
   · simp only [Bool.or_true,if_true]
     exact mul_nan a b dir ha hb (Or.inr ⟨na,nb⟩) w
 · simp only [Bool.true_or,if_true]
   exact mul_nan a b dir ha hb (Or.inl na) w
def quoM (mp mq:Nat):Nat:=markN (topN mp*9223372036854775808/topN mq) (decide (topN mp*9223372036854775808%topN mq≠0))
def quoE (mp:Nat) (ep:Int) (mq:Nat) (eq:Int):Int:=(ep-shiftN mp)-(eq-shiftN mq)-63
def divF (a b:Nat) (dir:Int):Nat:=roundN (splitG a != splitG b) (quoM (splitM a) (splitM b)) (quoE (splitM a) (splitE a) (splitM b) (splitE b)) dir
def divR (a b:Nat) (dir:Int):Option Nat :=
 if nanB a || nanB b || isZ b then none else if !finB a then (if !finB b then none else some (infW (signB a != signB b))) else if !finB b then some 0 else some (divF a b dir)
theorem quoM_zero (mq:Nat):quoM 0 mq=0:=by
 have:topN 0=0:=by unfold topN;simp
 unfold quoM;rw [this];simp [markN]
theorem quoM_lt {mp mq:Nat} (z1:mp≠0) (z2:mq≠0) (h1:mp<18446744073709551616) (h2:mq<18446744073709551616):quoM mp mq<18446744073709551616:=by
 have b1:=topN_bounds z1 h1
 have b2:=topN_bounds z2 h2
 refine markN_lt (Nat.div_lt_of_lt_mul ?_)
 have h:9223372036854775808*18446744073709551616≤topN mq*18446744073709551616:=Nat.mul_le_mul_right _ b2.1
 omega
theorem quotient_w (gp gq:Bool) (mp mq:Nat) (ep eq:Int) (z2:mq≠0) (h1:mp<18446744073709551616) (h2:mq<18446744073709551616) (he1:-2000≤ep∧ep≤2000) (he2:-2000≤eq∧eq≤2000) :
   ∃E:Int,(mp≠0→E=quoE mp ep mq eq)∧∀w,Calls Tryz.prog 221 #[.agg #[.bool gp,.int .u64 mp,.int .i64 ep],.agg #[.bool gq,.int .u64 mq,.int .i64 eq]] w fun r w'=>r=.returned (.agg #[.bool (gp != gq),.int .u64 (quoM mp mq),.int .i64 E])∧Below w.heap.size w w':=by
 have b2:=topN_bounds z2 h2
 have s2:shiftN mq≤63:=by unfold shiftN;omega
 by_cases z1:mp=0
 · subst z1
   refine⟨(ep-64)-(eq-shiftN mq)-63,fun h=>absurd rfl h,fun w=>?_⟩
   rw [quoM_zero]
   exact quotient_core gp gq 0 mq 0 (topN mq) 0 0 0 0 0 ep eq (ep-64) (eq-shiftN mq) (by omega) (by omega) (fun w=>normal_zero gp ep (by omega) (by omega) w) (fun w=>normal_w gq mq eq z2 h2 (by omega) (by omega) w) rfl rfl
     (fun w=>div64_zero (topN mq) (by simp;omega) b2.2 w) (fun w=>mark_w 0 false (by omega) w) w
 · have b1:=topN_bounds z1 h1
   have s1:shiftN mp≤63:=by unfold shiftN;omega
   have e0:topN mp/2*18446744073709551616+topN mp%2*9223372036854775808=topN mp*9223372036854775808:=by omega
   refine⟨quoE mp ep mq eq,fun _=>rfl,fun w=>?_⟩
   refine quotient_core gp gq mp mq (topN mp) (topN mq) (topN mp/2) (topN mp%2*9223372036854775808) (topN mp*9223372036854775808/topN mq) (topN mp*9223372036854775808%topN mq) _ ep eq (ep-shiftN mp) (eq-shiftN mq) (by omega) (by omega)
     (fun w=>normal_w gp mp ep z1 h1 (by omega) (by omega) w) (fun w=>normal_w gq mq eq z2 h2 (by omega) (by omega) w) (by omega) (by rw [IntKind.wrap_u64];omega) (fun w=>?_) (fun w=>?_) w
   · have hd:=div64_w (topN mp/2) (topN mp%2*9223372036854775808) (topN mq) b2.1 b2.2 (by omega) (by omega) (by omega) w
     rw [e0] at hd
     exact hd.mono fun x w' h=>⟨h.1,0,h.2.symm⟩
   · have hlt:topN mp*9223372036854775808/topN mq<18446744073709551616:=by
       refine Nat.div_lt_of_lt_mul ?_
       have h:9223372036854775808*18446744073709551616≤topN mq*18446744073709551616:=Nat.mul_le_mul_right _ b2.1
       omega
     have hm:=mark_w (topN mp*9223372036854775808/topN mq) (decide (topN mp*9223372036854775808%topN mq≠0)) hlt w
     have e:(((topN mp*9223372036854775808%topN mq:Nat):Int) != 0)=decide (topN mp*9223372036854775808%topN mq≠0):=by
       generalize topN mp*9223372036854775808%topN mq=z
       rw [Bool.eq_iff_iff];simp only [bne_iff_ne,ne_eq,decide_eq_true_eq];omega
     rw [e]
     exact hm
theorem div_bits {a b:Nat} (ha:a<18446744073709551616) (hb:b<18446744073709551616) (na:nanB a=false) (nb:nanB b=false) (fa:finB a=false) :
   floatBits .quo .f64 a b=if !finB b then none else some (infW (signB a != signB b)):=by
 show ((Ieee.double.read a).quotient _ (Ieee.double.read b)).map Ieee.double.write=_
 have wi:∀s t:Bool,Ieee.double.write (.infinity (s ^^ t))=infW (s != t):=by intro s t;cases s <;> cases t <;> decide
 unfold signB
 rw [read_inf ha na fa]
 cases fb:finB b
 · rw [read_inf hb nb fb];rfl
 · obtain⟨e,he⟩:=read_fin hb fb
   rw [he]
   simp only [Ieee.Datum.quotient,Option.map,wi,Bool.not_true,Bool.false_eq_true,if_false]
theorem div_w (a b:Nat) (dir:Int) (ha:a<18446744073709551616) (hb:b<18446744073709551616) (w:World) :
   Calls Tryz.prog 195 #[.float .f64 a,.float .f64 b,.int .i64 dir] w fun x w'=>Ans (divR a b dir) x∧Below w.heap.size w w':=by
 unfold divR
 cases na:nanB a
 · cases nb:nanB b
   · have ob:=ord_zero hb nb
     cases zb:isZ b
     · rw [zb] at ob
       simp only [Bool.or_self,Bool.false_eq_true,if_false]
       obtain⟨ga,ma,ea,sa⟩:=split_any a ha
       obtain⟨gb,mb,eb,sb⟩:=split_any b hb
       cases fa:finB a
       · rw [fa] at sa
         simp only [Bool.not_false,if_true]
         refine div_inf a b dir ha hb na nb ob ga gb (finB b) ma mb ea eb _ ?_ sa sb (div_bits ha hb na nb fa) w
         intro r hr
         split at hr
         · cases hr
         · cases hr;exact infW_lt _
       · cases fb:finB b
         · rw [fa] at sa
           rw [fb] at sb
           simp only [Bool.not_true,Bool.false_eq_true,if_false,Bool.not_false,if_true]
           exact div_by_inf a b dir ha hb na nb ob ga gb ma mb ea eb sa sb w
         · simp only [Bool.not_true,Bool.false_eq_true,if_false]
           have h1:=splitM_lt a
           have h2:=splitM_lt b
           have e1:=splitE_bounds fa
           have e2:=splitE_bounds fb
           obtain⟨E,hE,hq⟩:=quotient_w (splitG a) (splitG b) (splitM a) (splitM b) (splitE a) (splitE b) (splitM_zero zb) (by omega) (by omega) (by omega) (by omega)
           have hm:quoM (splitM a) (splitM b)<18446744073709551616:=by
             by_cases z:splitM a=0
             · rw [z,quoM_zero];omega
             · exact quoM_lt z (splitM_zero zb) (by omega) (by omega)
           have c:=div_core a b dir ha hb na nb ob _ _ _ _ _ _ _ _ _ _ (fun w=>split_w a ha fa w) (fun w=>split_w b hb fb w) hq (fun w=>round_w _ _ _ dir hm w) w
           have er:roundN (splitG a != splitG b) (quoM (splitM a) (splitM b)) E dir=divF a b dir:=by
             unfold divF
             by_cases z:splitM a=0
             · rw [z,quoM_zero];rfl
             · rw [hE z]
           rw [er] at c
           have hf:=(roundN_facts (splitG a != splitG b) (quoM (splitM a) (splitM b)) (quoE (splitM a) (splitE a) (splitM b) (splitE b)) dir hm).2.2
           exact c.mono fun x w' h=>⟨⟨_,h.1,hf,rfl⟩,h.2⟩
     · rw [zb] at ob
       simp only [Bool.or_true,if_true]
       exact div_nan a b dir ha hb (Or.inr (Or.inr ⟨na,nb,ob⟩)) w
   · simp only [Bool.or_true,Bool.true_or,if_true]
     exact div_nan a b dir ha hb (Or.inr (Or.inl ⟨na,nb⟩)) w
 · simp only [Bool.true_or,if_true]
   exact div_nan a b dir ha hb (Or.inl na) w
end Go.Proofs.YtgfppdboogldlaaGreat
namespace Go.Proofs.YtgfppdboogldlaaGreat
def SidesO (o1 o2 o3:Option Nat):Prop:=(o1=none∧o2=none∧o3=none)∨∃d n u,o1=some d∧o2=some n∧o3=some u∧SidesOK d n u
def Told (o:Option Nat) (r:Nat):Prop:=r<18446744073709551616∧match o with | some v=>r=v | none=>nanB r=true
end Go.Proofs.YtgfppdboogldlaaGreat
namespace Go.Proofs.YtgfppdboogldlaaGreat
theorem mod_negB {x:Nat} (hx:x<18446744073709551616):negB x%9223372036854775808=x%9223372036854775808:=by unfold negB;split <;> omega
theorem mod_negB' {x:Nat} (hx:x<18446744073709551616):negB x%4503599627370496=x%4503599627370496:=by unfold negB;split <;> omega
theorem finB_negB {x:Nat} (hx:x<18446744073709551616):finB (negB x)=finB x:=by unfold finB;rw [mod_negB hx]
theorem isZ_negB {x:Nat} (hx:x<18446744073709551616):isZ (negB x)=isZ x:=by unfold isZ;rw [mod_negB hx]
theorem splitM_negB {x:Nat} (hx:x<18446744073709551616):splitM (negB x)=splitM x:=by unfold splitM;rw [mod_negB hx,mod_negB' hx]
theorem splitE_negB {x:Nat} (hx:x<18446744073709551616):splitE (negB x)=splitE x:=by unfold splitE;rw [mod_negB hx]
theorem signB_negB {x:Nat} (hx:x<18446744073709551616):signB (negB x)=!signB x:=by
 unfold signB negB
 by_cases h:x<9223372036854775808
 · have h2:¬9223372036854775808≤x:=by omega
   have h3:9223372036854775808≤x+9223372036854775808:=by omega
   rw [if_pos h];simp [h2,h3]
 · have h2:9223372036854775808≤x:=by omega
   have h3:¬9223372036854775808≤x-9223372036854775808:=by omega
   rw [if_neg h];simp [h2,h3]
theorem splitG_negB {x:Nat} (hx:x<18446744073709551616) (hz:splitM x≠0):splitG (negB x)=!splitG x:=by
 have z:isZ x=false:=by
   cases h:isZ x
   · rfl
   · exfalso
     have:x%9223372036854775808=0:=by simpa [isZ] using h
     apply hz;unfold splitM;rw [if_pos (by omega),this]
 have z':isZ (negB x)=false:=by rw [isZ_negB hx,z]
 rw [splitG_sign z,splitG_sign z',signB_negB hx]
theorem sumM_mirror (ga:Bool) (ma:Nat) (ea:Int) (gb:Bool) (mb:Nat) (eb:Int) (ga' gb':Bool) (h1:ma≠0→ga'=!ga) (h2:mb≠0→gb'=!gb) :
   sumM ga' ma ea gb' mb eb=sumM ga ma ea gb mb eb∧(sumM ga ma ea gb mb eb=0∨sumG ga' ma ea gb' mb eb=!sumG ga ma ea gb mb eb):=by
 unfold sumM sumG
 by_cases z1:ma=0
 · simp only [z1,if_true,true_and]
   by_cases z2:mb=0
   · exact Or.inl z2
   · exact Or.inr (h2 z2)
 · simp only [z1,if_false]
   by_cases z2:mb=0
   · simp only [z2,if_true,true_and]
     exact Or.inr (h1 z1)
   · simp only [z2,if_false]
     have e1:=h1 z1
     have e2:=h2 z2
     subst e1 e2
     cases swapP ma ea mb eb <;> cases ga <;> cases gb <;> simp [addM]
theorem add_mirror {a b:Nat} (ha:a<18446744073709551616) (hb:b<18446744073709551616):key (addF (negB a) (negB b) 1)=- key (addF a b (-1)):=by
 unfold addF
 rw [splitM_negB ha,splitM_negB hb,splitE_negB ha,splitE_negB hb]
 have hm:=sumM_lt (splitG a) (splitM a) (splitE a) (splitG b) (splitM b) (splitE b) (splitM_lt a) (splitM_lt b)
 obtain⟨h1,h2⟩:=sumM_mirror (splitG a) (splitM a) (splitE a) (splitG b) (splitM b) (splitE b) (splitG (negB a)) (splitG (negB b)) (splitG_negB ha) (splitG_negB hb)
 rw [h1]
 rcases h2 with h2 | h2
 · rw [h2];rfl
 · rw [h2];exact round_mirror _ _ _ hm
def Mirror (o p:Option Nat):Prop:=(o=none∧p=none)∨∃x y,o=some x∧p=some y∧nanB x=false∧nanB y=false∧key y=- key x
theorem addR_mirror {a b:Nat} (ha:a<18446744073709551616) (hb:b<18446744073709551616):Mirror (addR a b (-1)) (addR (negB a) (negB b) 1):=by
 unfold addR
 rw [nanB_negB ha,nanB_negB hb,finB_negB ha,finB_negB hb,signB_negB ha,signB_negB hb]
 cases na:nanB a
 · cases nb:nanB b
   · simp only [Bool.or_self,Bool.false_eq_true,if_false]
     by_cases hf:(finB a&&finB b)=true
     · rw [if_pos hf,if_pos hf]
       refine Or.inr ⟨_,_,rfl,rfl, ?_, ?_,add_mirror ha hb⟩
       · exact (roundN_facts _ _ _ _ (sumM_lt _ _ _ _ _ _ (splitM_lt a) (splitM_lt b))).1
       · exact (roundN_facts _ _ _ _ (sumM_lt _ _ _ _ _ _ (splitM_lt _) (splitM_lt _))).1
     · rw [if_neg hf,if_neg hf]
       have e:((!signB a) != (!signB b))=(signB a != signB b):=by cases signB a <;> cases signB b <;> rfl
       rw [e]
       by_cases hn:(!finB a&&!finB b&&(signB a != signB b))=true
       · rw [if_pos hn,if_pos hn];exact Or.inl ⟨rfl,rfl⟩
       · rw [if_neg hn,if_neg hn]
         cases finB a
         · simp only [Bool.false_eq_true,if_false]
           exact Or.inr ⟨_,_,rfl,rfl,na,by rw [nanB_negB ha,na],key_negB ha⟩
         · simp only [if_true]
           exact Or.inr ⟨_,_,rfl,rfl,nb,by rw [nanB_negB hb,nb],key_negB hb⟩
   · simp only [Bool.or_true,if_true];exact Or.inl ⟨rfl,rfl⟩
 · simp only [Bool.true_or,if_true];exact Or.inl ⟨rfl,rfl⟩
theorem infW_facts (g:Bool):nanB (infW g)=false∧infW g≠9223372036854775808∧infW g<18446744073709551616∧key (infW (!g))=- key (infW g):=by cases g <;> decide
theorem sides_same {v:Nat} (hv:v<18446744073709551616) (hn:nanB v=false) (hz:v≠9223372036854775808):SidesOK v v v :=
 ⟨⟨hn,hn,hn⟩,⟨hz,hz,hz⟩,⟨hv,hv,hv⟩,Int.le_refl _,Int.le_refl _,Or.inl rfl⟩
theorem inf_ne {x:Nat} (hf:finB x=false):x≠9223372036854775808:=by
 rintro rfl;revert hf;decide
theorem addR_sides {a b:Nat} (ha:a<18446744073709551616) (hb:b<18446744073709551616):SidesO (addR a b (-1)) (addR a b 0) (addR a b 1):=by
 unfold addR
 cases na:nanB a
 · cases nb:nanB b
   · simp only [Bool.or_self,Bool.false_eq_true,if_false]
     by_cases hf:(finB a&&finB b)=true
     · simp only [hf,if_true]
       exact Or.inr ⟨_,_,_,rfl,rfl,rfl,round_sides _ _ _ (sumM_lt _ _ _ _ _ _ (splitM_lt a) (splitM_lt b))⟩
     · simp only [hf,Bool.false_eq_true,if_false]
       by_cases hn:(!finB a&&!finB b&&(signB a != signB b))=true
       · simp only [hn,if_true];exact Or.inl ⟨rfl,rfl,rfl⟩
       · simp only [hn,Bool.false_eq_true,if_false]
         cases fa:finB a
         · simp only [Bool.false_eq_true,if_false]
           exact Or.inr ⟨_,_,_,rfl,rfl,rfl,sides_same ha na (inf_ne fa)⟩
         · have fb:finB b=false:=by rw [fa] at hf;simpa using hf
           simp only [if_true]
           exact Or.inr ⟨_,_,_,rfl,rfl,rfl,sides_same hb nb (inf_ne fb)⟩
   · simp only [Bool.or_true,if_true];exact Or.inl ⟨rfl,rfl,rfl⟩
 · simp only [Bool.true_or,if_true];exact Or.inl ⟨rfl,rfl,rfl⟩
theorem zero_sides:SidesOK 0 0 0:=sides_same (by omega) (by decide) (by omega)
theorem mulR_sides (a b:Nat):SidesO (mulR a b (-1)) (mulR a b 0) (mulR a b 1):=by
 unfold mulR
 by_cases h1:(nanB a || nanB b)=true
 · simp only [h1,if_true];exact Or.inl ⟨rfl,rfl,rfl⟩
 · simp only [h1,Bool.false_eq_true,if_false]
   by_cases h2:(isZ a || isZ b)=true
   · simp only [h2,if_true];exact Or.inr ⟨_,_,_,rfl,rfl,rfl,zero_sides⟩
   · simp only [h2,Bool.false_eq_true,if_false]
     have za:isZ a=false:=by cases h:isZ a <;> simp_all
     have zb:isZ b=false:=by cases h:isZ b <;> simp_all
     by_cases h3:(finB a&&finB b)=true
     · simp only [h3,if_true]
       have l1:=splitM_lt a
       have l2:=splitM_lt b
       exact Or.inr ⟨_,_,_,rfl,rfl,rfl,round_sides _ _ _ (prodM_lt (splitM_zero za) (splitM_zero zb) (by omega) (by omega))⟩
     · simp only [h3,Bool.false_eq_true,if_false]
       have f:=infW_facts (signB a != signB b)
       exact Or.inr ⟨_,_,_,rfl,rfl,rfl,sides_same f.2.2.1 f.1 f.2.1⟩
theorem divM_lt {a b:Nat} (zb:isZ b=false):quoM (splitM a) (splitM b)<18446744073709551616:=by
 have l1:=splitM_lt a
 have l2:=splitM_lt b
 by_cases z:splitM a=0
 · rw [z,quoM_zero];omega
 · exact quoM_lt z (splitM_zero zb) (by omega) (by omega)
theorem divR_sides (a b:Nat):SidesO (divR a b (-1)) (divR a b 0) (divR a b 1):=by
 unfold divR
 by_cases h1:(nanB a || nanB b || isZ b)=true
 · simp only [h1,if_true];exact Or.inl ⟨rfl,rfl,rfl⟩
 · simp only [h1,Bool.false_eq_true,if_false]
   have zb:isZ b=false:=by cases h:isZ b <;> simp_all
   cases finB a
   · simp only [Bool.not_false,if_true]
     cases finB b
     · simp only [Bool.not_false,if_true];exact Or.inl ⟨rfl,rfl,rfl⟩
     · simp only [Bool.not_true,Bool.false_eq_true,if_false]
       have f:=infW_facts (signB a != signB b)
       exact Or.inr ⟨_,_,_,rfl,rfl,rfl,sides_same f.2.2.1 f.1 f.2.1⟩
   · simp only [Bool.not_true,Bool.false_eq_true,if_false]
     cases finB b
     · simp only [Bool.not_false,if_true];exact Or.inr ⟨_,_,_,rfl,rfl,rfl,zero_sides⟩
     · simp only [Bool.not_true,Bool.false_eq_true,if_false]
       exact Or.inr ⟨_,_,_,rfl,rfl,rfl,round_sides _ _ _ (divM_lt zb)⟩
theorem mulR_mirror {a b:Nat} (ha:a<18446744073709551616):Mirror (mulR a b (-1)) (mulR (negB a) b 1):=by
 unfold mulR
 rw [nanB_negB ha,finB_negB ha,isZ_negB ha,signB_negB ha]
 by_cases h1:(nanB a || nanB b)=true
 · simp only [h1,if_true];exact Or.inl ⟨rfl,rfl⟩
 · simp only [h1,Bool.false_eq_true,if_false]
   by_cases h2:(isZ a || isZ b)=true
   · simp only [h2,if_true];exact Or.inr ⟨_,_,rfl,rfl,by decide,by decide,by decide⟩
   · simp only [h2,Bool.false_eq_true,if_false]
     have za:isZ a=false:=by cases h:isZ a <;> simp_all
     have zb:isZ b=false:=by cases h:isZ b <;> simp_all
     by_cases h3:(finB a&&finB b)=true
     · simp only [h3,if_true]
       have l1:=splitM_lt a
       have l2:=splitM_lt b
       have hm:=prodM_lt (splitM_zero za) (splitM_zero zb) (show splitM a<18446744073709551616 by omega) (show splitM b<18446744073709551616 by omega)
       refine Or.inr ⟨_,_,rfl,rfl,(roundN_facts _ _ _ _ hm).1, ?_, ?_⟩
       · unfold mulF;rw [splitM_negB ha];exact (roundN_facts _ _ _ _ hm).1
       · unfold mulF
         rw [splitM_negB ha,splitE_negB ha,splitG_negB ha (splitM_zero za)]
         have e:((!splitG a) != splitG b)=!(splitG a != splitG b):=by cases splitG a <;> cases splitG b <;> rfl
         rw [e];exact round_mirror _ _ _ hm
     · simp only [h3,Bool.false_eq_true,if_false]
       have e:((!signB a) != signB b)=!(signB a != signB b):=by cases signB a <;> cases signB b <;> rfl
       rw [e]
       exact Or.inr ⟨_,_,rfl,rfl,(infW_facts _).1,(infW_facts _).1,(infW_facts _).2.2.2⟩
theorem divR_mirror {a b:Nat} (hb:b<18446744073709551616):Mirror (divR a b (-1)) (divR a (negB b) 1):=by
 unfold divR
 rw [nanB_negB hb,finB_negB hb,isZ_negB hb,signB_negB hb]
 by_cases h1:(nanB a || nanB b || isZ b)=true
 · simp only [h1,if_true];exact Or.inl ⟨rfl,rfl⟩
 · simp only [h1,Bool.false_eq_true,if_false]
   have zb:isZ b=false:=by cases h:isZ b <;> simp_all
   cases finB a
   · simp only [Bool.not_false,if_true]
     cases finB b
     · simp only [Bool.not_false,if_true];exact Or.inl ⟨rfl,rfl⟩
     · simp only [Bool.not_true,Bool.false_eq_true,if_false]
       have e:(signB a != !signB b)=!(signB a != signB b):=by cases signB a <;> cases signB b <;> rfl
       rw [e]
       exact Or.inr ⟨_,_,rfl,rfl,(infW_facts _).1,(infW_facts _).1,(infW_facts _).2.2.2⟩
   · simp only [Bool.not_true,Bool.false_eq_true,if_false]
     cases finB b
     · simp only [Bool.not_false,if_true];exact Or.inr ⟨_,_,rfl,rfl,by decide,by decide,by decide⟩
     · simp only [Bool.not_true,Bool.false_eq_true,if_false]
       have hm:=divM_lt (a:=a) zb
       refine Or.inr ⟨_,_,rfl,rfl,(roundN_facts _ _ _ _ hm).1, ?_, ?_⟩
       · unfold divF;rw [splitM_negB hb];exact (roundN_facts _ _ _ _ hm).1
       · unfold divF
         rw [splitM_negB hb,splitE_negB hb,splitG_negB hb (splitM_zero zb)]
         have e:(splitG a != !splitG b)=!(splitG a != splitG b):=by cases splitG a <;> cases splitG b <;> rfl
         rw [e];exact round_mirror _ _ _ hm
end Go.Proofs.YtgfppdboogldlaaGreat
