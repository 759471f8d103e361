/- The walks of Add, Mul, Div and Sqrt, way by way: what is no number, what is infinite, nought, and the finite ones. The walks of Div, Sqrt and Sub, way by way. What Add, Mul, Div and Sqrt answer, of all words: by plain functions on numbers. What Add, Sub, Mul, Div and Sqrt answer, of all words: the whole contracts. What Mul, Div and Sqrt answer, of all words: the whole contracts. What Sqrt answers, of all words. Plain facts on the order of words, and what contracts tell of three answers. Plain facts for the law of the sides: answers of mirrored and of exchanged arguments. Plain facts: the parts that the program rounds, of sums, products, quotients and roots, stand for the exact ones. Plain facts: quotients and roots, rounded down, are the exact ones' places. Plain facts: sums, products, quotients and roots, rounded to a side, rise with the exact ones; infinite ends too. -/
import Derived.Test.YtopfabemfbdccaaGreatZe08
import Derived.Test.YtopfabemfbdccaaGreatZe02
import Derived.Test.YtopfabemfbdccaaGreatZe07
namespace Go.Proofs.YtopfabemfbdccaaGreat
open Go.ChangeShapes Go.WideShapes Go.ChangeAt Go.RowKit
def nanOf (a b:Nat) (w:World):Nat:=Question.cut (.nanBits .f64 a b) (w.tape w.drawn (.nanBits .f64 a b))
theorem nanOf_nan (a b:Nat) (w:World):nanB (nanOf a b w)=true∧nanOf a b w<18446744073709551616:=by
 unfold nanOf Question.cut nanB
 generalize w.tape w.drawn (.nanBits .f64 a b)=t
 have hm:t/2%(2^52-1)<4503599627370495:=Nat.mod_lt _ (by decide)
 simp only [decide_eq_true_eq]
 generalize t/2%(2^52-1)=u at *
 rcases Nat.mod_two_eq_zero_or_one t with h | h
 · rw [h];omega
 · rw [h];omega
theorem run_float_none (op:BinOp) (t:TypeId) (a b:Nat) (hop:op=.add∨op=.mul∨op=.quo) (h:floatBits op .f64 a b=none) (w:World) :
   (binOp op t (.float .f64 a) (.float .f64 b)).run Tryz.prog w=.ok (.float .f64 (nanOf a b w)) w.drew:=by
 rcases hop with rfl | rfl | rfl
 all_goals
   unfold floatBits at h
   simp only at h
   simp [binOp,Op.floatArith,h,nanOf,Question.forced]
def Ans (o:Option Nat) (x:Ending):Prop:=∃r,x=.returned (.float .f64 r)∧r<18446744073709551616∧match o with | some v=>r=v | none=>nanB r=true
theorem ans_nan:Ans none (.returned (.float .f64 9221120237041090561)):=⟨_,rfl,by omega,by decide⟩
set_option maxHeartbeats 400000 in
theorem add_out (a b:Nat) (dir:Int) (ga gb fa fb:Bool) (ma mb:Nat) (ea eb:Int) (o:Option Nat) (hf:(fa&&fb)=false) (hlt:∀r,o=some r→r<18446744073709551616)
   (ha:∀w,Calls Tryz.prog 167 #[.float .f64 a] w fun x w'=>x=.returned (.tuple #[.agg #[.bool ga,.int .u64 ma,.int .i64 ea],.bool fa])∧Below w.heap.size w w')
   (hb:∀w,Calls Tryz.prog 167 #[.float .f64 b] w fun x w'=>x=.returned (.tuple #[.agg #[.bool gb,.int .u64 mb,.int .i64 eb],.bool fb])∧Below w.heap.size w w')
   (ho:floatBits .add .f64 a b=o) (w:World) :
   Calls Tryz.prog 121 #[.float .f64 a,.float .f64 b,.int .i64 dir] w fun x w'=>Ans o x∧Below w.heap.size w w':=by
 have fin:∀(w1 w2:World) (hb1:Below w.heap.size w w1) (hb2:Below (w1.alloc (Obj.cells #[Value.bool ga,Value.int IntKind.u64 ma,Value.int IntKind.i64 ea] 135)).heap.size (w1.alloc (Obj.cells #[Value.bool ga,Value.int IntKind.u64 ma,Value.int IntKind.i64 ea] 135)) w2),
     Below w.heap.size w (w2.alloc (Obj.cells #[Value.bool gb,Value.int IntKind.u64 mb,Value.int IntKind.i64 eb] 135)):=fun w1 w2 hb1 hb2=>by
   have t2:Below w.heap.size w (w1.alloc (Obj.cells #[Value.bool ga,Value.int IntKind.u64 ma,Value.int IntKind.i64 ea] 135)):=hb1.alloc hb1.size _
   have t3:=later t2 hb2
   exact t3.alloc t3.size _
 cases o with
 | some r =>
   have hop:=fun (t:TypeId) (w:World)=>run_float_arith (P:=Tryz.prog) w .add t .f64 a b r ho
   have hl:=hlt r rfl
   clear ho hlt
   cases fa <;> cases fb <;> (try (cases hf;done))
   all_goals
     go_enter Tryz.func121,Tryz.ntmps121
     go_upto_region 2 with (first | (go_at_call_of 167 (Value.float .f64 a);refine (ha _).mono ?_;rintro _ w1 ⟨rfl,hb1⟩))
     go_wp2_with (first | (go_at_call_of 167 (Value.float .f64 b);refine (hb _).mono ?_;rintro _ w2 ⟨rfl,hb2⟩))
     go_ret
     exact⟨⟨r,rfl,hl,rfl⟩,fin w1 w2 hb1 hb2⟩
 | none =>
   have hop:=fun (t:TypeId) (w:World)=>run_float_none .add t a b (Or.inl rfl) ho w
   clear ho hlt
   cases fa <;> cases fb <;> (try (cases hf;done))
   all_goals
     go_enter Tryz.func121,Tryz.ntmps121
     go_upto_region 2 with (first | (go_at_call_of 167 (Value.float .f64 a);refine (ha _).mono ?_;rintro _ w1 ⟨rfl,hb1⟩))
     go_wp2_with (first | (go_at_call_of 167 (Value.float .f64 b);refine (hb _).mono ?_;rintro _ w2 ⟨rfl,hb2⟩))
     go_ret
     exact⟨⟨_,rfl,(nanOf_nan _ _ _).2,(nanOf_nan _ _ _).1⟩,(fin w1 w2 hb1 hb2).drew⟩
set_option maxHeartbeats 400000 in
theorem mul_core (a b:Nat) (dir:Int) (hx:a<18446744073709551616) (hy:b<18446744073709551616) (na:nanB a=false) (nb:nanB b=false) (za:(FloatKind.f64.format.order a 0==some .eq)=false) (zb:(FloatKind.f64.format.order b 0==some .eq)=false)
   (ga gb gs:Bool) (ma mb ms:Nat) (ea eb es:Int) (r:Nat)
   (ha:∀w,Calls Tryz.prog 167 #[.float .f64 a] w fun x w'=>x=.returned (.tuple #[.agg #[.bool ga,.int .u64 ma,.int .i64 ea],.bool true])∧Below w.heap.size w w')
   (hb:∀w,Calls Tryz.prog 167 #[.float .f64 b] w fun x w'=>x=.returned (.tuple #[.agg #[.bool gb,.int .u64 mb,.int .i64 eb],.bool true])∧Below w.heap.size w w')
   (hs:∀w,Calls Tryz.prog 169 #[.agg #[.bool ga,.int .u64 ma,.int .i64 ea],.agg #[.bool gb,.int .u64 mb,.int .i64 eb]] w fun x w'=>x=.returned (.agg #[.bool gs,.int .u64 ms,.int .i64 es])∧Below w.heap.size w w')
   (hr:∀w,Calls Tryz.prog 168 #[.agg #[.bool gs,.int .u64 ms,.int .i64 es],.int .i64 dir] w fun x w'=>x=.returned (.float .f64 r)∧Below w.heap.size w w') (w:World) :
   Calls Tryz.prog 115 #[.float .f64 a,.float .f64 b,.int .i64 dir] w fun x w'=>x=.returned (.float .f64 r)∧Below w.heap.size w w':=by
 go_enter Tryz.func115,Tryz.ntmps115
 go_upto_region 6 with (first | (go_at_call 166;refine (isNaN_w _ (by assumption) _).mono ?_;rintro _ _ ⟨rfl,rfl⟩) | (go_at_call_of 167 (Value.float .f64 a);refine (ha _).mono ?_;rintro _ w1 ⟨rfl,hb1⟩))
 go_wp2_with (first
   | (go_at_call_of 167 (Value.float .f64 b);refine (hb _).mono ?_;rintro _ w2 ⟨rfl,hb2⟩
      have c0:=keepsC hb2 (b:=w1.heap.size) (o:=0) (v:=.bool ga) (by go_simp) (by simp)
      have c1:=keepsC hb2 (b:=w1.heap.size) (o:=1) (v:=.int .u64 ma) (by go_simp) (by simp)
      have c2:=keepsC hb2 (b:=w1.heap.size) (o:=2) (v:=.int .i64 ea) (by go_simp) (by simp)
      have hsz:w1.heap.size<w2.heap.size:=by have:=hb2.size;simp only [World.size_alloc] at this;omega)
   | (go_at_call 169;refine (hs _).mono ?_;rintro _ w3 ⟨rfl,hb3⟩)
   | (go_at_call 168;refine (hr _).mono ?_;rintro _ w4 ⟨rfl,hb4⟩))
 all_goals
   go_ret
   refine⟨rfl, ?_⟩
   have t2:Below w.heap.size w (w1.alloc (Obj.cells #[Value.bool ga,Value.int IntKind.u64 ma,Value.int IntKind.i64 ea] 135)):=hb1.alloc hb1.size _
   have t3:=later t2 hb2
   have t4:Below w.heap.size w (w2.alloc (Obj.cells #[Value.bool gb,Value.int IntKind.u64 mb,Value.int IntKind.i64 eb] 135)):=t3.alloc t3.size _
   exact later (later t4 hb3) hb4
theorem mul_nan (a b:Nat) (dir:Int) (hx:a<18446744073709551616) (hy:b<18446744073709551616) (h:nanB a=true∨nanB a=false∧nanB b=true) (w:World) :
   Calls Tryz.prog 115 #[.float .f64 a,.float .f64 b,.int .i64 dir] w fun x w'=>Ans none x∧Below w.heap.size w w':=by
 rcases h with h | ⟨h,h2⟩
 all_goals
   go_enter Tryz.func115,Tryz.ntmps115
   go_wp2_with (first | (go_at_call 166;refine (isNaN_w _ (by assumption) _).mono ?_;rintro _ _ ⟨rfl,rfl⟩) | (go_at_call 116;refine (nan_w _).mono ?_;rintro _ _ ⟨rfl,rfl⟩))
   go_ret
   exact⟨ans_nan,Below.refl _ _⟩
theorem mul_zero (a b:Nat) (dir:Int) (hx:a<18446744073709551616) (hy:b<18446744073709551616) (na:nanB a=false) (nb:nanB b=false)
   (h:(FloatKind.f64.format.order a 0==some .eq)=true∨(FloatKind.f64.format.order a 0==some .eq)=false∧(FloatKind.f64.format.order b 0==some .eq)=true) (w:World) :
   Calls Tryz.prog 115 #[.float .f64 a,.float .f64 b,.int .i64 dir] w fun x w'=>Ans (some 0) x∧Below w.heap.size w w':=by
 rcases h with h | ⟨h,h2⟩
 all_goals
   go_enter Tryz.func115,Tryz.ntmps115
   go_wp2_with (first | (go_at_call 166;refine (isNaN_w _ (by assumption) _).mono ?_;rintro _ _ ⟨rfl,rfl⟩))
   go_ret
   exact⟨⟨0,rfl,by omega,rfl⟩,Below.refl _ _⟩
set_option maxHeartbeats 400000 in
theorem mul_inf (a b:Nat) (dir:Int) (hx:a<18446744073709551616) (hy:b<18446744073709551616) (na:nanB a=false) (nb:nanB b=false) (za:(FloatKind.f64.format.order a 0==some .eq)=false) (zb:(FloatKind.f64.format.order b 0==some .eq)=false)
   (ga gb fa fb:Bool) (ma mb:Nat) (ea eb:Int) (r:Nat) (hl:r<18446744073709551616) (hf:(fa&&fb)=false)
   (ha:∀w,Calls Tryz.prog 167 #[.float .f64 a] w fun x w'=>x=.returned (.tuple #[.agg #[.bool ga,.int .u64 ma,.int .i64 ea],.bool fa])∧Below w.heap.size w w')
   (hb:∀w,Calls Tryz.prog 167 #[.float .f64 b] w fun x w'=>x=.returned (.tuple #[.agg #[.bool gb,.int .u64 mb,.int .i64 eb],.bool fb])∧Below w.heap.size w w')
   (ho:floatBits .mul .f64 a b=some r) (w:World) :
   Calls Tryz.prog 115 #[.float .f64 a,.float .f64 b,.int .i64 dir] w fun x w'=>Ans (some r) x∧Below w.heap.size w w':=by
 have hop:=fun (t:TypeId) (w:World)=>run_float_arith (P:=Tryz.prog) w .mul t .f64 a b r ho
 clear ho
 cases fa <;> cases fb <;> (try (cases hf;done))
 all_goals
   go_enter Tryz.func115,Tryz.ntmps115
   go_upto_region 6 with (first | (go_at_call 166;refine (isNaN_w _ (by assumption) _).mono ?_;rintro _ _ ⟨rfl,rfl⟩) | (go_at_call_of 167 (Value.float .f64 a);refine (ha _).mono ?_;rintro _ w1 ⟨rfl,hb1⟩))
   go_wp2_with (first | (go_at_call_of 167 (Value.float .f64 b);refine (hb _).mono ?_;rintro _ w2 ⟨rfl,hb2⟩))
   go_ret
   have t2:Below w.heap.size w (w1.alloc (Obj.cells #[Value.bool ga,Value.int IntKind.u64 ma,Value.int IntKind.i64 ea] 135)):=hb1.alloc hb1.size _
   have t3:=later t2 hb2
   exact⟨⟨r,rfl,hl,rfl⟩,t3.alloc t3.size _⟩
set_option maxHeartbeats 400000 in
theorem div_core (a b:Nat) (dir:Int) (hx:a<18446744073709551616) (hy:b<18446744073709551616) (na:nanB a=false) (nb:nanB b=false) (zb:(FloatKind.f64.format.order b 0==some .eq)=false)
   (ga gb gs:Bool) (ma mb ms:Nat) (ea eb es:Int) (r:Nat)
   (ha:∀w,Calls Tryz.prog 167 #[.float .f64 a] w fun x w'=>x=.returned (.tuple #[.agg #[.bool ga,.int .u64 ma,.int .i64 ea],.bool true])∧Below w.heap.size w w')
   (hb:∀w,Calls Tryz.prog 167 #[.float .f64 b] w fun x w'=>x=.returned (.tuple #[.agg #[.bool gb,.int .u64 mb,.int .i64 eb],.bool true])∧Below w.heap.size w w')
   (hs:∀w,Calls Tryz.prog 244 #[.agg #[.bool ga,.int .u64 ma,.int .i64 ea],.agg #[.bool gb,.int .u64 mb,.int .i64 eb]] w fun x w'=>x=.returned (.agg #[.bool gs,.int .u64 ms,.int .i64 es])∧Below w.heap.size w w')
   (hr:∀w,Calls Tryz.prog 168 #[.agg #[.bool gs,.int .u64 ms,.int .i64 es],.int .i64 dir] w fun x w'=>x=.returned (.float .f64 r)∧Below w.heap.size w w') (w:World) :
   Calls Tryz.prog 210 #[.float .f64 a,.float .f64 b,.int .i64 dir] w fun x w'=>x=.returned (.float .f64 r)∧Below w.heap.size w w':=by
 go_enter Tryz.func210,Tryz.ntmps210
 go_upto_region 4 with (first | (go_at_call 166;refine (isNaN_w _ (by assumption) _).mono ?_;rintro _ _ ⟨rfl,rfl⟩) | (go_at_call_of 167 (Value.float .f64 a);refine (ha _).mono ?_;rintro _ w1 ⟨rfl,hb1⟩))
 go_wp2_with (first
   | (go_at_call_of 167 (Value.float .f64 b);refine (hb _).mono ?_;rintro _ w2 ⟨rfl,hb2⟩
      have c0:=keepsC hb2 (b:=w1.heap.size) (o:=0) (v:=.bool ga) (by go_simp) (by simp)
      have c1:=keepsC hb2 (b:=w1.heap.size) (o:=1) (v:=.int .u64 ma) (by go_simp) (by simp)
      have c2:=keepsC hb2 (b:=w1.heap.size) (o:=2) (v:=.int .i64 ea) (by go_simp) (by simp)
      have hsz:w1.heap.size<w2.heap.size:=by have:=hb2.size;simp only [World.size_alloc] at this;omega)
   | (go_at_call 244;refine (hs _).mono ?_;rintro _ w3 ⟨rfl,hb3⟩)
   | (go_at_call 168;refine (hr _).mono ?_;rintro _ w4 ⟨rfl,hb4⟩))
 all_goals
   go_ret
   refine⟨rfl, ?_⟩
   have t2:Below w.heap.size w (w1.alloc (Obj.cells #[Value.bool ga,Value.int IntKind.u64 ma,Value.int IntKind.i64 ea] 135)):=hb1.alloc hb1.size _
   have t3:=later t2 hb2
   have t4:Below w.heap.size w (w2.alloc (Obj.cells #[Value.bool gb,Value.int IntKind.u64 mb,Value.int IntKind.i64 eb] 135)):=t3.alloc t3.size _
   exact later (later t4 hb3) hb4
theorem div_nan (a b:Nat) (dir:Int) (hx:a<18446744073709551616) (hy:b<18446744073709551616)
   (h:nanB a=true∨nanB a=false∧nanB b=true∨nanB a=false∧nanB b=false∧(FloatKind.f64.format.order b 0==some .eq)=true) (w:World) :
   Calls Tryz.prog 210 #[.float .f64 a,.float .f64 b,.int .i64 dir] w fun x w'=>Ans none x∧Below w.heap.size w w':=by
 rcases h with h | ⟨h,h2⟩ | ⟨h,h2,h3⟩
 all_goals
   go_enter Tryz.func210,Tryz.ntmps210
   go_wp2_with (first | (go_at_call 166;refine (isNaN_w _ (by assumption) _).mono ?_;rintro _ _ ⟨rfl,rfl⟩) | (go_at_call 116;refine (nan_w _).mono ?_;rintro _ _ ⟨rfl,rfl⟩))
   go_ret
   exact⟨ans_nan,Below.refl _ _⟩
set_option maxHeartbeats 400000 in
theorem div_inf (a b:Nat) (dir:Int) (hx:a<18446744073709551616) (hy:b<18446744073709551616) (na:nanB a=false) (nb:nanB b=false) (zb:(FloatKind.f64.format.order b 0==some .eq)=false)
   (ga gb fb:Bool) (ma mb:Nat) (ea eb:Int) (o:Option Nat) (hlt:∀r,o=some r→r<18446744073709551616)
   (ha:∀w,Calls Tryz.prog 167 #[.float .f64 a] w fun x w'=>x=.returned (.tuple #[.agg #[.bool ga,.int .u64 ma,.int .i64 ea],.bool false])∧Below w.heap.size w w')
   (hb:∀w,Calls Tryz.prog 167 #[.float .f64 b] w fun x w'=>x=.returned (.tuple #[.agg #[.bool gb,.int .u64 mb,.int .i64 eb],.bool fb])∧Below w.heap.size w w')
   (ho:floatBits .quo .f64 a b=o) (w:World) :
   Calls Tryz.prog 210 #[.float .f64 a,.float .f64 b,.int .i64 dir] w fun x w'=>Ans o x∧Below w.heap.size w w':=by
 cases o with
 | some r =>
   have hop:=fun (t:TypeId) (w:World)=>run_float_arith (P:=Tryz.prog) w .quo t .f64 a b r ho
   have hl:=hlt r rfl
   clear ho hlt
   go_enter Tryz.func210,Tryz.ntmps210
   go_upto_region 4 with (first | (go_at_call 166;refine (isNaN_w _ (by assumption) _).mono ?_;rintro _ _ ⟨rfl,rfl⟩) | (go_at_call_of 167 (Value.float .f64 a);refine (ha _).mono ?_;rintro _ w1 ⟨rfl,hb1⟩))
   go_wp2_with (first | (go_at_call_of 167 (Value.float .f64 b);refine (hb _).mono ?_;rintro _ w2 ⟨rfl,hb2⟩))
   go_ret
   have t2:Below w.heap.size w (w1.alloc (Obj.cells #[Value.bool ga,Value.int IntKind.u64 ma,Value.int IntKind.i64 ea] 135)):=hb1.alloc hb1.size _
   have t3:=later t2 hb2
   exact⟨⟨r,rfl,hl,rfl⟩,t3.alloc t3.size _⟩
 | none =>
   have hop:=fun (t:TypeId) (w:World)=>run_float_none .quo t a b (Or.inr (Or.inr rfl)) ho w
   clear ho hlt
   go_enter Tryz.func210,Tryz.ntmps210
   go_upto_region 4 with (first | (go_at_call 166;refine (isNaN_w _ (by assumption) _).mono ?_;rintro _ _ ⟨rfl,rfl⟩) | (go_at_call_of 167 (Value.float .f64 a);refine (ha _).mono ?_;rintro _ w1 ⟨rfl,hb1⟩))
   go_wp2_with (first | (go_at_call_of 167 (Value.float .f64 b);refine (hb _).mono ?_;rintro _ w2 ⟨rfl,hb2⟩))
   go_ret
   have t2:Below w.heap.size w (w1.alloc (Obj.cells #[Value.bool ga,Value.int IntKind.u64 ma,Value.int IntKind.i64 ea] 135)):=hb1.alloc hb1.size _
   have t3:=later t2 hb2
   exact⟨⟨_,rfl,(nanOf_nan _ _ _).2,(nanOf_nan _ _ _).1⟩,(t3.alloc t3.size _).drew⟩
set_option maxHeartbeats 400000 in
theorem div_by_inf (a b:Nat) (dir:Int) (hx:a<18446744073709551616) (hy:b<18446744073709551616) (na:nanB a=false) (nb:nanB b=false) (zb:(FloatKind.f64.format.order b 0==some .eq)=false)
   (ga gb:Bool) (ma mb:Nat) (ea eb:Int)
   (ha:∀w,Calls Tryz.prog 167 #[.float .f64 a] w fun x w'=>x=.returned (.tuple #[.agg #[.bool ga,.int .u64 ma,.int .i64 ea],.bool true])∧Below w.heap.size w w')
   (hb:∀w,Calls Tryz.prog 167 #[.float .f64 b] w fun x w'=>x=.returned (.tuple #[.agg #[.bool gb,.int .u64 mb,.int .i64 eb],.bool false])∧Below w.heap.size w w') (w:World) :
   Calls Tryz.prog 210 #[.float .f64 a,.float .f64 b,.int .i64 dir] w fun x w'=>Ans (some 0) x∧Below w.heap.size w w':=by
 go_enter Tryz.func210,Tryz.ntmps210
 go_upto_region 4 with (first | (go_at_call 166;refine (isNaN_w _ (by assumption) _).mono ?_;rintro _ _ ⟨rfl,rfl⟩) | (go_at_call_of 167 (Value.float .f64 a);refine (ha _).mono ?_;rintro _ w1 ⟨rfl,hb1⟩))
 go_wp2_with (first | (go_at_call_of 167 (Value.float .f64 b);refine (hb _).mono ?_;rintro _ w2 ⟨rfl,hb2⟩))
 go_ret
 have t2:Below w.heap.size w (w1.alloc (Obj.cells #[Value.bool ga,Value.int IntKind.u64 ma,Value.int IntKind.i64 ea] 135)):=hb1.alloc hb1.size _
 have t3:=later t2 hb2
 exact⟨⟨0,rfl,by omega,rfl⟩,t3.alloc t3.size _⟩
theorem lz_zero (w:World):Calls Tryz.prog 249 #[.int .u64 0] w fun e w'=>e=.returned (.int .i64 64)∧w=w':=by
 have c:=fun w=>len64_i 0 w (by omega) (by omega)
 have e:((Lib.bitLen (0:Int).toNat:Nat):Int)=0:=rfl
 rw [e] at c
 go_enter Tryz.func249,Tryz.ntmps249
 go_wp2_with (go_at_call 274;refine (c _).mono ?_;rintro _ _ ⟨rfl,rfl⟩)
 all_goals (go_ret;exact⟨rfl,rfl⟩)
theorem normal_zero (g:Bool) (e:Int) (he1:-1000000≤e) (he2:e≤1000000) (w:World) :
   Calls Tryz.prog 214 #[.agg #[.bool g,.int .u64 0,.int .i64 e]] w fun r w'=>r=.returned (.agg #[.bool g,.int .u64 0,.int .i64 (e-64)])∧Below w.heap.size w w':=by
 go_enter Tryz.func214,Tryz.ntmps214
 go_wp2_with (go_at_call 249;refine (lz_zero _).mono ?_;rintro _ _ ⟨rfl,rfl⟩)
 all_goals (go_returns;exact⟨rfl,by go_grown⟩)
theorem div64_zero (y:Nat) (hy0:((y:Int)==0)=false) (hyl:y<18446744073709551616) (w:World) :
   Calls Tryz.prog 273 #[.int .u64 0,.int .u64 0,.int .u64 y] w fun r w'=>r=.returned (.tuple #[.int .u64 0,.int .u64 0])∧∃n,w'=w.drewN n:=by
 have hp:¬(y:Int)≤0:=by simp at hy0;omega
 have hn:¬y=0:=by simp at hy0;omega
 go_enter Tryz.func273,Tryz.ntmps273
 go_wp2
 go_region
 all_goals go_wp2
 all_goals go_ret2
 all_goals exact⟨rfl,1,rfl⟩
theorem read_nan {x:Nat} (hx:x<18446744073709551616) (h:nanB x=true):∃s f,Ieee.double.read x=.nan s f:=by
 have hr:9218868437227405312<x%9223372036854775808:=by simpa [nanB] using h
 rw [read_eq x hx,if_neg (by omega),if_neg (by omega)]
 exact⟨_,_,rfl⟩
theorem read_inf {x:Nat} (hx:x<18446744073709551616) (h:nanB x=false) (hf:finB x=false):Ieee.double.read x=.infinity (decide (9223372036854775808≤x)):=by
 have hr:¬9218868437227405312<x%9223372036854775808:=by simpa [nanB] using h
 have hg:¬x%9223372036854775808<9218868437227405312:=by simpa [finB] using hf
 rw [read_eq x hx,if_neg hg,if_pos (by omega)]
theorem read_fin {x:Nat} (hx:x<18446744073709551616) (hf:finB x=true):∃e,Ieee.double.read x=.number (decide (9223372036854775808≤x)) (splitM x) e:=by
 have hg:x%9223372036854775808<9218868437227405312:=by simpa [finB] using hf
 rw [read_eq x hx,if_pos hg]
 exact⟨_,rfl⟩
theorem write_inf (s:Bool):Ieee.double.write (.infinity s)=if s then 18442240474082181120 else 9218868437227405312:=by cases s <;> decide
theorem inf_word {x:Nat} (hx:x<18446744073709551616) (h:nanB x=false) (hf:finB x=false):x=if decide (9223372036854775808≤x) then 18442240474082181120 else 9218868437227405312:=by
 have hr:¬9218868437227405312<x%9223372036854775808:=by simpa [nanB] using h
 have hg:¬x%9223372036854775808<9218868437227405312:=by simpa [finB] using hf
 by_cases c:9223372036854775808≤x
 · simp only [c,decide_true,if_true];omega
 · simp only [c,decide_false,Bool.false_eq_true,if_false];omega
theorem fin_not_nan {x:Nat} (hf:finB x=true):nanB x=false:=by
 have hg:x%9223372036854775808<9218868437227405312:=by simpa [finB] using hf
 simp [nanB];omega
theorem split_any (x:Nat) (hx:x<18446744073709551616):∃(g:Bool) (m:Nat) (e:Int),∀w,Calls Tryz.prog 167 #[.float .f64 x] w fun r w'=>r=.returned (.tuple #[.agg #[.bool g,.int .u64 m,.int .i64 e],.bool (finB x)])∧Below w.heap.size w w':=by
 cases hf:finB x
 · exact⟨false,0,0,fun w=>split_not x hx hf w⟩
 · exact⟨_,_,_,fun w=>split_w x hx hf w⟩
theorem splitM_norm {x:Nat} (hf:finB x=true):splitM x≠0→-1074<splitE x→4503599627370496≤splitM x:=by
 have hg:x%9223372036854775808<9218868437227405312:=by simpa [finB] using hf
 unfold splitM splitE
 intro h1 h2
 split at h2
 · split at h1 <;> omega
 · split <;> omega
def isZ (x:Nat):Bool:=decide (x%9223372036854775808=0)
def infW (g:Bool):Nat:=if g then 18442240474082181120 else 9218868437227405312
def signB (x:Nat):Bool:=decide (9223372036854775808≤x)
def addF (a b:Nat) (dir:Int):Nat:=roundN (sumG (splitG a) (splitM a) (splitE a) (splitG b) (splitM b) (splitE b)) (sumM (splitG a) (splitM a) (splitE a) (splitG b) (splitM b) (splitE b)) (sumE (splitM a) (splitE a) (splitM b) (splitE b)) dir
def addR (a b:Nat) (dir:Int):Option Nat :=
 if nanB a || nanB b then none else if finB a&&finB b then some (addF a b dir) else if !finB a&&!finB b&&(signB a != signB b) then none else some (if finB a then b else a)
theorem markN_lt {m:Nat} {l:Bool} (h:m<18446744073709551616):markN m l<18446744073709551616:=by unfold markN;split <;> omega
theorem moveN_le {m n:Nat} (h:m≤9223372036854775807):moveN m n≤9223372036854775808:=by
 have:=Nat.div_le_self m (2^n)
 unfold moveN markN;split <;> omega
theorem sumM_lt (ga:Bool) (ma:Nat) (ea:Int) (gb:Bool) (mb:Nat) (eb:Int) (h1:ma<9007199254740992) (h2:mb<9007199254740992):sumM ga ma ea gb mb eb<18446744073709551616:=by
 have hA:∀(g:Bool) (x:Nat) (e:Int) (g':Bool) (y:Nat) (e':Int),x<9007199254740992→y<9007199254740992→addM g x e g' y e'<18446744073709551616:=fun g x e g' y e' hx hy=>by
   have:=moveN_le (m:=y*1024) (n:=(e-e').toNat) (by omega)
   unfold addM;split <;> omega
 unfold sumM
 split
 · omega
 · split
   · omega
   · split
     · exact hA _ _ _ _ _ _ h2 h1
     · exact hA _ _ _ _ _ _ h1 h2
theorem add_bits {a b:Nat} (ha:a<18446744073709551616) (hb:b<18446744073709551616) (dir:Int) (hf:(finB a&&finB b)=false):floatBits .add .f64 a b=addR a b dir:=by
 show ((Ieee.double.read a).sum (Ieee.double.read b)).map Ieee.double.write=_
 unfold addR
 cases na:nanB a
 · cases nb:nanB b
   · simp only [Bool.or_self,Bool.false_eq_true,if_false,hf]
     cases fa:finB a
     · rw [read_inf ha na fa]
       have ea:=inf_word ha na fa
       cases fb:finB b
       · rw [read_inf hb nb fb]
         unfold signB
         simp only [Ieee.Datum.sum,Bool.not_false,Bool.true_and,Bool.false_eq_true,if_false]
         generalize decide (9223372036854775808≤a)=s at *
         generalize decide (9223372036854775808≤b)=t at *
         cases s <;> cases t <;> simp only [if_true,if_false,Option.map,write_inf,bne_self_eq_false,Bool.false_eq_true,Bool.true_eq_false] <;> first | rfl | (rw [ea];rfl)
       · obtain⟨e,he⟩:=read_fin hb fb
         rw [he]
         simp only [Ieee.Datum.sum,Option.map,write_inf,Bool.not_true,Bool.and_false,Bool.false_and,Bool.false_eq_true,if_false]
         rw [←ea]
     · have fb:finB b=false:=by rw [fa] at hf;simpa using hf
       rw [read_inf hb nb fb]
       have eb:=inf_word hb nb fb
       obtain⟨e,he⟩:=read_fin ha fa
       rw [he]
       simp only [Ieee.Datum.sum,Option.map,write_inf,Bool.not_true,Bool.false_and,Bool.false_eq_true,if_false,if_true]
       rw [←eb]
   · obtain⟨s,f,he⟩:=read_nan hb nb
     rw [he]
     simp only [Bool.or_true,if_true]
     cases Ieee.double.read a <;> rfl
 · obtain⟨s,f,he⟩:=read_nan ha na
   rw [he]
   simp only [Bool.true_or,if_true]
   rfl
theorem add_w (a b:Nat) (dir:Int) (ha:a<18446744073709551616) (hb:b<18446744073709551616) (w:World) :
   Calls Tryz.prog 121 #[.float .f64 a,.float .f64 b,.int .i64 dir] w fun x w'=>Ans (addR a b dir) x∧Below w.heap.size w w':=by
 by_cases hf:(finB a&&finB b)=true
 · have fa:finB a=true:=by cases h:finB a <;> simp_all
   have fb:finB b=true:=by cases h:finB b <;> simp_all
   have e:addR a b dir=some (addF a b dir):=by unfold addR;simp only [fin_not_nan fa,fin_not_nan fb,fa,fb,Bool.or_self,Bool.and_self,Bool.false_eq_true,if_false,if_true]
   rw [e]
   have hm:=sumM_lt (splitG a) (splitM a) (splitE a) (splitG b) (splitM b) (splitE b) (splitM_lt a) (splitM_lt b)
   have c:=add_core a b dir _ _ _ _ _ _ _ _ _ _ (fun w=>split_w a ha fa w) (fun w=>split_w b hb fb w)
     (fun w=>sum_w (splitG a) (splitG b) (splitM a) (splitM b) (splitE a) (splitE b) (splitM_lt a) (splitM_lt b) (splitE_bounds fa) (splitE_bounds fb) (splitM_norm fa) (splitM_norm fb) w)
     (fun w=>round_w _ _ _ dir hm w) w
   exact c.mono fun x w' h=>⟨⟨_,h.1,(roundN_facts _ _ _ dir hm).2.2,rfl⟩,h.2⟩
 · have hf:(finB a&&finB b)=false:=by simpa using hf
   obtain⟨ga,ma,ea,sa⟩:=split_any a ha
   obtain⟨gb,mb,eb,sb⟩:=split_any b hb
   refine add_out a b dir ga gb (finB a) (finB b) ma mb ea eb (addR a b dir) hf ?_ sa sb (add_bits ha hb dir hf) w
   intro r hr
   have:=floatBits_wf (op:=.add) (k:=.f64) (x:=a) (y:=b) (r:=r) (by rw [add_bits ha hb dir hf,hr])
   simpa [Lit.wf] using this
theorem ord_zero {x:Nat} (hx:x<18446744073709551616) (hn:nanB x=false):(FloatKind.f64.format.order x 0==some .eq)=isZ x:=by
 unfold isZ
 rcases cases0 x hx with ⟨h,_,_⟩ | ⟨_,ho,hc⟩ | ⟨_,ho,hc⟩ | ⟨_,ho,hc⟩
 · rw [hn] at h;cases h
 · rw [ho];simp [hc]
 · rw [ho]
   have:¬x%9223372036854775808=0:=by omega
   simp [this]
 · rw [ho]
   have:¬x%9223372036854775808=0:=by omega
   simp [this]
theorem splitM_zero {x:Nat} (h:isZ x=false):splitM x≠0:=by
 have hz:¬x%9223372036854775808=0:=by simpa [isZ] using h
 unfold splitM;split <;> omega
theorem splitG_sign {x:Nat} (h:isZ x=false):splitG x=signB x:=by
 have hz:¬x%9223372036854775808=0:=by simpa [isZ] using h
 unfold splitG signB
 rw [Bool.eq_iff_iff];simp only [decide_eq_true_eq];omega
def mulF (a b:Nat) (dir:Int):Nat:=roundN (splitG a != splitG b) (prodM (splitM a) (splitM b)) (prodE (splitM a) (splitE a) (splitM b) (splitE b)) dir
def mulR (a b:Nat) (dir:Int):Option Nat :=
 if nanB a || nanB b then none else if isZ a || isZ b then some 0 else if finB a&&finB b then some (mulF a b dir) else some (infW (signB a != signB b))
theorem prodM_lt {a b:Nat} (z1:a≠0) (z2:b≠0) (h1:a<18446744073709551616) (h2:b<18446744073709551616):prodM a b<18446744073709551616 :=
 markN_lt (Nat.div_lt_of_lt_mul (Nat.mul_lt_mul'' (topN_bounds z1 h1).2 (topN_bounds z2 h2).2))
theorem mul_bits {a b:Nat} (ha:a<18446744073709551616) (hb:b<18446744073709551616) (na:nanB a=false) (nb:nanB b=false) (za:isZ a=false) (zb:isZ b=false) (hf:(finB a&&finB b)=false) :
   floatBits .mul .f64 a b=some (infW (signB a != signB b)):=by
 show ((Ieee.double.read a).product (Ieee.double.read b)).map Ieee.double.write=_
 have wi:∀s t:Bool,Ieee.double.write (.infinity (s ^^ t))=infW (s != t):=by intro s t;cases s <;> cases t <;> decide
 unfold signB
 cases fa:finB a
 · rw [read_inf ha na fa]
   cases fb:finB b
   · rw [read_inf hb nb fb]
     simp only [Ieee.Datum.product,Option.map,wi]
   · obtain⟨e,he⟩:=read_fin hb fb
     rw [he]
     simp only [Ieee.Datum.product,splitM_zero zb,if_false,Option.map,wi]
 · have fb:finB b=false:=by rw [fa] at hf;simpa using hf
   rw [read_inf hb nb fb]
   obtain⟨e,he⟩:=read_fin ha fa
   rw [he]
   simp only [Ieee.Datum.product,splitM_zero za,if_false,Option.map,wi]
   generalize decide (9223372036854775808≤a)=s
   generalize decide (9223372036854775808≤b)=t
   cases s <;> cases t <;> rfl
theorem infW_lt (g:Bool):infW g<18446744073709551616:=by cases g <;> decide
theorem mul_w (a b:Nat) (dir:Int) (ha:a<18446744073709551616) (hb:b<18446744073709551616) (w:World) :
   Calls Tryz.prog 115 #[.float .f64 a,.float .f64 b,.int .i64 dir] w fun x w'=>Ans (mulR a b dir) x∧Below w.heap.size w w':=by
 unfold mulR
 cases na:nanB a
 · cases nb:nanB b
   · simp only [Bool.or_self,Bool.false_eq_true,if_false]
     cases za:isZ a
     · cases zb:isZ b
       · simp only [Bool.or_self,Bool.false_eq_true,if_false]
         have oa:=ord_zero ha na
         have ob:=ord_zero hb nb
         rw [za] at oa
         rw [zb] at ob
         by_cases hf:(finB a&&finB b)=true
         · have fa:finB a=true:=by cases h:finB a <;> simp_all
           have fb:finB b=true:=by cases h:finB b <;> simp_all
           rw [if_pos hf]
           have h1:=splitM_lt a
           have h2:=splitM_lt b
           have e1:=splitE_bounds fa
           have e2:=splitE_bounds fb
           have hm:=prodM_lt (splitM_zero za) (splitM_zero zb) (show splitM a<18446744073709551616 by omega) (show splitM b<18446744073709551616 by omega)
           have c:=mul_core a b dir ha hb na nb oa ob _ _ _ _ _ _ _ _ _ _ (fun w=>split_w a ha fa w) (fun w=>split_w b hb fb w)
             (fun w=>product_w (splitG a) (splitG b) (splitM a) (splitM b) (splitE a) (splitE b) (splitM_zero za) (splitM_zero zb) (by omega) (by omega) (by omega) (by omega) w)
             (fun w=>round_w _ _ _ dir hm w) w
           exact c.mono fun x w' h=>⟨⟨_,h.1,(roundN_facts _ _ _ dir hm).2.2,rfl⟩,h.2⟩
         · have hf:(finB a&&finB b)=false:=by simpa using hf
           rw [hf]
           simp only [Bool.false_eq_true,if_false]
           obtain⟨ga,ma,ea,sa⟩:=split_any a ha
           obtain⟨gb,mb,eb,sb⟩:=split_any b hb
           exact mul_inf a b dir ha hb na nb oa ob ga gb (finB a) (finB b) ma mb ea eb _ (infW_lt _) hf sa sb (mul_bits ha hb na nb za zb hf) w
       · have oa:=ord_zero ha na
         have ob:=ord_zero hb nb
         rw [za] at oa
         rw [zb] at ob
         simp only [Bool.or_true,if_true]
         exact mul_zero a b dir ha hb na nb (Or.inr ⟨oa,ob⟩) w
     · have oa:=ord_zero ha na
       rw [za] at oa
       simp only [Bool.true_or,if_true]
       exact mul_zero a b dir ha hb na nb (Or.inl oa) w
   · simp only [Bool.or_true,if_true]
     exact mul_nan a b dir ha hb (Or.inr ⟨na,nb⟩) w
 · simp only [Bool.true_or,if_true]
   exact mul_nan a b dir ha hb (Or.inl na) w
def quoM (mp mq:Nat):Nat:=markN (topN mp*9223372036854775808/topN mq) (decide (topN mp*9223372036854775808%topN mq≠0))
def quoE (mp:Nat) (ep:Int) (mq:Nat) (eq:Int):Int:=(ep-shiftN mp)-(eq-shiftN mq)-63
def divF (a b:Nat) (dir:Int):Nat:=roundN (splitG a != splitG b) (quoM (splitM a) (splitM b)) (quoE (splitM a) (splitE a) (splitM b) (splitE b)) dir
def divR (a b:Nat) (dir:Int):Option Nat :=
 if nanB a || nanB b || isZ b then none else if !finB a then (if !finB b then none else some (infW (signB a != signB b))) else if !finB b then some 0 else some (divF a b dir)
theorem quoM_zero (mq:Nat):quoM 0 mq=0:=by
 have:topN 0=0:=by unfold topN;simp
 unfold quoM;rw [this];simp [markN]
theorem quoM_lt {mp mq:Nat} (z1:mp≠0) (z2:mq≠0) (h1:mp<18446744073709551616) (h2:mq<18446744073709551616):quoM mp mq<18446744073709551616:=by
 have b1:=topN_bounds z1 h1
 have b2:=topN_bounds z2 h2
 refine markN_lt (Nat.div_lt_of_lt_mul ?_)
 have h:9223372036854775808*18446744073709551616≤topN mq*18446744073709551616:=Nat.mul_le_mul_right _ b2.1
 omega
theorem quotient_w (gp gq:Bool) (mp mq:Nat) (ep eq:Int) (z2:mq≠0) (h1:mp<18446744073709551616) (h2:mq<18446744073709551616) (he1:-2000≤ep∧ep≤2000) (he2:-2000≤eq∧eq≤2000) :
   ∃E:Int,(mp≠0→E=quoE mp ep mq eq)∧∀w,Calls Tryz.prog 244 #[.agg #[.bool gp,.int .u64 mp,.int .i64 ep],.agg #[.bool gq,.int .u64 mq,.int .i64 eq]] w fun r w'=>r=.returned (.agg #[.bool (gp != gq),.int .u64 (quoM mp mq),.int .i64 E])∧Below w.heap.size w w':=by
 have b2:=topN_bounds z2 h2
 have s2:shiftN mq≤63:=by unfold shiftN;omega
 by_cases z1:mp=0
 · subst z1
   refine⟨(ep-64)-(eq-shiftN mq)-63,fun h=>absurd rfl h,fun w=>?_⟩
   rw [quoM_zero]
   exact quotient_core gp gq 0 mq 0 (topN mq) 0 0 0 0 0 ep eq (ep-64) (eq-shiftN mq) (by omega) (by omega) (fun w=>normal_zero gp ep (by omega) (by omega) w) (fun w=>normal_w gq mq eq z2 h2 (by omega) (by omega) w) rfl rfl
     (fun w=>div64_zero (topN mq) (by simp;omega) b2.2 w) (fun w=>mark_w 0 false (by omega) w) w
 · have b1:=topN_bounds z1 h1
   have s1:shiftN mp≤63:=by unfold shiftN;omega
   have e0:topN mp/2*18446744073709551616+topN mp%2*9223372036854775808=topN mp*9223372036854775808:=by omega
   refine⟨quoE mp ep mq eq,fun _=>rfl,fun w=>?_⟩
   refine quotient_core gp gq mp mq (topN mp) (topN mq) (topN mp/2) (topN mp%2*9223372036854775808) (topN mp*9223372036854775808/topN mq) (topN mp*9223372036854775808%topN mq) _ ep eq (ep-shiftN mp) (eq-shiftN mq) (by omega) (by omega)
     (fun w=>normal_w gp mp ep z1 h1 (by omega) (by omega) w) (fun w=>normal_w gq mq eq z2 h2 (by omega) (by omega) w) (by omega) (by rw [IntKind.wrap_u64];omega) (fun w=>?_) (fun w=>?_) w
   · have hd:=div64_w (topN mp/2) (topN mp%2*9223372036854775808) (topN mq) b2.1 b2.2 (by omega) (by omega) (by omega) w
     rw [e0] at hd
     exact hd.mono fun x w' h=>⟨h.1,0,h.2.symm⟩
   · have hlt:topN mp*9223372036854775808/topN mq<18446744073709551616:=by
       refine Nat.div_lt_of_lt_mul ?_
       have h:9223372036854775808*18446744073709551616≤topN mq*18446744073709551616:=Nat.mul_le_mul_right _ b2.1
       omega
     have hm:=mark_w (topN mp*9223372036854775808/topN mq) (decide (topN mp*9223372036854775808%topN mq≠0)) hlt w
     have e:(((topN mp*9223372036854775808%topN mq:Nat):Int) != 0)=decide (topN mp*9223372036854775808%topN mq≠0):=by
       generalize topN mp*9223372036854775808%topN mq=z
       rw [Bool.eq_iff_iff];simp only [bne_iff_ne,ne_eq,decide_eq_true_eq];omega
     rw [e]
     exact hm
theorem div_bits {a b:Nat} (ha:a<18446744073709551616) (hb:b<18446744073709551616) (na:nanB a=false) (nb:nanB b=false) (fa:finB a=false) :
   floatBits .quo .f64 a b=if !finB b then none else some (infW (signB a != signB b)):=by
 show ((Ieee.double.read a).quotient _ (Ieee.double.read b)).map Ieee.double.write=_
 have wi:∀s t:Bool,Ieee.double.write (.infinity (s ^^ t))=infW (s != t):=by intro s t;cases s <;> cases t <;> decide
 unfold signB
 rw [read_inf ha na fa]
 cases fb:finB b
 · rw [read_inf hb nb fb];rfl
 · obtain⟨e,he⟩:=read_fin hb fb
   rw [he]
   simp only [Ieee.Datum.quotient,Option.map,wi,Bool.not_true,Bool.false_eq_true,if_false]
theorem div_w (a b:Nat) (dir:Int) (ha:a<18446744073709551616) (hb:b<18446744073709551616) (w:World) :
   Calls Tryz.prog 210 #[.float .f64 a,.float .f64 b,.int .i64 dir] w fun x w'=>Ans (divR a b dir) x∧Below w.heap.size w w':=by
 unfold divR
 cases na:nanB a
 · cases nb:nanB b
   · have ob:=ord_zero hb nb
     cases zb:isZ b
     · rw [zb] at ob
       simp only [Bool.or_self,Bool.false_eq_true,if_false]
       obtain⟨ga,ma,ea,sa⟩:=split_any a ha
       obtain⟨gb,mb,eb,sb⟩:=split_any b hb
       cases fa:finB a
       · rw [fa] at sa
         simp only [Bool.not_false,if_true]
         refine div_inf a b dir ha hb na nb ob ga gb (finB b) ma mb ea eb _ ?_ sa sb (div_bits ha hb na nb fa) w
         intro r hr
         split at hr
         · cases hr
         · cases hr;exact infW_lt _
       · cases fb:finB b
         · rw [fa] at sa
           rw [fb] at sb
           simp only [Bool.not_true,Bool.false_eq_true,if_false,Bool.not_false,if_true]
           exact div_by_inf a b dir ha hb na nb ob ga gb ma mb ea eb sa sb w
         · simp only [Bool.not_true,Bool.false_eq_true,if_false]
           have h1:=splitM_lt a
           have h2:=splitM_lt b
           have e1:=splitE_bounds fa
           have e2:=splitE_bounds fb
           obtain⟨E,hE,hq⟩:=quotient_w (splitG a) (splitG b) (splitM a) (splitM b) (splitE a) (splitE b) (splitM_zero zb) (by omega) (by omega) (by omega) (by omega)
           have hm:quoM (splitM a) (splitM b)<18446744073709551616:=by
             by_cases z:splitM a=0
             · rw [z,quoM_zero];omega
             · exact quoM_lt z (splitM_zero zb) (by omega) (by omega)
           have c:=div_core a b dir ha hb na nb ob _ _ _ _ _ _ _ _ _ _ (fun w=>split_w a ha fa w) (fun w=>split_w b hb fb w) hq (fun w=>round_w _ _ _ dir hm w) w
           have er:roundN (splitG a != splitG b) (quoM (splitM a) (splitM b)) E dir=divF a b dir:=by
             unfold divF
             by_cases z:splitM a=0
             · rw [z,quoM_zero];rfl
             · rw [hE z]
           rw [er] at c
           have hf:=(roundN_facts (splitG a != splitG b) (quoM (splitM a) (splitM b)) (quoE (splitM a) (splitE a) (splitM b) (splitE b)) dir hm).2.2
           exact c.mono fun x w' h=>⟨⟨_,h.1,hf,rfl⟩,h.2⟩
     · rw [zb] at ob
       simp only [Bool.or_true,if_true]
       exact div_nan a b dir ha hb (Or.inr (Or.inr ⟨na,nb,ob⟩)) w
   · simp only [Bool.or_true,Bool.true_or,if_true]
     exact div_nan a b dir ha hb (Or.inr (Or.inl ⟨na,nb⟩)) w
 · simp only [Bool.true_or,if_true]
   exact div_nan a b dir ha hb (Or.inl na) w
end Go.Proofs.YtopfabemfbdccaaGreat
namespace Go.Proofs.YtopfabemfbdccaaGreat
def SidesO (o1 o2 o3:Option Nat):Prop:=(o1=none∧o2=none∧o3=none)∨∃d n u,o1=some d∧o2=some n∧o3=some u∧SidesOK d n u
def Told (o:Option Nat) (r:Nat):Prop:=r<18446744073709551616∧match o with | some v=>r=v | none=>nanB r=true
end Go.Proofs.YtopfabemfbdccaaGreat
namespace Go.Proofs.YtopfabemfbdccaaGreat
theorem mod_negB {x:Nat} (hx:x<18446744073709551616):negB x%9223372036854775808=x%9223372036854775808:=by unfold negB;split <;> omega
theorem mod_negB' {x:Nat} (hx:x<18446744073709551616):negB x%4503599627370496=x%4503599627370496:=by unfold negB;split <;> omega
theorem finB_negB {x:Nat} (hx:x<18446744073709551616):finB (negB x)=finB x:=by unfold finB;rw [mod_negB hx]
theorem isZ_negB {x:Nat} (hx:x<18446744073709551616):isZ (negB x)=isZ x:=by unfold isZ;rw [mod_negB hx]
theorem splitM_negB {x:Nat} (hx:x<18446744073709551616):splitM (negB x)=splitM x:=by unfold splitM;rw [mod_negB hx,mod_negB' hx]
theorem splitE_negB {x:Nat} (hx:x<18446744073709551616):splitE (negB x)=splitE x:=by unfold splitE;rw [mod_negB hx]
theorem signB_negB {x:Nat} (hx:x<18446744073709551616):signB (negB x)=!signB x:=by
 unfold signB negB
 by_cases h:x<9223372036854775808
 · have h2:¬9223372036854775808≤x:=by omega
   have h3:9223372036854775808≤x+9223372036854775808:=by omega
   rw [if_pos h];simp [h2,h3]
 · have h2:9223372036854775808≤x:=by omega
   have h3:¬9223372036854775808≤x-9223372036854775808:=by omega
   rw [if_neg h];simp [h2,h3]
theorem splitG_negB {x:Nat} (hx:x<18446744073709551616) (hz:splitM x≠0):splitG (negB x)=!splitG x:=by
 have z:isZ x=false:=by
   cases h:isZ x
   · rfl
   · exfalso
     have:x%9223372036854775808=0:=by simpa [isZ] using h
     apply hz;unfold splitM;rw [if_pos (by omega),this]
 have z':isZ (negB x)=false:=by rw [isZ_negB hx,z]
 rw [splitG_sign z,splitG_sign z',signB_negB hx]
theorem sumM_mirror (ga:Bool) (ma:Nat) (ea:Int) (gb:Bool) (mb:Nat) (eb:Int) (ga' gb':Bool) (h1:ma≠0→ga'=!ga) (h2:mb≠0→gb'=!gb) :
   sumM ga' ma ea gb' mb eb=sumM ga ma ea gb mb eb∧(sumM ga ma ea gb mb eb=0∨sumG ga' ma ea gb' mb eb=!sumG ga ma ea gb mb eb):=by
 unfold sumM sumG
 by_cases z1:ma=0
 · simp only [z1,if_true,true_and]
   by_cases z2:mb=0
   · exact Or.inl z2
   · exact Or.inr (h2 z2)
 · simp only [z1,if_false]
   by_cases z2:mb=0
   · simp only [z2,if_true,true_and]
     exact Or.inr (h1 z1)
   · simp only [z2,if_false]
     have e1:=h1 z1
     have e2:=h2 z2
     subst e1 e2
     cases swapP ma ea mb eb <;> cases ga <;> cases gb <;> simp [addM]
theorem add_mirror {a b:Nat} (ha:a<18446744073709551616) (hb:b<18446744073709551616):key (addF (negB a) (negB b) 1)=- key (addF a b (-1)):=by
 unfold addF
 rw [splitM_negB ha,splitM_negB hb,splitE_negB ha,splitE_negB hb]
 have hm:=sumM_lt (splitG a) (splitM a) (splitE a) (splitG b) (splitM b) (splitE b) (splitM_lt a) (splitM_lt b)
 obtain⟨h1,h2⟩:=sumM_mirror (splitG a) (splitM a) (splitE a) (splitG b) (splitM b) (splitE b) (splitG (negB a)) (splitG (negB b)) (splitG_negB ha) (splitG_negB hb)
 rw [h1]
 rcases h2 with h2 | h2
 · rw [h2];rfl
 · rw [h2];exact round_mirror _ _ _ hm
def Mirror (o p:Option Nat):Prop:=(o=none∧p=none)∨∃x y,o=some x∧p=some y∧nanB x=false∧nanB y=false∧key y=- key x
theorem addR_mirror {a b:Nat} (ha:a<18446744073709551616) (hb:b<18446744073709551616):Mirror (addR a b (-1)) (addR (negB a) (negB b) 1):=by
 unfold addR
 rw [nanB_negB ha,nanB_negB hb,finB_negB ha,finB_negB hb,signB_negB ha,signB_negB hb]
 cases na:nanB a
 · cases nb:nanB b
   · simp only [Bool.or_self,Bool.false_eq_true,if_false]
     by_cases hf:(finB a&&finB b)=true
     · rw [if_pos hf,if_pos hf]
       refine Or.inr ⟨_,_,rfl,rfl, ?_, ?_,add_mirror ha hb⟩
       · exact (roundN_facts _ _ _ _ (sumM_lt _ _ _ _ _ _ (splitM_lt a) (splitM_lt b))).1
       · exact (roundN_facts _ _ _ _ (sumM_lt _ _ _ _ _ _ (splitM_lt _) (splitM_lt _))).1
     · rw [if_neg hf,if_neg hf]
       have e:((!signB a) != (!signB b))=(signB a != signB b):=by cases signB a <;> cases signB b <;> rfl
       rw [e]
       by_cases hn:(!finB a&&!finB b&&(signB a != signB b))=true
       · rw [if_pos hn,if_pos hn];exact Or.inl ⟨rfl,rfl⟩
       · rw [if_neg hn,if_neg hn]
         cases finB a
         · simp only [Bool.false_eq_true,if_false]
           exact Or.inr ⟨_,_,rfl,rfl,na,by rw [nanB_negB ha,na],key_negB ha⟩
         · simp only [if_true]
           exact Or.inr ⟨_,_,rfl,rfl,nb,by rw [nanB_negB hb,nb],key_negB hb⟩
   · simp only [Bool.or_true,if_true];exact Or.inl ⟨rfl,rfl⟩
 · simp only [Bool.true_or,if_true];exact Or.inl ⟨rfl,rfl⟩
theorem infW_facts (g:Bool):nanB (infW g)=false∧infW g≠9223372036854775808∧infW g<18446744073709551616∧key (infW (!g))=- key (infW g):=by cases g <;> decide
theorem sides_same {v:Nat} (hv:v<18446744073709551616) (hn:nanB v=false) (hz:v≠9223372036854775808):SidesOK v v v :=
 ⟨⟨hn,hn,hn⟩,⟨hz,hz,hz⟩,⟨hv,hv,hv⟩,Int.le_refl _,Int.le_refl _,Or.inl rfl⟩
theorem inf_ne {x:Nat} (hf:finB x=false):x≠9223372036854775808:=by
 rintro rfl;revert hf;decide
theorem addR_sides {a b:Nat} (ha:a<18446744073709551616) (hb:b<18446744073709551616):SidesO (addR a b (-1)) (addR a b 0) (addR a b 1):=by
 unfold addR
 cases na:nanB a
 · cases nb:nanB b
   · simp only [Bool.or_self,Bool.false_eq_true,if_false]
     by_cases hf:(finB a&&finB b)=true
     · simp only [hf,if_true]
       exact Or.inr ⟨_,_,_,rfl,rfl,rfl,round_sides _ _ _ (sumM_lt _ _ _ _ _ _ (splitM_lt a) (splitM_lt b))⟩
     · simp only [hf,Bool.false_eq_true,if_false]
       by_cases hn:(!finB a&&!finB b&&(signB a != signB b))=true
       · simp only [hn,if_true];exact Or.inl ⟨rfl,rfl,rfl⟩
       · simp only [hn,Bool.false_eq_true,if_false]
         cases fa:finB a
         · simp only [Bool.false_eq_true,if_false]
           exact Or.inr ⟨_,_,_,rfl,rfl,rfl,sides_same ha na (inf_ne fa)⟩
         · have fb:finB b=false:=by rw [fa] at hf;simpa using hf
           simp only [if_true]
           exact Or.inr ⟨_,_,_,rfl,rfl,rfl,sides_same hb nb (inf_ne fb)⟩
   · simp only [Bool.or_true,if_true];exact Or.inl ⟨rfl,rfl,rfl⟩
 · simp only [Bool.true_or,if_true];exact Or.inl ⟨rfl,rfl,rfl⟩
theorem zero_sides:SidesOK 0 0 0:=sides_same (by omega) (by decide) (by omega)
theorem mulR_sides (a b:Nat):SidesO (mulR a b (-1)) (mulR a b 0) (mulR a b 1):=by
 unfold mulR
 by_cases h1:(nanB a || nanB b)=true
 · simp only [h1,if_true];exact Or.inl ⟨rfl,rfl,rfl⟩
 · simp only [h1,Bool.false_eq_true,if_false]
   by_cases h2:(isZ a || isZ b)=true
   · simp only [h2,if_true];exact Or.inr ⟨_,_,_,rfl,rfl,rfl,zero_sides⟩
   · simp only [h2,Bool.false_eq_true,if_false]
     have za:isZ a=false:=by cases h:isZ a <;> simp_all
     have zb:isZ b=false:=by cases h:isZ b <;> simp_all
     by_cases h3:(finB a&&finB b)=true
     · simp only [h3,if_true]
       have l1:=splitM_lt a
       have l2:=splitM_lt b
       exact Or.inr ⟨_,_,_,rfl,rfl,rfl,round_sides _ _ _ (prodM_lt (splitM_zero za) (splitM_zero zb) (by omega) (by omega))⟩
     · simp only [h3,Bool.false_eq_true,if_false]
       have f:=infW_facts (signB a != signB b)
       exact Or.inr ⟨_,_,_,rfl,rfl,rfl,sides_same f.2.2.1 f.1 f.2.1⟩
theorem divM_lt {a b:Nat} (zb:isZ b=false):quoM (splitM a) (splitM b)<18446744073709551616:=by
 have l1:=splitM_lt a
 have l2:=splitM_lt b
 by_cases z:splitM a=0
 · rw [z,quoM_zero];omega
 · exact quoM_lt z (splitM_zero zb) (by omega) (by omega)
theorem divR_sides (a b:Nat):SidesO (divR a b (-1)) (divR a b 0) (divR a b 1):=by
 unfold divR
 by_cases h1:(nanB a || nanB b || isZ b)=true
 · simp only [h1,if_true];exact Or.inl ⟨rfl,rfl,rfl⟩
 · simp only [h1,Bool.false_eq_true,if_false]
   have zb:isZ b=false:=by cases h:isZ b <;> simp_all
   cases finB a
   · simp only [Bool.not_false,if_true]
     cases finB b
     · simp only [Bool.not_false,if_true];exact Or.inl ⟨rfl,rfl,rfl⟩
     · simp only [Bool.not_true,Bool.false_eq_true,if_false]
       have f:=infW_facts (signB a != signB b)
       exact Or.inr ⟨_,_,_,rfl,rfl,rfl,sides_same f.2.2.1 f.1 f.2.1⟩
   · simp only [Bool.not_true,Bool.false_eq_true,if_false]
     cases finB b
     · simp only [Bool.not_false,if_true];exact Or.inr ⟨_,_,_,rfl,rfl,rfl,zero_sides⟩
     · simp only [Bool.not_true,Bool.false_eq_true,if_false]
       exact Or.inr ⟨_,_,_,rfl,rfl,rfl,round_sides _ _ _ (divM_lt zb)⟩
theorem mulR_mirror {a b:Nat} (ha:a<18446744073709551616):Mirror (mulR a b (-1)) (mulR (negB a) b 1):=by
 unfold mulR
 rw [nanB_negB ha,finB_negB ha,isZ_negB ha,signB_negB ha]
 by_cases h1:(nanB a || nanB b)=true
 · simp only [h1,if_true];exact Or.inl ⟨rfl,rfl⟩
 · simp only [h1,Bool.false_eq_true,if_false]
   by_cases h2:(isZ a || isZ b)=true
   · simp only [h2,if_true];exact Or.inr ⟨_,_,rfl,rfl,by decide,by decide,by decide⟩
   · simp only [h2,Bool.false_eq_true,if_false]
     have za:isZ a=false:=by cases h:isZ a <;> simp_all
     have zb:isZ b=false:=by cases h:isZ b <;> simp_all
     by_cases h3:(finB a&&finB b)=true
     · simp only [h3,if_true]
       have l1:=splitM_lt a
       have l2:=splitM_lt b
       have hm:=prodM_lt (splitM_zero za) (splitM_zero zb) (show splitM a<18446744073709551616 by omega) (show splitM b<18446744073709551616 by omega)
       refine Or.inr ⟨_,_,rfl,rfl,(roundN_facts _ _ _ _ hm).1, ?_, ?_⟩
       · unfold mulF;rw [splitM_negB ha];exact (roundN_facts _ _ _ _ hm).1
       · unfold mulF
         rw [splitM_negB ha,splitE_negB ha,splitG_negB ha (splitM_zero za)]
         have e:((!splitG a) != splitG b)=!(splitG a != splitG b):=by cases splitG a <;> cases splitG b <;> rfl
         rw [e];exact round_mirror _ _ _ hm
     · simp only [h3,Bool.false_eq_true,if_false]
       have e:((!signB a) != signB b)=!(signB a != signB b):=by cases signB a <;> cases signB b <;> rfl
       rw [e]
       exact Or.inr ⟨_,_,rfl,rfl,(infW_facts _).1,(infW_facts _).1,(infW_facts _).2.2.2⟩
theorem divR_mirror {a b:Nat} (hb:b<18446744073709551616):Mirror (divR a b (-1)) (divR a (negB b) 1):=by
 unfold divR
 rw [nanB_negB hb,finB_negB hb,isZ_negB hb,signB_negB hb]
 by_cases h1:(nanB a || nanB b || isZ b)=true
 · simp only [h1,if_true];exact Or.inl ⟨rfl,rfl⟩
 · simp only [h1,Bool.false_eq_true,if_false]
   have zb:isZ b=false:=by cases h:isZ b <;> simp_all
   cases finB a
   · simp only [Bool.not_false,if_true]
     cases finB b
     · simp only [Bool.not_false,if_true];exact Or.inl ⟨rfl,rfl⟩
     · simp only [Bool.not_true,Bool.false_eq_true,if_false]
       have e:(signB a != !signB b)=!(signB a != signB b):=by cases signB a <;> cases signB b <;> rfl
       rw [e]
       exact Or.inr ⟨_,_,rfl,rfl,(infW_facts _).1,(infW_facts _).1,(infW_facts _).2.2.2⟩
   · simp only [Bool.not_true,Bool.false_eq_true,if_false]
     cases finB b
     · simp only [Bool.not_false,if_true];exact Or.inr ⟨_,_,rfl,rfl,by decide,by decide,by decide⟩
     · simp only [Bool.not_true,Bool.false_eq_true,if_false]
       have hm:=divM_lt (a:=a) zb
       refine Or.inr ⟨_,_,rfl,rfl,(roundN_facts _ _ _ _ hm).1, ?_, ?_⟩
       · unfold divF;rw [splitM_negB hb];exact (roundN_facts _ _ _ _ hm).1
       · unfold divF
         rw [splitM_negB hb,splitE_negB hb,splitG_negB hb (splitM_zero zb)]
         have e:(splitG a != !splitG b)=!(splitG a != splitG b):=by cases splitG a <;> cases splitG b <;> rfl
         rw [e];exact round_mirror _ _ _ hm
end Go.Proofs.YtopfabemfbdccaaGreat
namespace Go.Proofs.YtopfabemfbdccaaGreat
theorem mark_near (T D:Nat) (hD:0<D) {M:Nat} (hM:M=markN (T/D) (decide (T%D≠0))) :
   (T%D=0∧M*D=T)∨(T%D≠0∧M%2=1∧(M-1)*D<T∧T<(M+1)*D∧T/D≤M):=by
 have hm:=Nat.div_add_mod T D
 have hl:=Nat.mod_lt T hD
 rw [Nat.mul_comm] at hm
 by_cases h:T%D=0
 · left
   refine⟨h, ?_⟩
   rw [hM,h]
   show T/D*D=T
   omega
 · right
   have e:M=T/D/2*2+1:=by rw [hM];simp [h,markN]
   generalize T/D=q at *
   have h1:(M-1)*D≤q*D:=Nat.mul_le_mul_right D (by omega)
   have h2:(q+1)*D≤(M+1)*D:=Nat.mul_le_mul_right D (by omega)
   have h3:(q+1)*D=q*D+D:=Nat.succ_mul q D
   refine⟨h,by omega,by omega,by omega,by omega⟩
theorem near_of {C:Cut} {T D a b M:Nat} {E:Int} (hD:0<D) (hab:(b:Int)-a=E+1075) (hle:∀h,C.le h↔h*2^a*D≤T*2^b) (heq:∀h,C.eq h↔h*2^a*D=T*2^b)
   (hM:M=markN (T/D) (decide (T%D≠0))) (big:T%D≠0→36028797018963968≤T/D):Near M E C:=by
 refine⟨a,b,hab, ?_⟩
 rcases mark_near T D hD hM with ⟨-,e⟩ | ⟨hr,odd,lo,hi,le⟩
 · left
   intro h
   have e2:T*2^b=M*2^b*D:=by rw [←e,Nat.mul_right_comm]
   rw [hle h,heq h,e2]
   exact⟨Nat.mul_le_mul_right_iff hD,Nat.mul_left_inj (by omega)⟩
 · right
   refine⟨odd,by have:=big hr;omega,fun h=>?_⟩
   have p:=Nat.two_pow_pos b
   have l1:(M-1)*2^b*D<T*2^b:=by rw [Nat.mul_right_comm];exact Nat.mul_lt_mul_of_pos_right lo p
   have l2:T*2^b<(M+1)*2^b*D:=by rw [Nat.mul_right_comm];exact Nat.mul_lt_mul_of_pos_right hi p
   rw [hle h,heq h]
   constructor
   · intro c
     have:=Nat.mul_le_mul_right D c
     exact⟨by omega,by omega⟩
   · intro c
     have:=Nat.mul_le_mul_right D c
     exact⟨by omega,by omega⟩
theorem split_val {x:Nat} (hf:finB x=true):val (x%9223372036854775808)=splitM x*2^(splitE x+1074).toNat:=by
 have hr:x%9223372036854775808<9218868437227405312:=by simpa [finB] using hf
 have hm:x%4503599627370496=x%9223372036854775808%4503599627370496:=by omega
 unfold splitM splitE val
 rw [hm]
 generalize x%9223372036854775808=r at *
 by_cases h0:r=0
 · subst h0
   rw [if_pos (by omega),if_pos (by omega),Nat.zero_mul]
 · rw [if_neg h0]
   have e:(-1074+((r/4503599627370496-1:Nat):Int)+1074).toNat=r/4503599627370496-1:=by omega
   rw [e]
   by_cases h1:r<4503599627370496
   · have:r/4503599627370496-1=0:=by omega
     rw [if_pos h1,if_pos h1,this];simp
   · rw [if_neg h1,if_neg h1]
theorem key_val {x:Nat} (hx:x<18446744073709551616):V (key x)=if splitG x then -(val (x%9223372036854775808):Int) else (val (x%9223372036854775808):Int):=by
 unfold key splitG
 by_cases h:x<9223372036854775808
 · have h2:¬9223372036854775808<x:=by omega
   have h3:x%9223372036854775808=x:=by omega
   rw [if_pos h,h3,V_nat];simp [h2]
 · rw [if_neg h]
   have e:9223372036854775808-(x:Int)=-((x%9223372036854775808:Nat):Int):=by omega
   rw [e,V_negnat]
   by_cases h2:9223372036854775808<x
   · simp [h2]
   · have:x%9223372036854775808=0:=by omega
     rw [this,val_zero];simp [h2]
def exQ (N:Int) (D:Nat):Ex:=⟨fun h=>h*D≤N,fun h=>N≤h*D⟩
theorem exQ_ok (N:Int) {D:Nat} (hD:0<D):(exQ N D).Ok where
 down:=fun {h k} c d=>Int.le_trans (Int.mul_le_mul_of_nonneg_right c (by omega)) d
 total:=fun h=>Int.le_total _ _
 sep:=fun {h k} c d=>by
   have:k*(D:Int)≤h*D:=Int.le_trans d c
   exact Int.le_of_mul_le_mul_right this (by omega)
theorem amt_Q {N:Int} {D:Nat} {g:Bool} (hg:if g then N≤0 else 0≤N) (h:Nat):(((exQ N D).amt g).le h↔h*D≤N.natAbs)∧(((exQ N D).amt g).eq h↔h*D=N.natAbs):=by
 have e1:((h*D:Nat):Int)=(h:Int)*(D:Int):=by simp
 cases g
 · simp only [Bool.false_eq_true,if_false] at hg
   have l:((exQ N D).amt false).le h↔(h:Int)*D≤N:=Iff.rfl
   have q:((exQ N D).amt false).eq h↔((h:Int)*D≤N∧N≤(h:Int)*D):=Iff.rfl
   rw [l,q,←e1]
   omega
 · simp only [if_true] at hg
   have l:((exQ N D).amt true).le h↔N≤-(h:Int)*D:=Iff.rfl
   have q:((exQ N D).amt true).eq h↔(-(h:Int)*D≤N∧N≤-(h:Int)*D):=Iff.rfl
   rw [l,q,Int.neg_mul,←e1]
   omega
theorem add_parts (mp mq n:Nat) (g:Bool) (h1:mq*1024≤mp*1024*2^n) :
   (if g then mp*1024-moveN (mq*1024) n else mp*1024+moveN (mq*1024) n)=markN ((if g then mp*1024*2^n-mq*1024 else mp*1024*2^n+mq*1024)/2^n) (decide ((if g then mp*1024*2^n-mq*1024 else mp*1024*2^n+mq*1024)%2^n≠0)):=by
 have hD:0<2^n:=Nat.two_pow_pos n
 have hm:=Nat.div_add_mod (mq*1024) (2^n)
 have hl:=Nat.mod_lt (mq*1024) hD
 rw [Nat.mul_comm] at hm
 unfold moveN
 cases g
 · simp only [Bool.false_eq_true,if_false]
   rw [Nat.add_comm (mp*1024*2^n),Nat.add_mul_div_right _ _ hD,Nat.add_mul_mod_self_right]
   by_cases c:mq*1024%2^n=0
   · simp only [c,markN,ne_eq,not_true_eq_false,decide_false,Bool.false_eq_true,if_false];omega
   · simp only [c,markN,ne_eq,not_false_eq_true,decide_true,if_true];omega
 · simp only [if_true]
   by_cases c:mq*1024%2^n=0
   · have e:mp*1024*2^n-mq*1024=(mp*1024-mq*1024/2^n)*2^n:=by
       rw [Nat.sub_mul];omega
     rw [e,Nat.mul_div_cancel _ hD,Nat.mul_mod_left]
     simp only [c,markN,ne_eq,not_true_eq_false,decide_false,Bool.false_eq_true,if_false]
   · have hk:mq*1024/2^n<mp*1024:=by
       rw [Nat.div_lt_iff_lt_mul hD]
       rcases Nat.lt_or_eq_of_le h1 with d | d
       · exact d
       · rw [d,Nat.mul_mod_left] at c;exact absurd rfl c
     have e:mp*1024*2^n-mq*1024=(2^n-mq*1024%2^n)+(mp*1024-mq*1024/2^n-1)*2^n:=by
       have s1:(mp*1024-mq*1024/2^n-1)*2^n=mp*1024*2^n-mq*1024/2^n*2^n-2^n:=by rw [Nat.sub_mul,Nat.sub_mul,Nat.one_mul]
       have s2:(mq*1024/2^n+1)*2^n≤mp*1024*2^n:=Nat.mul_le_mul_right _ hk
       rw [Nat.succ_mul] at s2
       omega
     have lt:2^n-mq*1024%2^n<2^n:=by omega
     rw [e,Nat.add_mul_div_right _ _ hD,Nat.add_mul_mod_self_right,Nat.div_eq_of_lt lt,Nat.mod_eq_of_lt lt]
     have c2:2^n-mq*1024%2^n≠0:=by omega
     simp only [c,c2,markN,ne_eq,not_false_eq_true,decide_true,if_true]
     generalize mq*1024/2^n=k at *
     omega
theorem big_sum {y p q:Nat} {g:Bool} (h3:4611686018427387904≤y) (hp:2048≤p) (hq:q≤9223372036854775808):36028797018963968*p≤if g then y*p-q else y*p+q:=by
 have b2:=Nat.mul_le_mul_right p h3
 generalize y*p=z at *
 cases g
 · simp only [Bool.false_eq_true,if_false];omega
 · simp only [if_true];omega
theorem add_near {gp gq:Bool} {mp mq:Nat} {ep eq:Int} {C:Cut} (hp:mp<9007199254740992) (hq:mq<9007199254740992) (e1:-1074≤eq) (e2:eq≤ep) (norm:eq<ep→4503599627370496≤mp) (same:ep=eq→mq≤mp)
   (hle:∀h,C.le h↔h≤2*(if gp != gq then mp*2^(ep+1074).toNat-mq*2^(eq+1074).toNat else mp*2^(ep+1074).toNat+mq*2^(eq+1074).toNat))
   (heq:∀h,C.eq h↔h=2*(if gp != gq then mp*2^(ep+1074).toNat-mq*2^(eq+1074).toNat else mp*2^(ep+1074).toNat+mq*2^(eq+1074).toNat)) :
   Near (addM gp mp ep gq mq eq) (ep-10) C∧mq*2^(eq+1074).toNat≤mp*2^(ep+1074).toNat:=by
 obtain⟨Q,hQ⟩:∃Q:Nat,(Q:Int)=eq+1074:=⟨(eq+1074).toNat,by omega⟩
 obtain⟨n,hn⟩:∃n:Nat,(n:Int)=ep-eq:=⟨(ep-eq).toNat,by omega⟩
 have tQ:(eq+1074).toNat=Q:=by omega
 have tP:(ep+1074).toNat=n+Q:=by omega
 have tn:(ep-eq).toNat=n:=by omega
 unfold addM
 rw [tn]
 simp only [tQ,tP] at hle heq ⊢
 have hle1:mq*1024≤mp*1024*2^n:=by
   by_cases z:n=0
   · subst z
     have:=same (by omega)
     simp;omega
   · have h2:2^1≤2^n:=Nat.pow_le_pow_right (by omega) (by omega)
     have:=norm (by omega)
     have h3:mp*1024*2≤mp*1024*2^n:=Nat.mul_le_mul_left _ h2
     omega
 have hle2:mq*2^Q≤mp*2^(n+Q):=by
   rw [Nat.pow_add,←Nat.mul_assoc]
   apply Nat.mul_le_mul_right
   have:mp*1024*2^n=mp*2^n*1024:=Nat.mul_right_comm _ _ _
   omega
 refine⟨?_,hle2⟩
 have hD:0<2^n:=Nat.two_pow_pos n
 have key:∀g:Bool,2*(if g then mp*2^(n+Q)-mq*2^Q else mp*2^(n+Q)+mq*2^Q)*2^10=(if g then mp*1024*2^n-mq*1024 else mp*1024*2^n+mq*1024)*2^(Q+1):=fun g=>by
   have x1:mp*1024*2^n*2^(Q+1)=2*(mp*2^(n+Q))*2^10:=by
     rw [Nat.pow_add 2 n Q,Nat.pow_succ]
     simp only [Nat.mul_comm,Nat.mul_left_comm,Nat.mul_assoc]
   have x2:mq*1024*2^(Q+1)=2*(mq*2^Q)*2^10:=by
     rw [Nat.pow_succ]
     simp only [Nat.mul_comm,Nat.mul_left_comm,Nat.mul_assoc]
   cases g
   · simp only [Bool.false_eq_true,if_false]
     rw [Nat.add_mul,x1,x2,Nat.mul_add,Nat.add_mul]
   · simp only [if_true]
     rw [Nat.sub_mul,x1,x2,Nat.mul_sub,Nat.sub_mul]
 have key:=key (gp != gq)
 have hA:=add_parts mp mq n (gp != gq) hle1
 have r1:(if gp != gq then mp*1024*2^n-mq*1024 else mp*1024*2^n+mq*1024)*2^(n+Q+1)=2*(if gp != gq then mp*2^(n+Q)-mq*2^Q else mp*2^(n+Q)+mq*2^Q)*2^10*2^n:=by
   rw [key,Nat.add_assoc,Nat.add_comm n,Nat.pow_add 2 (Q+1) n,←Nat.mul_assoc]
 refine near_of (T:=if gp != gq then mp*1024*2^n-mq*1024 else mp*1024*2^n+mq*1024) (D:=2^n) (a:=10) (b:=n+Q+1) hD (by omega) (fun h=>?_) (fun h=>?_) hA ?_
 · rw [hle h,r1,mul_two_pow_le,mul_two_pow_le]
 · rw [heq h,r1,mul_two_pow_eq,mul_two_pow_eq]
 · intro hr
   have hn11:11≤n:=by
     rcases Nat.lt_or_ge n 11 with c | c
     · exfalso
       apply hr
       have d:2^n ∣ 1024:=⟨2^(10-n),by rw [←Nat.pow_add,show n+(10-n)=10 by omega]⟩
       have d1:2^n ∣ mq*1024:=Nat.dvd_trans d (Nat.dvd_mul_left _ _)
       have d2:2^n ∣ mp*1024*2^n:=Nat.dvd_mul_left _ _
       cases (gp != gq)
       · simp only [Bool.false_eq_true,if_false]
         exact Nat.mod_eq_zero_of_dvd (Nat.dvd_add d2 d1)
       · simp only [if_true]
         exact Nat.mod_eq_zero_of_dvd (Nat.dvd_sub d2 d1)
     · exact c
   have:=norm (by omega)
   rw [Nat.le_div_iff_mul_le hD]
   have b1:2^11≤2^n:=Nat.pow_le_pow_right (by omega) hn11
   exact big_sum (by omega) b1 (by omega)
theorem round_down {x:Ex} (ok:x.Ok) {g:Bool} {M:Nat} {E:Int} (hM:M<18446744073709551616) (hE:-4096≤E∧E≤4096) (hz:M=0→x.le 0∧x.ge 0) (hg:if g then x.ge 0 else x.le 0) (near:M≠0→Near M E (x.amt g)) :
   KDown x (key (roundN g M E (-1))):=by
 unfold roundN
 by_cases h0:M=0
 · rw [if_pos h0]
   obtain⟨l,u⟩:=hz h0
   have hk:key 0=0:=rfl
   rw [hk]
   refine⟨by omega,by omega,Or.inr ?_,Or.inr fun c=>?_⟩
   · rw [V_zero];exact l
   · have:=ok.sep u c
     have h1:=V_pos (show (0:Int)<0+1 by omega)
     omega
 · rw [if_neg h0]
   have ec:clampN E=E:=by unfold clampN;omega
   have es:sideN (-1) g=if g then 2 else 0:=by cases g <;> rfl
   rw [ec,es]
   have hr:=rung_is (ok.cut hg) (near h0) h0 hM (s:=if g then 2 else 0) (by cases g <;> simp)
   have hle:rungN (topN M) (E-shiftN M) (if g then 2 else 0)≤9218868437227405312:=by
     obtain⟨d,hd,r0,r2, -⟩:=hr
     have:=hd.top
     cases g
     · have:=r0 rfl;omega
     · rcases r2 rfl with ⟨-,c⟩ | ⟨-,c⟩ <;> omega
   rw [(signN_facts g _ hle).2.2.2]
   exact kdown_of ok hg hr
theorem sum_abs {Ap Aq:Nat} {gp gq:Bool} (h:Aq≤Ap):(2*((if gp then -(Ap:Int) else Ap)+(if gq then -(Aq:Int) else Aq))).natAbs=2*(if gp != gq then Ap-Aq else Ap+Aq) ∧
   (if gp then 2*((if gp then -(Ap:Int) else Ap)+(if gq then -(Aq:Int) else Aq))≤0 else 0≤2*((if gp then -(Ap:Int) else Ap)+(if gq then -(Aq:Int) else Aq))):=by
 cases gp <;> cases gq <;> simp <;> omega
theorem sum_first {gp gq:Bool} {mp mq:Nat} {ep eq:Int} (hp:mp<9007199254740992) (hq:mq<9007199254740992) (e1:-1074≤eq) (e3:ep≤971) (e2:eq≤ep) (norm:eq<ep→4503599627370496≤mp) (same:ep=eq→mq≤mp)
   (hM:addM gp mp ep gq mq eq<18446744073709551616) :
   KDown (exQ (2*((if gp then -((mp*2^(ep+1074).toNat:Nat):Int) else (mp*2^(ep+1074).toNat:Nat))+(if gq then -((mq*2^(eq+1074).toNat:Nat):Int) else (mq*2^(eq+1074).toNat:Nat)))) 1) (key (roundN gp (addM gp mp ep gq mq eq) (ep-10) (-1))):=by
 have hle:mq*2^(eq+1074).toNat≤mp*2^(ep+1074).toNat :=
   (add_near (gp:=gp) (gq:=gq) (C:=⟨fun h=>h≤_,fun h=>h=_⟩) hp hq e1 e2 norm same (fun h=>Iff.rfl) (fun h=>Iff.rfl)).2
 have ha:=fun gp gq=>sum_abs (gp:=gp) (gq:=gq) hle
 have nr:=fun C=>add_near (gp:=gp) (gq:=gq) (C:=C) hp hq e1 e2 norm same
 generalize mp*2^(ep+1074).toNat=Ap at *
 generalize mq*2^(eq+1074).toNat=Aq at *
 obtain⟨a1,a2⟩:=ha gp gq
 generalize 2*((if gp then -(Ap:Int) else Ap)+(if gq then -(Aq:Int) else Aq))=N at *
 have near:Near (addM gp mp ep gq mq eq) (ep-10) ((exQ N 1).amt gp):=by
   refine (nr _ (fun h=>?_) (fun h=>?_)).1
   · rw [(amt_Q a2 h).1,a1,Nat.mul_one]
   · rw [(amt_Q a2 h).2,a1,Nat.mul_one]
 refine round_down (exQ_ok N (by omega)) hM (by omega) (fun h0=>?_) ?_ (fun _=>near)
 · rw [h0] at near
   obtain⟨a,b, -,hc | ⟨odd, -, -⟩⟩:=near
   · have h1:=(hc 0).2.2 (by simp)
     have h2:=(amt_Q a2 0).2.1 h1
     have:N=0:=by omega
     subst this
     exact⟨by simp [exQ],by simp [exQ]⟩
   · omega
 · cases gp
   · simpa [exQ] using a2
   · simpa [exQ] using a2
theorem signed_val {x:Nat} (hx:x<18446744073709551616) (hf:finB x=true):V (key x)=if splitG x then -((splitM x*2^(splitE x+1074).toNat:Nat):Int) else ((splitM x*2^(splitE x+1074).toNat:Nat):Int):=by
 rw [key_val hx,split_val hf]
theorem near_self {m:Nat} {e:Int} (he:-1074≤e) {C:Cut} (hle:∀h,C.le h↔h≤2*(m*2^(e+1074).toNat)) (heq:∀h,C.eq h↔h=2*(m*2^(e+1074).toNat)):Near m e C:=by
 obtain⟨P,hP⟩:∃P:Nat,(P:Int)=e+1074:=⟨(e+1074).toNat,by omega⟩
 have tP:(e+1074).toNat=P:=by omega
 simp only [tP] at hle heq
 refine⟨0,P+1,by omega,Or.inl fun h=>?_⟩
 have e1:m*2^(P+1)=2*(m*2^P):=by rw [Nat.pow_succ,←Nat.mul_assoc,Nat.mul_comm]
 rw [hle h,heq h,e1,Nat.pow_zero,Nat.mul_one]
 exact⟨Iff.rfl,Iff.rfl⟩
theorem self_down {g:Bool} {m:Nat} {e:Int} (hm:m<9007199254740992) (he:-1074≤e∧e≤971) :
   KDown (exQ (2*(if g then -((m*2^(e+1074).toNat:Nat):Int) else (m*2^(e+1074).toNat:Nat))) 1) (key (roundN g m e (-1))):=by
 have ns:=fun C=>near_self (m:=m) (e:=e) (C:=C) he.1
 have z:m=0→m*2^(e+1074).toNat=0:=fun h=>by rw [h,Nat.zero_mul]
 generalize m*2^(e+1074).toNat=A at *
 have hg:if g then 2*(if g then -(A:Int) else A)≤0 else 0≤2*(if g then -(A:Int) else (A:Int)):=by cases g <;> simp <;> omega
 have ha:(2*(if g then -(A:Int) else A)).natAbs=2*A:=by cases g <;> simp <;> omega
 generalize 2*(if g then -(A:Int) else (A:Int))=N at *
 refine round_down (exQ_ok N (by omega)) (by omega) (by omega) (fun h0=>?_) ?_ (fun _=>ns _ (fun h=>?_) (fun h=>?_))
 · have:N=0:=by have:=z h0;omega
   subst this
   exact⟨by simp [exQ],by simp [exQ]⟩
 · cases g
   · simpa [exQ] using hg
   · simpa [exQ] using hg
 · rw [(amt_Q hg h).1,ha,Nat.mul_one]
 · rw [(amt_Q hg h).2,ha,Nat.mul_one]
theorem addF_down {a b:Nat} (ha:a<18446744073709551616) (hb:b<18446744073709551616) (fa:finB a=true) (fb:finB b=true) :
   KDown (exQ (2*(V (key a)+V (key b))) 1) (key (addF a b (-1))):=by
 have hm:=sumM_lt (splitG a) (splitM a) (splitE a) (splitG b) (splitM b) (splitE b) (splitM_lt a) (splitM_lt b)
 have ea:=splitE_bounds fa
 have eb:=splitE_bounds fb
 have na:=splitM_norm fa
 have nb:=splitM_norm fb
 have la:=splitM_lt a
 have lb:=splitM_lt b
 rw [signed_val ha fa,signed_val hb fb]
 unfold addF
 generalize splitG a=gp at *
 generalize splitG b=gq at *
 generalize splitM a=mp at *
 generalize splitM b=mq at *
 generalize splitE a=ep at *
 generalize splitE b=eq at *
 unfold sumM at *
 unfold sumG sumE
 by_cases z1:mp=0
 · subst z1
   simp only [if_true,Nat.zero_mul] at *
   have:=self_down (g:=gq) (m:=mq) (e:=eq) lb eb
   have e0:(if gp then -((0:Nat):Int) else ((0:Nat):Int))=0:=by cases gp <;> rfl
   rw [e0,Int.zero_add]
   exact this
 · simp only [z1,if_false] at hm ⊢
   by_cases z2:mq=0
   · subst z2
     simp only [if_true,Nat.zero_mul] at *
     have:=self_down (g:=gp) (m:=mp) (e:=ep) la ea
     have e0:(if gq then -((0:Nat):Int) else ((0:Nat):Int))=0:=by cases gq <;> rfl
     rw [e0,Int.add_zero]
     exact this
   · simp only [z2,if_false] at hm ⊢
     have hsw:swapP mp ep mq eq=decide (ep<eq∨ep=eq∧mp<mq):=rfl
     by_cases sw:ep<eq∨ep=eq∧mp<mq
     · have hs:swapP mp ep mq eq=true:=by rw [hsw];simp [sw]
       simp only [hs,if_true] at hm ⊢
       rw [Int.add_comm]
       exact sum_first lb la ea.1 eb.2 (by omega) (fun h=>nb z2 (by omega)) (fun h=>by omega) hm
     · have hs:swapP mp ep mq eq=false:=by rw [hsw];simp [sw]
       simp only [hs,Bool.false_eq_true,if_false] at hm ⊢
       exact sum_first la lb eb.1 ea.2 (by omega) (fun h=>na z1 (by omega)) (fun h=>by omega) hm
theorem top_eq (m:Nat):topN m=m*2^shiftN m:=rfl
theorem shift_le (m:Nat):shiftN m≤63:=by unfold shiftN;omega
theorem prod_abs {Ap Aq:Nat} {gp gq:Bool}:((if gp then -(Ap:Int) else Ap)*(if gq then -(Aq:Int) else Aq)).natAbs=Ap*Aq ∧
   (if gp != gq then (if gp then -(Ap:Int) else Ap)*(if gq then -(Aq:Int) else Aq)≤0 else 0≤(if gp then -(Ap:Int) else Ap)*(if gq then -(Aq:Int) else Aq)):=by
 have e:((Ap:Int)*(Aq:Int))=((Ap*Aq:Nat):Int):=by simp
 cases gp <;> cases gq <;> simp only [Bool.false_eq_true,if_false,if_true,Int.neg_mul,Int.mul_neg,Int.neg_neg,e,bne_self_eq_false,Bool.bne_true,Bool.not_false,Bool.bne_false] <;> constructor <;> omega
theorem mulF_down {u:Nat} (hu:u=1073) {a b:Nat} (ha:a<18446744073709551616) (hb:b<18446744073709551616) (fa:finB a=true) (fb:finB b=true) (za:splitM a≠0) (zb:splitM b≠0) :
   KDown (exQ (V (key a)*V (key b)) (2^u)) (key (mulF a b (-1))):=by
 have ea:=splitE_bounds fa
 have eb:=splitE_bounds fb
 have la:=splitM_lt a
 have lb:=splitM_lt b
 have hm:=prodM_lt za zb (show splitM a<18446744073709551616 by omega) (show splitM b<18446744073709551616 by omega)
 have ta:=topN_bounds za (by omega)
 have tb:=topN_bounds zb (by omega)
 rw [signed_val ha fa,signed_val hb fb]
 unfold mulF
 generalize splitG a=gp at *
 generalize splitG b=gq at *
 generalize splitM a=mp at *
 generalize splitM b=mq at *
 generalize splitE a=ep at *
 generalize splitE b=eq at *
 obtain⟨P,hP⟩:∃P:Nat,(P:Int)=ep+1074:=⟨(ep+1074).toNat,by omega⟩
 obtain⟨Q,hQ⟩:∃Q:Nat,(Q:Int)=eq+1074:=⟨(eq+1074).toNat,by omega⟩
 have tP:(ep+1074).toNat=P:=by omega
 have tQ:(eq+1074).toNat=Q:=by omega
 rw [tP,tQ]
 obtain⟨a1,a2⟩:=prod_abs (Ap:=mp*2^P) (Aq:=mq*2^Q) (gp:=gp) (gq:=gq)
 generalize (if gp then -((mp*2^P:Nat):Int) else (mp*2^P:Nat))*(if gq then -((mq*2^Q:Nat):Int) else (mq*2^Q:Nat))=N at *
 have sp:=shift_le mp
 have sq:=shift_le mq
 have hT:topN mp*topN mq*2^(P+Q)=(mp*2^P*(mq*2^Q))*2^(shiftN mp+shiftN mq):=by
   rw [top_eq,top_eq,Nat.pow_add,Nat.pow_add]
   simp only [Nat.mul_comm,Nat.mul_left_comm,Nat.mul_assoc]
 have hmid:∀h:Nat,h*2^(u+shiftN mp+shiftN mq)=h*2^u*2^(shiftN mp+shiftN mq):=fun h=>by
   rw [Nat.add_assoc,Nat.pow_add,←Nat.mul_assoc]
 have big:36028797018963968≤topN mp*topN mq/18446744073709551616:=by
   rw [Nat.le_div_iff_mul_le (by omega)]
   exact Nat.le_trans (by omega) (Nat.mul_le_mul ta.1 tb.1)
 have hz:prodM mp mq≠0:=by
   intro h
   rcases mark_near (topN mp*topN mq) 18446744073709551616 (by omega) (show prodM mp mq=_ from rfl) with ⟨-,e⟩ | ⟨-,e, -⟩
   · rw [h,Nat.zero_mul] at e
     have:=Nat.mul_le_mul ta.1 tb.1
     omega
   · omega
 have d64:(18446744073709551616:Nat)=2^64:=rfl
 have hT2:topN mp*topN mq*2^(P+Q+64)=(mp*2^P*(mq*2^Q))*2^(shiftN mp+shiftN mq)*18446744073709551616:=by
   rw [Nat.pow_add 2 (P+Q) 64,←Nat.mul_assoc,hT]
 refine round_down (exQ_ok N (Nat.two_pow_pos u)) hm (by unfold prodE;omega) (fun h0=>absurd h0 hz) ?_ (fun _=>near_of (T:=topN mp*topN mq) (D:=18446744073709551616) (a:=u+shiftN mp+shiftN mq) (b:=P+Q+64) (by omega) (by unfold prodE;omega) (fun h=>?_) (fun h=>?_) rfl (fun _=>big))
 · cases h:(gp != gq)
   · rw [h] at a2;simpa [exQ] using a2
   · rw [h] at a2;simpa [exQ] using a2
 · rw [(amt_Q a2 h).1,a1,hT2,hmid,d64,mul_two_pow_le,mul_two_pow_le]
 · rw [(amt_Q a2 h).2,a1,hT2,hmid,d64,mul_two_pow_eq,mul_two_pow_eq]
end Go.Proofs.YtopfabemfbdccaaGreat
namespace Go.Proofs.YtopfabemfbdccaaGreat
theorem roundN_zero (g:Bool) (e e' dir:Int):roundN g 0 e dir=roundN g 0 e' dir:=by unfold roundN;rw [if_pos rfl,if_pos rfl]
theorem quo_abs {Ap c:Nat} {gp gq:Bool}:((if gq then -(if gp then -(Ap:Int) else Ap) else (if gp then -(Ap:Int) else Ap))*(c:Int)).natAbs=Ap*c ∧
   (if gp != gq then (if gq then -(if gp then -(Ap:Int) else Ap) else (if gp then -(Ap:Int) else Ap))*(c:Int)≤0 else 0≤(if gq then -(if gp then -(Ap:Int) else Ap) else (if gp then -(Ap:Int) else Ap))*(c:Int)):=by
 have e:((Ap:Int)*(c:Int))=((Ap*c:Nat):Int):=by simp
 cases gp <;> cases gq <;> simp only [Bool.false_eq_true,if_false,if_true,Int.neg_mul,Int.neg_neg,e,bne_self_eq_false,Bool.bne_true,Bool.not_false,Bool.bne_false] <;> constructor <;> omega
theorem divF_down {u:Nat} (hu:u=1075) {a b:Nat} (ha:a<18446744073709551616) (fa:finB a=true) (fb:finB b=true) (zb:isZ b=false) :
   KDown (exQ ((if splitG b then -V (key a) else V (key a))*((2^u:Nat):Int)) (val (b%9223372036854775808))) (key (divF a b (-1))):=by
 have ea:=splitE_bounds fa
 have eb:=splitE_bounds fb
 have la:=splitM_lt a
 have lb:=splitM_lt b
 have hm:=divM_lt (a:=a) zb
 have zb:=splitM_zero zb
 have tb:=topN_bounds zb (by omega)
 rw [signed_val ha fa,split_val fb]
 unfold divF
 generalize splitG a=gp at *
 generalize splitG b=gq at *
 generalize splitM a=mp at *
 generalize splitM b=mq at *
 generalize splitE a=ep at *
 generalize splitE b=eq at *
 obtain⟨P,hP⟩:∃P:Nat,(P:Int)=ep+1074:=⟨(ep+1074).toNat,by omega⟩
 obtain⟨Q,hQ⟩:∃Q:Nat,(Q:Int)=eq+1074:=⟨(eq+1074).toNat,by omega⟩
 have tP:(ep+1074).toNat=P:=by omega
 have tQ:(eq+1074).toNat=Q:=by omega
 rw [tP,tQ]
 have z0:mp=0→(if gq then -(if gp then -((mp*2^P:Nat):Int) else (mp*2^P:Nat)) else (if gp then -((mp*2^P:Nat):Int) else (mp*2^P:Nat)))*((2^u:Nat):Int)=0:=by
   rintro rfl
   cases gp <;> cases gq <;> simp
 obtain⟨a1,a2⟩:=quo_abs (Ap:=mp*2^P) (c:=2^u) (gp:=gp) (gq:=gq)
 generalize (if gq then -(if gp then -((mp*2^P:Nat):Int) else (mp*2^P:Nat)) else (if gp then -((mp*2^P:Nat):Int) else (mp*2^P:Nat)))*((2^u:Nat):Int)=N at *
 have sp:=shift_le mp
 have sq:=shift_le mq
 have hDD:0<mq*2^Q:=Nat.mul_pos (by omega) (Nat.two_pow_pos Q)
 by_cases za:mp=0
 · have:N=0:=z0 za
   subst this
   have t0:topN 0=0:=by unfold topN;simp
   have q0:quoM mp mq=0:=by rw [za];unfold quoM;rw [t0,Nat.zero_mul,Nat.zero_div,Nat.zero_mod];rfl
   rw [q0]
   rw [roundN_zero _ _ 0]
   refine round_down (exQ_ok 0 hDD) (by omega) (by omega) (fun _=>⟨by simp [exQ],by simp [exQ]⟩) ?_ (fun h=>absurd rfl h)
   cases (gp != gq) <;> simp [exQ]
 · have ta:=topN_bounds za (by omega)
   have big:36028797018963968≤topN mp*9223372036854775808/topN mq:=by
     rw [Nat.le_div_iff_mul_le (by omega)]
     omega
   have hz:quoM mp mq≠0:=by
     intro h
     rcases mark_near (topN mp*9223372036854775808) (topN mq) (by omega) (show quoM mp mq=_ from rfl) with ⟨-,e⟩ | ⟨-,e, -⟩
     · rw [h,Nat.zero_mul] at e;omega
     · omega
   have d63:(9223372036854775808:Nat)=2^63:=rfl
   have hT:topN mp*9223372036854775808*2^(P+u+shiftN mq)=(mp*2^P*2^u)*2^(shiftN mp+shiftN mq+63):=by
     rw [top_eq,d63]
     simp only [Nat.pow_add,Nat.mul_comm,Nat.mul_left_comm,Nat.mul_assoc]
   have hmid:∀h:Nat,h*2^(Q+shiftN mp+63)*topN mq=h*(mq*2^Q)*2^(shiftN mp+shiftN mq+63):=fun h=>by
     rw [top_eq]
     simp only [Nat.pow_add,Nat.mul_comm,Nat.mul_left_comm,Nat.mul_assoc]
   refine round_down (exQ_ok N hDD) hm (by unfold quoE;omega) (fun h0=>absurd h0 hz) ?_ (fun _=>near_of (T:=topN mp*9223372036854775808) (D:=topN mq) (a:=Q+shiftN mp+63) (b:=P+u+shiftN mq) (by omega) (by unfold quoE;omega) (fun h=>?_) (fun h=>?_) rfl (fun _=>big))
   · cases h:(gp != gq)
     · rw [h] at a2;simpa [exQ] using a2
     · rw [h] at a2;simpa [exQ] using a2
   · rw [(amt_Q a2 h).1,a1,hT,hmid,mul_two_pow_le]
   · rw [(amt_Q a2 h).2,a1,hT,hmid,mul_two_pow_eq]
end Go.Proofs.YtopfabemfbdccaaGreat
namespace Go.Proofs.YtopfabemfbdccaaGreat
theorem key_inf {x:Nat} (hx:x<18446744073709551616) (hn:nanB x=false):finB x=false↔(key x=9218868437227405312∨key x=-9218868437227405312):=by
 have h1:¬9218868437227405312<x%9223372036854775808:=by simpa [nanB] using hn
 unfold finB key
 simp only [decide_eq_false_iff_not]
 split <;> omega
theorem fin_key {x:Nat} (hx:x<18446744073709551616) (hf:finB x=true):-9218868437227405311≤key x∧key x≤9218868437227405311:=by
 have h1:x%9223372036854775808<9218868437227405312:=by simpa [finB] using hf
 unfold key;split <;> omega
theorem key_zero {x:Nat} (hx:x<18446744073709551616):isZ x=true↔key x=0:=by
 unfold isZ key
 simp only [decide_eq_true_eq]
 split <;> omega
theorem V_inj0 {k:Int}:V k=0↔k=0:=by
 constructor
 · intro h
   rcases Int.lt_trichotomy k 0 with c | c | c
   · have:=V_lt0 c;omega
   · exact c
   · have:=V_pos c;omega
 · rintro rfl;rfl
theorem sign_key {x:Nat} (hx:x<18446744073709551616) (hz:isZ x=false):signB x=decide (key x<0):=by
 have h:¬x%9223372036854775808=0:=by simpa [isZ] using hz
 unfold signB key
 rw [Bool.eq_iff_iff]
 simp only [decide_eq_true_eq]
 split <;> omega
theorem infW_key (g:Bool):key (infW g)=if g then -9218868437227405312 else 9218868437227405312:=by cases g <;> decide
theorem exQ_le {M N:Int} {D:Nat} (h:M≤N) (k:Int):(exQ M D).le k→(exQ N D).le k:=fun c=>Int.le_trans c h
theorem add_mono {a b c d:Nat} (ha:a<18446744073709551616) (hb:b<18446744073709551616) (hc:c<18446744073709551616) (hd:d<18446744073709551616) (fa:finB a=true) (fb:finB b=true) (fc:finB c=true) (fd:finB d=true) (h1:key a≤key c) (h2:key b≤key d) :
   key (addF a b (-1))≤key (addF c d (-1)) :=
 kdown_mono (exQ_ok _ (by omega)) (exQ_le (by have:=V_mono_le h1;have:=V_mono_le h2;omega)) (addF_down ha hb fa fb) (addF_down hc hd fc fd)
theorem mulF_zero_le {u:Nat} (hu:u=1073) {a b:Nat} (ha:a<18446744073709551616) (hb:b<18446744073709551616) (fa:finB a=true) (fb:finB b=true) (za:isZ a=false) (zb:isZ b=false) :
   KDown (exQ (V (key a)*V (key b)) (2^u)) (key (mulF a b (-1))):=mulF_down hu ha hb fa fb (splitM_zero za) (splitM_zero zb)
theorem kdown_zero {x:Ex} (ok:x.Ok) (l:x.le 0) (g:x.ge 0):KDown x 0:=by
 refine⟨by omega,by omega,Or.inr ?_,Or.inr fun c=>?_⟩
 · rw [V_zero];exact l
 · have:=ok.sep g c
   have h1:=V_pos (show (0:Int)<0+1 by omega)
   omega
theorem mulR_down {u:Nat} (hu:u=1073) {a b r:Nat} (ha:a<18446744073709551616) (hb:b<18446744073709551616) (fa:finB a=true) (fb:finB b=true) (h:mulR a b (-1)=some r) :
   KDown (exQ (V (key a)*V (key b)) (2^u)) (key r):=by
 unfold mulR at h
 rw [fin_not_nan fa,fin_not_nan fb] at h
 simp only [Bool.or_self,Bool.false_eq_true,if_false] at h
 by_cases z:(isZ a || isZ b)=true
 · rw [if_pos z] at h
   have hz:V (key a)*V (key b)=0:=by
     rcases Bool.or_eq_true _ _ |>.mp z with c | c
     · rw [(V_inj0).2 ((key_zero ha).1 c),Int.zero_mul]
     · rw [(V_inj0).2 ((key_zero hb).1 c),Int.mul_zero]
   obtain rfl:0=r:=by injection h
   rw [hz]
   have k0:key 0=0:=rfl
   rw [k0]
   exact kdown_zero (exQ_ok 0 (Nat.two_pow_pos u)) (by simp [exQ]) (by simp [exQ])
 · have z':(isZ a || isZ b)=false:=by simpa using z
   rw [z',fa,fb] at h
   simp only [Bool.false_eq_true,if_false,Bool.and_self,if_true] at h
   obtain rfl:mulF a b (-1)=r:=by injection h
   have z2:=Bool.or_eq_false_iff.1 z'
   exact mulF_zero_le hu ha hb fa fb z2.1 z2.2
theorem mulR_inf {p q r:Nat} {d:Int} (hp:p<18446744073709551616) (hq:q<18446744073709551616) (np:nanB p=false) (nq:nanB q=false) (hf:(finB p&&finB q)=false) (h:mulR p q d=some r) (hle:V (key p)*V (key q)≤0) :
   (V (key p)*V (key q)=0∧key r=0)∨key r=-9218868437227405312:=by
 unfold mulR at h
 rw [np,nq,hf] at h
 simp only [Bool.or_self,Bool.false_eq_true,if_false] at h
 by_cases z:(isZ p || isZ q)=true
 · rw [if_pos z] at h
   left
   refine⟨?_,by injection h with h;rw [←h];rfl⟩
   rcases Bool.or_eq_true _ _ |>.mp z with c | c
   · rw [(V_inj0).2 ((key_zero hp).1 c),Int.zero_mul]
   · rw [(V_inj0).2 ((key_zero hq).1 c),Int.mul_zero]
 · right
   have z':(isZ p || isZ q)=false:=by simpa using z
   rw [z'] at h
   simp only [Bool.false_eq_true,if_false] at h
   injection h with h
   have z2:=Bool.or_eq_false_iff.1 z'
   have kp:key p≠0:=fun c=>by rw [(key_zero hp).2 c] at z2;cases z2.1
   have kq:key q≠0:=fun c=>by rw [(key_zero hq).2 c] at z2;cases z2.2
   rw [←h,infW_key,sign_key hp z2.1,sign_key hq z2.2]
   rcases Int.lt_or_le (key p) 0 with c1 | c1 <;> rcases Int.lt_or_le (key q) 0 with c2 | c2
   · have:=Int.mul_pos_of_neg_of_neg (V_lt0 c1) (V_lt0 c2);omega
   · have c3:¬key q<0:=by omega
     simp [c1,c3]
   · have c3:¬key p<0:=by omega
     simp [c2,c3]
   · have:=Int.mul_pos (V_pos (show 0<key p by omega)) (V_pos (show 0<key q by omega));omega
theorem mul_le {p q a b r s:Nat} (hp:p<18446744073709551616) (hq:q<18446744073709551616) (ha:a<18446744073709551616) (hb:b<18446744073709551616) (np:nanB p=false) (nq:nanB q=false) (fa:finB a=true) (fb:finB b=true)
   (hr:mulR p q (-1)=some r) (hs:mulR a b (-1)=some s) (h:V (key p)*V (key q)≤V (key a)*V (key b)) (hi:(finB p&&finB q)=false→V (key p)*V (key q)≤0):key r≤key s:=by
 obtain⟨u,hu⟩:∃u:Nat,u=1073:=⟨_,rfl⟩
 have ks:=mulR_down hu ha hb fa fb hs
 by_cases f:(finB p&&finB q)=true
 · obtain⟨fp,fq⟩:=Bool.and_eq_true_iff.1 f
   exact kdown_mono (exQ_ok _ (Nat.two_pow_pos u)) (exQ_le h) (mulR_down hu hp hq fp fq hr) ks
 · have f':(finB p&&finB q)=false:=by simpa using f
   rcases mulR_inf hp hq np nq f' hr (hi f') with ⟨e,k⟩ | k
   · rw [k]
     clear hu
     have h0:KDown (exQ 0 (2^u)) 0:=kdown_zero (exQ_ok 0 (Nat.two_pow_pos u)) (by simp [exQ]) (by simp [exQ])
     exact kdown_mono (exQ_ok _ (Nat.two_pow_pos u)) (exQ_le (by rw [←e];exact h)) h0 ks
   · rw [k];exact ks.bot
theorem mul_top {a b s:Nat} (ha:a<18446744073709551616) (hb:b<18446744073709551616) (fa:finB a=true) (fb:finB b=true) (hs:mulR a b (-1)=some s):key s≤9218868437227405311:=by
 obtain⟨u,hu⟩:∃u:Nat,u=1073:=⟨_,rfl⟩
 exact (mulR_down hu ha hb fa fb hs).top
theorem valz {b:Nat} (zb:isZ b=false):0<val (b%9223372036854775808):=by
 have h:¬b%9223372036854775808=0:=by simpa [isZ] using zb
 have:=val_mono (show 0<b%9223372036854775808 by omega)
 rw [val_zero] at this
 exact this
theorem div_pos_down {u:Nat} (hu:u=1075) {a b:Nat} (ha:a<18446744073709551616) (hb:b<18446744073709551616) (fa:finB a=true) (fb:finB b=true) (kb:0<key b) :
   KDown (exQ (V (key a)*((2^u:Nat):Int)) (V (key b)).toNat) (key (divF a b (-1))):=by
 have zb:isZ b=false:=by
   cases h:isZ b
   · rfl
   · have:=(key_zero hb).1 h;omega
 have gb:splitG b=false:=by
   unfold splitG
   unfold key at kb
   simp only [decide_eq_false_iff_not]
   split at kb <;> omega
 have h:=divF_down hu ha fa fb zb
 rw [gb] at h
 have e:(V (key b)).toNat=val (b%9223372036854775808):=by rw [key_val hb,gb];simp
 rw [e]
 simpa using h
theorem div_flip {a b:Nat} (ha:a<18446744073709551616) (hb:b<18446744073709551616) (fa:finB a=true) (fb:finB b=true) (zb:isZ b=false):key (divF (negB a) (negB b) (-1))=key (divF a b (-1)):=by
 obtain⟨u,hu⟩:∃u:Nat,u=1075:=⟨_,rfl⟩
 have h1:=divF_down hu ha fa fb zb
 have h2:=divF_down hu (negB_lt ha) (by rw [finB_negB ha];exact fa) (by rw [finB_negB hb];exact fb) (by rw [isZ_negB hb];exact zb)
 rw [splitG_negB hb (splitM_zero zb),key_negB ha,V_neg,mod_negB hb] at h2
 have e:(if (!splitG b)=true then -(-V (key a)) else -V (key a))=(if splitG b=true then -V (key a) else V (key a)):=by
   cases splitG b <;> simp
 rw [e] at h2
 have ok:=exQ_ok ((if splitG b=true then -V (key a) else V (key a))*((2^u:Nat):Int)) (valz zb)
 exact Int.le_antisymm (kdown_mono ok (fun _ c=>c) h2 h1) (kdown_mono ok (fun _ c=>c) h1 h2)
theorem div_le {p q a b:Nat} (hp:p<18446744073709551616) (hq:q<18446744073709551616) (ha:a<18446744073709551616) (hb:b<18446744073709551616) (fp:finB p=true) (fq:finB q=true) (fa:finB a=true) (fb:finB b=true) (kq:0<key q) (kb:0<key b)
   (h:V (key p)*V (key b)≤V (key a)*V (key q)):key (divF p q (-1))≤key (divF a b (-1)):=by
 obtain⟨u,hu⟩:∃u:Nat,u=1075:=⟨_,rfl⟩
 have h1:=div_pos_down hu hp hq fp fq kq
 have h2:=div_pos_down hu ha hb fa fb kb
 have vq:=V_pos kq
 have vb:=V_pos kb
 have eq:((V (key q)).toNat:Int)=V (key q):=by omega
 have eb:((V (key b)).toNat:Int)=V (key b):=by omega
 have hc:(0:Int)≤((2^u:Nat):Int):=Int.natCast_nonneg _
 clear hu
 generalize ((2^u:Nat):Int)=c at *
 refine kdown_mono (exQ_ok _ (by omega)) (fun k hk=>?_) h1 h2
 have hk:k*((V (key q)).toNat:Int)≤V (key p)*c:=hk
 show k*((V (key b)).toNat:Int)≤V (key a)*c
 rw [eq] at hk
 rw [eb]
 generalize V (key p)=P at *
 generalize V (key q)=Q at *
 generalize V (key a)=A at *
 generalize V (key b)=B at *
 have s1:k*Q*B≤P*c*B:=Int.mul_le_mul_of_nonneg_right hk (by omega)
 have s2:P*B*c≤A*Q*c:=Int.mul_le_mul_of_nonneg_right h hc
 have s3:k*B*Q≤A*c*Q:=by
   have e1:k*Q*B=k*B*Q:=Int.mul_right_comm _ _ _
   have e2:P*c*B=P*B*c:=Int.mul_right_comm _ _ _
   have e3:A*Q*c=A*c*Q:=Int.mul_right_comm _ _ _
   rw [e1,e2] at s1
   rw [e3] at s2
   exact Int.le_trans s1 s2
 exact Int.le_of_mul_le_mul_right s3 vq
theorem div_bot {u:Nat} (hu:u=1075) {a b:Nat} (ha:a<18446744073709551616) (fa:finB a=true) (fb:finB b=true) (zb:isZ b=false):-9218868437227405312≤key (divF a b (-1))∧key (divF a b (-1))≤9218868437227405311 :=
 ⟨(divF_down hu ha fa fb zb).bot,(divF_down hu ha fa fb zb).top⟩
theorem div_nonneg {a b:Nat} (ha:a<18446744073709551616) (hb:b<18446744073709551616) (fa:finB a=true) (fb:finB b=true) (ka:0≤key a) (kb:0<key b):0≤key (divF a b (-1)):=by
 obtain⟨u,hu⟩:∃u:Nat,u=1075:=⟨_,rfl⟩
 have h2:=div_pos_down hu ha hb fa fb kb
 have vb:=V_pos kb
 have va:=V_nonneg ka
 have hc:(0:Int)≤((2^u:Nat):Int):=Int.natCast_nonneg _
 clear hu
 generalize ((2^u:Nat):Int)=c at *
 have h0:KDown (exQ 0 (V (key b)).toNat) 0:=kdown_zero (exQ_ok 0 (by omega)) (by simp [exQ]) (by simp [exQ])
 exact kdown_mono (exQ_ok _ (by omega)) (exQ_le (Int.mul_nonneg va hc)) h0 h2
end Go.Proofs.YtopfabemfbdccaaGreat
