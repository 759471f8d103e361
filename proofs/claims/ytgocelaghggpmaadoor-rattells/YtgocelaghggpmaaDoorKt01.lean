/- The walk of math/bits' Len64: how many bits a word has. Plain facts on the words of float64: their order is the order of their places (no Go text is spoken of here). Plain facts on float64's words: the sign bit, the bits of the exponent, the neighbours in the order of all floats. The walks of the small functions on floats: the words that they answer. The walk of Same, and plain facts on signs and neighbours of float64's words. The walks of math/bits' LeadingZeros64 and Mul64: how many bits a word has; the product of two words. The walks of the program's small functions on words: mark, moveDown, cut, goesOut, boundOf, sideOf, by plain functions on numbers. The walks of normal, roundAmount, Round and Split, by plain functions on numbers. The walk of Split: how the program takes a float apart. The walk of sum: the exact sum of two finite floats, with a mark for what is lost. The walk of product: the exact product of two amounts, with a mark for what is lost. Plain facts on the program's rounding, whatever is rounded: its three sides stand in order, no more than neighbours apart. Plain facts: what the program rounds an amount to is what the document asks for, of any exact amount that the parts stand for. Plain facts: numbers with signs, rounded down: the place of the greatest float that is not above; the greater the number, the greater the place. The walks of the program's small functions on intervals: infinite ends, signs of nought, which intervals hold some number. The walks of holdsSome and someEmpty: which intervals hold some number. The walks of Make, Point, Whole, mirror, Neg: intervals made of ends. The walks of Point, Whole, Right, and of math.Abs and math.IsInf. The walks of Has, Inside and Strict: what is asked of intervals. The walks of Inside and Strict. -/
import Derived.Test.YtgocelaghggpmaaDoorChecked
import Derived.Lib.Strings
import Derived.Lib.Slices
import Derived.Lib.Small
import Derived.Lib.Walk
import Derived.Lib.BitFns
import Derived.KernelRfl
import Derived.WalkKit
import Derived.Laws.Cover2
import Derived.Laws.FloatArith
import Derived.Laws.BitsAllLaws
import Derived.Test.YtgocelaghggpmaaDoorRows
import Derived.ProofKit
import Derived.OpenShut
import Derived.WalkSpells
import Derived.WalkLawsBesides
import Derived.Laws.Externs
import Derived.Laws.Bits64b
import Derived.Handy
import Derived.Deep.RegionWith
import Derived.Deep.QuietTactic
import Derived.BigQuiet
import Derived.Deep.RegionHeld3
import Derived.Deep.CutRange
import Derived.Deep.CutBlock
import Derived.Deep.LoopGhost
import Derived.WalkSmall
import Derived.Deep.Quiet
import Derived.StillTail
import Derived.Test.YtgocelaghggpmaaDoorShelf
import Derived.Lib.AppendIntMem
import Derived.Lib.ItoaLen
import Derived.ChangeSame
import Derived.JoinedOf
import Derived.JoinedAt
import Derived.RowKit3
import Derived.Lib.LaidTab
import Derived.Stop.LaidErr
import Derived.MakeChecks
import Derived.Test.YtgocelaghggpmaaDoorKa01
import Derived.Test.YtgocelaghggpmaaDoorKa02
import Derived.Test.YtgocelaghggpmaaDoorKa03
import Derived.Test.YtgocelaghggpmaaDoorKa04
import Derived.Test.YtgocelaghggpmaaDoorKa05
import Derived.Test.YtgocelaghggpmaaDoorKa06
import Derived.Test.YtgocelaghggpmaaDoorKa07
import Derived.Test.YtgocelaghggpmaaDoorKa08
import Derived.Test.YtgocelaghggpmaaDoorKa09
import Derived.Test.YtgocelaghggpmaaDoorKa10
import Derived.Test.YtgocelaghggpmaaDoorKa11
import Derived.Test.YtgocelaghggpmaaDoorKa12
import Derived.Test.YtgocelaghggpmaaDoorKa13
import Derived.Test.YtgocelaghggpmaaDoorKa14
import Derived.Test.YtgocelaghggpmaaDoorKa15
import Derived.Test.YtgocelaghggpmaaDoorKa16
import Derived.Test.YtgocelaghggpmaaDoorKa17
import Derived.Test.YtgocelaghggpmaaDoorKa18
import Derived.Test.YtgocelaghggpmaaDoorKa19
import Derived.Test.YtgocelaghggpmaaDoorKa20
import Derived.Test.YtgocelaghggpmaaDoorKa21
import Derived.Test.YtgocelaghggpmaaDoorKa22
import Derived.Test.YtgocelaghggpmaaDoorKa23
import Derived.Test.YtgocelaghggpmaaDoorKa24
import Derived.Test.YtgocelaghggpmaaDoorKa25
import Derived.Test.YtgocelaghggpmaaDoorKa26
import Derived.Test.YtgocelaghggpmaaDoorKa27
import Derived.Test.YtgocelaghggpmaaDoorKa28
import Derived.Test.YtgocelaghggpmaaDoorKa29
import Derived.Test.YtgocelaghggpmaaDoorKa30
import Derived.Test.YtgocelaghggpmaaDoorKa31
import Derived.Test.YtgocelaghggpmaaDoorKa32
import Derived.Test.YtgocelaghggpmaaDoorKa33
import Derived.Test.YtgocelaghggpmaaDoorKa34
import Derived.Test.YtgocelaghggpmaaDoorKa35
namespace Go.Proofs.YtgocelaghggpmaaDoor
theorem len_upper (X k z:Nat) (hX:X<18446744073709551616) (hz:z=X/2^k) (hk:2^k≤X):Lib.bitLen X=k+Lib.bitLen z:=by
 subst hz;exact Lib.bitLen_shift k X hk hX
theorem len_part (x b:Int) (k D:Nat) (h0:0≤x) (h1:x≤18446744073709551615) (hD:D=2^k) (hb:b.toNat=x.toNat/D) (hr:0≤b∧b≤255) (hk:(D:Int)≤x∨k=0) :
   Lib.len8 b+k=Lib.bitLen x.toNat∧0≤Lib.len8 b∧Lib.len8 b≤8:=by
 have e:=Lib.len8_of b hr.1 hr.2
 have l:=Lib.bitLen_le8' b hr.1 hr.2
 have u:Lib.bitLen x.toNat=k+Lib.bitLen b.toNat:=by
   rcases hk with hk | hk
   · exact len_upper x.toNat k b.toNat (by omega) (by rw [hb,hD]) (by rw [←hD];omega)
   · subst hk;subst hD;rw [hb];simp
 omega
set_option maxHeartbeats 1000000 in
set_option maxRecDepth 100000 in
theorem len64_i (x:Int) (w:World) (h0:0≤x) (h1:x≤18446744073709551615) :
   Calls Tryd.prog 117 #[.int .u64 x] w fun e w'=>e=.returned (.int .i64 (Lib.bitLen x.toNat))∧w=w':=by
 go_enter Tryd.func117,Tryd.ntmps117
 go_wp2
 all_goals go_ret
 all_goals refine⟨congrArg (fun n=>Ending.returned (Value.int IntKind.i64 n)) ?_,rfl⟩
 all_goals first
   | (rw [show x/4294967296/65536/256%256=x/72057594037927936%256 by omega];have c:=len_part x (x/72057594037927936%256) 56 72057594037927936 h0 h1 rfl (by omega) (by omega) (by omega);omega)
   | (rw [show x/4294967296/65536%256=x/281474976710656%256 by omega];have c:=len_part x (x/281474976710656%256) 48 281474976710656 h0 h1 rfl (by omega) (by omega) (by omega);omega)
   | (rw [show x/4294967296/256%256=x/1099511627776%256 by omega];have c:=len_part x (x/1099511627776%256) 40 1099511627776 h0 h1 rfl (by omega) (by omega) (by omega);omega)
   | (have c:=len_part x (x/4294967296%256) 32 4294967296 h0 h1 rfl (by omega) (by omega) (by omega);omega)
   | (rw [show x/65536/256%256=x/16777216%256 by omega];have c:=len_part x (x/16777216%256) 24 16777216 h0 h1 rfl (by omega) (by omega) (by omega);omega)
   | (have c:=len_part x (x/65536%256) 16 65536 h0 h1 rfl (by omega) (by omega) (by omega);omega)
   | (have c:=len_part x (x/256%256) 8 256 h0 h1 rfl (by omega) (by omega) (by omega);omega)
   | (have c:=len_part x (x%256) 0 1 h0 h1 rfl (by omega) (by omega) (by omega);omega)
end Go.Proofs.YtgocelaghggpmaaDoor
namespace Go.Proofs.YtgocelaghggpmaaDoor
end Go.Proofs.YtgocelaghggpmaaDoor
namespace Go.Proofs.YtgocelaghggpmaaDoor
end Go.Proofs.YtgocelaghggpmaaDoor
namespace Go.Proofs.YtgocelaghggpmaaDoor
open Go.ChangeShapes Go.WideShapes Go.ChangeAt Go.RowKit
@[go_sem] theorem fbits (x:Nat) (w:World):(callFunc 66 #[.float .f64 x]).run Tryd.prog w=.ok (.value (.int .u64 x)) w:=by
 rw [run_callFunc_extern (P:=Tryd.prog) (f:=66) (fn:=Tryd.f66) (e:=Extern.MathFloatBits.float64bits) Tryd.func66 (by kernel_rfl) (by kernel_rfl) (by kernel_rfl) (by kernel_rfl)]
 rfl
@[go_sem] theorem ffrom (n:Int) (w:World):(callFunc 100 #[.int .u64 n]).run Tryd.prog w=.ok (.value (.float .f64 n.toNat)) w:=by
 rw [run_callFunc_extern (P:=Tryd.prog) (f:=100) (fn:=Tryd.f100) (e:=Extern.MathFloatBits.float64frombits) Tryd.func100 (by kernel_rfl) (by kernel_rfl) (by kernel_rfl) (by kernel_rfl)]
 rfl
theorem isNum_w (x:Nat) (hx:x<18446744073709551616) (w:World) :
   Calls Tryd.prog 65 #[.float .f64 x] w fun e w'=>e=.returned (.bool (!nanB x))∧w=w':=by
 rcases cases0 x hx with ⟨hn,ho,_⟩ | ⟨hn,ho,_⟩ | ⟨hn,ho,_⟩ | ⟨hn,ho,_⟩
 all_goals
   go_enter Tryd.func65,Tryd.ntmps65
   go_wp2
   all_goals (go_ret;rw [hn];exact⟨rfl,rfl⟩)
theorem nanB_key {x:Nat} (hx:x<18446744073709551616) (hn:nanB x=false):-9218868437227405312≤key x∧key x≤9218868437227405312:=by
 unfold nanB at hn;simp at hn;unfold key;split <;> omega
@[go_sem] theorem unary_neg_f64 (x:Nat) (w:World):(Op.unary .neg (.float .f64 x)).run Tryd.prog w=.ok (.float .f64 (Op.negFloat .f64 x)) w:=rfl
def sameB (a b:Nat):Bool:=if nanB a || nanB b then nanB a&&nanB b else decide (a=b)
theorem same_w (a b:Nat) (ha:a<18446744073709551616) (hb:b<18446744073709551616) (w:World) :
   Calls Tryd.prog 35 #[.float .f64 a,.float .f64 b] w fun e w'=>e=.returned (.bool (sameB a b))∧w=w':=by
 have hs:nanB a=false→nanB b=false→sameB a b=((a:Int)==(b:Int)):=fun h1 h2=>by
   unfold sameB;rw [h1,h2]
   by_cases e:a=b
   · subst e;simp
   · have:¬(a:Int)=(b:Int):=by omega
     simp [e,this]
 have hs2:(nanB a || nanB b)=true→sameB a b=(nanB a&&nanB b):=fun h=>by unfold sameB;rw [if_pos h]
 cases hna:nanB a <;> cases hnb:nanB b
 · rw [hs hna hnb];clear hs hs2
   go_enter Tryd.func35,Tryd.ntmps35
   go_wp2_with (first | (go_at_call 65;refine (isNum_w _ (by assumption) _).mono ?_;rintro _ _ ⟨rfl,rfl⟩))
   all_goals (go_ret;exact⟨rfl,rfl⟩)
 all_goals
   rw [hs2 (by rw [hna,hnb];rfl),hna,hnb];clear hs hs2
   go_enter Tryd.func35,Tryd.ntmps35
   go_wp2_with (first | (go_at_call 65;refine (isNum_w _ (by assumption) _).mono ?_;rintro _ _ ⟨rfl,rfl⟩))
   all_goals (go_ret;exact⟨rfl,rfl⟩)
theorem sameB_refl (a:Nat):sameB a a=true:=by unfold sameB;cases nanB a <;> simp
end Go.Proofs.YtgocelaghggpmaaDoor
namespace Go.Proofs.YtgocelaghggpmaaDoor
open Go.RowKit
theorem bitLen_log2 (m:Nat) (h0:m≠0) (h:m<18446744073709551616):Lib.bitLen m=m.log2+1:=by
 have hl:m.log2<64:=(Nat.log2_lt h0).2 h
 have h1:=Lib.bitLen_shift m.log2 m (Nat.log2_self_le h0) h
 have h2:m/2^m.log2=1:=by
   have a:=Nat.log2_self_le h0
   have b:=@Nat.lt_log2_self m
   rw [Nat.pow_succ] at b
   have hp:0<2^m.log2:=Nat.two_pow_pos _
   have l1:1≤m/2^m.log2:=(Nat.le_div_iff_mul_le hp).2 (by omega)
   have l2:m/2^m.log2<2:=(Nat.div_lt_iff_lt_mul hp).2 (by omega)
   omega
 rw [h1,h2]
 rfl
theorem lz_w (m:Nat) (h0:m≠0) (h:m<18446744073709551616) (w:World) :
   Calls Tryd.prog 68 #[.int .u64 m] w fun e w'=>e=.returned (.int .i64 ((63-m.log2:Nat):Int))∧w=w':=by
 have hl:m.log2<64:=(Nat.log2_lt h0).2 h
 have c:=fun w=>len64_i (m:Int) w (by omega) (by omega)
 rw [Int.toNat_natCast,bitLen_log2 m h0 h] at c
 have e:(64:Int)-(((m.log2+1:Nat)):Int)=((63-m.log2:Nat):Int):=by omega
 generalize m.log2+1=l at *
 go_enter Tryd.func68,Tryd.ntmps68
 go_wp2_with (go_at_call 117;refine (c _).mono ?_;rintro _ _ ⟨rfl,rfl⟩)
 all_goals (go_ret;exact⟨rfl,rfl⟩)
end Go.Proofs.YtgocelaghggpmaaDoor
namespace Go.Proofs.YtgocelaghggpmaaDoor
open Go.ChangeShapes Go.WideShapes Go.ChangeAt Go.RowKit
def markN (m:Nat) (l:Bool):Nat:=if l then m/2*2+1 else m
def sideN (dir:Int) (neg:Bool):Int:=if dir=0 then 1 else if decide (0<dir) != neg then 2 else 0
def keptN (m drop:Nat):Nat:=if 64<drop then 0 else m/2^drop
def restN (m drop:Nat):Nat:=if 64<drop then 1 else m%2^drop*2^(64-drop)
def goesN (kept rest:Nat) (s:Int):Bool:=if s=0 then false else if s=2 then decide (rest≠0) else decide (9223372036854775808<rest∨rest=9223372036854775808∧kept%2=1)
theorem or_one (m:Nat):m ||| 1=m/2*2+1:=by
 have h:=nat_join 1 (m/2*2) 1 (by omega) (by omega)
 rcases Nat.mod_two_eq_zero_or_one m with e | e
 · have e2:m/2*2=m:=by omega
   rw [e2] at h ⊢;exact h
 · have e2:m/2*2+1=m:=by omega
   rw [e2] at h ⊢
   have h3:m ||| 1=(m/2*2 ||| 1) ||| 1:=by rw [h]
   rw [h3,Nat.or_assoc,Nat.or_self,h]
theorem div_big {m n:Nat} (hm:m<18446744073709551616) (h:64≤n):m/2^n=0 :=
 Nat.div_eq_of_lt (Nat.lt_of_lt_of_le (show m<2^64 from hm) (Nat.pow_le_pow_right (by omega) h))
theorem shl_mod (m k:Nat) (hk:k≤64):m*2^(64-k)%18446744073709551616=m%2^k*2^(64-k):=by
 have h:2^k*2^(64-k)=2^64:=by rw [←Nat.pow_add];congr 1;omega
 show m*2^(64-k)%2^64=_
 rw [←h,Nat.mul_mod_mul_right]
theorem cut_w (m n:Nat) (w:World) :
   Calls Tryd.prog 120 #[.int .u64 m,.int .i64 n] w fun e w'=>e=.returned (.tuple #[.int .u64 (keptN m n),.int .u64 (restN m n)])∧Below w.heap.size w w':=by
 by_cases h:64<n
 · have e1:keptN m n=0:=by unfold keptN;rw [if_pos h]
   have e2:restN m n=1:=by unfold restN;rw [if_pos h]
   rw [e1,e2]
   have h':(64:Int)<(n:Int):=by omega
   go_enter Tryd.func120,Tryd.ntmps120
   go_wp2
   go_ret2
   exact⟨rfl,Below.refl _ _⟩
 · have h':¬(64:Int)<(n:Int):=by omega
   have hle:n≤64:=by omega
   have e1:keptN m n=m/2^n:=by unfold keptN;rw [if_neg h]
   have e2:restN m n=m%2^n*2^(64-n):=by unfold restN;rw [if_neg h]
   have e3:(m:Int)/2^n=((keptN m n:Nat):Int):=by rw [e1];simp
   have e4:IntKind.u64.wrap ((m:Int)*2^(64-n))=((restN m n:Nat):Int):=by
     rw [e2,←shl_mod m n hle,IntKind.wrap_u64];simp
   clear e1 e2
   go_enter Tryd.func120,Tryd.ntmps120
   go_wp2
   go_region
   all_goals go_wp2
   all_goals go_ret2
   all_goals exact⟨rfl,(Below.refl _ _).drew⟩
theorem goesOut_w (k r:Nat) (s:Int) (hk:k<18446744073709551616) (w:World) :
   Calls Tryd.prog 121 #[.int .u64 k,.int .u64 r,.int .i64 s] w fun e w'=>e=.returned (.bool (goesN k r s))∧w=w':=by
 by_cases h0:s=0
 · subst h0
   go_enter Tryd.func121,Tryd.ntmps121
   go_wp2
   all_goals (go_ret;exact⟨rfl,rfl⟩)
 · by_cases h2:s=2
   · subst h2
     have e:goesN k r 2=((r:Int) != 0):=by
       show decide (r≠0)=_
       rw [Bool.eq_iff_iff];simp
     rw [e]
     go_enter Tryd.func121,Tryd.ntmps121
     go_wp2
     all_goals (go_ret;exact⟨rfl,rfl⟩)
   · have h0':(s==0)=false:=by simp [h0]
     have h2':(s==2)=false:=by simp [h2]
     have ha:bits BinOp.and IntKind.u64 (k:Int) 1=((k%2:Nat):Int):=by
       rw [show (1:Int)=((1:Nat):Int) from rfl,u64_and_nat k 1 hk (by decide),nat_mask1]
     have eg:goesN k r s=decide (9223372036854775808<r∨r=9223372036854775808∧k%2=1):=by unfold goesN;rw [if_neg h0,if_neg h2]
     rcases Nat.lt_trichotomy r 9223372036854775808 with hr | hr | hr
     · have e:goesN k r s=false:=by rw [eg];simp;omega
       rw [e];clear eg e ha
       go_enter Tryd.func121,Tryd.ntmps121
       go_wp2
       all_goals (go_ret;refine⟨?_,rfl⟩)
       all_goals (show Ending.returned (Value.bool _)=_;congr 2;simp;omega)
     · have e:goesN k r s=(((k%2:Nat):Int)==1):=by
         rw [eg,Bool.eq_iff_iff]
         simp only [decide_eq_true_eq,beq_iff_eq]
         omega
       rw [e,←ha];clear eg e ha
       subst hr
       go_enter Tryd.func121,Tryd.ntmps121
       go_wp2
       all_goals (go_ret;exact⟨rfl,rfl⟩)
     · have e:goesN k r s=true:=by rw [eg];simp;omega
       rw [e];clear eg e ha
       go_enter Tryd.func121,Tryd.ntmps121
       go_wp2
       all_goals (go_ret;exact⟨rfl,rfl⟩)
def boundN (s:Int):Nat:=if s=0 then 9218868437227405311 else 9218868437227405312
theorem boundOf_w (s:Int) (w:World) :
   Calls Tryd.prog 119 #[.int .i64 s] w fun e w'=>e=.returned (.int .u64 (boundN s))∧w=w':=by
 by_cases h0:s=0
 · subst h0
   go_enter Tryd.func119,Tryd.ntmps119
   go_wp2
   all_goals (go_ret;exact⟨rfl,rfl⟩)
 · have h0':(s==0)=false:=by simp [h0]
   have e:boundN s=9218868437227405312:=by unfold boundN;rw [if_neg h0]
   rw [e]
   go_enter Tryd.func119,Tryd.ntmps119
   go_wp2
   all_goals (go_ret;exact⟨rfl,rfl⟩)
theorem sideOf_w (dir:Int) (neg:Bool) (w:World) :
   Calls Tryd.prog 74 #[.int .i64 dir,.bool neg] w fun e w'=>e=.returned (.int .i64 (sideN dir neg))∧w=w':=by
 rcases Int.lt_trichotomy dir 0 with h | h | h
 · have h':(dir==0)=false:=by simp;omega
   have h2:decide (0<dir)=false:=by simp;omega
   have e:sideN dir neg=if neg then 2 else 0:=by unfold sideN;rw [if_neg (by omega),h2];cases neg <;> rfl
   rw [e];clear e
   cases neg
   all_goals
     go_enter Tryd.func74,Tryd.ntmps74
     go_wp2
     all_goals (go_ret;exact⟨rfl,rfl⟩)
 · subst h
   go_enter Tryd.func74,Tryd.ntmps74
   go_wp2
   all_goals (go_ret;exact⟨rfl,rfl⟩)
 · have h':(dir==0)=false:=by simp;omega
   have h2:decide (0<dir)=true:=by simp;omega
   have e:sideN dir neg=if neg then 0 else 2:=by unfold sideN;rw [if_neg (by omega),h2];cases neg <;> rfl
   rw [e];clear e
   cases neg
   all_goals
     go_enter Tryd.func74,Tryd.ntmps74
     go_wp2
     all_goals (go_ret;exact⟨rfl,rfl⟩)
def shiftN (m:Nat):Nat:=63-m.log2
def topN (m:Nat):Nat:=m*2^shiftN m
def dropN (e:Int):Nat:=(max 11 (-1074-e)).toNat
def rungN (m:Nat) (e s:Int):Nat :=
 if 971<e+dropN e then boundN s else (e+dropN e+1074).toNat*4503599627370496+keptN m (dropN e)+(goesN (keptN m (dropN e)) (restN m (dropN e)) s).toNat
def clampN (e:Int):Int:=min (max e (-4096)) 4096
def signN (g:Bool) (b:Nat):Nat:=if g then (if b=0 then 0 else b+9223372036854775808) else b
def roundN (g:Bool) (m:Nat) (e dir:Int):Nat:=if m=0 then 0 else signN g (rungN (topN m) (clampN e-shiftN m) (sideN dir g))
theorem topN_bounds {m:Nat} (h0:m≠0) (h:m<18446744073709551616):9223372036854775808≤topN m∧topN m<18446744073709551616:=by
 have hl:m.log2<64:=(Nat.log2_lt h0).2 h
 have a:=Nat.log2_self_le h0
 have b:=@Nat.lt_log2_self m
 unfold topN shiftN
 have e1:2^m.log2*2^(63-m.log2)=2^63:=by rw [←Nat.pow_add];congr 1;omega
 have e2:2^(m.log2+1)*2^(63-m.log2)=2^64:=by rw [←Nat.pow_add];congr 1;omega
 have c1:=Nat.mul_le_mul_right (2^(63-m.log2)) a
 have c2:=Nat.mul_lt_mul_of_pos_right b (Nat.two_pow_pos (63-m.log2))
 rw [e1] at c1
 rw [e2] at c2
 exact⟨c1,c2⟩
theorem normal_core (g:Bool) (m l k:Nat) (e:Int) (hl:l≤63) (he1:-1000000≤e) (he2:e≤1000000) (hlz:∀w,Calls Tryd.prog 68 #[.int .u64 m] w fun e w'=>e=.returned (.int .i64 (l:Int))∧w=w')
   (hk:IntKind.u64.wrap ((m:Int)*2^l)=(k:Int)) (w:World) :
   Calls Tryd.prog 73 #[.agg #[.bool g,.int .u64 m,.int .i64 e]] w fun r w'=>r=.returned (.agg #[.bool g,.int .u64 k,.int .i64 (e-l)])∧Below w.heap.size w w':=by
 go_enter Tryd.func73,Tryd.ntmps73
 go_wp2_with (go_at_call 68;refine (hlz _).mono ?_;rintro _ _ ⟨rfl,rfl⟩)
 all_goals (go_returns;exact⟨rfl,by go_grown⟩)
theorem normal_w (g:Bool) (m:Nat) (e:Int) (h0:m≠0) (h:m<18446744073709551616) (he1:-1000000≤e) (he2:e≤1000000) (w:World) :
   Calls Tryd.prog 73 #[.agg #[.bool g,.int .u64 m,.int .i64 e]] w fun r w'=>r=.returned (.agg #[.bool g,.int .u64 (topN m),.int .i64 (e-shiftN m)])∧Below w.heap.size w w':=by
 refine normal_core g m (shiftN m) (topN m) e (by unfold shiftN;omega) he1 he2 (fun w=>lz_w m h0 h w) ?_ w
 have hb:=topN_bounds h0 h
 have e1:(m:Int)*2^shiftN m=((topN m:Nat):Int):=by unfold topN;simp
 rw [e1,IntKind.wrap_u64];omega
theorem roundAmount_core (g:Bool) (m d k r:Nat) (e s:Int) (o:Bool) (he1:-10000≤e) (he2:e≤10000) (hd:max 11 (-1074-e)=(d:Int)) (h971:e+(d:Int)≤971) (hd2:-1074≤e+(d:Int))
   (hcut:∀w,Calls Tryd.prog 120 #[.int .u64 m,.int .i64 d] w fun e w'=>e=.returned (.tuple #[.int .u64 k,.int .u64 r])∧Below w.heap.size w w')
   (hgo:∀w,Calls Tryd.prog 121 #[.int .u64 k,.int .u64 r,.int .i64 s] w fun e w'=>e=.returned (.bool o)∧w=w')
   (hk:k≤9007199254740992) (w:World) :
   Calls Tryd.prog 72 #[.agg #[.bool g,.int .u64 m,.int .i64 e],.int .i64 s] w fun r w'=>r=.returned (.int .u64 ((e+d+1074)*4503599627370496+(k+(if o then 1 else 0))))∧Below w.heap.size w w':=by
 cases o
 all_goals
   go_enter Tryd.func72,Tryd.ntmps72
   go_wp2_with (first | (go_at_call 120;refine (hcut _).mono ?_;rintro _ w1 ⟨rfl,hb⟩) | (go_at_call 121;refine (hgo _).mono ?_;rintro _ _ ⟨rfl,rfl⟩))
   all_goals (go_ret;refine⟨rfl,later ?_ hb⟩;go_grown)
theorem roundAmount_far (g:Bool) (m:Nat) (e s:Int) (he1:-10000≤e) (he2:e≤10000) (h971:971<e+max 11 (-1074-e)) (w:World) :
   Calls Tryd.prog 72 #[.agg #[.bool g,.int .u64 m,.int .i64 e],.int .i64 s] w fun r w'=>r=.returned (.int .u64 (boundN s))∧Below w.heap.size w w':=by
 go_enter Tryd.func72,Tryd.ntmps72
 go_wp2_with (first | (go_at_call 119;refine (boundOf_w s _).mono ?_;rintro _ _ ⟨rfl,rfl⟩))
 all_goals (go_ret;refine⟨rfl, ?_⟩;go_grown)
theorem keptN_le {m d:Nat} (hm:m<18446744073709551616) (hd:11≤d):keptN m d≤9007199254740992:=by
 unfold keptN
 split
 · omega
 · have h1:m/2^d≤m/2^11:=Nat.div_le_div_left (Nat.pow_le_pow_right (by omega) hd) (Nat.two_pow_pos _)
   have h2:m/2^11<2^53:=Nat.div_lt_of_lt_mul (by rw [←Nat.pow_add];exact hm)
   omega
theorem roundAmount_w (g:Bool) (m:Nat) (e s:Int) (hm:m<18446744073709551616) (he1:-10000≤e) (he2:e≤10000) (w:World) :
   Calls Tryd.prog 72 #[.agg #[.bool g,.int .u64 m,.int .i64 e],.int .i64 s] w fun r w'=>r=.returned (.int .u64 (rungN m e s))∧Below w.heap.size w w':=by
 have hd:max 11 (-1074-e)=((dropN e:Nat):Int):=by unfold dropN;omega
 have hd11:11≤dropN e:=by unfold dropN;omega
 unfold rungN
 by_cases h:971<e+(dropN e:Int)
 · rw [if_pos h]
   exact roundAmount_far g m e s he1 he2 (by rw [hd];exact h) w
 · rw [if_neg h]
   have hk:=keptN_le (d:=dropN e) hm hd11
   have hk2:keptN m (dropN e)<18446744073709551616:=by omega
   have hc:=roundAmount_core g m (dropN e) (keptN m (dropN e)) (restN m (dropN e)) e s (goesN (keptN m (dropN e)) (restN m (dropN e)) s) he1 he2 hd (by omega) (by omega) (fun w=>cut_w m (dropN e) w) (fun w=>goesOut_w _ _ s hk2 w) hk w
   have e1:(((e+(dropN e:Int)+1074).toNat*4503599627370496+keptN m (dropN e)+(goesN (keptN m (dropN e)) (restN m (dropN e)) s).toNat:Nat):Int)=(e+(dropN e:Int)+1074)*4503599627370496+((keptN m (dropN e):Int)+(if goesN (keptN m (dropN e)) (restN m (dropN e)) s then 1 else 0)):=by
     cases goesN (keptN m (dropN e)) (restN m (dropN e)) s <;> simp <;> omega
   rw [e1]
   exact hc
theorem rungN_lt {m:Nat} {e s:Int} (hm:m<18446744073709551616):rungN m e s<9223372036854775808:=by
 unfold rungN
 have hd11:11≤dropN e:=by unfold dropN;omega
 have hk:=keptN_le (d:=dropN e) hm hd11
 split
 · unfold boundN;split <;> omega
 · cases goesN (keptN m (dropN e)) (restN m (dropN e)) s <;> simp <;> omega
theorem round_zero (g:Bool) (e dir:Int) (w:World) :
   Calls Tryd.prog 39 #[.agg #[.bool g,.int .u64 0,.int .i64 e],.int .i64 dir] w fun r w'=>r=.returned (.float .f64 0)∧Below w.heap.size w w':=by
 go_enter Tryd.func39,Tryd.ntmps39
 go_wp2_with fail
 all_goals (go_ret;refine⟨rfl, ?_⟩;go_grown)
set_option maxHeartbeats 2000000 in
theorem round_core (g:Bool) (m m' b b' r:Nat) (e e0 e' dir s:Int) (hm:((m:Int)==0)=false) (he:min (max e (-4096)) 4096=e0) (w:World)
   (hn:∀w,Calls Tryd.prog 73 #[.agg #[.bool g,.int .u64 m,.int .i64 e0]] w fun r w'=>r=.returned (.agg #[.bool g,.int .u64 m',.int .i64 e'])∧Below w.heap.size w w')
   (ha:∀w,Calls Tryd.prog 72 #[.agg #[.bool g,.int .u64 m',.int .i64 e'],.int .i64 s] w fun r w'=>r=.returned (.int .u64 b)∧Below w.heap.size w w')
   (hs:∀w,Calls Tryd.prog 74 #[.int .i64 dir,.bool g] w fun e w'=>e=.returned (.int .i64 s)∧w=w')
   (hor:g=true→bits BinOp.or IntKind.u64 (b:Int) 9223372036854775808=(b':Int)) (hnot:g=false→b'=b)
   (hz:∀w,Calls Tryd.prog 75 #[.int .u64 b'] w fun e w'=>e=.returned (.float .f64 r)∧w=w') :
   Calls Tryd.prog 39 #[.agg #[.bool g,.int .u64 m,.int .i64 e],.int .i64 dir] w fun x w'=>x=.returned (.float .f64 r)∧Below w.heap.size w w':=by
 cases g
 · obtain rfl:=hnot rfl
   clear hor hnot
   go_enter Tryd.func39,Tryd.ntmps39
   go_wp2_with fail
   go_region_with (first | (go_at_call 73;refine (hn _).mono ?_;rintro _ w1 ⟨rfl,hb⟩;have c0:w1.cell? ⟨w.heap.size,0,none⟩=some (.bool false):=(hb.cell (by simp)).trans (by go_simp)) | (go_at_call 74;refine (hs _).mono ?_;rintro _ _ ⟨rfl,rfl⟩) | (go_at_call 72;refine (ha _).mono ?_;rintro _ w2 ⟨rfl,hb2⟩;have c2:w2.cell? ⟨w.heap.size,0,none⟩=some (.bool false):=(hb2.cell (show w.heap.size<w1.heap.size by have:=hb.size;simp at this;omega)).trans c0))
   all_goals
     go_wp2_with (go_at_call 75;refine (hz _).mono ?_;rintro _ _ ⟨rfl,rfl⟩)
     go_ret
     refine⟨rfl,later (later ?_ hb) hb2⟩
     go_grown
 · have hor:=hor rfl
   clear hnot
   go_enter Tryd.func39,Tryd.ntmps39
   go_wp2_with fail
   go_region_with (first | (go_at_call 73;refine (hn _).mono ?_;rintro _ w1 ⟨rfl,hb⟩;have c0:w1.cell? ⟨w.heap.size,0,none⟩=some (.bool true):=(hb.cell (by simp)).trans (by go_simp)) | (go_at_call 74;refine (hs _).mono ?_;rintro _ _ ⟨rfl,rfl⟩) | (go_at_call 72;refine (ha _).mono ?_;rintro _ w2 ⟨rfl,hb2⟩;have c2:w2.cell? ⟨w.heap.size,0,none⟩=some (.bool true):=(hb2.cell (show w.heap.size<w1.heap.size by have:=hb.size;simp at this;omega)).trans c0))
   all_goals
     go_wp2_with (go_at_call 75;refine (hz _).mono ?_;rintro _ _ ⟨rfl,rfl⟩)
     go_ret
     refine⟨rfl,later (later ?_ hb) hb2⟩
     go_grown
theorem or_sign {b:Nat} (hb:b<9223372036854775808):b ||| 9223372036854775808=b+9223372036854775808:=by
 have h:=nat_join 63 9223372036854775808 b (by decide) hb
 rw [Nat.or_comm,h];omega
theorem round_w (g:Bool) (m:Nat) (e dir:Int) (hm:m<18446744073709551616) (w:World) :
   Calls Tryd.prog 39 #[.agg #[.bool g,.int .u64 m,.int .i64 e],.int .i64 dir] w fun x w'=>x=.returned (.float .f64 (roundN g m e dir))∧Below w.heap.size w w':=by
 by_cases h0:m=0
 · subst h0
   exact round_zero g e dir w
 · have hb:=topN_bounds h0 hm
   have hsh:shiftN m≤63:=by unfold shiftN;omega
   have he:min (max e (-4096)) 4096=clampN e:=rfl
   have hc:-4096≤clampN e∧clampN e≤4096:=by unfold clampN;omega
   have hr:rungN (topN m) (clampN e-shiftN m) (sideN dir g)<9223372036854775808:=rungN_lt hb.2
   have hres:roundN g m e dir=(if (if g then rungN (topN m) (clampN e-shiftN m) (sideN dir g)+9223372036854775808 else rungN (topN m) (clampN e-shiftN m) (sideN dir g))=9223372036854775808 then 0 else (if g then rungN (topN m) (clampN e-shiftN m) (sideN dir g)+9223372036854775808 else rungN (topN m) (clampN e-shiftN m) (sideN dir g))):=by
     unfold roundN signN
     rw [if_neg h0]
     cases g
     · simp only [Bool.false_eq_true,if_false]
       rw [if_neg (by omega)]
     · simp only [if_true]
       by_cases hz:rungN (topN m) (clampN e-shiftN m) (sideN dir true)=0
       · rw [if_pos hz,if_pos (by omega)]
       · rw [if_neg hz,if_neg (by omega)]
   rw [hres]
   refine round_core g m (topN m) (rungN (topN m) (clampN e-shiftN m) (sideN dir g)) _ _ e (clampN e) (clampN e-shiftN m) dir (sideN dir g) (by simp;omega) he w (fun w=>normal_w g m (clampN e) h0 hm (by omega) (by omega) w)
     (fun w=>roundAmount_w g (topN m) (clampN e-shiftN m) (sideN dir g) hb.2 (by omega) (by omega) w) (fun w=>sideOf_w dir g w) ?_ ?_ (fun w=>wos_w _ w)
   · rintro rfl
     rw [if_pos rfl,show (9223372036854775808:Int)=((9223372036854775808:Nat):Int) from rfl,u64_or_nat _ _ (by omega) (by decide),or_sign hr]
   · rintro rfl
     rfl
def splitG (x:Nat):Bool:=decide (9223372036854775808<x)
def splitM (x:Nat):Nat:=if x%9223372036854775808<4503599627370496 then x%9223372036854775808 else 4503599627370496+x%4503599627370496
def splitE (x:Nat):Int:=if x%9223372036854775808=0 then 0 else -1074+((x%9223372036854775808/4503599627370496-1:Nat):Int)
theorem splitM_lt (x:Nat):splitM x<9007199254740992:=by unfold splitM;split <;> omega
theorem splitE_bounds {x:Nat} (hf:finB x=true):-1074≤splitE x∧splitE x≤971:=by
 have hr:x%9223372036854775808<9218868437227405312:=by simpa [finB] using hf
 unfold splitE;split <;> omega
theorem Has3.keep {W0 w2:World} {b:Nat} {x y z:Value} (h:Has3 W0 b x y z) (hb:Below W0.heap.size W0 w2):Has3 w2 b x y z:=by
 obtain⟨h0,h1,h2,f0,f1,f2,hl⟩:=h
 exact⟨keepsC hb h0 hl,keepsC hb h1 hl,keepsC hb h2 hl,keepsF hb f0 hl,keepsF hb f1 hl,keepsF hb f2 hl,Nat.lt_of_lt_of_le hl hb.size⟩
theorem Has3.far {w:World} {b c:Nat} {x y z:Value} (h:Has3 w b x y z) (hne:c≠b) (x' y' z':Value):Has3 (((w.setCell ⟨c,0,none⟩ x').setCell ⟨c,1,none⟩ y').setCell ⟨c,2,none⟩ z') b x y z:=by
 obtain⟨h0,h1,h2,f0,f1,f2,hl⟩:=h
 have hne':b≠c:=fun e=>hne e.symm
 refine⟨by simp [World.cell?_setCell_far, *],by simp [World.cell?_setCell_far, *],by simp [World.cell?_setCell_far, *],by go_simp,by go_simp,by go_simp, ?_⟩
 simp only [World.size_setCell];exact hl
end Go.Proofs.YtgocelaghggpmaaDoor
namespace Go.Proofs.YtgocelaghggpmaaDoor
theorem keptN_lt {m d:Nat} (hm:m<18446744073709551616) (hd:11≤d):keptN m d≤9007199254740991:=by
 unfold keptN
 split
 · omega
 · have h1:m/2^d≤m/2^11:=Nat.div_le_div_left (Nat.pow_le_pow_right (by omega) hd) (Nat.two_pow_pos _)
   have h2:m/2^11<2^53:=Nat.div_lt_of_lt_mul (by rw [←Nat.pow_add];exact hm)
   omega
theorem goes_zero (k r:Nat):goesN k r 0=false:=rfl
theorem goes_mono {k r:Nat} (h:goesN k r 1=true):goesN k r 2=true:=by
 have h1:goesN k r 1=decide (9223372036854775808<r∨r=9223372036854775808∧k%2=1):=rfl
 have h2:goesN k r 2=decide (r≠0):=rfl
 rw [h1] at h
 rw [h2]
 simp only [decide_eq_true_eq] at h ⊢
 omega
theorem rung_sides (t:Nat) (e:Int) (ht:t<18446744073709551616) :
   ∃(r:Nat) (b1 b2:Bool),r≤9218868437227405311∧rungN t e 0=r∧rungN t e 1=r+b1.toNat∧rungN t e 2=r+b2.toNat∧(b1=true→b2=true):=by
 have hd11:11≤dropN e:=by unfold dropN;omega
 have hk:=keptN_lt (d:=dropN e) ht hd11
 by_cases h:971<e+dropN e
 · refine⟨9218868437227405311,true,true,by omega, ?_, ?_, ?_,fun _=>rfl⟩
   · have b:rungN t e 0=boundN 0:=by unfold rungN;exact if_pos h
     have c:boundN 0=9218868437227405311:=if_pos rfl
     omega
   · have b:rungN t e 1=boundN 1:=by unfold rungN;exact if_pos h
     have c:boundN 1=9218868437227405312:=if_neg (by decide)
     simp only [Bool.toNat_true];omega
   · have b:rungN t e 2=boundN 2:=by unfold rungN;exact if_pos h
     have c:boundN 2=9218868437227405312:=if_neg (by decide)
     simp only [Bool.toNat_true];omega
 · have hd:-1074≤e+dropN e:=by unfold dropN;omega
   refine⟨(e+dropN e+1074).toNat*4503599627370496+keptN t (dropN e),goesN (keptN t (dropN e)) (restN t (dropN e)) 1,goesN (keptN t (dropN e)) (restN t (dropN e)) 2,by omega, ?_, ?_, ?_,goes_mono⟩
   · have b:rungN t e 0=(e+dropN e+1074).toNat*4503599627370496+keptN t (dropN e)+(goesN (keptN t (dropN e)) (restN t (dropN e)) 0).toNat:=by unfold rungN;exact if_neg h
     rw [b,goes_zero,Bool.toNat_false,Nat.add_zero]
   · unfold rungN;exact if_neg h
   · unfold rungN;exact if_neg h
theorem signN_facts (g:Bool) (r:Nat) (h:r≤9218868437227405312) :
   nanB (signN g r)=false∧signN g r≠9223372036854775808∧signN g r<18446744073709551616∧key (signN g r)=if g then -(r:Int) else r:=by
 unfold signN nanB key
 cases g
 · simp only [Bool.false_eq_true,if_false]
   refine⟨?_,by omega,by omega, ?_⟩
   · simp;omega
   · rw [if_pos (by omega)]
 · simp only [if_true]
   by_cases hz:r=0
   · subst hz;simp
   · rw [if_neg hz]
     refine⟨?_,by omega,by omega, ?_⟩
     · simp;omega
     · rw [if_neg (by omega)];omega
theorem roundN_facts (g:Bool) (m:Nat) (e dir:Int) (hm:m<18446744073709551616) :
   nanB (roundN g m e dir)=false∧roundN g m e dir≠9223372036854775808∧roundN g m e dir<18446744073709551616:=by
 unfold roundN
 by_cases h0:m=0
 · rw [if_pos h0];decide
 · rw [if_neg h0]
   have ht:=(topN_bounds h0 hm).2
   have hle:rungN (topN m) (clampN e-shiftN m) (sideN dir g)≤9218868437227405312:=by
     obtain⟨r,b1,b2,hr,h0',h1',h2',_⟩:=rung_sides (topN m) (clampN e-shiftN m) ht
     have hs:sideN dir g=0∨sideN dir g=1∨sideN dir g=2:=by unfold sideN;split <;> (try split) <;> omega
     rcases hs with hs | hs | hs
     · rw [hs,h0'];omega
     · rw [hs,h1'];cases b1 <;> simp <;> omega
     · rw [hs,h2'];cases b2 <;> simp <;> omega
   have hf:=signN_facts g _ hle
   exact⟨hf.1,hf.2.1,hf.2.2.1⟩
end Go.Proofs.YtgocelaghggpmaaDoor
namespace Go.Proofs.YtgocelaghggpmaaDoor
structure Cut where
 le:Nat→Prop
 eq:Nat→Prop
structure Cut.Ok (C:Cut):Prop where
 down:∀{h k:Nat},h≤k→C.le k→C.le h
 eqle:∀{h:Nat},C.eq h→C.le h
 eqlt:∀{h k:Nat},C.eq h→h<k→¬C.le k
 zero:C.le 0
structure IsDown (C:Cut) (d:Nat):Prop where
 top:d≤9218868437227405311
 low:C.le (2*val d)
 up:d=9218868437227405311∨¬C.le (2*val (d+1))
def IsR (C:Cut) (s:Int) (r:Nat):Prop:=∃d,IsDown C d∧(s=0→r=d)∧(s=2→(C.eq (2*val d)∧r=d∨¬C.eq (2*val d)∧r=d+1)) ∧
 (s=1→(C.eq (2*val d)∧r=d∨¬C.eq (2*val d)∧(C.eq (val d+val (d+1))∧r=(if d%2=0 then d else d+1)∨¬C.eq (val d+val (d+1))∧(C.le (val d+val (d+1))∧r=d+1∨¬C.le (val d+val (d+1))∧r=d))))
def Near (M:Nat) (E:Int) (C:Cut):Prop:=∃a b:Nat,(b:Int)-a=E+1075 ∧
 ((∀h,(C.le h↔h*2^a≤M*2^b)∧(C.eq h↔h*2^a=M*2^b)) ∨
  (M%2=1∧36028797018963968≤M∧∀h,(h*2^a≤(M-1)*2^b→C.le h∧¬C.eq h)∧((M+1)*2^b≤h*2^a→¬C.le h∧¬C.eq h)))
theorem mul_two_pow_le {x y b:Nat}:x*2^b≤y*2^b↔x≤y:=Nat.mul_le_mul_right_iff (Nat.two_pow_pos b)
theorem mul_two_pow_eq {x y b:Nat}:x*2^b=y*2^b↔x=y:=Nat.mul_left_inj (Nat.ne_of_gt (Nat.two_pow_pos b))
theorem near_grid {M:Nat} {E:Int} {C:Cut} (h:Near M E C) (h0:M≠0) (hM:M<18446744073709551616) (u:Nat) (hu:(u:Int)=E-shiftN M+dropN (E-shiftN M)+1074) (j:Nat) :
   (C.le (j*2^u)↔j*2^(dropN (E-shiftN M)-1)≤topN M)∧(C.eq (j*2^u)↔j*2^(dropN (E-shiftN M)-1)=topN M):=by
 obtain⟨a,b,hab,hc⟩:=h
 have hd:11≤dropN (E-shiftN M):=by unfold dropN;omega
 have hsh:shiftN M=63-M.log2:=rfl
 have hl:M.log2<64:=(Nat.log2_lt h0).2 hM
 generalize dropN (E-shiftN M)=d at *
 unfold topN
 generalize shiftN M=s at *
 have ex:u+a+s=d-1+b:=by omega
 have e1:j*2^u*2^a*2^s=j*2^(d-1)*2^b:=by
   rw [Nat.mul_assoc,Nat.mul_assoc,Nat.mul_assoc,←Nat.pow_add,←Nat.pow_add,←Nat.pow_add]
   congr 2;omega
 have e2:M*2^b*2^s=M*2^s*2^b:=Nat.mul_right_comm _ _ _
 rcases hc with hc | ⟨odd,big,hc⟩
 · rw [(hc (j*2^u)).1,(hc (j*2^u)).2,←mul_two_pow_le (b:=s),←mul_two_pow_eq (b:=s),e1,e2,mul_two_pow_le,mul_two_pow_eq]
   exact⟨Iff.rfl,Iff.rfl⟩
 · have hlog:55≤M.log2:=(Nat.le_log2 h0).2 big
   have hs:s+2≤d-1:=by omega
   have e3:j*2^(d-1)=(j*2^(d-1-s))*2^s:=by
     rw [Nat.mul_assoc,←Nat.pow_add];congr 2;omega
   have e4:j*2^u*2^a=(j*2^(d-1-s))*2^b:=by
     have:=e1
     rw [e3,Nat.mul_right_comm _ (2^s) (2^b)] at this
     exact mul_two_pow_eq.1 this
   have e5:2^(d-1-s)=2*2^(d-1-s-1):=by rw [←Nat.pow_succ'];congr 1;omega
   rw [e3,mul_two_pow_le,mul_two_pow_eq]
   have hc:=hc (j*2^u)
   rw [e4] at hc
   have ev:j*2^(d-1-s)%2=0:=by rw [e5,←Nat.mul_assoc,Nat.mul_comm j 2,Nat.mul_assoc];exact Nat.mul_mod_right _ _
   generalize j*2^(d-1-s)=J at *
   rw [mul_two_pow_le,mul_two_pow_le] at hc
   rcases Nat.lt_or_ge J M with c | c
   · have:=hc.1 (by omega)
     exact⟨⟨fun _=>by omega,fun _=>this.1⟩,⟨fun h=>absurd h this.2,fun h=>by omega⟩⟩
   · have:=hc.2 (by omega)
     exact⟨⟨fun h=>absurd h this.1,fun _=>by omega⟩,⟨fun h=>absurd h this.2,fun h=>by omega⟩⟩
theorem val_grid {u k:Nat} (hk:k≤9007199254740992) (h:u=0∨4503599627370496≤k):val (u*4503599627370496+k)=k*2^u:=by
 unfold val
 rcases Nat.lt_or_ge k 4503599627370496 with c | c
 · have hu:u=0:=by omega
   subst hu
   rw [if_pos (by omega)];simp
 · rw [if_neg (by omega)]
   rcases Nat.lt_or_ge k 9007199254740992 with c2 | c2
   · have h1:(u*4503599627370496+k)%4503599627370496=k-4503599627370496:=by omega
     have h2:(u*4503599627370496+k)/4503599627370496-1=u:=by omega
     have h3:4503599627370496+(k-4503599627370496)=k:=by omega
     rw [h1,h2,h3]
   · have hk2:k=9007199254740992:=by omega
     subst hk2
     have h1:(u*4503599627370496+9007199254740992)%4503599627370496=0:=by omega
     have h2:(u*4503599627370496+9007199254740992)/4503599627370496-1=u+1:=by omega
     rw [h1,h2,Nat.pow_succ];omega
theorem rest_facts {t d:Nat} (hd:11≤d) (ht:t<18446744073709551616) (h0:0<t) :
   (restN t d≠0↔(2*keptN t d)*2^(d-1)≠t)∧(9223372036854775808<restN t d↔(2*keptN t d+1)*2^(d-1)<t)∧(restN t d=9223372036854775808↔(2*keptN t d+1)*2^(d-1)=t) ∧
   (2*keptN t d)*2^(d-1)≤t∧t<(2*keptN t d+2)*2^(d-1):=by
 unfold restN keptN
 have e5:2^d=2*2^(d-1):=by rw [←Nat.pow_succ'];congr 1;omega
 by_cases c:64<d
 · rw [if_pos c,if_pos c]
   have hp:2^64≤2^(d-1):=Nat.pow_le_pow_right (by omega) (by omega)
   generalize 2^(d-1)=p at *
   simp only [Nat.mul_zero,Nat.zero_add,Nat.zero_mul,Nat.one_mul]
   omega
 · rw [if_neg c,if_neg c,e5]
   have hm:=Nat.div_add_mod t (2*2^(d-1))
   have hlt:t%(2*2^(d-1))<2*2^(d-1):=Nat.mod_lt _ (by have:=Nat.two_pow_pos (d-1);omega)
   have e6:2^(d-1)*2^(64-d)=9223372036854775808:=by rw [←Nat.pow_add,show d-1+(64-d)=63 by omega]
   have hq:=Nat.two_pow_pos (64-d)
   generalize t%(2*2^(d-1))=r at *
   generalize t/(2*2^(d-1))=k at *
   have e7:2*k*2^(d-1)=2*2^(d-1)*k:=by rw [Nat.mul_right_comm]
   have e8:(2*k+1)*2^(d-1)=2*2^(d-1)*k+2^(d-1):=by rw [Nat.add_mul,e7,Nat.one_mul]
   have e9:(2*k+2)*2^(d-1)=2*2^(d-1)*k+2*2^(d-1):=by rw [Nat.add_mul,e7]
   rw [e7,e8,e9]
   have g1:9223372036854775808<r*2^(64-d)↔2^(d-1)<r:=by
     rw [←e6];exact Nat.mul_lt_mul_right hq
   have g2:r*2^(64-d)=9223372036854775808↔r=2^(d-1):=by
     rw [←e6];exact mul_two_pow_eq
   have g3:r*2^(64-d)≠0↔r≠0:=by
     rw [ne_eq,Nat.mul_eq_zero];constructor <;> intro h <;> omega
   rw [g1,g2,g3]
   generalize 2*2^(d-1)*k=z at *
   generalize 2^(d-1)=p at *
   omega
theorem rung_far {C:Cut} (ok:C.Ok) {s:Int} (hs:s=0∨s=1∨s=2) {L:Nat} (hL:L=9218868437227405311) (h:C.le (2*val (L+1))):IsR C s (boundN s):=by
 have hv:=val_mono (show L<L+1 by omega)
 have b0:boundN 0=L:=hL.symm
 have b1:boundN 1=L+1:=by rw [hL];rfl
 have b2:boundN 2=L+1:=by rw [hL];rfl
 refine⟨L,⟨by omega,ok.down (by omega) h,Or.inl hL⟩, ?_, ?_, ?_⟩
 · rintro rfl;exact b0
 · rintro rfl
   exact Or.inr ⟨fun e=>ok.eqlt e (by omega) h,b2⟩
 · rintro rfl
   exact Or.inr ⟨fun e=>ok.eqlt e (by omega) h,Or.inr ⟨fun e=>ok.eqlt e (by omega) h,Or.inl ⟨ok.down (by omega) h,b1⟩⟩⟩
theorem rung_is {M:Nat} {E:Int} {C:Cut} (ok:C.Ok) (h:Near M E C) (h0:M≠0) (hM:M<18446744073709551616) {s:Int} (hs:s=0∨s=1∨s=2) :
   IsR C s (rungN (topN M) (E-shiftN M) s):=by
 have hb:=topN_bounds h0 hM
 have hd:11≤dropN (E-shiftN M):=by unfold dropN;omega
 have hd2:-1074≤E-shiftN M+dropN (E-shiftN M):=by unfold dropN;omega
 have hd3:dropN (E-shiftN M)=11∨E-shiftN M+dropN (E-shiftN M)=-1074:=by unfold dropN;omega
 obtain⟨u,hu⟩:∃u:Nat,(u:Int)=E-shiftN M+dropN (E-shiftN M)+1074:=⟨(E-shiftN M+dropN (E-shiftN M)+1074).toNat,by omega⟩
 have grid:=near_grid h h0 hM u hu
 have hk:=keptN_lt (d:=dropN (E-shiftN M)) hb.2 hd
 have rf:=rest_facts (t:=topN M) hd hb.2 (by omega)
 unfold rungN
 have hut:(E-shiftN M+dropN (E-shiftN M)+1074).toNat=u:=by omega
 rw [hut]
 generalize E-(shiftN M:Int)=e at *
 generalize dropN e=d at *
 generalize topN M=t at *
 clear h h0 hM
 by_cases far:971<e+d
 · rw [if_pos far]
   have hd11:d=11:=by omega
   subst hd11
   refine rung_far ok hs rfl ?_
   have g:=(grid 9007199254740992).1.2 (by omega)
   refine ok.down ?_ g
   obtain⟨U,hU⟩:∃U:Nat,U=2046:=⟨_,rfl⟩
   have e0:9218868437227405311+1=U*4503599627370496+4503599627370496:=by omega
   have e1:=val_grid (u:=U) (k:=4503599627370496) (by omega) (Or.inr (by omega))
   have hp:2^U≤2^u:=Nat.pow_le_pow_right (by omega) (by omega)
   rw [e0,e1,←Nat.mul_assoc]
   exact Nat.mul_le_mul (by omega) hp
 · rw [if_neg far]
   have hk2:u=0∨4503599627370496≤keptN t d:=by
     rcases hd3 with c | c
     · right
       subst c
       unfold keptN
       rw [if_neg (by omega)]
       have:(2:Nat)^11=2048:=rfl
       rw [this];omega
     · left;omega
   have v0:=val_grid (u:=u) (k:=keptN t d) (by omega) hk2
   have v1:=val_grid (u:=u) (k:=keptN t d+1) (by omega) (by omega)
   rw [←Nat.add_assoc] at v1
   generalize keptN t d=k at *
   have m0:2*val (u*4503599627370496+k)=(2*k)*2^u:=by rw [v0,Nat.mul_assoc]
   have m2:2*val (u*4503599627370496+k+1)=(2*k+2)*2^u:=by rw [v1,←Nat.mul_assoc,Nat.mul_add]
   have m1:val (u*4503599627370496+k)+val (u*4503599627370496+k+1)=(2*k+1)*2^u:=by rw [v0,v1,←Nat.add_mul];congr 1;omega
   have par:(u*4503599627370496+k)%2=k%2:=by omega
   obtain⟨r0,r1,r2,r3,r4⟩:=rf
   refine⟨u*4503599627370496+k,⟨by omega, ?_,Or.inr ?_⟩, ?_, ?_, ?_⟩
   · rw [m0];exact (grid _).1.2 r3
   · rw [m2];exact fun c=>absurd ((grid _).1.1 c) (by omega)
   · rintro rfl
     have eg:goesN k (restN t d) 0=false:=rfl
     rw [eg,Bool.toNat_false,Nat.add_zero]
   · rintro rfl
     rw [m0]
     have eg:goesN k (restN t d) 2=decide (restN t d≠0):=rfl
     rw [eg]
     by_cases c:restN t d≠0
     · right
       exact⟨fun h=>r0.1 c ((grid _).2.1 h),by simp [c]⟩
     · left
       exact⟨(grid _).2.2 (Decidable.not_not.1 (fun h=>c (r0.2 h))),by simp [Decidable.not_not.1 c]⟩
   · rintro rfl
     rw [m0,m1,par]
     have eg:goesN k (restN t d) 1=decide (9223372036854775808<restN t d∨restN t d=9223372036854775808∧k%2=1):=rfl
     rw [eg]
     by_cases c:restN t d≠0
     · right
       refine⟨fun h=>r0.1 c ((grid _).2.1 h), ?_⟩
       by_cases c2:restN t d=9223372036854775808
       · left
         refine⟨(grid _).2.2 (r2.1 c2), ?_⟩
         by_cases c3:k%2=0
         · have:¬k%2=1:=by omega
           simp [c2,c3]
         · have c4:k%2=1:=by omega
           simp [c2,c4]
       · right
         refine⟨fun h=>c2 (r2.2 ((grid _).2.1 h)), ?_⟩
         by_cases c3:9223372036854775808<restN t d
         · left
           exact⟨(grid _).1.2 (Nat.le_of_lt (r1.1 c3)),by simp [c3]⟩
         · right
           refine⟨fun h=>?_,by simp [c2,c3]⟩
           have:=(grid _).1.1 h
           rcases Nat.lt_or_eq_of_le this with c4 | c4
           · exact c3 (r1.2 c4)
           · exact c2 (r2.2 c4)
     · left
       have c0:restN t d=0:=Decidable.not_not.1 c
       exact⟨(grid _).2.2 (Decidable.not_not.1 (fun h=>c (r0.2 h))),by simp [c0]⟩
end Go.Proofs.YtgocelaghggpmaaDoor
namespace Go.Proofs.YtgocelaghggpmaaDoor
theorem V_nat (r:Nat):V (r:Int)=val r:=by unfold V;rw [if_neg (by omega)];simp
theorem V_negnat (r:Nat):V (-(r:Int))=-(val r:Int):=by
 unfold V
 by_cases h:r=0
 · subst h;simp [val_zero]
 · rw [if_pos (by omega),Int.neg_neg];simp
theorem V_neg (k:Int):V (-k)=-V k:=by
 rcases Int.le_total 0 k with h | h
 · obtain⟨r,rfl⟩:=Int.eq_ofNat_of_zero_le h
   rw [V_negnat,V_nat]
 · obtain⟨r,hr⟩:=Int.eq_ofNat_of_zero_le (show 0≤-k by omega)
   have:k=-(r:Int):=by omega
   subst this
   rw [V_negnat,Int.neg_neg,V_nat,Int.neg_neg]
theorem V_mono {i j:Int} (h:i<j):V i<V j:=by
 rcases Int.lt_or_le i 0 with hi | hi
 · obtain⟨r,hr⟩:=Int.eq_ofNat_of_zero_le (show 0≤-i by omega)
   have:i=-(r:Int):=by omega
   subst this
   have h0:=val_mono (show 0<r by omega)
   rw [V_negnat]
   rcases Int.lt_or_le j 0 with hj | hj
   · obtain⟨s,hs⟩:=Int.eq_ofNat_of_zero_le (show 0≤-j by omega)
     have:j=-(s:Int):=by omega
     subst this
     have:=val_mono (show s<r by omega)
     rw [V_negnat];omega
   · obtain⟨s,rfl⟩:=Int.eq_ofNat_of_zero_le hj
     rw [V_nat];omega
 · obtain⟨r,rfl⟩:=Int.eq_ofNat_of_zero_le hi
   obtain⟨s,rfl⟩:=Int.eq_ofNat_of_zero_le (show 0≤j by omega)
   have:=val_mono (show r<s by omega)
   rw [V_nat,V_nat];omega
theorem V_mono_le {i j:Int} (h:i≤j):V i≤V j:=by
 rcases Int.lt_or_eq_of_le h with c | c
 · exact Int.le_of_lt (V_mono c)
 · subst c;exact Int.le_refl _
theorem V_zero:V 0=0:=rfl
theorem V_pos {k:Int} (h:0<k):0<V k:=by have:=V_mono h;rw [V_zero] at this;exact this
structure Ex where
 le:Int→Prop
 ge:Int→Prop
structure Ex.Ok (x:Ex):Prop where
 down:∀{h k:Int},h≤k→x.le k→x.le h
 total:∀h:Int,x.le h∨x.ge h
 sep:∀{h k:Int},x.ge h→x.le k→k≤h
def Ex.amt (g:Bool) (x:Ex):Cut:=if g then ⟨fun h=>x.ge (-(h:Int)),fun h=>x.le (-(h:Int))∧x.ge (-(h:Int))⟩ else ⟨fun h=>x.le (h:Int),fun h=>x.le (h:Int)∧x.ge (h:Int)⟩
theorem Ex.Ok.up {x:Ex} (ok:x.Ok) {h k:Int} (hk:h≤k) (g:x.ge h):x.ge k:=by
 rcases ok.total k with c | c
 · have:=ok.sep g c
   have:h=k:=by omega
   subst this;exact g
 · exact c
theorem Ex.Ok.cut {x:Ex} (ok:x.Ok) {g:Bool} (hg:if g then x.ge 0 else x.le 0):(x.amt g).Ok:=by
 cases g
 · simp only [Bool.false_eq_true,if_false] at hg
   exact⟨fun {h k} c d=>ok.down (by omega) (show x.le (k:Int) from d),fun {h} c=>c.1,fun {h k} c d e=>by have:=ok.sep c.2 (show x.le (k:Int) from e);omega,hg⟩
 · simp only [if_true] at hg
   exact⟨fun {h k} c d=>ok.up (show -(k:Int)≤-(h:Int) by omega) (show x.ge (-(k:Int)) from d),fun {h} c=>c.2,fun {h k} c d e=>by have:=ok.sep (show x.ge (-(k:Int)) from e) c.1;omega,hg⟩
structure KDown (x:Ex) (k:Int):Prop where
 bot:-9218868437227405312≤k
 top:k≤9218868437227405311
 low:k=-9218868437227405312∨x.le (2*V k)
 up:k=9218868437227405311∨¬x.le (2*V (k+1))
theorem kdown_mono {x y:Ex} (oky:y.Ok) (h:∀h,x.le h→y.le h) {k l:Int} (hk:KDown x k) (hl:KDown y l):k≤l:=by
 rcases Int.lt_or_le l k with c | c
 · exfalso
   rcases hl.up with u | u
   · have:=hk.top;omega
   · rcases hk.low with w | w
     · have:=hl.bot;omega
     · exact u (oky.down (by have:=V_mono_le (show l+1≤k by omega);omega) (h _ w))
 · exact c
end Go.Proofs.YtgocelaghggpmaaDoor
namespace Go.Proofs.YtgocelaghggpmaaDoor
open Go.ChangeShapes Go.WideShapes Go.ChangeAt Go.RowKit
@[go_sem] theorem run_store_float (P:Program) (w:World) (a:Addr) (m:Mode) (k:FloatKind) (n:Nat):(store a (.float k n) m).run P w=stored P w a (.float k n) m:=run_store P w a _ m rfl
def infI (s:Int):Nat:=if s<0 then 18442240474082181120 else 9218868437227405312
theorem inf_w (s:Int) (w:World):Calls Tryd.prog 67 #[.int .i64 s] w fun e w'=>e=.returned (.float .f64 (infI s))∧w=w':=by
 unfold infI
 by_cases h:s<0
 · rw [if_pos h]
   go_enter Tryd.func67,Tryd.ntmps67
   go_wp2
   all_goals (go_ret;exact⟨rfl,rfl⟩)
 · rw [if_neg h]
   go_enter Tryd.func67,Tryd.ntmps67
   go_wp2
   all_goals (go_ret;exact⟨rfl,rfl⟩)
theorem signbit_w (x:Nat) (hx:x<18446744073709551616) (w:World):Calls Tryd.prog 144 #[.float .f64 x] w fun e w'=>e=.returned (.bool (decide (9223372036854775808≤x)))∧w=w':=by
 have hc:decide (wrap64 (x:Int)<0)=decide (9223372036854775808≤x):=by
   rw [wrap64]
   by_cases h:9223372036854775808≤x
   · simp only [h,decide_true,decide_eq_true_eq];omega
   · simp only [h,decide_false,decide_eq_false_iff_not];omega
 go_enter Tryd.func144,Tryd.ntmps144
 go_wp2
 all_goals (go_ret;exact⟨rfl,rfl⟩)
def mz (x:Nat):Bool:=decide (x=9223372036854775808)
theorem isMinusZero_w (x:Nat) (hx:x<18446744073709551616) (w:World):Calls Tryd.prog 118 #[.float .f64 x] w fun e w'=>e=.returned (.bool (mz x))∧w=w':=by
 rcases cases0 x hx with ⟨hn,ho,hc⟩ | ⟨hn,ho,hc⟩ | ⟨hn,ho,hc⟩ | ⟨hn,ho,hc⟩
 · have e:mz x=false:=by unfold mz;simp;omega
   rw [e]
   go_enter Tryd.func118,Tryd.ntmps118
   go_wp2_with (go_at_call 144;refine (signbit_w x hx _).mono ?_;rintro _ _ ⟨rfl,rfl⟩)
   all_goals (go_ret;exact⟨rfl,rfl⟩)
 · have e:mz x=decide (9223372036854775808≤x):=by
     unfold mz
     rw [Bool.eq_iff_iff];simp only [decide_eq_true_eq];omega
   rw [e]
   go_enter Tryd.func118,Tryd.ntmps118
   go_wp2_with (go_at_call 144;refine (signbit_w x hx _).mono ?_;rintro _ _ ⟨rfl,rfl⟩)
   all_goals (go_ret;exact⟨rfl,rfl⟩)
 · have e:mz x=false:=by unfold mz;simp;omega
   rw [e]
   go_enter Tryd.func118,Tryd.ntmps118
   go_wp2_with (go_at_call 144;refine (signbit_w x hx _).mono ?_;rintro _ _ ⟨rfl,rfl⟩)
   all_goals (go_ret;exact⟨rfl,rfl⟩)
 · have e:mz x=false:=by unfold mz;simp;omega
   rw [e]
   go_enter Tryd.func118,Tryd.ntmps118
   go_wp2_with (go_at_call 144;refine (signbit_w x hx _).mono ?_;rintro _ _ ⟨rfl,rfl⟩)
   all_goals (go_ret;exact⟨rfl,rfl⟩)
def pz (x:Nat):Nat:=if x=9223372036854775808 then 0 else x
theorem pz_lt {x:Nat} (hx:x<18446744073709551616):pz x<18446744073709551616:=by unfold pz;split <;> omega
theorem wosz_w (x:Nat) (hx:x<18446744073709551616) (w:World):Calls Tryd.prog 70 #[.float .f64 x] w fun e w'=>e=.returned (.float .f64 (pz x))∧w=w':=by
 rcases cases0 x hx with ⟨hn,ho,hc⟩ | ⟨hn,ho,hc⟩ | ⟨hn,ho,hc⟩ | ⟨hn,ho,hc⟩
 · have e:pz x=x:=by unfold pz;rw [if_neg (by omega)]
   rw [e]
   go_enter Tryd.func70,Tryd.ntmps70
   go_wp2
   all_goals (go_ret;exact⟨rfl,rfl⟩)
 · have e:pz x=0:=by unfold pz;split <;> omega
   rw [e]
   go_enter Tryd.func70,Tryd.ntmps70
   go_wp2
   all_goals (go_ret;exact⟨rfl,rfl⟩)
 · have e:pz x=x:=by unfold pz;rw [if_neg (by omega)]
   rw [e]
   go_enter Tryd.func70,Tryd.ntmps70
   go_wp2
   all_goals (go_ret;exact⟨rfl,rfl⟩)
 · have e:pz x=x:=by unfold pz;rw [if_neg (by omega)]
   rw [e]
   go_enter Tryd.func70,Tryd.ntmps70
   go_wp2
   all_goals (go_ret;exact⟨rfl,rfl⟩)
theorem empty_w (w:World):Calls Tryd.prog 36 #[] w fun e w'=>e=.returned (.agg #[.float .f64 (infI 1),.float .f64 (infI (-1))])∧Below w.heap.size w w':=by
 go_enter Tryd.func36,Tryd.ntmps36
 go_wp2_with (go_at_call 67;refine (inf_w _ _).mono ?_;rintro _ _ ⟨rfl,rfl⟩)
 all_goals (go_returns;exact⟨rfl,by go_grown⟩)
theorem turn {P:Program} {f:FuncId} {args:Array Value} {w:World} {v:Value} (h:Calls P f args w fun e w'=>e=.returned v∧w=w'):Calls P f args w fun e w'=>e=.returned v∧w'=w:=h.mono fun _ _ ⟨a,b⟩=>⟨a,b.symm⟩
theorem inf_q (s:Int) (w:World):Calls Tryd.prog 67 #[.int .i64 s] w fun e w'=>e=.returned (.float .f64 (infI s))∧w'=w:=turn (inf_w s w)
theorem isMinusZero_q (x:Nat) (hx:x<18446744073709551616) (w:World):Calls Tryd.prog 118 #[.float .f64 x] w fun e w'=>e=.returned (.bool (mz x))∧w'=w:=turn (isMinusZero_w x hx w)
def hsB (lo hi:Nat):Bool:=!nanB lo&&!nanB hi&&decide (key lo≤key hi)&&decide (key lo<9218868437227405312)&&decide (-9218868437227405312<key hi)&&!mz lo&&!mz hi
set_option maxHeartbeats 400000 in
theorem holdsSome_core (lo hi:Nat) (hl:lo<18446744073709551616) (hh:hi<18446744073709551616) (b1 b2 b3 b4 b5:Bool)
   (o1:(FloatKind.f64.format.order lo hi==some .lt || FloatKind.f64.format.order lo hi==some .eq)=b1) (o2:(FloatKind.f64.format.order lo (infI 1)==some .lt)=b2) (o3:(FloatKind.f64.format.order hi (infI (-1))==some .gt)=b3)
   (o4:mz lo=b4) (o5:mz hi=b5) (w:World) :
   Calls Tryd.prog 71 #[.agg #[.float .f64 lo,.float .f64 hi]] w fun e w'=>e=.returned (.bool (b1&&b2&&b3&&!b4&&!b5))∧Below w.heap.size w w':=by
 cases b1
 case' true=>cases b2
 case' true.true=>cases b3
 case' true.true.true=>cases b4
 case' true.true.true.false=>cases b5
 all_goals
   go_enter Tryd.func71,Tryd.ntmps71
   go_wp2_with fail
   go_quiet (first | (go_at_call 67;refine Calls.quiet_of_same (inf_q _ _)) | (go_at_call 118;refine Calls.quiet_of_same (isMinusZero_q _ (by assumption) _)))
   go_wp2
   go_ret
   exact⟨rfl,Go.below_drewN (by go_grown) _⟩
def leB (a b:Nat):Bool:=!nanB a&&!nanB b&&decide (key a≤key b)
def eqB (a b:Nat):Bool:=!nanB a&&!nanB b&&decide (key a=key b)
theorem o_le {a b:Nat} (ha:a<18446744073709551616) (hb:b<18446744073709551616):(FloatKind.f64.format.order a b==some .lt || FloatKind.f64.format.order a b==some .eq)=leB a b:=by
 rw [order_eq a b ha hb]
 unfold leB
 cases nanB a <;> cases nanB b <;> simp only [Bool.or_self,Bool.or_true,Bool.or_false,if_true,Bool.false_eq_true,if_false,Bool.not_true,Bool.not_false,Bool.false_and,Bool.and_false,Bool.true_and]
 · simp only [compare_int]
   by_cases c:key a<key b
   · have:key a≤key b:=by omega
     rw [if_pos c];simp [this]
   · rw [if_neg c]
     by_cases e:key a=key b
     · rw [if_pos e];simp [e]
     · have:¬key a≤key b:=by omega
       rw [if_neg e];simp [this]
 all_goals rfl
theorem o_lt {a b:Nat} (ha:a<18446744073709551616) (hb:b<18446744073709551616):(FloatKind.f64.format.order a b==some .lt)=ltB a b:=by
 rw [order_eq a b ha hb]
 unfold ltB
 cases nanB a <;> cases nanB b <;> simp only [Bool.or_self,Bool.or_true,Bool.or_false,if_true,Bool.false_eq_true,if_false,Bool.not_true,Bool.not_false,Bool.false_and,Bool.and_false,Bool.true_and]
 · simp only [compare_int]
   by_cases c:key a<key b
   · rw [if_pos c];simp [c]
   · rw [if_neg c]
     by_cases e:key a=key b
     · rw [if_pos e];simp [e]
     · rw [if_neg e];simp [c]
 all_goals rfl
theorem o_eq {a b:Nat} (ha:a<18446744073709551616) (hb:b<18446744073709551616):(FloatKind.f64.format.order a b==some .eq)=eqB a b:=by
 rw [order_eq a b ha hb]
 unfold eqB
 cases nanB a <;> cases nanB b <;> simp only [Bool.or_self,Bool.or_true,Bool.or_false,if_true,Bool.false_eq_true,if_false,Bool.not_true,Bool.not_false,Bool.false_and,Bool.and_false,Bool.true_and]
 · simp only [compare_int]
   by_cases c:key a<key b
   · have:¬key a=key b:=by omega
     rw [if_pos c];simp [this]
   · rw [if_neg c]
     by_cases e:key a=key b
     · rw [if_pos e];simp [e]
     · rw [if_neg e];simp [e]
 all_goals rfl
theorem infI_lt (s:Int):infI s<18446744073709551616:=by unfold infI;split <;> omega
theorem nan_inf (s:Int):nanB (infI s)=false:=by unfold infI;split <;> decide
theorem key_up:key (infI 1)=9218868437227405312:=by decide
theorem key_down:key (infI (-1))=-9218868437227405312:=by decide
theorem holdsSome_w (lo hi:Nat) (hl:lo<18446744073709551616) (hh:hi<18446744073709551616) (w:World) :
   Calls Tryd.prog 71 #[.agg #[.float .f64 lo,.float .f64 hi]] w fun e w'=>e=.returned (.bool (hsB lo hi))∧Below w.heap.size w w':=by
 have h:=holdsSome_core lo hi hl hh _ _ _ _ _ (o_le hl hh) (o_lt hl (infI_lt 1)) (o_gt hh (infI_lt (-1))) rfl rfl w
 have e:(leB lo hi&&ltB lo (infI 1)&&ltB (infI (-1)) hi&&!mz lo&&!mz hi)=hsB lo hi:=by
   unfold leB ltB hsB
   rw [nan_inf,nan_inf,key_up,key_down]
   cases nanB lo <;> cases nanB hi <;> simp
 rw [e] at h
 exact h
def makeP (lo hi:Nat):Nat×Nat:=if hsB (pz lo) (pz hi) then (pz lo,pz hi) else (infI 1,infI (-1))
set_option maxHeartbeats 400000 in
theorem make_w (lo hi:Nat) (hl:lo<18446744073709551616) (hh:hi<18446744073709551616) (w:World) :
   Calls Tryd.prog 38 #[.float .f64 lo,.float .f64 hi] w fun e w'=>e=.returned (.agg #[.float .f64 (makeP lo hi).1,.float .f64 (makeP lo hi).2])∧Below w.heap.size w w':=by
 have hs:=fun w=>holdsSome_w (pz lo) (pz hi) (pz_lt hl) (pz_lt hh) w
 have e:makeP lo hi=if hsB (pz lo) (pz hi) then (pz lo,pz hi) else (infI 1,infI (-1)):=rfl
 rw [e]
 clear e
 generalize hsB (pz lo) (pz hi)=b at *
 cases b
 · go_enter Tryd.func38,Tryd.ntmps38
   go_wp2_with (first
     | (go_at_call 70;refine (wosz_w _ (by assumption) _).mono ?_;rintro _ _ ⟨rfl,rfl⟩)
     | (go_at_call 71;refine (hs _).mono ?_;rintro _ w1 ⟨rfl,hb1⟩
        have k1:Has2 w1 w.heap.size (.float .f64 0) (.float .f64 0):=Has2.keep ⟨by go_simp,by go_simp,by go_simp,by go_simp,by go_size⟩ hb1
        obtain⟨a0,a1,a2,a3,a4⟩:=k1)
     | (go_at_call 36;refine (empty_w _).mono ?_;rintro _ w2 ⟨rfl,hb2⟩
        obtain⟨d0,d1,d2,d3,d4⟩:=Has2.keep ⟨a0,a1,a2,a3,a4⟩ hb2))
   all_goals
     refine bodyPost_ret (v:=.agg #[.float .f64 (infI 1),.float .f64 (infI (-1))]) (by simp [results,Tryd.results38,go_sem, *]) rfl ⟨rfl, ?_⟩
     have t:Below w.heap.size w w2:=later (later (by go_grown) hb1) hb2
     repeat' (first | (with_reducible exact t) | (with_reducible refine Below.setCell ?_ ?_ _) | go_size)
 · go_enter Tryd.func38,Tryd.ntmps38
   go_wp2_with (first
     | (go_at_call 70;refine (wosz_w _ (by assumption) _).mono ?_;rintro _ _ ⟨rfl,rfl⟩)
     | (go_at_call 71;refine (hs _).mono ?_;rintro _ w1 ⟨rfl,hb1⟩
        have k1:Has2 w1 w.heap.size (.float .f64 0) (.float .f64 0):=Has2.keep ⟨by go_simp,by go_simp,by go_simp,by go_simp,by go_size⟩ hb1
        have k2:Has2 w1 (w.heap.size+1) (.float .f64 (pz lo)) (.float .f64 (pz hi)):=Has2.keep ⟨by go_simp,by go_simp,by go_simp,by go_simp,by go_size⟩ hb1
        obtain⟨a0,a1,a2,a3,a4⟩:=k1
        obtain⟨d0,d1,d2,d3,d4⟩:=k2))
   all_goals
     refine bodyPost_ret (v:=.agg #[.float .f64 (pz lo),.float .f64 (pz hi)]) (by simp [results,Tryd.results38,go_sem, *]) rfl ⟨rfl, ?_⟩
     have t:Below w.heap.size w w1:=later (by go_grown) hb1
     repeat' (first | (with_reducible exact t) | (with_reducible refine Below.setCell ?_ ?_ _) | go_size)
theorem makeP_lt {lo hi:Nat} (hl:lo<18446744073709551616) (hh:hi<18446744073709551616):(makeP lo hi).1<18446744073709551616∧(makeP lo hi).2<18446744073709551616:=by
 unfold makeP
 split
 · exact⟨pz_lt hl,pz_lt hh⟩
 · exact⟨infI_lt 1,infI_lt (-1)⟩
@[go_sem] theorem equalIn_float (a b:Nat) (w:World):(Op.equalIn 9999 30 (.float .f64 a) (.float .f64 b)).run Tryd.prog w=.ok (FloatKind.f64.format.order a b==some .eq) w:=by
 unfold Op.equalIn
 simp [go_sem]
 rfl
def rightB (lo hi:Nat):Bool:=eqB lo (infI 1)&&eqB hi (infI (-1)) || hsB lo hi
end Go.Proofs.YtgocelaghggpmaaDoor
