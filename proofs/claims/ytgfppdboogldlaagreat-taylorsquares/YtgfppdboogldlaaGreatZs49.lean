/- What the law of the two series asks for: the quotients. -/
import Derived.Test.YtgfppdboogldlaaGreatZs41
import Derived.Test.YtgfppdboogldlaaGreatZs48
namespace Go.Proofs.YtgfppdboogldlaaGreat
open Go.ChangeShapes Go.WideShapes Go.ChangeAt Go.RowKit
def pwZ (v:Int):Nat→Int
 | 0=>1
 | n+1=>pwZ v n*v
theorem pw_units (k:Int):∀n,pwR (vq k) n*(((2^(expN*n):Nat):Int):Rat)=(pwZ (V k) n:Rat)
 | 0=>by show (1:Rat)*(((2^(expN*0):Nat):Int):Rat)=((1:Int):Rat);rw [Nat.mul_zero,Nat.pow_zero];show (1:Rat)*((1:Int):Rat)=((1:Int):Rat);grind
 | n+1=>by
   have h:=pw_units k n
   show pwR (vq k) n*vq k*(((2^(expN*(n+1)):Nat):Int):Rat)=((pwZ (V k) n*V k:Int):Rat)
   rw [Nat.mul_add,Nat.mul_one,Nat.pow_add,Int.natCast_mul,Rat.intCast_mul,Rat.intCast_mul,←h]
   have i:=iuQ_one
   unfold vq
   show _*((V k:Rat)*iuQ)*(_*((unitN:Int):Rat))=_
   generalize ((unitN:Int):Rat)=U at *
   generalize iuQ=z at *
   generalize (((2^(expN*n):Nat):Int):Rat)=P at *
   generalize pwR ((V k:Rat)*z) n=p at *
   grind
theorem quot_pow (k:Int) (n:Nat):pwR (vq k) n*(((1*((2^(expN*n+expN):Nat):Int):Int)):Rat)=(pwZ (V k) n:Rat)*((unitN:Int):Rat):=by
 rw [Int.one_mul,Nat.pow_add,Int.natCast_mul,Rat.intCast_mul,←pw_units k n]
 show _*(_*((unitN:Int):Rat))=_
 grind
theorem ex_fac (v:Rat):∀k,exQR v k*((facN k:Int):Rat)=v
 | 0=>by show v*((1:Int):Rat)=v;grind
 | k+1=>by
   have h:=ex_fac v k
   show exQR v k*(((k:Int)+1:Int):Rat)⁻¹*(((facN k*(k+1):Nat):Int):Rat)=v
   have c:(((k:Int)+1:Int):Rat)≠0:=by
     have:(0:Rat)<(((k:Int)+1:Int):Rat):=Rat.intCast_pos.2 (by omega)
     grind
   have i:=Rat.mul_inv_cancel _ c
   rw [Int.natCast_mul,Rat.intCast_mul,show ((k+1:Nat):Int)=(k:Int)+1 by omega]
   generalize (((k:Int)+1:Int):Rat)=A at *
   generalize A⁻¹=B at *
   grind
theorem quot_fac (k:Int) (n:Nat):exQR (vq k) n*((((facN n:Int)*((2^(expN+expN):Nat):Int):Int)):Rat)=(V k:Rat)*((unitN:Int):Rat):=by
 have h:=ex_fac (vq k) n
 have i:=iuQ_one
 rw [Rat.intCast_mul,Nat.pow_add,Int.natCast_mul,Rat.intCast_mul]
 show _*(_*(((unitN:Int):Rat)*((unitN:Int):Rat)))=_
 have e:vq k=(V k:Rat)*iuQ:=rfl
 generalize ((unitN:Int):Rat)=U at *
 generalize exQR (vq k) n=x at *
 generalize ((facN n:Int):Rat)=F at *
 rw [e] at h
 generalize iuQ=z at *
 grind
theorem facN_pos:∀n,0<facN n
 | 0=>Nat.one_pos
 | n+1=>Nat.mul_pos (facN_pos n) (Nat.succ_pos n)
theorem hq_power {W:World} {lo hi:Nat} {k:Int} {n:Nat} (hn:n≤13) (h:Hq (lo,hi) (pwR (vq k) (n+1))) {pg rg:Bool} {pa ra:Option Addr} {pl pc rl rc:Nat} {pe re:Int} {K:Nat} (hK:K≤1000)
   (na:NumZ (-1074*((n+1:Nat):Int)) (971*((n+1:Nat):Int)) K W (.agg #[.bool pg,.slice pa pl pc,.int .i64 pe]) (pwZ (V k) (n+1))) (nb:NumZ 0 0 1 W (.agg #[.bool rg,.slice ra rl rc,.int .i64 re]) 1) :
   Calls Tryz.prog 13 #[.agg #[.float .f64 lo,.float .f64 hi],.agg #[.bool pg,.slice pa pl pc,.int .i64 pe],.agg #[.bool rg,.slice ra rl rc,.int .i64 re]] W fun e w'=>e=.returned (.bool true)∧Below W.heap.size W w':=by
 have e:(expN:Int)=1074:=rfl
 have n2:=(nb.scale (S':=-1074*((n+1:Nat):Int)-1074) (t:=expN*(n+1)+expN) (by have e2:((expN*(n+1)+expN:Nat):Int)=1074*((n+1:Nat):Int)+1074:=(by rw [Int.natCast_add,Int.natCast_mul,e]);rw [e2];omega)).wide (T':=971*((n+1:Nat):Int)+971) (K':=1053) (by omega) (by omega)
 refine hquotT_w lo hi _ h pg rg pa ra pl pc rl rc pe re (n+1) 1053 (by omega) (by omega) (by omega) _ _ ?_ (quot_pow k (n+1)) W (na.wide (Int.le_refl _) (by omega)) n2
 rw [Int.one_mul]
 exact Int.natCast_ne_zero.2 (Nat.pos_iff_ne_zero.1 (Nat.two_pow_pos _))
theorem hq_factor {W:World} {lo hi:Nat} {k:Int} {n:Nat} (h:Hq (lo,hi) (exQR (vq k) n)) {pg rg:Bool} {pa ra:Option Addr} {pl pc rl rc:Nat} {pe re:Int}
   (na:NumZ (-1074) 971 53 W (.agg #[.bool pg,.slice pa pl pc,.int .i64 pe]) (V k)) (nb:NumZ 0 0 256 W (.agg #[.bool rg,.slice ra rl rc,.int .i64 re]) (facN n:Int)) :
   Calls Tryz.prog 13 #[.agg #[.float .f64 lo,.float .f64 hi],.agg #[.bool pg,.slice pa pl pc,.int .i64 pe],.agg #[.bool rg,.slice ra rl rc,.int .i64 re]] W fun e w'=>e=.returned (.bool true)∧Below W.heap.size W w':=by
 have e:(expN:Int)=1074:=rfl
 have n2:=(nb.scale (S':=-1074*((1:Nat):Int)-1074) (t:=expN+expN) (by rw [Int.natCast_add,e];omega)).wide (T':=971*((1:Nat):Int)+971) (K':=256) (by omega) (by omega)
 refine hquotT_w lo hi _ h pg rg pa ra pl pc rl rc pe re 1 256 (by omega) (by omega) (by omega) _ _ ?_ (quot_fac k n) W (na.wide (Int.le_refl _) (by omega)) n2
 have a:(0:Int)<(facN n:Int):=by have:=facN_pos n;omega
 have b:(0:Int)<((2^(expN+expN):Nat):Int):=Int.natCast_pos.2 (Nat.two_pow_pos _)
 exact Int.ne_of_gt (Int.mul_pos a b)
end Go.Proofs.YtgfppdboogldlaaGreat
