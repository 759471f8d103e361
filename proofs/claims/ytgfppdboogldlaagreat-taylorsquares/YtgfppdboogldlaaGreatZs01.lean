/- The walk of math/bits' Len64: how many bits a word has. -/
import Derived.Test.YtgfppdboogldlaaGreatChecked
import Derived.Lib.Strings
import Derived.Lib.Slices
import Derived.Lib.Small
import Derived.Lib.Walk
import Derived.Lib.BitFns
import Derived.KernelRfl
namespace Go.Proofs.YtgfppdboogldlaaGreat
theorem len_upper (X k z:Nat) (hX:X<18446744073709551616) (hz:z=X/2^k) (hk:2^k≤X):Lib.bitLen X=k+Lib.bitLen z:=by
 subst hz;exact Lib.bitLen_shift k X hk hX
theorem len_part (x b:Int) (k D:Nat) (h0:0≤x) (h1:x≤18446744073709551615) (hD:D=2^k) (hb:b.toNat=x.toNat/D) (hr:0≤b∧b≤255) (hk:(D:Int)≤x∨k=0) :
   Lib.len8 b+k=Lib.bitLen x.toNat∧0≤Lib.len8 b∧Lib.len8 b≤8:=by
 have e:=Lib.len8_of b hr.1 hr.2
 have l:=Lib.bitLen_le8' b hr.1 hr.2
 have u:Lib.bitLen x.toNat=k+Lib.bitLen b.toNat:=by
   rcases hk with hk | hk
   · exact len_upper x.toNat k b.toNat (by omega) (by rw [hb,hD]) (by rw [←hD];omega)
   · subst hk;subst hD;rw [hb];simp
 omega
set_option maxHeartbeats 1000000 in
set_option maxRecDepth 100000 in
theorem len64_i (x:Int) (w:World) (h0:0≤x) (h1:x≤18446744073709551615) :
   Calls Tryz.prog 226 #[.int .u64 x] w fun e w'=>e=.returned (.int .i64 (Lib.bitLen x.toNat))∧w=w':=by
 go_enter Tryz.func226,Tryz.ntmps226
 go_wp2
 all_goals go_ret
 all_goals refine⟨congrArg (fun n=>Ending.returned (Value.int IntKind.i64 n)) ?_,rfl⟩
 all_goals first
   | (rw [show x/4294967296/65536/256%256=x/72057594037927936%256 by omega];have c:=len_part x (x/72057594037927936%256) 56 72057594037927936 h0 h1 rfl (by omega) (by omega) (by omega);omega)
   | (rw [show x/4294967296/65536%256=x/281474976710656%256 by omega];have c:=len_part x (x/281474976710656%256) 48 281474976710656 h0 h1 rfl (by omega) (by omega) (by omega);omega)
   | (rw [show x/4294967296/256%256=x/1099511627776%256 by omega];have c:=len_part x (x/1099511627776%256) 40 1099511627776 h0 h1 rfl (by omega) (by omega) (by omega);omega)
   | (have c:=len_part x (x/4294967296%256) 32 4294967296 h0 h1 rfl (by omega) (by omega) (by omega);omega)
   | (rw [show x/65536/256%256=x/16777216%256 by omega];have c:=len_part x (x/16777216%256) 24 16777216 h0 h1 rfl (by omega) (by omega) (by omega);omega)
   | (have c:=len_part x (x/65536%256) 16 65536 h0 h1 rfl (by omega) (by omega) (by omega);omega)
   | (have c:=len_part x (x/256%256) 8 256 h0 h1 rfl (by omega) (by omega) (by omega);omega)
   | (have c:=len_part x (x%256) 0 1 h0 h1 rfl (by omega) (by omega) (by omega);omega)
end Go.Proofs.YtgfppdboogldlaaGreat
