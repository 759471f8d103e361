/- The power of two above a float; the greatest one of a row. The greatest power of two of a row of floats. -/
import Derived.Test.YtlabmpngbcnhpaaGreatZi28
import Derived.Test.YtlabmpngbcnhpaaGreatZi24
namespace Go.Proofs.YtlabmpngbcnhpaaGreat
open Go.ChangeShapes Go.WideShapes Go.ChangeAt Go.RowKit
def pwI (x:Nat):Int:=splitE x+(Lib.bitLen (splitM x):Int)
set_option maxHeartbeats 1000000 in
theorem powerOf_w (x:Nat) (hx:x<18446744073709551616) (hf:finB x=true) (hl:Lib.bitLen (splitM x)≤64) (w:World) :
   Calls Tryz.prog 73 #[.float .f64 x] w fun e w'=>e=.returned (.int .i64 (pwI x))∧Below w.heap.size w w':=by
 have cs:=fun w=>split_w x hx hf w
 obtain⟨b1,b2⟩:=splitE_bounds hf
 unfold pwI
 have hm:=splitM_lt x
 have cl:=fun w=>len64_i (splitM x:Int) w (by omega) (by omega)
 rw [Int.toNat_natCast] at cl
 generalize Lib.bitLen (splitM x)=L at *
 generalize splitG x=g at *
 generalize splitM x=m at *
 generalize splitE x=e at *
 go_enter Tryz.func73,Tryz.ntmps73
 go_upto_region 2 with (go_at_call 79;refine (cs _).mono ?_;rintro _ w1 ⟨rfl,hb1⟩)
 have HB:Below w.heap.size w (w1.alloc (Obj.cells #[Value.bool g,Value.int IntKind.u64 m,Value.int IntKind.i64 e] 97)):=below_alloc hb1 _
 have c1:(w1.alloc (Obj.cells #[Value.bool g,Value.int IntKind.u64 m,Value.int IntKind.i64 e] 97)).cell? ⟨w1.heap.size,1,none⟩=some (.int .u64 m):=by go_simp
 have c2:(w1.alloc (Obj.cells #[Value.bool g,Value.int IntKind.u64 m,Value.int IntKind.i64 e] 97)).cell? ⟨w1.heap.size,2,none⟩=some (.int .i64 e):=by go_simp
 have cz:w1.heap.size<(w1.alloc (Obj.cells #[Value.bool g,Value.int IntKind.u64 m,Value.int IntKind.i64 e] 97)).heap.size:=by go_size
 generalize w1.alloc (Obj.cells #[Value.bool g,Value.int IntKind.u64 m,Value.int IntKind.i64 e] 97)=V1 at *
 have k1:=fun n:Behind V1=>n.cell c1 cz
 have k2:=fun n:Behind V1=>n.cell c2 cz
 refine tail_behind 6 (by kernel_rfl) (by kernel_rfl) ?_
 simp only [List.take_succ_cons,List.take_zero,List.drop_succ_cons,List.drop_zero]
 repeat (go_big_quiet_step (first | (go_at_call 102;with_reducible refine Behind.same (cl _))))
 refine wpQuiet_nil ?_
 rintro _ ⟨q,rfl⟩
 obtain⟨W,hb2⟩:=q
 dsimp only
 clear k1 k2 c1 c2 cz
 replace HB:=later HB hb2
 go_wp2_with fail
 go_ret
 exact⟨rfl,HB⟩
theorem bl_le (m:Nat) (h:m<9007199254740992):Lib.bitLen m≤64:=by
 by_cases h0:m=0
 · subst h0;decide
 · rw [bitLen_log2 m h0 (by omega)]
   have:=(Nat.log2_lt h0).2 (show m<2^53 by omega)
   omega
def zeB (x:Nat):Bool:=FloatKind.f64.format.order x 0==some .eq
def gpI (X:Nat→Nat) (D:Nat→Int):Nat→Int
 | 0=>-9223372036854775808
 | j+1=>if zeB (X j) then gpI X D j else max (gpI X D j) (pwI (X j)-D j)
theorem pw_bounds {x:Nat} (hf:finB x=true):-1074≤pwI x∧pwI x≤1035:=by
 have a:=splitE_bounds hf
 have b:=bl_le (splitM x) (splitM_lt x)
 unfold pwI
 omega
set_option maxHeartbeats 2000000 in
theorem gp_w (A B:Option Addr) (n C E:Nat) (X:Nat→Nat) (D:Nat→Int) (hn:n≤3000000) (hf:∀j,j<n→finB (X j)=true) (hD:∀j,j<n→zeB (X j)=false→-100000≤D j∧D j≤100000) (w:World) (V:Fls w A n X)
   (U:∀j,j<n→∃b o,B=some ⟨b,o,none⟩∧b<w.heap.size∧w.cell? ⟨b,o+j,none⟩=some (.int .i64 (D j))) :
   Calls Tryz.prog 38 #[.slice A n C,.slice B n E] w fun e w'=>e=.returned (.int .i64 (gpI X D n))∧Below w.heap.size w w':=by
 have HF:Hid (∀j,j<n→finB (X j)=true):=hf
 have HD:Hid (∀j,j<n→zeB (X j)=false→-100000≤D j∧D j≤100000):=hD
 have HU:Hid (∀j,j<n→∃b o,B=some ⟨b,o,none⟩∧b<w.heap.size∧w.cell? ⟨b,o+j,none⟩=some (.int .i64 (D j))):=U
 clear hf hD U
 go_enter Tryz.func38,Tryz.ntmps38
 go_wp2_with fail
 go_loopg [5,10] n (fun G s5 s10 wx=>Below w.heap.size w wx∧∃j:Nat,j+G=n∧s10=.int .i64 (j:Int)∧s5=.int .i64 (gpI X D j))
 case atStart=>exact⟨Below.refl _ _,0,by omega,rfl,rfl⟩
 case round =>
   obtain⟨HB,j,hj,rfl,rfl⟩:=hrel
   by_cases cj:j=n
   · subst cj
     go_wp2_with fail
     go_ret
     exact⟨rfl,HB⟩
   · have hltj:(j:Int)<(n:Int):=by omega
     obtain⟨b1,o1,hA1,lb1,x0,lx⟩:=(V.keep HB) j (by omega)
     have hfj:=HF.out j (by omega)
     cases hz:zeB (X j)
     · have nx:Hid (gpI X D (j+1)=max (gpI X D j) (pwI (X j)-D j)):=by
         show (if zeB (X j)=true then gpI X D j else max (gpI X D j) (pwI (X j)-D j))=_
         rw [if_neg (by rw [hz];simp)]
       have cp:=fun w=>powerOf_w (X j) lx hfj (bl_le _ (splitM_lt _)) w
       obtain⟨d1,d2⟩:=HD.out j (by omega) hz
       obtain⟨p1,p2⟩:=pw_bounds hfj
       obtain⟨b2,o2,hB2,lb2,u0⟩:=HU.out j (by omega)
       replace u0:=keepsC HB u0 lb2
       replace lb2:=Nat.lt_of_lt_of_le lb2 HB.size
       have hz2:(FloatKind.f64.format.order (X j) 0 != some .eq)=true:=by unfold zeB at hz;simp only [bne,hz,Bool.not_false]
       clear hz
       generalize gpI X D j=gp at *
       generalize pwI (X j)=pw at *
       generalize D j=d at *
       generalize X j=x at *
       subst hA1
       subst hB2
       go_upto_region 6 with fail
       have ku:=fun n:Behind wr=>n.cell u0 lb2
       refine tail_behind 9 (by kernel_rfl) (by kernel_rfl) ?_
       simp only [List.take_succ_cons,List.take_zero,List.drop_succ_cons,List.drop_zero]
       repeat (go_big_quiet_step (first | (go_at_call 73;with_reducible refine Behind.call (cp _))))
       refine wpQuiet_nil ?_
       rintro _ ⟨q,rfl⟩
       obtain⟨W,hb1⟩:=q
       dsimp only
       clear ku
       replace HB:=later HB hb1
       go_wp2_with fail
       go_roundg (n-j-1)
       case measure=>omega
       case rel=>exact⟨HB,j+1,by omega,by go_num,by rw [nx.out]⟩
     · have nx:Hid (gpI X D (j+1)=gpI X D j):=by
         show (if zeB (X j)=true then gpI X D j else max (gpI X D j) (pwI (X j)-D j))=_
         rw [if_pos hz]
       have hz2:(FloatKind.f64.format.order (X j) 0 != some .eq)=false:=by unfold zeB at hz;simp only [bne,hz,Bool.not_true]
       clear hz
       generalize gpI X D j=gp at *
       generalize X j=x at *
       subst hA1
       go_wp2_with fail
       go_roundg (n-j-1)
       case measure=>omega
       case rel=>exact⟨HB,j+1,by omega,by go_num,by rw [nx.out]⟩
end Go.Proofs.YtlabmpngbcnhpaaGreat
