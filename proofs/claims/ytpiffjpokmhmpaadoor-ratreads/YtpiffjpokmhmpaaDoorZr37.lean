/- RatReads: the law's walk; what the card's listed variables give it. -/
import Derived.Test.YtpiffjpokmhmpaaDoorZr36
import Derived.LaidMore
import Derived.Stop.LaidErr
import Derived.Lib.SmallJoins
namespace Go.Proofs.YtpiffjpokmhmpaaDoor
open Go.ChangeShapes Go.WideShapes Go.ChangeAt Go.RowKit
set_option maxHeartbeats 1000000 in
theorem ratReads_core (s:ByteArray) (g1 g2 g3:Int)
   (c1:∀W,Calls Tryd.prog 8 #[.string s] W fun r w'=>r=.returned (.tuple #[.agg #[.int .i64 g1,.int .i64 g2],.int .i64 g3])∧Below W.heap.size W w') (w:World)
   (c0:Calls Tryd.prog 7 #[.string s] w fun r w'=>r=.returned (.tuple #[.agg #[.int .i64 g1,.int .i64 g2],.int .i64 g3])∧Below w.heap.size w w') :
   Calls Tryd.prog 3 #[.string s] w fun e w'=>e=.returned (.bool true)∧Below w.heap.size w w':=by
 go_enter Tryd.func3,Tryd.ntmps3
 go_wp2_with (first
   | (go_at_call 7;(with_reducible refine c0.mono ?_);rintro _ W1 ⟨rfl,HB⟩;have X1:Has2 (W1.alloc (.cells #[.int .i64 g1,.int .i64 g2] 23)) W1.heap.size (.int .i64 g1) (.int .i64 g2):=⟨by go_simp,by go_simp,by go_simp,by go_simp,by go_size⟩;have HB1:=later HB (grewW W1 (.cells #[.int .i64 g1,.int .i64 g2] 23)))
   | (go_at_call 8;(with_reducible refine (c1 _).mono ?_);rintro _ W2 ⟨rfl,hb1⟩;have X2:=(X1.keep hb1).keep (grewW W2 (.cells #[.int .i64 g1,.int .i64 g2] 23));have HB2:=later (later HB1 hb1) (grewW W2 (.cells #[.int .i64 g1,.int .i64 g2] 23));clear X1 HB1 HB hb1;obtain⟨x0,x1,x2,x3,x4⟩:=id X2))
 go_ret
 exact⟨by simp,HB2⟩
theorem ratReads_w (s:ByteArray) (hs:(s.size:Int)≤9223372036854775807) (w:World) (T:ErrR w) :
   Calls Tryd.prog 3 #[.string s] w fun e w'=>e=.returned (.bool true)∧Below w.heap.size w w' :=
 ratReads_core s _ _ _ (fun W=>rread_w s hs W) w (readT_w s hs w T)
theorem star_err:"*"++"errors.errorString"="*errors.errorString":=by decide
theorem row_err (u:TypeId) (h:Tryd.prog.typeName? 3 u=some "*errors.errorString"):u=119 :=
 typeName_ptr_named (nm:="errors.errorString") (by rw [star_err];kernel_rfl) (by kernel_rfl) (by decide) u (by rw [star_err];exact h)
theorem errR_laid {text:List UInt8} {r:List (String×DataW Unit)} {W:World} (h:laidMet Tryd.prog (("strconv.ErrRange",.iface "*errors.errorString" (.ptr (.agg [.lit (.string text)]))) :: r) W):ErrR W:=by
 obtain⟨a,s,hv, -⟩:=laid_sentinel h (g:=2) (by kernel_rfl) (by kernel_rfl) Tryd.underlying47 row_err Tryd.underlying119 Tryd.underlying121 rfl rfl Tryd.underlying9 (by kernel_rfl) (by kernel_rfl)
 intro W' hb
 exact⟨_,_,Joins.var_stays (g:=2) (by kernel_rfl) hv hb (Nat.le_refl _)⟩
end Go.Proofs.YtpiffjpokmhmpaaDoor
