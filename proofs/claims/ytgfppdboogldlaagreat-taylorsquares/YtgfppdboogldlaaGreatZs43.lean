/- Slices of floats as they lie in memory; what allFinite answers. Rows of floats as they lie in memory; what floatsMayBe and the reference's finite answer. What the reference's Floats answers. The unit matrix: lin.One. Rows that the reference appends: One. Floats as intervals: the reference's Points. Floats as intervals: lin.Points. -/
import Derived.Test.YtgfppdboogldlaaGreatZs22
import Derived.Test.YtgfppdboogldlaaGreatZs03
import Derived.Test.YtgfppdboogldlaaGreatZs28
namespace Go.Proofs.YtgfppdboogldlaaGreat
open Go.ChangeShapes Go.WideShapes Go.ChangeAt Go.RowKit
theorem fin_le (x:Nat) (hx:x<18446744073709551616):finB x=(leB 18442240474082181119 x&&leB x 9218868437227405311):=by
 have k1:key 18442240474082181119=-9218868437227405311:=by decide
 have k2:key 9218868437227405311=9218868437227405311:=by decide
 have n1:nanB 18442240474082181119=false:=by decide
 have n2:nanB 9218868437227405311=false:=by decide
 unfold leB
 rw [k1,k2,n1,n2,Bool.eq_iff_iff]
 unfold finB nanB key
 simp only [Bool.and_eq_true,Bool.not_eq_true',decide_eq_true_eq,decide_eq_false_iff_not,Bool.not_false,true_and,and_true]
 by_cases b:x<9223372036854775808
 · rw [if_pos b];omega
 · rw [if_neg b];omega
theorem rfin_w (x:Nat) (hx:x<18446744073709551616) (w:World):Calls Tryz.prog 30 #[.float .f64 x] w fun e w'=>e=.returned (.bool (finB x))∧w=w':=by
 have h1:=o_ge (a:=x) (b:=18442240474082181119) hx (by omega)
 have h2:=o_le (a:=x) (b:=9218868437227405311) hx (by omega)
 rw [fin_le x hx]
 generalize leB 18442240474082181119 x=p at *
 generalize leB x 9218868437227405311=q at *
 cases p <;> cases q
 all_goals
   go_enter Tryz.func30,Tryz.ntmps30
   go_wp2_with fail
   go_ret
   exact⟨rfl,rfl⟩
end Go.Proofs.YtgfppdboogldlaaGreat
