/- ElemMade: for every interval pi and the logarithm of 2 are told by neighbours that hold the exact ones, and Tan, Sinh, Cosh and Tanh are made of Sin, Cos and Exp just as the document says -/
import Derived.Test.YtopfabemfbdccaaGreatZe49
namespace Go.Proofs.YtopfabemfbdccaaGreat.elemMade
open Go.ChangeShapes Go.WideShapes Go.ChangeAt Go.RowKit

theorem over : Rows.elemMadeRow.holds Tryz.pinned (OpenSpec.ofChange Rows.elemMadeSpec) :=
  OpenClaim.holds_of_wide 3 Tryz.f3 rfl rfl rfl rfl rfl rfl rfl ⟨rfl, rfl, rfl, rfl, rfl⟩ rfl rfl rfl rfl rfl (by kernel_rfl) Tryz.func3 (by kernel_rfl)
    (of_decide_eq_true (by kernel_rfl)) (by unfold Func.isWrapper; first | (rw [if_pos (by decide +kernel)]; kernel_rfl) | (rw [if_neg (by decide +kernel)]; exact ⟨rfl, rfl⟩))
    (fun os started H enc _ => lifted os started H enc)

end Go.Proofs.YtopfabemfbdccaaGreat.elemMade

namespace Go.Proofs.YtopfabemfbdccaaGreat
/-- THE STATEMENT -/
theorem elemMade_proved : Rows.ElemMadeSaid := elemMade.over
#print axioms elemMade_proved
end Go.Proofs.YtopfabemfbdccaaGreat
