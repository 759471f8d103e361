/- KrawRefuses: for every tape, box and parameters Solve refuses as the document says, tells Grad's error, or one of three answers; a box that it tells lies in the one that was asked of -/
import Derived.Test.YtopfabemfbdccaaGreatZk53
namespace Go.Proofs.YtopfabemfbdccaaGreat.krawRefuses
open Go.ChangeShapes Go.WideShapes Go.ChangeAt Go.RowKit Go.Deep

theorem over : Rows.krawRefusesRow.holds Tryz.pinned (OpenSpec.ofChange Rows.krawRefusesSpec) :=
  OpenClaim.holds_of_wide 4 Tryz.f4 rfl rfl rfl rfl rfl rfl rfl ⟨rfl, rfl, rfl, rfl, rfl⟩ rfl rfl rfl rfl rfl (by kernel_rfl) Tryz.func4 (by kernel_rfl)
    (of_decide_eq_true (by kernel_rfl)) (by unfold Func.isWrapper; first | (rw [if_pos (by decide +kernel)]; kernel_rfl) | (rw [if_neg (by decide +kernel)]; exact ⟨rfl, rfl⟩))
    (fun os started H enc _ => lifted os started H enc)

end Go.Proofs.YtopfabemfbdccaaGreat.krawRefuses

namespace Go.Proofs.YtopfabemfbdccaaGreat
/-- THE STATEMENT -/
theorem krawRefuses_proved : Rows.KrawRefusesSaid := krawRefuses.over
#print axioms krawRefuses_proved
end Go.Proofs.YtopfabemfbdccaaGreat
