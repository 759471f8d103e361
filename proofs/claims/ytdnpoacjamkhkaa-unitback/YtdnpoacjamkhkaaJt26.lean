/- The reference's numbers of stage 11: Add and Sub, whole. -/
import Derived.Test.YtdnpoacjamkhkaaJt25
namespace Go.Proofs.Ytdnpoacjamkhkaa
open Go.ChangeShapes Go.WideShapes Go.ChangeAt Go.RowKit
theorem add11_w (aN aD bN bD:Int) (ha:I64 aN∧I64 aD) (hb:I64 bN∧I64 bD) (w:World) :
   Calls Try.prog 15 #[.agg #[.int .i64 aN,.int .i64 aD],.agg #[.int .i64 bN,.int .i64 bD]] w fun r w'=>r=.returned (.tuple #[.agg #[.int .i64 (addV11 aN aD bN bD).1,.int .i64 (addV11 aN aD bN bD).2.1],.int .i64 (addV11 aN aD bN bD).2.2])∧Below w.heap.size w w':=by
 cases h:(rightR aN aD&&rightR bN bD)
 · have e:addV11 aN aD bN bD=(0,0,1):=by unfold addV11;rw [h];rfl
   rw [e]
   exact add11_bad aN aD bN bD ha hb h w
 · have e:addV11 aN aD bN bD=ofV (decide (aN*bD+bN*aD<0)) (aN*bD+bN*aD).natAbs (aD.natAbs*bD.natAbs):=by unfold addV11;rw [h];rfl
   rw [e]
   obtain⟨h1,h2⟩:=Bool.and_eq_true_iff.1 h
   refine (add11_good aN aD bN bD ha hb h1 h2 w).mono ?_
   rintro _ w' ⟨⟨ov,rfl,rfl⟩,hb1⟩
   exact⟨rfl,hb1⟩
theorem rightR_N {N D:Int} (h:rightR N D=true):N≠-9223372036854775808:=by
 unfold rightR at h
 simp only [Bool.and_eq_true,decide_eq_true_eq] at h
 exact h.2.1
end Go.Proofs.Ytdnpoacjamkhkaa
