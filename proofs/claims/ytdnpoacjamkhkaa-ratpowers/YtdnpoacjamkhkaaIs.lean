/- The walks of Mag, Mig, Sqr and Sqrt, of intervals that hold some number. The walks of Sqr and Sqrt, of intervals that hold some number. -/
import Derived.Test.YtdnpoacjamkhkaaIo
namespace Go.Proofs.Ytdnpoacjamkhkaa
open Go.ChangeShapes Go.WideShapes Go.ChangeAt Go.RowKit

theorem absw {x : Nat} : x % 9223372036854775808 < 18446744073709551616 := by omega
theorem nan_abs (x : Nat) : nanB (x % 9223372036854775808) = nanB x := by unfold nanB; rw [Nat.mod_mod]
def magP (lo hi : Nat) : Nat := if hsB lo hi then maxW (lo % 9223372036854775808) (hi % 9223372036854775808) else 0
def migP (lo hi : Nat) : Nat := if hsB lo hi then (if hasB lo hi 0 then 0 else minW (lo % 9223372036854775808) (hi % 9223372036854775808)) else 0

theorem hs_nan {lo hi : Nat} (h : hsB lo hi = true) : nanB lo = false ∧ nanB hi = false := by
  unfold hsB at h
  simp only [Bool.and_eq_true, Bool.not_eq_true'] at h
  exact ⟨h.1.1.1.1.1.1, h.1.1.1.1.1.2⟩

end Go.Proofs.Ytdnpoacjamkhkaa

namespace Go.Proofs.Ytdnpoacjamkhkaa
open Go.ChangeShapes Go.WideShapes Go.ChangeAt Go.RowKit

/-- The product, the root, to a side, where there is one. -/
def mulV (a b : Nat) (d : Int) : Nat := (mulR a b d).getD 0
def sqrtV (a : Nat) (d : Int) : Nat := (sqrtR a d).getD 0

theorem mulV_is {a b : Nat} (d : Int) (na : nanB a = false) (nb : nanB b = false) : mulR a b d = some (mulV a b d) := by
  obtain ⟨r, h⟩ := mulR_num d na nb
  unfold mulV
  rw [h]; rfl
theorem mulV_w (a b : Nat) (d : Int) (ha : a < 18446744073709551616) (hb : b < 18446744073709551616) (na : nanB a = false) (nb : nanB b = false) (w : World) :
    Calls Try.prog 66 #[.float .f64 a, .float .f64 b, .int .i64 d] w fun e w' => e = .returned (.float .f64 (mulV a b d)) ∧ Below w.heap.size w w' := by
  have h := mul_w a b d ha hb w
  rw [mulV_is d na nb] at h
  refine h.mono ?_
  rintro _ _ ⟨⟨r, rfl, -, e⟩, hb⟩
  have e : r = mulV a b d := e
  rw [e]
  exact ⟨rfl, hb⟩
theorem sqrtR_num {a : Nat} (d : Int) (na : nanB a = false) (ga : splitG a = false) : ∃ r, sqrtR a d = some r := by
  unfold sqrtR
  rw [na, ga]
  simp only [Bool.or_self, Bool.false_eq_true, if_false]
  split
  · exact ⟨_, rfl⟩
  · exact ⟨_, rfl⟩
theorem sqrtV_is {a : Nat} (d : Int) (na : nanB a = false) (ga : splitG a = false) : sqrtR a d = some (sqrtV a d) := by
  obtain ⟨r, h⟩ := sqrtR_num d na ga
  unfold sqrtV
  rw [h, Option.getD_some]
end Go.Proofs.Ytdnpoacjamkhkaa
