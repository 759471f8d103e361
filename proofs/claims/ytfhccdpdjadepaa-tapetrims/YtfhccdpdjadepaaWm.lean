/- The walk of math/bits' Len64: how many bits a word has. -/
import Derived.Test.YtfhccdpdjadepaaChecked
import Derived.Lib.Strings
import Derived.Lib.Slices
import Derived.Lib.Small
import Derived.Lib.Walk
import Derived.Lib.BitFns
import Derived.KernelRfl
namespace Go.Proofs.Ytfhccdpdjadepaa

/-- A word's bits, by those of its upper part. -/
theorem len_upper (X k z : Nat) (hX : X < 18446744073709551616) (hz : z = X / 2 ^ k) (hk : 2 ^ k ≤ X) : Lib.bitLen X = k + Lib.bitLen z := by
  subst hz; exact Lib.bitLen_shift k X hk hX

/-- The table's byte at the word's uppermost part: the bits that are left. -/
theorem len_part (x b : Int) (k D : Nat) (h0 : 0 ≤ x) (h1 : x ≤ 18446744073709551615) (hD : D = 2 ^ k) (hb : b.toNat = x.toNat / D) (hr : 0 ≤ b ∧ b ≤ 255) (hk : (D : Int) ≤ x ∨ k = 0) :
    Lib.len8 b + k = Lib.bitLen x.toNat ∧ 0 ≤ Lib.len8 b ∧ Lib.len8 b ≤ 8 := by
  have e := Lib.len8_of b hr.1 hr.2
  have l := Lib.bitLen_le8' b hr.1 hr.2
  have u : Lib.bitLen x.toNat = k + Lib.bitLen b.toNat := by
    rcases hk with hk | hk
    · exact len_upper x.toNat k b.toNat (by omega) (by rw [hb, hD]) (by rw [← hD]; omega)
    · subst hk; subst hD; rw [hb]; simp
  omega

end Go.Proofs.Ytfhccdpdjadepaa
