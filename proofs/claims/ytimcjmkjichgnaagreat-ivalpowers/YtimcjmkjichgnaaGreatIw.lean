/- What Mul of intervals that hold numbers answers: ends with the product between them. -/
import Derived.Test.YtimcjmkjichgnaaGreatRr
import Derived.Test.YtimcjmkjichgnaaGreatIp
namespace Go.Proofs.YtimcjmkjichgnaaGreat
open Go.ChangeShapes Go.WideShapes Go.ChangeAt Go.RowKit

theorem ge0 {x : Nat} (hx : x < 18446744073709551616) (hn : nanB x = false) : (FloatKind.f64.format.order x 0 == some .gt || FloatKind.f64.format.order x 0 == some .eq) = decide (0 ≤ key x) := by
  rw [o_ge hx (by omega)]
  unfold leB
  have h0 : nanB 0 = false := by decide
  have k0 : key 0 = 0 := rfl
  rw [hn, h0, k0]; simp
theorem le0 {x : Nat} (hx : x < 18446744073709551616) (hn : nanB x = false) : (FloatKind.f64.format.order x 0 == some .lt || FloatKind.f64.format.order x 0 == some .eq) = decide (key x ≤ 0) := by
  rw [o_le hx (by omega)]
  unfold leB
  have h0 : nanB 0 = false := by decide
  have k0 : key 0 = 0 := rfl
  rw [hn, h0, k0]; simp

theorem lpP_lt {t fl fh : Nat} (nt : nanB t = false) (n1 : nanB fl = false) (n2 : nanB fh = false) : lpP t fl fh < 18446744073709551616 := by
  unfold lpP
  split
  · exact (mulV_facts (-1) nt n2).2
  · exact (mulV_facts (-1) nt n1).2

theorem some2 {xl xh yl yh a b : Nat} (X : Held xl xh a) (Y : Held yl yh b) : ∀ b W, b < W.heap.size → W.cell? ⟨b, 0, none⟩ = some (.float .f64 xl) → W.cell? ⟨b, 1, none⟩ = some (.float .f64 xh) → W.cell? ⟨b, 2, none⟩ = some (.float .f64 yl) → W.cell? ⟨b, 3, none⟩ = some (.float .f64 yh) →
    Calls Tryz.prog 10 #[.slice (some ⟨b, 0, none⟩) 2 2] W fun e w' => e = .returned (.bool false) ∧ Below W.heap.size W w' := by
  intro b W hlt c0 c1 c2 c3
  have h := someEmpty2_w b xl xh yl yh X.hl X.hh Y.hl Y.hh W hlt c0 c1 c2 c3
  rw [X.hs, Y.hs] at h
  exact h
theorem some1 {xl xh a : Nat} (X : Held xl xh a) : ∀ b W, W.cell? ⟨b, 0, none⟩ = some (.float .f64 xl) → W.cell? ⟨b, 1, none⟩ = some (.float .f64 xh) →
    Calls Tryz.prog 10 #[.slice (some ⟨b, 0, none⟩) 1 1] W fun e w' => e = .returned (.bool false) ∧ Below W.heap.size W w' := by
  intro b W c0 c1
  have h := someEmpty1_w b xl xh X.hl X.hh W c0 c1
  rw [X.hs] at h
  exact h

end Go.Proofs.YtimcjmkjichgnaaGreat
