/- The walk of Split: how the program takes a float apart. The walk of sum: the exact sum of two finite floats, with a mark for what is lost. The walk of product: the exact product of two amounts, with a mark for what is lost. -/
import Derived.Test.YtfhccdpdjadepaaWd
import Derived.Deep.QuietTactic
import Derived.BigQuiet
import Derived.Deep.RegionHeld3
import Derived.Deep.CutRange
namespace Go.Proofs.Ytfhccdpdjadepaa
open Go.ChangeShapes Go.WideShapes Go.ChangeAt Go.RowKit

def splitG (x : Nat) : Bool := decide (9223372036854775808 < x)
def splitM (x : Nat) : Nat := if x % 9223372036854775808 < 4503599627370496 then x % 9223372036854775808 else 4503599627370496 + x % 4503599627370496
def splitE (x : Nat) : Int := if x % 9223372036854775808 = 0 then 0 else -1074 + ((x % 9223372036854775808 / 4503599627370496 - 1 : Nat) : Int)

theorem splitM_lt (x : Nat) : splitM x < 9007199254740992 := by unfold splitM; split <;> omega
theorem splitE_bounds {x : Nat} (hf : finB x = true) : -1074 ≤ splitE x ∧ splitE x ≤ 971 := by
  have hr : x % 9223372036854775808 < 9218868437227405312 := by simpa [finB] using hf
  unfold splitE; split <;> omega

end Go.Proofs.Ytfhccdpdjadepaa

namespace Go.Proofs.Ytfhccdpdjadepaa
open Go.ChangeShapes Go.WideShapes Go.ChangeAt Go.RowKit

theorem drewN_below {B : Nat} {w w1 : World} (n : Nat) (h : Below B w w1) : Below B w (w1.drewN n) := ⟨h.os, h.tape, h.output, h.size, h.block⟩

/-- The exact sum's amount, its last bit a mark for what is lost: the first's exponent is not the lesser. -/
def addM (gp : Bool) (mp : Nat) (ep : Int) (gq : Bool) (mq : Nat) (eq : Int) : Nat :=
  if gp != gq then mp * 1024 - moveN (mq * 1024) (ep - eq).toNat else mp * 1024 + moveN (mq * 1024) (ep - eq).toNat
def swapP (mp : Nat) (ep : Int) (mq : Nat) (eq : Int) : Bool := decide (ep < eq ∨ ep = eq ∧ mp < mq)
def sumG (gp : Bool) (mp : Nat) (ep : Int) (gq : Bool) (mq : Nat) (eq : Int) : Bool := if mp = 0 then gq else if mq = 0 then gp else if swapP mp ep mq eq then gq else gp
def sumM (gp : Bool) (mp : Nat) (ep : Int) (gq : Bool) (mq : Nat) (eq : Int) : Nat := if mp = 0 then mq else if mq = 0 then mp else if swapP mp ep mq eq then addM gq mq eq gp mp ep else addM gp mp ep gq mq eq
def sumE (mp : Nat) (ep : Int) (mq : Nat) (eq : Int) : Int := if mp = 0 then eq else if mq = 0 then ep else if swapP mp ep mq eq then eq - 10 else ep - 10

theorem move_le {m n k : Nat} (h : m < 9007199254740992) (hk : n ≠ 0 ∧ 4503599627370496 ≤ k ∨ n = 0 ∧ m ≤ k) : moveN (m * 1024) n ≤ k * 1024 := by
  unfold moveN markN
  rcases hk with ⟨h0, hk⟩ | ⟨rfl, hk⟩
  · have h1 : m * 1024 / 2 ^ n ≤ m * 1024 / 2 ^ 1 := Nat.div_le_div_left (Nat.pow_le_pow_right (by omega) (by omega)) (by omega)
    split <;> omega
  · have : ¬ (m * 1024 % 2 ^ 0 ≠ 0) := by simp [Nat.mod_one]
    simp only [this, decide_false, Bool.false_eq_true, if_false, Nat.pow_zero, Nat.div_one]
    omega

end Go.Proofs.Ytfhccdpdjadepaa

namespace Go.Proofs.Ytfhccdpdjadepaa
open Go.ChangeShapes Go.WideShapes Go.ChangeAt Go.RowKit

theorem keepsC {W0 w2 : World} (hb : Below W0.heap.size W0 w2) {b o : Nat} {v : Value} (hc : W0.cell? ⟨b, o, none⟩ = some v) (hlt : b < W0.heap.size) : w2.cell? ⟨b, o, none⟩ = some v := (hb.cell hlt).trans hc
theorem keepsF {W0 w2 : World} (hb : Below W0.heap.size W0 w2) {b o : Nat} {v : Bool} (hc : W0.frozen? ⟨b, o, none⟩ = v) (hlt : b < W0.heap.size) : w2.frozen? ⟨b, o, none⟩ = v := (hb.frozen hlt).trans hc

/-- Three cells of a block, that may be written. -/
def Has3 (w : World) (b : Nat) (x y z : Value) : Prop := w.cell? ⟨b, 0, none⟩ = some x ∧ w.cell? ⟨b, 1, none⟩ = some y ∧ w.cell? ⟨b, 2, none⟩ = some z ∧ w.frozen? ⟨b, 0, none⟩ = false ∧ w.frozen? ⟨b, 1, none⟩ = false ∧ w.frozen? ⟨b, 2, none⟩ = false ∧ b < w.heap.size

theorem Has3.keep {W0 w2 : World} {b : Nat} {x y z : Value} (h : Has3 W0 b x y z) (hb : Below W0.heap.size W0 w2) : Has3 w2 b x y z := by
  obtain ⟨h0, h1, h2, f0, f1, f2, hl⟩ := h
  exact ⟨keepsC hb h0 hl, keepsC hb h1 hl, keepsC hb h2 hl, keepsF hb f0 hl, keepsF hb f1 hl, keepsF hb f2 hl, Nat.lt_of_lt_of_le hl hb.size⟩

theorem has_new3 (T : TypeId) (w : World) (x1 y1 z1 x2 y2 z2 x3 y3 z3 : Value) :
    Has3 (((w.alloc (.cells #[x1, y1, z1] T)).alloc (.cells #[x2, y2, z2] T)).alloc (.cells #[x3, y3, z3] T)).drew w.heap.size x1 y1 z1 ∧
    Has3 (((w.alloc (.cells #[x1, y1, z1] T)).alloc (.cells #[x2, y2, z2] T)).alloc (.cells #[x3, y3, z3] T)).drew (w.heap.size + 1) x2 y2 z2 ∧
    Has3 (((w.alloc (.cells #[x1, y1, z1] T)).alloc (.cells #[x2, y2, z2] T)).alloc (.cells #[x3, y3, z3] T)).drew (w.heap.size + 1 + 1) x3 y3 z3 ∧
    Below w.heap.size w (((w.alloc (.cells #[x1, y1, z1] T)).alloc (.cells #[x2, y2, z2] T)).alloc (.cells #[x3, y3, z3] T)).drew := by
  refine ⟨⟨by go_simp, by go_simp, by go_simp, by go_simp, by go_simp, by go_simp, ?_⟩, ⟨by go_simp, by go_simp, by go_simp, by go_simp, by go_simp, by go_simp, ?_⟩, ⟨by go_simp, by go_simp, by go_simp, by go_simp, by go_simp, by go_simp, ?_⟩, by go_grown⟩
  · show w.heap.size < ((((w.alloc _).alloc _).alloc _).drew).heap.size
    simp only [World.size_drew, World.size_alloc]; omega
  · show w.heap.size + 1 < ((((w.alloc _).alloc _).alloc _).drew).heap.size
    simp only [World.size_drew, World.size_alloc]; omega
  · show w.heap.size + 1 + 1 < ((((w.alloc _).alloc _).alloc _).drew).heap.size
    simp only [World.size_drew, World.size_alloc]; omega

/-- A struct of three cells is stored. -/
def put3 (w : World) (b : Nat) (x y z : Value) : World := ((w.setCell ⟨b, 0, none⟩ x).setCell ⟨b, 1, none⟩ y).setCell ⟨b, 2, none⟩ z

theorem Has3.put {w : World} {b : Nat} {x y z : Value} (h : Has3 w b x y z) (x' y' z' : Value) : Has3 (((w.setCell ⟨b, 0, none⟩ x').setCell ⟨b, 1, none⟩ y').setCell ⟨b, 2, none⟩ z') b x' y' z' := by
  obtain ⟨h0, h1, h2, f0, f1, f2, hl⟩ := h
  refine ⟨by go_simp, by go_simp, by go_simp, by go_simp, by go_simp, by go_simp, ?_⟩
  simp only [World.size_setCell]; exact hl

theorem Has3.far {w : World} {b c : Nat} {x y z : Value} (h : Has3 w b x y z) (hne : c ≠ b) (x' y' z' : Value) : Has3 (((w.setCell ⟨c, 0, none⟩ x').setCell ⟨c, 1, none⟩ y').setCell ⟨c, 2, none⟩ z') b x y z := by
  obtain ⟨h0, h1, h2, f0, f1, f2, hl⟩ := h
  have hne' : b ≠ c := fun e => hne e.symm
  refine ⟨by simp [World.cell?_setCell_far, *], by simp [World.cell?_setCell_far, *], by simp [World.cell?_setCell_far, *], by go_simp, by go_simp, by go_simp, ?_⟩
  simp only [World.size_setCell]; exact hl

/-- The exact product's amount, its last bit a mark for what is lost; its exponent. -/
def prodM (mp mq : Nat) : Nat := markN (topN mp * topN mq / 18446744073709551616) (decide (topN mp * topN mq % 18446744073709551616 ≠ 0))
def prodE (mp : Nat) (ep : Int) (mq : Nat) (eq : Int) : Int := (ep - shiftN mp) + (eq - shiftN mq) + 64

end Go.Proofs.Ytfhccdpdjadepaa
