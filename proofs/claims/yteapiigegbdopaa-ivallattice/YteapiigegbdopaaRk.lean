/- Plain facts: numbers with signs, rounded down: the place of the greatest float that is not above; the greater the number, the greater the place. -/
import Derived.Test.YteapiigegbdopaaRc
namespace Go.Proofs.Yteapiigegbdopaa

/-- The number of a place in the order of all floats, in units of the least float above nought. -/
def V (k : Int) : Int := if k < 0 then -(val (-k).toNat : Int) else (val k.toNat : Int)

theorem V_nat (r : Nat) : V (r : Int) = val r := by unfold V; rw [if_neg (by omega)]; simp
theorem V_negnat (r : Nat) : V (-(r : Int)) = -(val r : Int) := by
  unfold V
  by_cases h : r = 0
  · subst h; simp [val_zero]
  · rw [if_pos (by omega), Int.neg_neg]; simp
theorem V_neg (k : Int) : V (-k) = -V k := by
  rcases Int.le_total 0 k with h | h
  · obtain ⟨r, rfl⟩ := Int.eq_ofNat_of_zero_le h
    rw [V_negnat, V_nat]
  · obtain ⟨r, hr⟩ := Int.eq_ofNat_of_zero_le (show 0 ≤ -k by omega)
    have : k = -(r : Int) := by omega
    subst this
    rw [V_negnat, Int.neg_neg, V_nat, Int.neg_neg]
theorem V_mono {i j : Int} (h : i < j) : V i < V j := by
  rcases Int.lt_or_le i 0 with hi | hi
  · obtain ⟨r, hr⟩ := Int.eq_ofNat_of_zero_le (show 0 ≤ -i by omega)
    have : i = -(r : Int) := by omega
    subst this
    have h0 := val_mono (show 0 < r by omega)
    rw [V_negnat]
    rcases Int.lt_or_le j 0 with hj | hj
    · obtain ⟨s, hs⟩ := Int.eq_ofNat_of_zero_le (show 0 ≤ -j by omega)
      have : j = -(s : Int) := by omega
      subst this
      have := val_mono (show s < r by omega)
      rw [V_negnat]; omega
    · obtain ⟨s, rfl⟩ := Int.eq_ofNat_of_zero_le hj
      rw [V_nat]; omega
  · obtain ⟨r, rfl⟩ := Int.eq_ofNat_of_zero_le hi
    obtain ⟨s, rfl⟩ := Int.eq_ofNat_of_zero_le (show 0 ≤ j by omega)
    have := val_mono (show r < s by omega)
    rw [V_nat, V_nat]; omega
theorem V_mono_le {i j : Int} (h : i ≤ j) : V i ≤ V j := by
  rcases Int.lt_or_eq_of_le h with c | c
  · exact Int.le_of_lt (V_mono c)
  · subst c; exact Int.le_refl _
theorem V_zero : V 0 = 0 := rfl
theorem V_nonneg {k : Int} (h : 0 ≤ k) : 0 ≤ V k := by have := V_mono_le h; rw [V_zero] at this; exact this
theorem V_pos {k : Int} (h : 0 < k) : 0 < V k := by have := V_mono h; rw [V_zero] at this; exact this
theorem V_npos {k : Int} (h : k ≤ 0) : V k ≤ 0 := by have := V_mono_le h; rw [V_zero] at this; exact this
theorem V_lt0 {k : Int} (h : k < 0) : V k < 0 := by have := V_mono h; rw [V_zero] at this; exact this

/-- An exact number, by what halves of the least float are not above it, and what are not below it. -/
structure Ex where
  le : Int → Prop
  ge : Int → Prop
structure Ex.Ok (x : Ex) : Prop where
  down : ∀ {h k : Int}, h ≤ k → x.le k → x.le h
  total : ∀ h : Int, x.le h ∨ x.ge h
  sep : ∀ {h k : Int}, x.ge h → x.le k → k ≤ h

def Ex.amt (g : Bool) (x : Ex) : Cut := if g then ⟨fun h => x.ge (-(h : Int)), fun h => x.le (-(h : Int)) ∧ x.ge (-(h : Int))⟩ else ⟨fun h => x.le (h : Int), fun h => x.le (h : Int) ∧ x.ge (h : Int)⟩

theorem Ex.Ok.up {x : Ex} (ok : x.Ok) {h k : Int} (hk : h ≤ k) (g : x.ge h) : x.ge k := by
  rcases ok.total k with c | c
  · have := ok.sep g c
    have : h = k := by omega
    subst this; exact g
  · exact c

theorem Ex.Ok.cut {x : Ex} (ok : x.Ok) {g : Bool} (hg : if g then x.ge 0 else x.le 0) : (x.amt g).Ok := by
  cases g
  · simp only [Bool.false_eq_true, if_false] at hg
    exact ⟨fun {h k} c d => ok.down (by omega) (show x.le (k : Int) from d), fun {h} c => c.1, fun {h k} c d e => by have := ok.sep c.2 (show x.le (k : Int) from e); omega, hg⟩
  · simp only [if_true] at hg
    exact ⟨fun {h k} c d => ok.up (show -(k : Int) ≤ -(h : Int) by omega) (show x.ge (-(k : Int)) from d), fun {h} c => c.2, fun {h k} c d e => by have := ok.sep (show x.ge (-(k : Int)) from e) c.1; omega, hg⟩

/-- The place of the greatest float that is not above; never that of +Inf; below all it is that of -Inf. -/
structure KDown (x : Ex) (k : Int) : Prop where
  bot : -9218868437227405312 ≤ k
  top : k ≤ 9218868437227405311
  low : k = -9218868437227405312 ∨ x.le (2 * V k)
  up : k = 9218868437227405311 ∨ ¬ x.le (2 * V (k + 1))

theorem kdown_mono {x y : Ex} (oky : y.Ok) (h : ∀ h, x.le h → y.le h) {k l : Int} (hk : KDown x k) (hl : KDown y l) : k ≤ l := by
  rcases Int.lt_or_le l k with c | c
  · exfalso
    rcases hl.up with u | u
    · have := hk.top; omega
    · rcases hk.low with w | w
      · have := hl.bot; omega
      · exact u (oky.down (by have := V_mono_le (show l + 1 ≤ k by omega); omega) (h _ w))
  · exact c

theorem kdown_of {x : Ex} (ok : x.Ok) {g : Bool} (hg : if g then x.ge 0 else x.le 0) {r : Nat} (h : IsR (x.amt g) (if g then 2 else 0) r) : KDown x (if g then -(r : Int) else r) := by
  obtain ⟨d, hd, h0, h2, -⟩ := h
  have dt := hd.top
  cases g
  · simp only [Bool.false_eq_true, if_false] at *
    obtain rfl := h0 trivial
    have lo : x.le ((2 * val r : Nat) : Int) := hd.low
    have up : r = 9218868437227405311 ∨ ¬ x.le ((2 * val (r + 1) : Nat) : Int) := hd.up
    refine ⟨by omega, by omega, Or.inr ?_, ?_⟩
    · rw [V_nat]; exact ok.down (by omega) lo
    · rcases up with u | u
      · left; omega
      · right
        have e : ((r : Int) + 1) = ((r + 1 : Nat) : Int) := by omega
        rw [e, V_nat]
        exact fun c => u (ok.down (by omega) c)
  · simp only [if_true] at *
    have lo : x.ge (-((2 * val d : Nat) : Int)) := hd.low
    have up : d = 9218868437227405311 ∨ ¬ x.ge (-((2 * val (d + 1) : Nat) : Int)) := hd.up
    rcases h2 trivial with ⟨e, rfl⟩ | ⟨e, rfl⟩
    · have e1 : x.le (-((2 * val r : Nat) : Int)) := e.1
      refine ⟨by omega, by omega, Or.inr ?_, Or.inr ?_⟩
      · rw [V_negnat]; exact ok.down (by omega) e1
      · intro c
        have c1 := ok.sep lo c
        have c2 := V_mono (show -(r : Int) < -(r : Int) + 1 by omega)
        rw [V_negnat] at c2
        omega
    · refine ⟨by omega, by omega, ?_, Or.inr ?_⟩
      · rcases up with u | u
        · left; omega
        · right
          rcases ok.total (-((2 * val (d + 1) : Nat) : Int)) with c | c
          · rw [V_negnat]; exact ok.down (by omega) c
          · exact absurd c u
      · have e3 : (-((d + 1 : Nat) : Int) + 1) = -(d : Int) := by omega
        rw [e3, V_negnat]
        intro c
        refine e ⟨ok.down ?_ c, lo⟩
        omega

end Go.Proofs.Yteapiigegbdopaa
