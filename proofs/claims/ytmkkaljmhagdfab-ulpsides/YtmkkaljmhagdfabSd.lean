/- The walk of the law's own function sides: three answers that stand in order pass it; so do three that are no numbers. -/
import Derived.Test.YtmkkaljmhagdfabWv
import Derived.Deep.LoopGhost
namespace Go.Proofs.Ytmkkaljmhagdfab
open Go.ChangeShapes Go.WideShapes Go.ChangeAt Go.RowKit

theorem sides_nan (d n u : Nat) (hd : d < 18446744073709551616) (hn : n < 18446744073709551616) (hu : u < 18446744073709551616) (nd : nanB d = true) (nn : nanB n = true) (nu : nanB u = true) (w : World) :
    Calls Try.prog 6 #[.float .f64 d, .float .f64 n, .float .f64 u] w fun x w' => x = .returned (.bool true) ∧ Below w.heap.size w w' := by
  go_enter Try.func6, Try.ntmps6
  go_wp2_with (go_at_call 11; refine (isNum_w _ (by assumption) _).mono ?_; rintro _ _ ⟨rfl, rfl⟩)
  go_ret
  exact ⟨rfl, Below.refl _ _⟩

set_option maxHeartbeats 400000 in
theorem sides_core (d n u k : Nat) (hd : d < 18446744073709551616) (nd : nanB d = false)
    (o1 : (FloatKind.f64.format.order d n == some .lt || FloatKind.f64.format.order d n == some .eq) = true) (o2 : (FloatKind.f64.format.order n u == some .lt || FloatKind.f64.format.order n u == some .eq) = true)
    (zd : d = 0 ∨ (FloatKind.f64.format.order d 0 == some .eq) = false) (zn : n = 0 ∨ (FloatKind.f64.format.order n 0 == some .eq) = false) (zu : u = 0 ∨ (FloatKind.f64.format.order u 0 == some .eq) = false)
    (hk : nextB d = k) (o3 : (FloatKind.f64.format.order d u == some .eq) = true ∨ (FloatKind.f64.format.order d u == some .eq) = false ∧ (FloatKind.f64.format.order u k == some .eq) = true) (w : World) :
    Calls Try.prog 6 #[.float .f64 d, .float .f64 n, .float .f64 u] w fun x w' => x = .returned (.bool true) ∧ Below w.heap.size w w' := by
  go_enter Try.func6, Try.ntmps6
  go_wp2_with (go_at_call 11; refine (isNum_w _ (by assumption) _).mono ?_; rintro _ _ ⟨rfl, rfl⟩)
  have h00 : FloatKind.f64.format.order 0 0 = some Ordering.eq := by rw [order_eq 0 0 (by omega) (by omega)]; rfl
  go_loopg [25] 4 (fun g s25 wx => w.alloc (Obj.cells #[Value.float FloatKind.f64 d, Value.float FloatKind.f64 n, Value.float FloatKind.f64 u] 22) = wx ∧ ∃ i : Nat, i + g = 4 ∧ i ≤ 3 ∧ s25 = .int .i64 (i : Int))
  case atStart => exact ⟨rfl, 0, rfl, by omega, rfl⟩
  case round =>
    obtain ⟨rfl, i, hg, hi, rfl⟩ := hrel
    obtain rfl | rfl | rfl | rfl : i = 0 ∨ i = 1 ∨ i = 2 ∨ i = 3 := by omega
    · obtain rfl : gk = 4 := by omega
      rcases zd with rfl | z
      all_goals
        clear o1 o2 o3 zn zu hk
        go_wp2
        go_roundg 3
        case rel => exact ⟨rfl, 1, by omega, by omega, rfl⟩
        case measure => omega
    · obtain rfl : gk = 3 := by omega
      rcases zn with rfl | z
      all_goals
        clear o1 o2 o3 zd zu hk
        go_wp2
        go_roundg 2
        case rel => exact ⟨rfl, 2, by omega, by omega, rfl⟩
        case measure => omega
    · obtain rfl : gk = 2 := by omega
      rcases zu with rfl | z
      all_goals
        clear o1 o2 o3 zd zn hk
        go_wp2
        go_roundg 1
        case rel => exact ⟨rfl, 3, by omega, by omega, rfl⟩
        case measure => omega
    · clear zd zn zu h00
      rcases o3 with o3 | ⟨o3, o4⟩
      · go_wp2_with (go_at_call 15; refine (next_w d hd _).mono ?_; rintro _ _ ⟨rfl, rfl⟩)
        go_ret
        exact ⟨rfl, (Below.refl _ _).alloc (Nat.le_refl _) _⟩
      · go_wp2_with (go_at_call 15; refine (next_w d hd _).mono ?_; rintro _ _ ⟨rfl, rfl⟩)
        go_ret
        exact ⟨rfl, (Below.refl _ _).alloc (Nat.le_refl _) _⟩

theorem key_ofKey {i : Int} (h1 : -9223372036854775808 < i) (h2 : i < 9223372036854775808) : key (ofKey i) = i := by
  unfold key ofKey
  by_cases h : i < 0
  · rw [if_pos h, if_neg (by omega)]; omega
  · rw [if_neg h, if_pos (by omega)]; omega

theorem order_le {a b : Nat} (ha : a < 18446744073709551616) (hb : b < 18446744073709551616) (na : nanB a = false) (nb : nanB b = false) (h : key a ≤ key b) : (FloatKind.f64.format.order a b == some .lt || FloatKind.f64.format.order a b == some .eq) = true := by
  rw [order_eq a b ha hb, na, nb]
  simp only [Bool.or_self, Bool.false_eq_true, if_false, compare_int]
  by_cases c : key a < key b
  · rw [if_pos c]; rfl
  · rw [if_neg c, if_pos (by omega)]; rfl
theorem order_is {a b : Nat} (ha : a < 18446744073709551616) (hb : b < 18446744073709551616) (na : nanB a = false) (nb : nanB b = false) : (FloatKind.f64.format.order a b == some .eq) = decide (key a = key b) := by
  rw [order_eq a b ha hb, na, nb]
  simp only [Bool.or_self, Bool.false_eq_true, if_false, compare_int]
  by_cases c : key a < key b
  · have : ¬ key a = key b := by omega
    rw [if_pos c]; simp [this]
  · rw [if_neg c]
    by_cases e : key a = key b
    · rw [if_pos e]; simp [e]
    · rw [if_neg e]; simp [e]

theorem zero_or {x : Nat} (hx : x < 18446744073709551616) (hn : nanB x = false) (h0 : x ≠ 9223372036854775808) : x = 0 ∨ (FloatKind.f64.format.order x 0 == some .eq) = false := by
  by_cases c : x = 0
  · exact Or.inl c
  · refine Or.inr ?_
    rw [ord_zero hx hn]
    unfold isZ
    simp only [decide_eq_false_iff_not]
    omega

theorem sides_ok (d n u : Nat) (h : SidesOK d n u) (w : World) :
    Calls Try.prog 6 #[.float .f64 d, .float .f64 n, .float .f64 u] w fun x w' => x = .returned (.bool true) ∧ Below w.heap.size w w' := by
  obtain ⟨⟨nd, nn, nu⟩, ⟨zd, zn, zu⟩, ⟨hd, hn, hu⟩, k1, k2, k3⟩ := h
  have kd := nanB_key hd nd
  have ku := nanB_key hu nu
  refine sides_core d n u (nextB d) hd nd (order_le hd hn nd nn k1) (order_le hn hu nn nu k2) (zero_or hd nd zd) (zero_or hn nn zn) (zero_or hu nu zu) rfl ?_ w
  rcases k3 with k3 | k3
  · exact Or.inl (by rw [order_is hd hu nd nu]; simp [k3])
  · have e : nextB d = ofKey (key d + 1) := by
      unfold nextB
      simp only [nd, Bool.false_eq_true, if_false]
      rw [if_neg (by omega)]
    have hk : nextB d < 18446744073709551616 := nextB_lt hd
    have hkk : key (nextB d) = key d + 1 := by rw [e]; exact key_ofKey (by omega) (by omega)
    have nk : nanB (nextB d) = false := by
      rw [e]
      unfold nanB ofKey
      simp only [decide_eq_false_iff_not]
      split <;> omega
    refine Or.inr ⟨by rw [order_is hd hu nd nu]; simp; omega, by rw [order_is hu hk nu nk]; simp; omega⟩

/-- Three answers, each told by what the call's contract says of it. -/
def SidesO (o1 o2 o3 : Option Nat) : Prop := (o1 = none ∧ o2 = none ∧ o3 = none) ∨ ∃ d n u, o1 = some d ∧ o2 = some n ∧ o3 = some u ∧ SidesOK d n u
def Told (o : Option Nat) (r : Nat) : Prop := r < 18446744073709551616 ∧ match o with | some v => r = v | none => nanB r = true

theorem sides_told {o1 o2 o3 : Option Nat} {d n u : Nat} (h : SidesO o1 o2 o3) (h1 : Told o1 d) (h2 : Told o2 n) (h3 : Told o3 u) (w : World) :
    Calls Try.prog 6 #[.float .f64 d, .float .f64 n, .float .f64 u] w fun x w' => x = .returned (.bool true) ∧ Below w.heap.size w w' := by
  rcases h with ⟨rfl, rfl, rfl⟩ | ⟨d', n', u', rfl, rfl, rfl, hs⟩
  · exact sides_nan d n u h1.1 h2.1 h3.1 h1.2 h2.2 h3.2 w
  · obtain rfl : d = d' := h1.2
    obtain rfl : n = n' := h2.2
    obtain rfl : u = u' := h3.2
    exact sides_ok d n u hs w

theorem alive_w (w : World) : Calls Try.prog 5 #[] w fun x w' => x = .returned (.bool true) ∧ w = w' := by
  have hn : nextB 4607182418800017408 = 4607182418800017409 := by decide
  have ho : FloatKind.f64.format.order 4607182418800017409 4607182418800017408 = some Ordering.gt := by rw [order_eq _ _ (by omega) (by omega)]; rfl
  go_enter Try.func5, Try.ntmps5
  go_wp2_with (go_at_call 15; refine (next_w 4607182418800017408 (by omega) _).mono ?_; rintro _ _ ⟨rfl, rfl⟩)
  go_ret
  exact ⟨rfl, rfl⟩

end Go.Proofs.Ytmkkaljmhagdfab
