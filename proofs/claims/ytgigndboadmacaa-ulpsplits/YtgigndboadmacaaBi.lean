/- The walk of the reference's Order. -/
import Derived.Test.YtgigndboadmacaaBh
namespace Go.Proofs.Ytgigndboadmacaa
open Go.ChangeShapes Go.WideShapes Go.ChangeAt Go.RowKit

theorem bits_turn {P : Program} {n : Nat} {args : Array Value} {w : World} {v : Value} (h : Calls P n args w fun r w' => r = .returned v ∧ w = w') : Calls P n args w fun r w' => r = .returned v ∧ w' = w := h.mono fun _ _ c => ⟨c.1, c.2.symm⟩

theorem Has3.drewN {w : World} {b : Nat} {x y z : Value} (h : Has3 w b x y z) (n : Nat) : Has3 (w.drewN n) b x y z := h.keep (below_drewN (Below.refl _ _) n)
theorem Has3.drew {w : World} {b : Nat} {x y z : Value} (h : Has3 w b x y z) : Has3 w.drew b x y z := h

set_option maxHeartbeats 1000000 in
theorem order_differ (g h : Bool) (ao bo : Option Addr) (l k ca cb : Nat) (e f s1 s2 : Int) (w : World)
    (c1 : ∀ W, Below w.heap.size w W → Calls Try.prog 69 #[.agg #[.bool g, .slice ao l ca, .int .i64 e]] W fun r w' => r = .returned (.int .i64 s1) ∧ Below W.heap.size W w')
    (c2 : ∀ W, Below w.heap.size w W → Calls Try.prog 69 #[.agg #[.bool h, .slice bo k cb, .int .i64 f]] W fun r w' => r = .returned (.int .i64 s2) ∧ Below W.heap.size W w')
    (hne : (s1 == s2) = false) (R : Int) (hR : s1 < s2 ∧ R = -1 ∨ ¬ s1 < s2 ∧ R = 1) :
    Calls Try.prog 70 #[.agg #[.bool g, .slice ao l ca, .int .i64 e], .agg #[.bool h, .slice bo k cb, .int .i64 f]] w fun r w' => r = .returned (.int .i64 R) ∧ Below w.heap.size w w' := by
  go_enter Try.func70, Try.ntmps70
  go_upto_region 1 with fail
  have X : Has3 ((w.alloc (.cells #[.bool g, .slice ao l ca, .int .i64 e] 49)).alloc (.cells #[.bool h, .slice bo k cb, .int .i64 f] 49)).drew w.heap.size (.bool g) (.slice ao l ca) (.int .i64 e) := ⟨by go_simp, by go_simp, by go_simp, by go_simp, by go_simp, by go_simp, by go_size⟩
  have Y : Has3 ((w.alloc (.cells #[.bool g, .slice ao l ca, .int .i64 e] 49)).alloc (.cells #[.bool h, .slice bo k cb, .int .i64 f] 49)).drew (w.heap.size + 1) (.bool h) (.slice bo k cb) (.int .i64 f) := ⟨by go_simp, by go_simp, by go_simp, by go_simp, by go_simp, by go_simp, by go_size⟩
  have HB : Below w.heap.size w ((w.alloc (.cells #[.bool g, .slice ao l ca, .int .i64 e] 49)).alloc (.cells #[.bool h, .slice bo k cb, .int .i64 f] 49)).drew := by go_grown
  go_cut [14] from 10 to 13 (fun s14 wx => s14 = .bool true ∧ Below w.heap.size w wx ∧ Has3 wx w.heap.size (.bool g) (.slice ao l ca) (.int .i64 e) ∧ Has3 wx (w.heap.size + 1) (.bool h) (.slice bo k cb) (.int .i64 f))
  case first =>
    go_region_held3 (fun w' => w'.cell? ⟨w.heap.size, 0, none⟩ = some (.bool g) ∧ w'.cell? ⟨w.heap.size, 1, none⟩ = some (.slice ao l ca) ∧ w'.cell? ⟨w.heap.size, 2, none⟩ = some (.int .i64 e) ∧ w'.cell? ⟨w.heap.size + 1, 0, none⟩ = some (.bool h) ∧ w'.cell? ⟨w.heap.size + 1, 1, none⟩ = some (.slice bo k cb) ∧ w'.cell? ⟨w.heap.size + 1, 2, none⟩ = some (.int .i64 f)) (first | exact ⟨X.1, X.2.1, X.2.2.1, Y.1, Y.2.1, Y.2.2.1⟩ | go_keep)
      (first
        | (go_at_call_of 69 (Value.agg #[.bool g, .slice ao l ca, .int .i64 e]); refine (c1 _ HB).mono ?_; rintro _ w2 ⟨rfl, hb1⟩; replace X := X.keep hb1; replace Y := Y.keep hb1; replace HB := later HB hb1; clear hb1)
        | (go_at_call_of 69 (Value.agg #[.bool h, .slice bo k cb, .int .i64 f]); refine (c2 _ HB).mono ?_; rintro _ w3 ⟨rfl, hb1⟩; replace X := X.keep hb1; replace Y := Y.keep hb1; replace HB := later HB hb1; clear hb1))
    all_goals
      go_wp2_with fail
      go_meet
      case rel => exact ⟨by simp; exact (by simpa using hne), HB, X, Y⟩
  case rest =>
    clear X Y HB
    obtain ⟨rfl, HB, X, Y⟩ := hcut
    go_upto_region 2 with fail
    replace X := X.drew
    replace Y := Y.drew
    replace HB := HB.drew
    rcases hR with ⟨hlt, rfl⟩ | ⟨hlt, rfl⟩
    all_goals
      go_region_held3 (fun w' => w'.cell? ⟨w.heap.size, 0, none⟩ = some (.bool g) ∧ w'.cell? ⟨w.heap.size, 1, none⟩ = some (.slice ao l ca) ∧ w'.cell? ⟨w.heap.size, 2, none⟩ = some (.int .i64 e) ∧ w'.cell? ⟨w.heap.size + 1, 0, none⟩ = some (.bool h) ∧ w'.cell? ⟨w.heap.size + 1, 1, none⟩ = some (.slice bo k cb) ∧ w'.cell? ⟨w.heap.size + 1, 2, none⟩ = some (.int .i64 f)) (first | exact ⟨X.1, X.2.1, X.2.2.1, Y.1, Y.2.1, Y.2.2.1⟩ | go_keep)
        (first
        | (go_at_call_of 69 (Value.agg #[.bool g, .slice ao l ca, .int .i64 e]); refine (c1 _ HB).mono ?_; rintro _ w2 ⟨rfl, hb1⟩; replace X := X.keep hb1; replace Y := Y.keep hb1; replace HB := later HB hb1; clear hb1)
        | (go_at_call_of 69 (Value.agg #[.bool h, .slice bo k cb, .int .i64 f]); refine (c2 _ HB).mono ?_; rintro _ w3 ⟨rfl, hb1⟩; replace X := X.keep hb1; replace Y := Y.keep hb1; replace HB := later HB hb1; clear hb1))
      all_goals
        go_wp2_with fail
        go_ret
        exact ⟨rfl, HB⟩

set_option maxHeartbeats 1000000 in
theorem order_zero (g h : Bool) (ao bo : Option Addr) (l k ca cb : Nat) (e f s1 s2 : Int) (w : World)
    (c1 : ∀ W, Below w.heap.size w W → Calls Try.prog 69 #[.agg #[.bool g, .slice ao l ca, .int .i64 e]] W fun r w' => r = .returned (.int .i64 s1) ∧ Below W.heap.size W w')
    (c2 : ∀ W, Below w.heap.size w W → Calls Try.prog 69 #[.agg #[.bool h, .slice bo k cb, .int .i64 f]] W fun r w' => r = .returned (.int .i64 s2) ∧ Below W.heap.size W w')
    (h1 : s1 = 0) (h2 : s2 = 0) (R : Int) (hR : R = 0) :
    Calls Try.prog 70 #[.agg #[.bool g, .slice ao l ca, .int .i64 e], .agg #[.bool h, .slice bo k cb, .int .i64 f]] w fun r w' => r = .returned (.int .i64 R) ∧ Below w.heap.size w w' := by
  subst h1 h2 hR
  go_enter Try.func70, Try.ntmps70
  go_upto_region 1 with fail
  have X : Has3 ((w.alloc (.cells #[.bool g, .slice ao l ca, .int .i64 e] 49)).alloc (.cells #[.bool h, .slice bo k cb, .int .i64 f] 49)).drew w.heap.size (.bool g) (.slice ao l ca) (.int .i64 e) := ⟨by go_simp, by go_simp, by go_simp, by go_simp, by go_simp, by go_simp, by go_size⟩
  have Y : Has3 ((w.alloc (.cells #[.bool g, .slice ao l ca, .int .i64 e] 49)).alloc (.cells #[.bool h, .slice bo k cb, .int .i64 f] 49)).drew (w.heap.size + 1) (.bool h) (.slice bo k cb) (.int .i64 f) := ⟨by go_simp, by go_simp, by go_simp, by go_simp, by go_simp, by go_simp, by go_size⟩
  have HB : Below w.heap.size w ((w.alloc (.cells #[.bool g, .slice ao l ca, .int .i64 e] 49)).alloc (.cells #[.bool h, .slice bo k cb, .int .i64 f] 49)).drew := by go_grown
  go_cut [14] from 10 to 13 (fun s14 wx => s14 = .bool false ∧ Below w.heap.size w wx ∧ Has3 wx w.heap.size (.bool g) (.slice ao l ca) (.int .i64 e) ∧ Has3 wx (w.heap.size + 1) (.bool h) (.slice bo k cb) (.int .i64 f))
  case first =>
    go_region_held3 (fun w' => w'.cell? ⟨w.heap.size, 0, none⟩ = some (.bool g) ∧ w'.cell? ⟨w.heap.size, 1, none⟩ = some (.slice ao l ca) ∧ w'.cell? ⟨w.heap.size, 2, none⟩ = some (.int .i64 e) ∧ w'.cell? ⟨w.heap.size + 1, 0, none⟩ = some (.bool h) ∧ w'.cell? ⟨w.heap.size + 1, 1, none⟩ = some (.slice bo k cb) ∧ w'.cell? ⟨w.heap.size + 1, 2, none⟩ = some (.int .i64 f)) (first | exact ⟨X.1, X.2.1, X.2.2.1, Y.1, Y.2.1, Y.2.2.1⟩ | go_keep)
      (first
        | (go_at_call_of 69 (Value.agg #[.bool g, .slice ao l ca, .int .i64 e]); refine (c1 _ HB).mono ?_; rintro _ w2 ⟨rfl, hb1⟩; replace X := X.keep hb1; replace Y := Y.keep hb1; replace HB := later HB hb1; clear hb1)
        | (go_at_call_of 69 (Value.agg #[.bool h, .slice bo k cb, .int .i64 f]); refine (c2 _ HB).mono ?_; rintro _ w3 ⟨rfl, hb1⟩; replace X := X.keep hb1; replace Y := Y.keep hb1; replace HB := later HB hb1; clear hb1))
    all_goals
      go_wp2_with fail
      go_meet
      case rel => exact ⟨rfl, HB, X, Y⟩
  case rest =>
    clear X Y HB
    obtain ⟨rfl, HB, X, Y⟩ := hcut
    obtain ⟨x0, x1, x2, -⟩ := X
    go_wp2_with (go_at_call 69; refine (c1 _ HB).mono ?_; rintro _ w2 ⟨rfl, hb1⟩; replace HB := later HB hb1)
    go_ret
    exact ⟨rfl, HB⟩

set_option maxHeartbeats 1000000 in
theorem order_bits (g h : Bool) (ao bo : Option Addr) (l k ca cb x y : Nat) (e f s1 s2 : Int) (w : World)
    (c1 : ∀ W, Below w.heap.size w W → Calls Try.prog 69 #[.agg #[.bool g, .slice ao l ca, .int .i64 e]] W fun r w' => r = .returned (.int .i64 s1) ∧ Below W.heap.size W w')
    (c2 : ∀ W, Below w.heap.size w W → Calls Try.prog 69 #[.agg #[.bool h, .slice bo k cb, .int .i64 f]] W fun r w' => r = .returned (.int .i64 s2) ∧ Below W.heap.size W w')
    (b1 : ∀ W, Below w.heap.size w W → Calls Try.prog 71 #[.slice ao l ca] W fun r w' => r = .returned (.int .i64 (x : Int)) ∧ W = w')
    (b2 : ∀ W, Below w.heap.size w W → Calls Try.prog 71 #[.slice bo k cb] W fun r w' => r = .returned (.int .i64 (y : Int)) ∧ W = w')
    (hx : x ≤ 2000000) (hy : y ≤ 2000000) (he : -100000 ≤ e ∧ e ≤ 100000) (hf : -100000 ≤ f ∧ f ≤ 100000)
    (h1 : s1 = s2) (h2 : (s1 == 0) = false) (R t : Int) (ht : (x : Int) + e < y + f ∧ t = -1 ∨ (y : Int) + f < x + e ∧ t = 1) (hR : R = if g then -t else t) :
    Calls Try.prog 70 #[.agg #[.bool g, .slice ao l ca, .int .i64 e], .agg #[.bool h, .slice bo k cb, .int .i64 f]] w fun r w' => r = .returned (.int .i64 R) ∧ Below w.heap.size w w' := by
  subst h1
  go_enter Try.func70, Try.ntmps70
  go_upto_region 1 with fail
  have X : Has3 ((w.alloc (.cells #[.bool g, .slice ao l ca, .int .i64 e] 49)).alloc (.cells #[.bool h, .slice bo k cb, .int .i64 f] 49)).drew w.heap.size (.bool g) (.slice ao l ca) (.int .i64 e) := ⟨by go_simp, by go_simp, by go_simp, by go_simp, by go_simp, by go_simp, by go_size⟩
  have Y : Has3 ((w.alloc (.cells #[.bool g, .slice ao l ca, .int .i64 e] 49)).alloc (.cells #[.bool h, .slice bo k cb, .int .i64 f] 49)).drew (w.heap.size + 1) (.bool h) (.slice bo k cb) (.int .i64 f) := ⟨by go_simp, by go_simp, by go_simp, by go_simp, by go_simp, by go_simp, by go_size⟩
  have HB : Below w.heap.size w ((w.alloc (.cells #[.bool g, .slice ao l ca, .int .i64 e] 49)).alloc (.cells #[.bool h, .slice bo k cb, .int .i64 f] 49)).drew := by go_grown
  go_cut [14] from 10 to 13 (fun s14 wx => s14 = .bool false ∧ Below w.heap.size w wx ∧ Has3 wx w.heap.size (.bool g) (.slice ao l ca) (.int .i64 e) ∧ Has3 wx (w.heap.size + 1) (.bool h) (.slice bo k cb) (.int .i64 f))
  case first =>
    go_region_held3 (fun w' => w'.cell? ⟨w.heap.size, 0, none⟩ = some (.bool g) ∧ w'.cell? ⟨w.heap.size, 1, none⟩ = some (.slice ao l ca) ∧ w'.cell? ⟨w.heap.size, 2, none⟩ = some (.int .i64 e) ∧ w'.cell? ⟨w.heap.size + 1, 0, none⟩ = some (.bool h) ∧ w'.cell? ⟨w.heap.size + 1, 1, none⟩ = some (.slice bo k cb) ∧ w'.cell? ⟨w.heap.size + 1, 2, none⟩ = some (.int .i64 f)) (first | exact ⟨X.1, X.2.1, X.2.2.1, Y.1, Y.2.1, Y.2.2.1⟩ | go_keep)
      (first
        | (go_at_call_of 69 (Value.agg #[.bool g, .slice ao l ca, .int .i64 e]); refine (c1 _ HB).mono ?_; rintro _ w2 ⟨rfl, hb1⟩; replace X := X.keep hb1; replace Y := Y.keep hb1; replace HB := later HB hb1; clear hb1)
        | (go_at_call_of 69 (Value.agg #[.bool h, .slice bo k cb, .int .i64 f]); refine (c2 _ HB).mono ?_; rintro _ w3 ⟨rfl, hb1⟩; replace X := X.keep hb1; replace Y := Y.keep hb1; replace HB := later HB hb1; clear hb1))
    all_goals
      go_wp2_with fail
      go_meet
      case rel => exact ⟨by simp, HB, X, Y⟩
  case rest =>
    clear X Y HB
    obtain ⟨rfl, HB, X, Y⟩ := hcut
    have x0 := X.1
    have x1 := X.2.1
    have x2 := X.2.2.1
    go_upto_region 7 with (go_at_call 69; refine (c1 _ HB).mono ?_; rintro _ w2 ⟨rfl, hb1⟩; replace X := X.keep hb1; replace Y := Y.keep hb1; replace HB := later HB hb1; clear hb1)
    clear x0 x1 x2
    obtain ⟨x0, x1, x2, -⟩ := X
    obtain ⟨y0, y1, y2, -⟩ := Y
    go_quiet ((go_at_call 71; refine Calls.quiet_of_same (bits_turn (b1 _ (by first | exact HB | exact below_drewN HB _)))))
    go_wp2_with fail
    have u0 : (w2.drewN nq).cell? ⟨w.heap.size, 0, none⟩ = some (.bool g) := by go_simp
    have v1 : (w2.drewN nq).cell? ⟨w.heap.size + 1, 1, none⟩ = some (.slice bo k cb) := by go_simp
    have v2 : (w2.drewN nq).cell? ⟨w.heap.size + 1, 2, none⟩ = some (.int .i64 f) := by go_simp
    replace HB := below_drewN HB nq
    clear x0 x1 x2 y0 y1 y2
    generalize w2.drewN nq = W at *
    go_quiet ((go_at_call 71; refine Calls.quiet_of_same (bits_turn (b2 _ (by first | exact HB | exact below_drewN HB _)))))
    rcases ht with ⟨hlt, rfl⟩ | ⟨hlt, rfl⟩
    all_goals
      cases g
      all_goals
        go_wp2
        go_ret
        exact ⟨by first | exact rfl | (rw [hR]; rfl), below_drewN HB _⟩

set_option maxHeartbeats 1000000 in
theorem order_cmp (g h : Bool) (ao bo : Option Addr) (l k ca cb x y : Nat) (e f s1 s2 : Int) (w : World)
    (c1 : ∀ W, Below w.heap.size w W → Calls Try.prog 69 #[.agg #[.bool g, .slice ao l ca, .int .i64 e]] W fun r w' => r = .returned (.int .i64 s1) ∧ Below W.heap.size W w')
    (c2 : ∀ W, Below w.heap.size w W → Calls Try.prog 69 #[.agg #[.bool h, .slice bo k cb, .int .i64 f]] W fun r w' => r = .returned (.int .i64 s2) ∧ Below W.heap.size W w')
    (b1 : ∀ W, Below w.heap.size w W → Calls Try.prog 71 #[.slice ao l ca] W fun r w' => r = .returned (.int .i64 (x : Int)) ∧ W = w')
    (b2 : ∀ W, Below w.heap.size w W → Calls Try.prog 71 #[.slice bo k cb] W fun r w' => r = .returned (.int .i64 (y : Int)) ∧ W = w')
    (hx : x ≤ 2000000) (_hy : y ≤ 2000000) (he : -100000 ≤ e ∧ e ≤ 100000) (_hf : -100000 ≤ f ∧ f ≤ 100000)
    (h1 : s1 = s2) (h2 : (s1 == 0) = false) (m' n' : Nat) (E : Int)
    (cl : ∀ W, Below w.heap.size w W → Calls Try.prog 53 #[.agg #[.bool g, .slice ao l ca, .int .i64 e], .agg #[.bool h, .slice bo k cb, .int .i64 f]] W fun r w' =>
      (∃ v1 v2, r = .returned (.tuple #[.agg #[.bool g, v1, .int .i64 E], .agg #[.bool h, v2, .int .i64 E]]) ∧ BigIs w' v1 m' ∧ BigIs w' v2 n') ∧ Below W.heap.size W w')
    (R t : Int) (cc : ∀ W v1 v2, BigIs W v1 m' → BigIs W v2 n' → Calls Try.prog 55 #[v1, v2] W fun r w' => r = .returned (.int .i64 t) ∧ Below W.heap.size W w')
    (ht : (x : Int) + e = y + f) (ht2 : t = -1 ∨ t = 0 ∨ t = 1) (hR : R = if g then -t else t) :
    Calls Try.prog 70 #[.agg #[.bool g, .slice ao l ca, .int .i64 e], .agg #[.bool h, .slice bo k cb, .int .i64 f]] w fun r w' => r = .returned (.int .i64 R) ∧ Below w.heap.size w w' := by
  subst h1
  go_enter Try.func70, Try.ntmps70
  go_upto_region 1 with fail
  have X : Has3 ((w.alloc (.cells #[.bool g, .slice ao l ca, .int .i64 e] 49)).alloc (.cells #[.bool h, .slice bo k cb, .int .i64 f] 49)).drew w.heap.size (.bool g) (.slice ao l ca) (.int .i64 e) := ⟨by go_simp, by go_simp, by go_simp, by go_simp, by go_simp, by go_simp, by go_size⟩
  have Y : Has3 ((w.alloc (.cells #[.bool g, .slice ao l ca, .int .i64 e] 49)).alloc (.cells #[.bool h, .slice bo k cb, .int .i64 f] 49)).drew (w.heap.size + 1) (.bool h) (.slice bo k cb) (.int .i64 f) := ⟨by go_simp, by go_simp, by go_simp, by go_simp, by go_simp, by go_simp, by go_size⟩
  have HB : Below w.heap.size w ((w.alloc (.cells #[.bool g, .slice ao l ca, .int .i64 e] 49)).alloc (.cells #[.bool h, .slice bo k cb, .int .i64 f] 49)).drew := by go_grown
  go_cut [14] from 10 to 13 (fun s14 wx => s14 = .bool false ∧ Below w.heap.size w wx ∧ Has3 wx w.heap.size (.bool g) (.slice ao l ca) (.int .i64 e) ∧ Has3 wx (w.heap.size + 1) (.bool h) (.slice bo k cb) (.int .i64 f))
  case first =>
    go_region_held3 (fun w' => w'.cell? ⟨w.heap.size, 0, none⟩ = some (.bool g) ∧ w'.cell? ⟨w.heap.size, 1, none⟩ = some (.slice ao l ca) ∧ w'.cell? ⟨w.heap.size, 2, none⟩ = some (.int .i64 e) ∧ w'.cell? ⟨w.heap.size + 1, 0, none⟩ = some (.bool h) ∧ w'.cell? ⟨w.heap.size + 1, 1, none⟩ = some (.slice bo k cb) ∧ w'.cell? ⟨w.heap.size + 1, 2, none⟩ = some (.int .i64 f)) (first | exact ⟨X.1, X.2.1, X.2.2.1, Y.1, Y.2.1, Y.2.2.1⟩ | go_keep)
      (first
        | (go_at_call_of 69 (Value.agg #[.bool g, .slice ao l ca, .int .i64 e]); refine (c1 _ HB).mono ?_; rintro _ w2 ⟨rfl, hb1⟩; replace X := X.keep hb1; replace Y := Y.keep hb1; replace HB := later HB hb1; clear hb1)
        | (go_at_call_of 69 (Value.agg #[.bool h, .slice bo k cb, .int .i64 f]); refine (c2 _ HB).mono ?_; rintro _ w3 ⟨rfl, hb1⟩; replace X := X.keep hb1; replace Y := Y.keep hb1; replace HB := later HB hb1; clear hb1))
    all_goals
      go_wp2_with fail
      go_meet
      case rel => exact ⟨by simp, HB, X, Y⟩
  case rest =>
    clear X Y HB
    obtain ⟨rfl, HB, X, Y⟩ := hcut
    have x0 := X.1
    have x1 := X.2.1
    have x2 := X.2.2.1
    go_upto_region 7 with (go_at_call 69; refine (c1 _ HB).mono ?_; rintro _ w2 ⟨rfl, hb1⟩; replace X := X.keep hb1; replace Y := Y.keep hb1; replace HB := later HB hb1; clear hb1)
    clear x0 x1 x2
    have x1 := X.2.1
    have x2 := X.2.2.1
    go_quiet ((go_at_call 71; refine Calls.quiet_of_same (bits_turn (b1 _ (by first | exact HB | exact below_drewN HB _)))))
    go_wp2_with fail
    replace X := X.drewN nq
    replace Y := Y.drewN nq
    replace HB := below_drewN HB nq
    clear x1 x2
    generalize w2.drewN nq = W at *
    have y1 := Y.2.1
    have y2 := Y.2.2.1
    go_quiet ((go_at_call 71; refine Calls.quiet_of_same (bits_turn (b2 _ (by first | exact HB | exact below_drewN HB _)))))
    replace X := X.drewN nq
    replace Y := Y.drewN nq
    replace HB := below_drewN HB nq
    clear y1 y2
    generalize W.drewN nq = V at *
    obtain ⟨x0, x1, x2, -, -, -, xl⟩ := X
    obtain ⟨y0, y1, y2, -, -, -, yl⟩ := Y
    have HL1 : ¬ (x : Int) + e < y + f := by omega
    have HL2 : ¬ (y : Int) + f < x + e := by omega
    have ht2' : -1 ≤ t ∧ t ≤ 1 := by omega
    clear ht ht2 b1 b2 c1 c2
    go_wp2_with (first
      | (go_at_call 53; refine (cl _ HB).mono ?_; rintro _ w4 ⟨⟨v1, v2, rfl, hv1, hv2⟩, hb1⟩
         obtain ⟨o1, l1, p1, rfl, -⟩ := hv1.shape
         obtain ⟨o2, l2, p2, rfl, -⟩ := hv2.shape
         have z0 : w4.cell? ⟨w.heap.size, 0, none⟩ = some (.bool g) := keepsC hb1 x0 xl
         have zl : w.heap.size < w4.heap.size := Nat.lt_of_lt_of_le xl hb1.size
         replace HB := later HB hb1)
      | (go_at_call 55; refine (cc _ _ _ (hv1.keep (by go_grown)) (hv2.keep (by go_grown))).mono ?_; rintro _ w5 ⟨rfl, hb5⟩
         have z5 : w5.cell? ⟨w.heap.size, 0, none⟩ = some (.bool g) := keepsC hb5 (by go_simp) (by go_size)
         have HB5 : Below w.heap.size w w5 := later (later HB (by go_grown)) hb5))
    all_goals
      go_ret
      refine ⟨congrArg (fun z => Ending.returned (Value.int .i64 z)) (?_ : _ = R), HB5⟩
      rw [hR]
      simp [*]

end Go.Proofs.Ytgigndboadmacaa
