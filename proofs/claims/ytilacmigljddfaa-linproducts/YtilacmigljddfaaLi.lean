/- The program's Mul; two matrices of the same intervals are the same to the reference. -/
import Derived.Test.YtilacmigljddfaaLh
namespace Go.Proofs.Ytilacmigljddfaa
open Go.ChangeShapes Go.WideShapes Go.ChangeAt Go.RowKit

set_option maxHeartbeats 2000000 in
theorem Mul_bad (A B : Option Addr) (N C M D : Nat) (RA : Nat → Option Addr) (RL RC : Nat → Nat) (X : Nat → Nat → Nat × Nat) (b1 b2 b3 : Bool) (w : World) (V : Rws w A N RA RL RC X) (h0 : b1 = true → 0 < N) (h3 : ((RL 0 : Int) != (M : Int)) = !b3) (hb : (b1 && b2 && b3) = false)
    (c1 : ∀ w2, Below w.heap.size w w2 → Calls Try.prog 30 #[.slice A N C] w2 fun e w' => e = .returned (.bool b1) ∧ Below w2.heap.size w2 w')
    (c2 : ∀ w2, Below w.heap.size w w2 → Calls Try.prog 30 #[.slice B M D] w2 fun e w' => e = .returned (.bool b2) ∧ Below w2.heap.size w2 w') :
    Calls Try.prog 14 #[.slice A N C, .slice B M D] w fun e w' => e = .returned (.tuple #[.slice none 0 0, .int .i64 1]) ∧ Below w.heap.size w w' := by
  have HB : Below w.heap.size w w := Below.refl _ _
  cases b1
  · clear h0 h3 c2 V
    go_enter Try.func14, Try.ntmps14
    go_wp2_with (go_at_call 30; with_reducible refine (c1 _ HB).mono ?_; rintro _ w1 ⟨rfl, hb1⟩; replace HB := later HB hb1)
    refine bodyPost_ret (v := .tuple #[.slice none 0 0, .int .i64 1]) (by simp [results, Try.results14, go_sem, *]) rfl ⟨rfl, HB⟩
  · have hN := h0 rfl
    have h4 : (0 : Int) < (N : Int) := by omega
    obtain ⟨b, o, hA, hl, x0, -, -⟩ := V 0 hN
    rw [Nat.add_zero] at x0
    clear V h0
    subst hA
    cases b2
    case' true => cases b3
    case true.true => cases hb
    all_goals
      try simp only [Bool.not_false] at h3
      go_enter Try.func14, Try.ntmps14
      go_wp2_with (first
        | (go_at_call 30; with_reducible refine (c1 _ HB).mono ?_; rintro _ w1 ⟨rfl, hb1⟩; have x1 := keepsC hb1 x0 hl; replace HB := later HB hb1)
        | (go_at_call 30; with_reducible refine (c2 _ HB).mono ?_; rintro _ w2 ⟨rfl, hb2⟩; have x2 := keepsC hb2 x1 (Nat.lt_of_lt_of_le hl hb1.size); replace HB := later HB hb2))
      refine bodyPost_ret (v := .tuple #[.slice none 0 0, .int .i64 1]) (by simp [results, Try.results14, go_sem, *]) rfl ⟨rfl, HB⟩


set_option maxHeartbeats 2000000 in
theorem Mul_good (A B : Option Addr) (N M L C D : Nat) (RA SA : Nat → Option Addr) (RL RC SL SC : Nat → Nat) (X Y : Nat → Nat → Nat × Nat) (hN : N ≤ 24) (hN0 : 0 < N) (hM : M ≤ 24) (hM0 : 0 < M) (hL : L ≤ 24) (hR : ∀ r, r < N → RL r = M) (hS : ∀ s, s < M → SL s = L) (w : World) (V : Rws w A N RA RL RC X) (U : Rws w B M SA SL SC Y)
    (c1 : ∀ w2, Below w.heap.size w w2 → Calls Try.prog 30 #[.slice A N C] w2 fun e w' => e = .returned (.bool true) ∧ Below w2.heap.size w2 w')
    (c2 : ∀ w2, Below w.heap.size w w2 → Calls Try.prog 30 #[.slice B M D] w2 fun e w' => e = .returned (.bool true) ∧ Below w2.heap.size w2 w') :
    Calls Try.prog 14 #[.slice A N C, .slice B M D] w fun e w' => ∃ g h, e = .returned (.tuple #[.slice (some ⟨g, 0, none⟩) N N, .int .i64 0]) ∧ Grd w' g N L h (prodI X Y M) ∧ Below w.heap.size w w' := by
  have h3 : ((RL 0 : Int) != (M : Int)) = false := by simp [hR 0 hN0]
  have h4 : (0 : Int) < (N : Int) := by omega
  have cp : ∀ w2, Below w.heap.size w w2 → _ := fun w2 hb => prodM_w A B N M L C D RA SA RL RC SL SC X Y hN hM hM0 hL hR hS w2 (V.keep hb) (U.keep hb)
  have HB : Below w.heap.size w w := Below.refl _ _
  obtain ⟨b, o, hA, hl, x0, -, -⟩ := V 0 hN0
  rw [Nat.add_zero] at x0
  clear V U hR hS
  subst hA
  go_enter Try.func14, Try.ntmps14
  go_wp2_with (first
    | (go_at_call 30; with_reducible refine (c1 _ HB).mono ?_; rintro _ w1 ⟨rfl, hb1⟩; have x1 := keepsC hb1 x0 hl; replace HB := later HB hb1)
    | (go_at_call 30; with_reducible refine (c2 _ HB).mono ?_; rintro _ w2 ⟨rfl, hb2⟩; have x2 := keepsC hb2 x1 (Nat.lt_of_lt_of_le hl hb1.size); replace HB := later HB hb2)
    | (go_at_call 31; refine (cp _ HB).mono ?_; rintro _ w3 ⟨g, h, rfl, G0, hb3⟩))
  refine bodyPost_ret (v := .tuple #[.slice (some ⟨g, 0, none⟩) N N, .int .i64 0]) (by simp [results, Try.results14, go_sem, *]) rfl ⟨g, h, rfl, G0, later HB hb3⟩

theorem Grd.rws {w : World} {g n m : Nat} {h : Nat → Nat} {F : Nat → Nat → Nat × Nat} (G : Grd w g n m h F) (hm : m ≤ 9223372036854775807) (hF : ∀ r, r < n → ∀ c, c < m → (F r c).1 < 18446744073709551616 ∧ (F r c).2 < 18446744073709551616) :
    Rws w (some ⟨g, 0, none⟩) n (fun r => some ⟨h r, 0, none⟩) (fun _ => m) (fun _ => m) F := fun r hr =>
  ⟨g, 0, rfl, G.out.1, by rw [Nat.zero_add]; exact (G.out.2 r hr).1, hm, (G.row r hr).ivs (hF r hr)⟩

set_option maxHeartbeats 2000000 in
theorem rsameA_w (A B : Option Addr) (N C D : Nat) (RA SA : Nat → Option Addr) (RL RC SL SC : Nat → Nat) (X Y : Nat → Nat → Nat × Nat) (hN : N ≤ 9223372036854775807) (hl : ∀ r, r < N → RL r = SL r) (hxy : ∀ r, r < N → ∀ c, c < RL r → X r c = Y r c) (w : World) (V : Rws w A N RA RL RC X) (U : Rws w B N SA SL SC Y) :
    Calls Try.prog 15 #[.slice A N C, .slice B N D] w fun e w' => e = .returned (.bool true) ∧ Below w.heap.size w w' := by
  have HL : Hid (∀ r, r < N → RL r = SL r) := hl
  have HX : Hid (∀ r, r < N → ∀ c, c < RL r → X r c = Y r c) := hxy
  clear hl hxy
  go_enter Try.func15, Try.ntmps15
  go_wp2_with fail
  go_loopg [13] N (fun G s13 wx => Below w.heap.size w wx ∧ ∃ i : Nat, i + G = N ∧ s13 = .int .i64 (i : Int))
  case atStart => exact ⟨Below.refl _ _, 0, by omega, rfl⟩
  case round =>
    obtain ⟨HB, i, hi, rfl⟩ := hrel
    by_cases ci : i = N
    · subst ci
      go_wp2_with fail
      go_ret
      exact ⟨rfl, HB⟩
    · have hlt : (i : Int) < (N : Int) := by omega
      obtain ⟨b, o, hA, hb, x0, l0, I⟩ := (V.keep HB) i (by omega)
      obtain ⟨b', o', hB, hb', y0, l1, J⟩ := (U.keep HB) i (by omega)
      have hle := HL i (by omega)
      rw [← hle] at y0 J
      have c : ∀ n : Behind wr, Calls Try.prog 12 #[.slice (RA i) (RL i) (RC i), .slice (SA i) (RL i) (SC i)] n.W fun e w' => e = .returned (.bool true) ∧ Below n.W.heap.size n.W w' := fun n => rsameV_w (RA i) (SA i) (RL i) (RC i) (SC i) (X i) (Y i) l0 (HX i (by omega)) n.W (I.keep n.bel) (J.keep n.bel)
      clear hle
      subst hA hB
      go_upto_region 6 with fail
      have kx0 := fun n : Behind wr => n.cell x0 hb
      have ky0 := fun n : Behind wr => n.cell y0 hb'
      refine region_behind (by kernel_rfl) (by kernel_rfl) ?_
      repeat (go_big_quiet_step (first
        | (go_at_call 12; with_reducible refine Behind.call (c _))))
      refine wpQuiet_nil ?_
      rintro _ ⟨q, rfl⟩
      obtain ⟨W, hb1⟩ := q
      dsimp only
      replace HB := later HB hb1
      clear hb1 kx0 ky0
      go_wp2_with fail
      go_roundg (N - i - 1)
      case measure => omega
      case rel => exact ⟨HB, i + 1, by omega, by go_num⟩

end Go.Proofs.Ytilacmigljddfaa
