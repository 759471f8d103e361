/- Trimming: the reference's Like of two tapes that are the same; Trim of a tape that may not be. -/
import Derived.Test.YtfhccdpdjadepaaTv
namespace Go.Proofs.Ytfhccdpdjadepaa
open Go.ChangeShapes Go.WideShapes Go.ChangeAt Go.RowKit

theorem sameB_self (a : Nat) : sameB a a = true := by
  unfold sameB
  cases nanB a <;> simp

set_option maxHeartbeats 4000000 in
set_option maxRecDepth 100000 in
theorem like_w (v : Int) (A A' : Option Addr) (L C C' : Nat) (D D' : Option Addr) (m E E' : Nat) (X : Nat → Opw) (Z : Nat → Int) (hL : L ≤ 9223372036854775807) (hm : m ≤ 9223372036854775807) (w : World) (VX : Ops w A L X) (UX : Ops w A' L X) (VZ : Ins w D m Z) (UZ : Ins w D' m Z) :
    Calls Try.prog 8 #[tapeV v A L C D m E, tapeV v A' L C' D' m E'] w fun e w' => e = .returned (.bool true) ∧ Below w.heap.size w w' := by
  unfold tapeV
  have s := (tap3_new w (.int .i64 v) (.slice A L C) (.slice D m E) 25).alloc (.cells #[.int .i64 v, .slice A' L C', .slice D' m E'] 25)
  have t := tap3_new (w.alloc (.cells #[.int .i64 v, .slice A L C, .slice D m E] 25)) (.int .i64 v) (.slice A' L C') (.slice D' m E') 25
  have HB : Below w.heap.size w ((w.alloc (.cells #[.int .i64 v, .slice A L C, .slice D m E] 25)).alloc (.cells #[.int .i64 v, .slice A' L C', .slice D' m E'] 25)) := by go_grown
  simp only [World.size_alloc] at t
  go_enter Try.func8, Try.ntmps8
  go_wp2_with fail
  generalize (w.alloc (.cells #[.int .i64 v, .slice A L C, .slice D m E] 25)).alloc (.cells #[.int .i64 v, .slice A' L C', .slice D' m E'] 25) = w0 at *
  replace VX := VX.keep HB
  replace UX := UX.keep HB
  replace VZ := VZ.keep HB
  replace UZ := UZ.keep HB
  obtain ⟨b1, hb1⟩ : ∃ b1, b1 = w.heap.size + 1 := ⟨_, rfl⟩
  rw [← hb1] at t ⊢
  clear hb1
  go_loopg [35] L (fun G s35 wx => ∃ i : Nat, i + G = L ∧ s35 = .int .i64 (i : Int) ∧ Below w0.heap.size w0 wx)
  case atStart => exact ⟨0, by omega, rfl, Below.refl _ _⟩
  case round =>
    obtain ⟨i, hi, rfl, HQ⟩ := hrel
    obtain ⟨t0, t1, t2, -, -, -, tl⟩ := t.keep HQ
    obtain ⟨s0, s1, s2, -, -, -, sl⟩ := s.keep HQ
    by_cases ci : i = L
    · subst ci
      go_wp2_with fail
      clear t0 t1 t2 tl s0 s1 s2 sl
      go_loopg [83] m (fun G s83 wy => ∃ k : Nat, k + G = m ∧ s83 = .int .i64 (k : Int) ∧ Below w0.heap.size w0 wy)
      case atStart => exact ⟨0, by omega, rfl, HQ⟩
      case round =>
        clear HQ
        obtain ⟨k, hk, rfl, HQ⟩ := hrel
        obtain ⟨t0, t1, t2, -, -, -, tl⟩ := t.keep HQ
        obtain ⟨s0, s1, s2, -, -, -, sl⟩ := s.keep HQ
        by_cases ck : k = m
        · subst ck
          go_wp2_with fail
          go_ret
          exact ⟨rfl, later HB HQ⟩
        · have hlt : (k : Int) < (m : Int) := by omega
          obtain ⟨b, o, hA, hb, x0⟩ := (VZ.keep HQ) k (by omega)
          obtain ⟨b', o', hA', hb', y0⟩ := (UZ.keep HQ) k (by omega)
          subst hA hA'
          go_wp2_with fail
          first
            | (go_quiet (fail)
               go_wp2_with fail
               go_roundg (m - k - 1)
               case measure => omega
               case rel => exact ⟨k + 1, by omega, by go_num, below_drewN HQ _⟩)
            | (go_roundg (m - k - 1)
               case measure => omega
               case rel => exact ⟨k + 1, by omega, by go_num, HQ⟩)
    · have hlt : (i : Int) < (L : Int) := by omega
      obtain ⟨b, o, hA, hb, x0, x1, x2, x3, x4, x5, l0, l1⟩ := (VX.keep HQ) i (by omega)
      obtain ⟨b', o', hA', hb', y0, y1, y2, y3, y4, y5, -, -⟩ := (UX.keep HQ) i (by omega)
      have cs := fun w => rsame_w (X i).lo (X i).hi (X i).lo (X i).hi l0 l1 l0 l1 w
      rw [sameB_self, sameB_self] at cs
      subst hA hA'
      go_wp2_with (go_at_call 17; with_reducible refine (cs _).mono ?_; rintro _ w7 ⟨rfl, hb7⟩; have HQ3 := later (below_alloc (below_alloc HQ _) _) hb7)
      go_roundg (L - i - 1)
      case measure => omega
      case rel => exact ⟨i + 1, by omega, by go_num, HQ3⟩

set_option maxHeartbeats 4000000 in
theorem trim_bad (v : Int) (A : Option Addr) (n C : Nat) (D : Option Addr) (m E : Nat) (w : World)
    (cR : ∀ w2, Below w.heap.size w w2 → Calls Try.prog 5 #[tapeV v A n C D m E] w2 fun e w' => e = .returned (.int .i64 50) ∧ Below w2.heap.size w2 w') :
    Calls Try.prog 7 #[tapeV v A n C D m E] w fun e w' => e = .returned (.tuple #[.agg #[.int .i64 0, .slice none 0 0, .slice none 0 0], .int .i64 50]) ∧ Below w.heap.size w w' := by
  have r := tap3_new (w.alloc (.cells #[.int .i64 v, .slice A n C, .slice D m E] 25)) (.int .i64 0) (.slice none 0 0) (.slice none 0 0) 25
  have HB : Below w.heap.size w ((w.alloc (.cells #[.int .i64 v, .slice A n C, .slice D m E] 25)).alloc (.cells #[.int .i64 0, .slice none 0 0, .slice none 0 0] 25)) := by go_grown
  simp only [World.size_alloc] at r
  unfold tapeV at *
  go_enter Try.func7, Try.ntmps7
  go_wp2_with (go_at_call 5; with_reducible refine (cR _ HB).mono ?_; rintro _ w1 ⟨rfl, hb1⟩
               replace r := r.keep hb1
               replace HB := later HB hb1
               clear hb1 cR
               obtain ⟨r0, r1, r2, r3, r4, r5, r6⟩ := id r)
  refine bodyPost_ret (v := .tuple #[.agg #[.int .i64 0, .slice none 0 0, .slice none 0 0], .int .i64 50]) (by simp [results, Try.results7, go_sem, *]) rfl ⟨rfl, ?_⟩
  repeat' (first | (with_reducible exact HB) | (with_reducible refine Below.setCell ?_ ?_ _) | omega | go_size)

end Go.Proofs.Ytfhccdpdjadepaa
