/- The walks of the reference's Product and Sum. -/
import Derived.Test.YtgigndboadmacaaBj
namespace Go.Proofs.Ytgigndboadmacaa
open Go.ChangeShapes Go.WideShapes Go.ChangeAt Go.RowKit

theorem big_nil (w : World) : BigIs w (.slice none 0 0) 0 := ⟨[], Digs.nil, trimmed_nil, rfl, World.ownsRow_nil _ _ _ _⟩

set_option maxHeartbeats 1000000 in
theorem prod_w (g h : Bool) (va vb : Value) (m n K : Nat) (e f : Int) (hK : K ≤ 1000000) (hm : m < 2 ^ K) (hn : n < 2 ^ K) (he : -100000 ≤ e ∧ e ≤ 100000) (hf : -100000 ≤ f ∧ f ≤ 100000) (w : World) (ha : BigIs w va m) (hb : BigIs w vb n) :
    Calls Try.prog 41 #[.agg #[.bool g, va, .int .i64 e], .agg #[.bool h, vb, .int .i64 f]] w fun r w' =>
      (∃ s v E, r = .returned (.agg #[.bool s, v, .int .i64 E]) ∧ BigIs w' v (m * n) ∧ (m * n = 0 → s = false ∧ E = 0) ∧ (m * n ≠ 0 → s = (g != h) ∧ E = e + f)) ∧ Below w.heap.size w w' := by
  obtain ⟨ao, l, ca, rfl, -⟩ := ha.shape
  obtain ⟨bo, k, cc, rfl, -⟩ := hb.shape
  have cb := fun W (hW : Below w.heap.size w W) => by_w _ _ m n K hK hm hn W (ha.keep hW) (hb.keep hW)
  clear hm hn
  generalize m * n = p at *
  by_cases h0 : p = 0
  · subst h0
    go_enter Try.func41, Try.ntmps41
    go_wp2_with
     (go_at_call 60; refine (cb _ (by go_grown)).mono ?_; rintro _ w1 ⟨⟨v, rfl, hv⟩, hb1⟩
      obtain ⟨o1, l1, p1, rfl, hl⟩ := hv.shape
      have hl0 : l1 = 0 := hl.2 rfl
      subst hl0
      have R : Has3 w1 (w.heap.size + 1 + 1) (.bool false) (.slice none 0 0) (.int .i64 0) := Has3.keep ⟨by go_simp, by go_simp, by go_simp, by go_simp, by go_simp, by go_simp, by go_size⟩ hb1
      obtain ⟨z0, z1, z2, z3, z4, z5, z6⟩ := R
      have HB : Below w.heap.size w w1 := later (by go_grown) hb1)
    refine bodyPost_ret (v := .agg #[.bool false, .slice none 0 0, .int .i64 0]) (by simp [results, Try.results41, go_sem, *]) rfl ⟨⟨_, _, _, rfl, big_nil _, fun _ => ⟨rfl, rfl⟩, fun c => absurd rfl c⟩, ?_⟩
    repeat' (first | (with_reducible exact HB) | (with_reducible refine Below.setCell ?_ ?_ _) | go_size)
  · go_enter Try.func41, Try.ntmps41
    go_wp2_with
     (go_at_call 60; refine (cb _ (by go_grown)).mono ?_; rintro _ w1 ⟨⟨v, rfl, hv⟩, hb1⟩
      obtain ⟨o1, l1, p1, rfl, hl⟩ := hv.shape
      have hl0 : ((l1 : Int) == 0) = false := by rw [beq_eq_false_iff_ne]; intro c; exact h0 (hl.1 (by omega))
      clear hl
      have X : Has3 w1 w.heap.size (.bool g) (.slice ao l ca) (.int .i64 e) := Has3.keep ⟨by go_simp, by go_simp, by go_simp, by go_simp, by go_simp, by go_simp, by go_size⟩ hb1
      have Y : Has3 w1 (w.heap.size + 1) (.bool h) (.slice bo k cc) (.int .i64 f) := Has3.keep ⟨by go_simp, by go_simp, by go_simp, by go_simp, by go_simp, by go_simp, by go_size⟩ hb1
      have R : Has3 w1 (w.heap.size + 1 + 1) (.bool false) (.slice none 0 0) (.int .i64 0) := Has3.keep ⟨by go_simp, by go_simp, by go_simp, by go_simp, by go_simp, by go_simp, by go_size⟩ hb1
      obtain ⟨x0, x1, x2, -⟩ := X
      obtain ⟨y0, y1, y2, -⟩ := Y
      obtain ⟨z0, z1, z2, z3, z4, z5, z6⟩ := R
      obtain ⟨-, -, B2⟩ := boxed3 w _ _ _
      replace B2 := B2.keep hb1
      have HB : Below w.heap.size w w1 := later (by go_grown) hb1)
    refine bodyPost_ret (v := .agg #[.bool (!(g == h)), .slice o1 l1 p1, .int .i64 (e + f)]) (by simp [results, Try.results41, go_sem, *]) rfl ⟨⟨_, _, _, rfl, ?_, fun c => absurd c h0, fun _ => ⟨by cases g <;> cases h <;> rfl, rfl⟩⟩, ?_⟩
    all_goals repeat' (first | (with_reducible exact hv) | (with_reducible exact HB) | (with_reducible exact B2) | (with_reducible refine BigIs.put ?_ ?_ _ _) | (with_reducible refine Boxed.set ?_ _ _ _) | (with_reducible refine Below.setCell ?_ ?_ _) | go_size)

end Go.Proofs.Ytgigndboadmacaa
