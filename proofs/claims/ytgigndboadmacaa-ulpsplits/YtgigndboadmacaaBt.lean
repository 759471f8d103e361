/- The reference's Rounded: the document's rounding. The reference's finite, inf and Whole. -/
import Derived.Test.YtgigndboadmacaaBs
import Derived.Test.YtgigndboadmacaaWv
namespace Go.Proofs.Ytgigndboadmacaa
open Go.ChangeShapes Go.WideShapes Go.ChangeAt Go.RowKit

theorem kdown_unique {X : Ex} (ok : X.Ok) {d e : Int} (h1 : KDown X d) (h2 : KDown X e) : d = e :=
  Int.le_antisymm (kdown_mono ok (fun _ c => c) h1 h2) (kdown_mono ok (fun _ c => c) h2 h1)

theorem tmod_zero (d : Int) : d.tmod 2 = 0 ↔ d % 2 = 0 := by
  obtain ⟨h1, h2, h3⟩ := tdiv2 d
  generalize d.tdiv 2 = q at *
  generalize d.tmod 2 = r at *
  omega

theorem rounded_x {X : Ex} (ok : X.Ok) {dir k : Int} (hk : IsRnd X dir k) {x : Value} {w : World} (hx : XIs w x X) :
    Calls Try.prog 43 #[x, .int .i64 dir] w fun r w' => r = .returned (.float .f64 (ofKey k)) ∧ Below w.heap.size w w' := by
  obtain ⟨d, hd, hcase⟩ := hk
  have hx' := hx
  obtain ⟨ga, ao, la, ca, ea, gb, bo, lb, cb, eb, root, rfl, -⟩ := hx'
  have bt := hd.bot
  have tp := hd.top
  have : ∃ b1 b2 b3 : Bool, (b1 = true ↔ d ≠ -9218868437227405312 ∧ X.le (2 * V d) ∧ X.ge (2 * V d)) ∧ (b2 = true ↔ X.le (V d + V (d + 1)) ∧ X.ge (V d + V (d + 1))) ∧ (b3 = true ↔ X.le (V d + V (d + 1))) := by
    classical
    exact ⟨decide _, decide _, decide _, decide_eq_true_iff, decide_eq_true_iff, decide_eq_true_iff⟩
  obtain ⟨b1, b2, b3, e1, e2, e3⟩ := this
  have same_of : ∀ {b c : Bool} {p : Prop}, (b = true ↔ p) → (c = true ↔ p) → b = c := fun h1 h2 => by
    rename_i b c p
    cases b <;> cases c <;> simp_all
  refine rounded_core ga ao la ca ea gb bo lb cb eb root dir d (ofKey d) (ofKey (d + 1)) b1 b2 b3 w ⟨bt, tp⟩
    (fun W v => NumZ (-1075) 1024 3000 W v (2 * V d)) (fun W v => NumZ (-1074) 1024 53 W v (V d)) (fun W v => NumZ (-1074) 1024 53 W v (V (d + 1))) (fun W v => NumZ (-1075) 1024 3000 W v (V d + V (d + 1)))
    (fun W W' v h hb => h.keep hb) (fun W W' v h hb => h.keep hb) ?_ (fun W => at_w d (by omega) (by omega) W) (fun W => at_w (d + 1) (by omega) (by omega) W) ?_ ?_ (fun W _ => grid_z d (by omega) W) (fun W _ => grid_z (d + 1) (by omega) W) ?_ ?_ ?_ ?_ (ofKey k) ?_ ?_ ?_ ?_ ?_ ?_
  · intro W hW
    refine (down_w _ X W (hx.keep hW)).mono ?_
    rintro _ w' ⟨⟨j, rfl, hj⟩, hb⟩
    rw [kdown_unique ok hj hd]
    exact ⟨rfl, hb⟩
  · intro hd0 W hW
    obtain ⟨k1, k2, k3⟩ := ofKey_facts (M := d) (by omega)
    refine (float_z (ofKey d) k1 k2 W).mono ?_
    rintro _ w' ⟨⟨v, rfl, hv⟩, hb⟩
    rw [k3] at hv
    exact ⟨⟨v, rfl, hv.halves⟩, hb⟩
  · intro hd0 W v hW hv
    refine (same_x hv (hx.keep hW)).mono ?_
    rintro _ w' ⟨⟨b, rfl, hbt⟩, hb⟩
    have : b = b1 := same_of hbt (e1.trans ⟨fun h => h.2, fun h => ⟨hd0, h⟩⟩)
    rw [this]
    exact ⟨rfl, hb⟩
  · intro W v0 v1 hW h0 h1
    obtain ⟨L, hL⟩ : ∃ L : Nat, L = 2152 := ⟨_, rfl⟩
    refine (sum_z (S := -1074) (T := 1024) (K := 53) (L := L) (by omega) (by omega) (by omega) (by omega) h0 h1).mono ?_
    rintro _ w' ⟨⟨v, rfl, hv⟩, hb⟩
    obtain ⟨g, o, l, c, e, rfl, q1, q2, hh⟩ := hv.half (K' := 3000) (by omega)
    exact ⟨⟨g, o, l, c, e, rfl, q1, q2, hh⟩, hb⟩
  · intro W v hW hv
    refine (same_x hv (hx.keep hW)).mono ?_
    rintro _ w' ⟨⟨b, rfl, hbt⟩, hb⟩
    rw [same_of hbt e2]
    exact ⟨rfl, hb⟩
  · intro W v hW hv
    refine (below_x hv (hx.keep hW)).mono ?_
    rintro _ w' ⟨⟨b, rfl, hbt⟩, hb⟩
    rw [same_of hbt e3]
    exact ⟨rfl, hb⟩
  · intro h0
    cases b1
    · rfl
    · exact absurd h0 (e1.1 rfl).1
  all_goals
    clear same_of
    rcases hcase with ⟨a, rfl⟩ | ⟨a, c1, c2, c3⟩
  · intro _; rfl
  · intro h; exact absurd (e1.1 h) a
  · intro h; rw [e1.2 a] at h; cases h
  · intro _ h; rw [c1 h]
  · intro h; rw [e1.2 a] at h; cases h
  · intro _ h; rw [c2 h]
  · intro h; rw [e1.2 a] at h; cases h
  · intro _ h hb
    rcases c3 h with ⟨p1, p2, p3⟩ | ⟨p1, -⟩
    · rw [p3]
      by_cases hp : d % 2 = 0
      · rw [if_pos hp, if_pos ((tmod_zero d).2 hp)]
      · rw [if_neg hp, if_neg (fun q => hp ((tmod_zero d).1 q))]
    · exact absurd (e2.1 hb) p1
  · intro h; rw [e1.2 a] at h; cases h
  · intro _ h hb hb3
    rcases c3 h with ⟨p1, p2, -⟩ | ⟨p1, ⟨p2, p3⟩ | ⟨p2, p3⟩⟩
    · rw [e2.2 ⟨p1, p2⟩] at hb; cases hb
    · rw [p3]
    · exact absurd (e3.1 hb3) p2
  · intro h; rw [e1.2 a] at h; cases h
  · intro _ h hb hb3
    rcases c3 h with ⟨p1, p2, -⟩ | ⟨p1, ⟨p2, p3⟩ | ⟨p2, p3⟩⟩
    · rw [e2.2 ⟨p1, p2⟩] at hb; cases hb
    · rw [e3.2 p2] at hb3; cases hb3
    · rw [p3]

theorem fin_num {x : Nat} (h : finB x = true) : nanB x = false := by
  unfold finB at h; unfold nanB; simp at h ⊢; omega

theorem rfinite_core (x : Nat) (g b n : Bool) (m : Nat) (e : Int) (hx : x < 18446744073709551616) (hn : nanB x = n) (hb : (!n && b) = b) (cs : ∀ w, Calls Try.prog 9 #[.float .f64 x] w fun r w' => r = .returned (.tuple #[.agg #[.bool g, .int .u64 m, .int .i64 e], .bool b]) ∧ Below w.heap.size w w') (w : World) :
    Calls Try.prog 35 #[.float .f64 x] w fun r w' => r = .returned (.bool b) ∧ Below w.heap.size w w' := by
  have ci := fun w => isNum_w x hx w
  rw [hn] at ci
  cases n
  · go_enter Try.func35, Try.ntmps35
    go_wp2_with (first | (go_at_call 9; refine (cs _).mono ?_; rintro _ w1 ⟨rfl, hb1⟩; have HB : Below w.heap.size w w1 := hb1) | (go_at_call 10; refine (ci _).mono ?_; rintro _ _ ⟨rfl, rfl⟩))
    go_ret
    exact ⟨rfl, later HB (by go_grown)⟩
  · have : b = false := by simpa using hb.symm
    subst this
    go_enter Try.func35, Try.ntmps35
    go_wp2_with (first | (go_at_call 9; refine (cs _).mono ?_; rintro _ w1 ⟨rfl, hb1⟩; have HB : Below w.heap.size w w1 := hb1) | (go_at_call 10; refine (ci _).mono ?_; rintro _ _ ⟨rfl, rfl⟩))
    go_ret
    exact ⟨rfl, later HB (by go_grown)⟩

theorem rfinite_w (x : Nat) (hx : x < 18446744073709551616) (w : World) :
    Calls Try.prog 35 #[.float .f64 x] w fun r w' => r = .returned (.bool (finB x)) ∧ Below w.heap.size w w' := by
  cases hf : finB x
  · exact rfinite_core x _ false (nanB x) _ _ hx rfl (by simp) (fun w => rsplit_not x hx hf w) w
  · exact rfinite_core x _ true (nanB x) _ _ hx rfl (by rw [fin_num hf]; rfl) (fun w => rsplit_w x hx hf w) w

theorem rinf_w' (g : Bool) (w : World) :
    Calls Try.prog 40 #[.bool g] w fun r w' => r = .returned (.float .f64 (infW g)) ∧ w = w' := by
  have c1 := fun w => at_w (-9218868437227405312) (by omega) (by omega) w
  have c2 := fun w => at_w 9218868437227405312 (by omega) (by omega) w
  rw [show ofKey (-9218868437227405312) = 18442240474082181120 from rfl] at c1
  rw [show ofKey 9218868437227405312 = 9218868437227405312 from rfl] at c2
  cases g
  · clear c1
    go_enter Try.func40, Try.ntmps40
    go_wp2_with (go_at_call 59; refine (c2 _).mono ?_; rintro _ _ ⟨rfl, rfl⟩)
    go_ret
    exact ⟨rfl, rfl⟩
  · clear c2
    go_enter Try.func40, Try.ntmps40
    go_wp2_with (go_at_call 59; refine (c1 _).mono ?_; rintro _ _ ⟨rfl, rfl⟩)
    go_ret
    exact ⟨rfl, rfl⟩

set_option maxHeartbeats 1000000 in
theorem whole_core (ga : Bool) (ao : Option Addr) (la ca : Nat) (ea dir : Int) (R : Nat) (w : World) (P : World → Value → Prop) (kp : ∀ W v, P W v → ∃ g o l c e, v = .agg #[.bool g, .slice o l c, .int .i64 e])
    (ci : ∀ W, Calls Try.prog 50 #[.int .i64 1] W fun r w' => (∃ v, r = .returned v ∧ P w' v) ∧ Below W.heap.size W w')
    (cr : ∀ W gb bo lb cb eb, Below w.heap.size w W → P W (.agg #[.bool gb, .slice bo lb cb, .int .i64 eb]) → Calls Try.prog 43 #[.agg #[.bool ga, .slice ao la ca, .int .i64 ea, .bool gb, .slice bo lb cb, .int .i64 eb, .bool false], .int .i64 dir] W fun r w' => r = .returned (.float .f64 R) ∧ Below W.heap.size W w') :
    Calls Try.prog 31 #[.agg #[.bool ga, .slice ao la ca, .int .i64 ea], .int .i64 dir] w fun r w' => r = .returned (.float .f64 R) ∧ Below w.heap.size w w' := by
  go_enter Try.func31, Try.ntmps31
  go_upto_region 1 with fail
  have X : Has3 (w.alloc (.cells #[.bool ga, .slice ao la ca, .int .i64 ea] 49)).drew w.heap.size (.bool ga) (.slice ao la ca) (.int .i64 ea) := ⟨by go_simp, by go_simp, by go_simp, by go_simp, by go_simp, by go_simp, by go_size⟩
  have HB : Below w.heap.size w (w.alloc (.cells #[.bool ga, .slice ao la ca, .int .i64 ea] 49)).drew := by go_grown
  go_region_held3 (fun w' => w'.cell? ⟨w.heap.size, 0, none⟩ = some (.bool ga) ∧ w'.cell? ⟨w.heap.size, 1, none⟩ = some (.slice ao la ca) ∧ w'.cell? ⟨w.heap.size, 2, none⟩ = some (.int .i64 ea)) (first | exact ⟨X.1, X.2.1, X.2.2.1⟩ | go_keep)
    (first
      | (go_at_call 50; refine (ci _).mono ?_; rintro _ w2 ⟨⟨v, rfl, hv⟩, hb1⟩; obtain ⟨gb, bo, lb, cb, eb, rfl⟩ := kp _ _ hv; replace X := X.keep hb1; replace HB := later HB hb1; clear hb1)
      | (go_at_call 43; refine (cr _ _ _ _ _ _ HB hv).mono ?_; rintro _ w3 ⟨rfl, hb1⟩; replace X := X.keep hb1; replace HB := later HB hb1; clear hb1))
  all_goals
    go_wp2_with fail
    go_ret
    exact ⟨rfl, HB⟩

/-- A number, rounded: its exact value is N over 2^t, in halves of the least float. -/
theorem whole_x {N : Int} {t : Nat} (ht : t ≤ 5000) {dir k : Int} (hk : IsRnd (exQ N (2 ^ t)) dir k) {x : Value} {w : World} (hx : NumZ (-(t : Int) - 1075) 6000 20000 w x N) :
    Calls Try.prog 31 #[x, .int .i64 dir] w fun r w' => r = .returned (.float .f64 (ofKey k)) ∧ Below w.heap.size w w' := by
  have hx' := hx
  obtain ⟨ga, ao, la, ca, ea, rfl⟩ := hx'.shape
  have hp := Nat.two_pow_pos t
  refine whole_core ga ao la ca ea dir _ w (fun W v => NumZ 0 0 1 W v 1) (fun W v h => h.shape) (fun W => int_z W) (fun W gb bo lb cb eb hW hv => ?_)
  refine rounded_x (exQ_ok N hp) hk ⟨ga, ao, la, ca, ea, gb, bo, lb, cb, eb, false, rfl, Or.inl ⟨rfl, -(t : Int), N, ((2 ^ t : Nat) : Int), by omega, by omega, hx.keep hW, ?_, ?_⟩⟩
  · have := (hv.scale (S' := -(t : Int)) (t := t) (by omega)).wide (T' := 1024) (K' := 3000) (by omega) (by omega)
    rw [Int.one_mul] at this
    exact this
  · generalize 2 ^ t = D at *
    unfold exQ exD
    have : ¬ (D : Int) < 0 := by omega
    simp only [this, if_false]

end Go.Proofs.Ytgigndboadmacaa
