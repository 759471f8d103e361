/- The walks of the reference's below and same: a number held against an exact one. -/
import Derived.Test.YtgigndboadmacaaBn
namespace Go.Proofs.Ytgigndboadmacaa
open Go.ChangeShapes Go.WideShapes Go.ChangeAt Go.RowKit

/-- Seven cells of a block. -/
def Has7 (w : World) (b : Nat) (a0 a1 a2 b0 b1 b2 r : Value) : Prop := w.cell? ⟨b, 0, none⟩ = some a0 ∧ w.cell? ⟨b, 1, none⟩ = some a1 ∧ w.cell? ⟨b, 2, none⟩ = some a2 ∧ w.cell? ⟨b, 3, none⟩ = some b0 ∧ w.cell? ⟨b, 4, none⟩ = some b1 ∧ w.cell? ⟨b, 5, none⟩ = some b2 ∧ w.cell? ⟨b, 6, none⟩ = some r ∧ b < w.heap.size

theorem Has7.keep {W0 w2 : World} {b : Nat} {a0 a1 a2 b0 b1 b2 r : Value} (h : Has7 W0 b a0 a1 a2 b0 b1 b2 r) (hb : Below W0.heap.size W0 w2) : Has7 w2 b a0 a1 a2 b0 b1 b2 r := by
  obtain ⟨h0, h1, h2, h3, h4, h5, h6, hl⟩ := h
  exact ⟨keepsC hb h0 hl, keepsC hb h1 hl, keepsC hb h2 hl, keepsC hb h3 hl, keepsC hb h4 hl, keepsC hb h5 hl, keepsC hb h6 hl, Nat.lt_of_lt_of_le hl hb.size⟩

theorem Has7.drew {w : World} {b : Nat} {a0 a1 a2 b0 b1 b2 r : Value} (h : Has7 w b a0 a1 a2 b0 b1 b2 r) : Has7 w.drew b a0 a1 a2 b0 b1 b2 r := h

set_option maxHeartbeats 1000000 in
theorem below_q_core (gr ga gb : Bool) (ro ao bo : Option Addr) (lr la lb cr ca cb : Nat) (er ea eb t s : Int) (w : World) (P : World → Value → Prop)
    (cp : ∀ W, Below w.heap.size w W → Calls Try.prog 41 #[.agg #[.bool gr, .slice ro lr cr, .int .i64 er], .agg #[.bool gb, .slice bo lb cb, .int .i64 eb]] W fun r w' => (∃ v, r = .returned v ∧ P w' v) ∧ Below W.heap.size W w')
    (co : ∀ W v, Below w.heap.size w W → P W v → Calls Try.prog 70 #[v, .agg #[.bool ga, .slice ao la ca, .int .i64 ea]] W fun r w' => r = .returned (.int .i64 t) ∧ Below W.heap.size W w')
    (cs : ∀ W, Below w.heap.size w W → Calls Try.prog 69 #[.agg #[.bool gb, .slice bo lb cb, .int .i64 eb]] W fun r w' => r = .returned (.int .i64 s) ∧ Below W.heap.size W w')
    (R : Bool) (hR : s < 0 ∧ R = decide (0 ≤ t) ∨ ¬ s < 0 ∧ R = decide (t ≤ 0)) :
    Calls Try.prog 65 #[.agg #[.bool gr, .slice ro lr cr, .int .i64 er], .agg #[.bool ga, .slice ao la ca, .int .i64 ea, .bool gb, .slice bo lb cb, .int .i64 eb, .bool false]] w fun r w' =>
      r = .returned (.bool R) ∧ Below w.heap.size w w' := by
  go_enter Try.func65, Try.ntmps65
  go_upto_region 3 with fail
  have X : Has3 ((w.alloc (.cells #[.bool gr, .slice ro lr cr, .int .i64 er] 49)).alloc (.cells #[.bool ga, .slice ao la ca, .int .i64 ea, .bool gb, .slice bo lb cb, .int .i64 eb, .bool false] 57)).drew w.heap.size (.bool gr) (.slice ro lr cr) (.int .i64 er) := ⟨by go_simp, by go_simp, by go_simp, by go_simp, by go_simp, by go_simp, by go_size⟩
  have Y : Has7 ((w.alloc (.cells #[.bool gr, .slice ro lr cr, .int .i64 er] 49)).alloc (.cells #[.bool ga, .slice ao la ca, .int .i64 ea, .bool gb, .slice bo lb cb, .int .i64 eb, .bool false] 57)).drew (w.heap.size + 1) (.bool ga) (.slice ao la ca) (.int .i64 ea) (.bool gb) (.slice bo lb cb) (.int .i64 eb) (.bool false) := ⟨by go_simp, by go_simp, by go_simp, by go_simp, by go_simp, by go_simp, by go_simp, by go_size⟩
  have HB : Below w.heap.size w ((w.alloc (.cells #[.bool gr, .slice ro lr cr, .int .i64 er] 49)).alloc (.cells #[.bool ga, .slice ao la ca, .int .i64 ea, .bool gb, .slice bo lb cb, .int .i64 eb, .bool false] 57)).drew := by go_grown
  go_region_held3 (fun w' => w'.cell? ⟨w.heap.size, 0, none⟩ = some (.bool gr) ∧ w'.cell? ⟨w.heap.size, 1, none⟩ = some (.slice ro lr cr) ∧ w'.cell? ⟨w.heap.size, 2, none⟩ = some (.int .i64 er) ∧ w'.cell? ⟨w.heap.size + 1, 0, none⟩ = some (.bool ga) ∧ w'.cell? ⟨w.heap.size + 1, 1, none⟩ = some (.slice ao la ca) ∧ w'.cell? ⟨w.heap.size + 1, 2, none⟩ = some (.int .i64 ea) ∧ w'.cell? ⟨w.heap.size + 1, 3, none⟩ = some (.bool gb) ∧ w'.cell? ⟨w.heap.size + 1, 4, none⟩ = some (.slice bo lb cb) ∧ w'.cell? ⟨w.heap.size + 1, 5, none⟩ = some (.int .i64 eb)) (first | exact ⟨X.1, X.2.1, X.2.2.1, Y.1, Y.2.1, Y.2.2.1, Y.2.2.2.1, Y.2.2.2.2.1, Y.2.2.2.2.2.1⟩ | go_keep)
    (first
      | (go_at_call 41; refine (cp _ HB).mono ?_; rintro _ w2 ⟨⟨v, rfl, hv⟩, hb1⟩; replace X := X.keep hb1; replace Y := Y.keep hb1; replace HB := later HB hb1; clear hb1)
      | (go_at_call 70; refine (co _ _ HB hv).mono ?_; rintro _ w3 ⟨rfl, hb1⟩; replace X := X.keep hb1; replace Y := Y.keep hb1; replace HB := later HB hb1; clear hb1))
  all_goals
    obtain ⟨y0, y1, y2, y3, y4, y5, y6, -⟩ := Y
    rcases hR with ⟨hs, rfl⟩ | ⟨hs, rfl⟩
    all_goals
      go_wp2_with (go_at_call 69; refine (cs _ HB).mono ?_; rintro _ w4 ⟨rfl, hb1⟩; replace HB := later HB hb1)
      go_ret
      exact ⟨rfl, HB⟩

set_option maxHeartbeats 1000000 in
theorem same_q_core (gr ga gb : Bool) (ro ao bo : Option Addr) (lr la lb cr ca cb : Nat) (er ea eb t : Int) (w : World) (P : World → Value → Prop)
    (cp : ∀ W, Below w.heap.size w W → Calls Try.prog 41 #[.agg #[.bool gr, .slice ro lr cr, .int .i64 er], .agg #[.bool gb, .slice bo lb cb, .int .i64 eb]] W fun r w' => (∃ v, r = .returned v ∧ P w' v) ∧ Below W.heap.size W w')
    (co : ∀ W v, Below w.heap.size w W → P W v → Calls Try.prog 70 #[v, .agg #[.bool ga, .slice ao la ca, .int .i64 ea]] W fun r w' => r = .returned (.int .i64 t) ∧ Below W.heap.size W w')
    (R : Bool) (hR : R = (t == 0)) :
    Calls Try.prog 63 #[.agg #[.bool gr, .slice ro lr cr, .int .i64 er], .agg #[.bool ga, .slice ao la ca, .int .i64 ea, .bool gb, .slice bo lb cb, .int .i64 eb, .bool false]] w fun r w' =>
      r = .returned (.bool R) ∧ Below w.heap.size w w' := by
  go_enter Try.func63, Try.ntmps63
  go_upto_region 3 with fail
  have X : Has3 ((w.alloc (.cells #[.bool gr, .slice ro lr cr, .int .i64 er] 49)).alloc (.cells #[.bool ga, .slice ao la ca, .int .i64 ea, .bool gb, .slice bo lb cb, .int .i64 eb, .bool false] 57)).drew w.heap.size (.bool gr) (.slice ro lr cr) (.int .i64 er) := ⟨by go_simp, by go_simp, by go_simp, by go_simp, by go_simp, by go_simp, by go_size⟩
  have Y : Has7 ((w.alloc (.cells #[.bool gr, .slice ro lr cr, .int .i64 er] 49)).alloc (.cells #[.bool ga, .slice ao la ca, .int .i64 ea, .bool gb, .slice bo lb cb, .int .i64 eb, .bool false] 57)).drew (w.heap.size + 1) (.bool ga) (.slice ao la ca) (.int .i64 ea) (.bool gb) (.slice bo lb cb) (.int .i64 eb) (.bool false) := ⟨by go_simp, by go_simp, by go_simp, by go_simp, by go_simp, by go_simp, by go_simp, by go_size⟩
  have HB : Below w.heap.size w ((w.alloc (.cells #[.bool gr, .slice ro lr cr, .int .i64 er] 49)).alloc (.cells #[.bool ga, .slice ao la ca, .int .i64 ea, .bool gb, .slice bo lb cb, .int .i64 eb, .bool false] 57)).drew := by go_grown
  go_region_held3 (fun w' => w'.cell? ⟨w.heap.size, 0, none⟩ = some (.bool gr) ∧ w'.cell? ⟨w.heap.size, 1, none⟩ = some (.slice ro lr cr) ∧ w'.cell? ⟨w.heap.size, 2, none⟩ = some (.int .i64 er) ∧ w'.cell? ⟨w.heap.size + 1, 0, none⟩ = some (.bool ga) ∧ w'.cell? ⟨w.heap.size + 1, 1, none⟩ = some (.slice ao la ca) ∧ w'.cell? ⟨w.heap.size + 1, 2, none⟩ = some (.int .i64 ea) ∧ w'.cell? ⟨w.heap.size + 1, 3, none⟩ = some (.bool gb) ∧ w'.cell? ⟨w.heap.size + 1, 4, none⟩ = some (.slice bo lb cb) ∧ w'.cell? ⟨w.heap.size + 1, 5, none⟩ = some (.int .i64 eb)) (first | exact ⟨X.1, X.2.1, X.2.2.1, Y.1, Y.2.1, Y.2.2.1, Y.2.2.2.1, Y.2.2.2.2.1, Y.2.2.2.2.2.1⟩ | go_keep)
    (first
      | (go_at_call 41; refine (cp _ HB).mono ?_; rintro _ w2 ⟨⟨v, rfl, hv⟩, hb1⟩; replace X := X.keep hb1; replace Y := Y.keep hb1; replace HB := later HB hb1; clear hb1)
      | (go_at_call 70; refine (co _ _ HB hv).mono ?_; rintro _ w3 ⟨rfl, hb1⟩; replace X := X.keep hb1; replace Y := Y.keep hb1; replace HB := later HB hb1; clear hb1))
  all_goals
    subst hR
    go_wp2_with fail
    go_ret
    exact ⟨rfl, HB⟩

set_option maxHeartbeats 1000000 in
theorem below_r_core (gr ga gb : Bool) (ro ao bo : Option Addr) (lr la lb cr ca cb : Nat) (er ea eb t s : Int) (w : World) (P : World → Value → Prop)
    (cp : ∀ W, Below w.heap.size w W → Calls Try.prog 41 #[.agg #[.bool gr, .slice ro lr cr, .int .i64 er], .agg #[.bool gr, .slice ro lr cr, .int .i64 er]] W fun r w' => (∃ v, r = .returned v ∧ P w' v) ∧ Below W.heap.size W w')
    (co : ∀ W v, Below w.heap.size w W → P W v → Calls Try.prog 70 #[v, .agg #[.bool ga, .slice ao la ca, .int .i64 ea]] W fun r w' => r = .returned (.int .i64 t) ∧ Below W.heap.size W w')
    (cs : ∀ W, Below w.heap.size w W → Calls Try.prog 69 #[.agg #[.bool gr, .slice ro lr cr, .int .i64 er]] W fun r w' => r = .returned (.int .i64 s) ∧ Below W.heap.size W w')
    (R : Bool) (hR : s = -1 ∧ R = true ∨ s = 0 ∧ R = true ∨ ¬ s ≤ 0 ∧ R = decide (t ≤ 0)) :
    Calls Try.prog 65 #[.agg #[.bool gr, .slice ro lr cr, .int .i64 er], .agg #[.bool ga, .slice ao la ca, .int .i64 ea, .bool gb, .slice bo lb cb, .int .i64 eb, .bool true]] w fun r w' =>
      r = .returned (.bool R) ∧ Below w.heap.size w w' := by
  go_enter Try.func65, Try.ntmps65
  go_upto_region 2 with fail
  have X : Has3 ((w.alloc (.cells #[.bool gr, .slice ro lr cr, .int .i64 er] 49)).alloc (.cells #[.bool ga, .slice ao la ca, .int .i64 ea, .bool gb, .slice bo lb cb, .int .i64 eb, .bool true] 57)).drew w.heap.size (.bool gr) (.slice ro lr cr) (.int .i64 er) := ⟨by go_simp, by go_simp, by go_simp, by go_simp, by go_simp, by go_simp, by go_size⟩
  have Y : Has7 ((w.alloc (.cells #[.bool gr, .slice ro lr cr, .int .i64 er] 49)).alloc (.cells #[.bool ga, .slice ao la ca, .int .i64 ea, .bool gb, .slice bo lb cb, .int .i64 eb, .bool true] 57)).drew (w.heap.size + 1) (.bool ga) (.slice ao la ca) (.int .i64 ea) (.bool gb) (.slice bo lb cb) (.int .i64 eb) (.bool true) := ⟨by go_simp, by go_simp, by go_simp, by go_simp, by go_simp, by go_simp, by go_simp, by go_size⟩
  have HB : Below w.heap.size w ((w.alloc (.cells #[.bool gr, .slice ro lr cr, .int .i64 er] 49)).alloc (.cells #[.bool ga, .slice ao la ca, .int .i64 ea, .bool gb, .slice bo lb cb, .int .i64 eb, .bool true] 57)).drew := by go_grown
  rcases hR with ⟨rfl, rfl⟩ | ⟨rfl, rfl⟩ | ⟨hs, rfl⟩
  · have x0 := X.1
    have x1 := X.2.1
    have x2 := X.2.2.1
    first
      | go_region_with (go_at_call 69; refine (cs _ HB).mono ?_; rintro _ w4 ⟨rfl, hb1⟩; replace X := X.keep hb1; replace Y := Y.keep hb1; replace HB := later HB hb1; clear hb1)
      | fail
    all_goals
      go_wp2_with fail
      go_ret
      exact ⟨rfl, HB⟩
  · have x0 := X.1
    have x1 := X.2.1
    have x2 := X.2.2.1
    first
      | go_region_with (go_at_call 69; refine (cs _ HB).mono ?_; rintro _ w4 ⟨rfl, hb1⟩; replace X := X.keep hb1; replace Y := Y.keep hb1; replace HB := later HB hb1; clear hb1)
      | fail
    all_goals
      go_wp2_with fail
      go_ret
      exact ⟨rfl, HB⟩
  · have hd : decide (s ≤ 0) = false := by simp; omega
    go_region_held3 (fun w' => w'.cell? ⟨w.heap.size, 0, none⟩ = some (.bool gr) ∧ w'.cell? ⟨w.heap.size, 1, none⟩ = some (.slice ro lr cr) ∧ w'.cell? ⟨w.heap.size, 2, none⟩ = some (.int .i64 er) ∧ w'.cell? ⟨w.heap.size + 1, 0, none⟩ = some (.bool ga) ∧ w'.cell? ⟨w.heap.size + 1, 1, none⟩ = some (.slice ao la ca) ∧ w'.cell? ⟨w.heap.size + 1, 2, none⟩ = some (.int .i64 ea) ∧ w'.cell? ⟨w.heap.size + 1, 3, none⟩ = some (.bool gb) ∧ w'.cell? ⟨w.heap.size + 1, 4, none⟩ = some (.slice bo lb cb) ∧ w'.cell? ⟨w.heap.size + 1, 5, none⟩ = some (.int .i64 eb)) (first | exact ⟨X.1, X.2.1, X.2.2.1, Y.1, Y.2.1, Y.2.2.1, Y.2.2.2.1, Y.2.2.2.2.1, Y.2.2.2.2.2.1⟩ | go_keep)
      (first
        | (go_at_call 69; refine (cs _ HB).mono ?_; rintro _ w4 ⟨rfl, hb1⟩; replace X := X.keep hb1; replace Y := Y.keep hb1; replace HB := later HB hb1; clear hb1)
        | (go_at_call 41; refine (cp _ HB).mono ?_; rintro _ w2 ⟨⟨v, rfl, hv⟩, hb1⟩; replace X := X.keep hb1; replace Y := Y.keep hb1; replace HB := later HB hb1; clear hb1)
        | (go_at_call 70; refine (co _ _ HB hv).mono ?_; rintro _ w3 ⟨rfl, hb1⟩; replace X := X.keep hb1; replace Y := Y.keep hb1; replace HB := later HB hb1; clear hb1))
    all_goals
      go_wp2_with fail
      go_ret
      exact ⟨rfl, HB⟩

set_option maxHeartbeats 1000000 in
theorem same_r_core (gr ga gb : Bool) (ro ao bo : Option Addr) (lr la lb cr ca cb : Nat) (er ea eb t s : Int) (w : World) (P : World → Value → Prop)
    (cp : ∀ W, Below w.heap.size w W → Calls Try.prog 41 #[.agg #[.bool gr, .slice ro lr cr, .int .i64 er], .agg #[.bool gr, .slice ro lr cr, .int .i64 er]] W fun r w' => (∃ v, r = .returned v ∧ P w' v) ∧ Below W.heap.size W w')
    (co : ∀ W v, Below w.heap.size w W → P W v → Calls Try.prog 70 #[v, .agg #[.bool ga, .slice ao la ca, .int .i64 ea]] W fun r w' => r = .returned (.int .i64 t) ∧ Below W.heap.size W w')
    (cs : ∀ W, Below w.heap.size w W → Calls Try.prog 69 #[.agg #[.bool gr, .slice ro lr cr, .int .i64 er]] W fun r w' => r = .returned (.int .i64 s) ∧ Below W.heap.size W w')
    (R : Bool) (hR : s = -1 ∧ R = false ∨ 0 ≤ s ∧ R = (t == 0)) :
    Calls Try.prog 63 #[.agg #[.bool gr, .slice ro lr cr, .int .i64 er], .agg #[.bool ga, .slice ao la ca, .int .i64 ea, .bool gb, .slice bo lb cb, .int .i64 eb, .bool true]] w fun r w' =>
      r = .returned (.bool R) ∧ Below w.heap.size w w' := by
  go_enter Try.func63, Try.ntmps63
  go_upto_region 2 with fail
  have X : Has3 ((w.alloc (.cells #[.bool gr, .slice ro lr cr, .int .i64 er] 49)).alloc (.cells #[.bool ga, .slice ao la ca, .int .i64 ea, .bool gb, .slice bo lb cb, .int .i64 eb, .bool true] 57)).drew w.heap.size (.bool gr) (.slice ro lr cr) (.int .i64 er) := ⟨by go_simp, by go_simp, by go_simp, by go_simp, by go_simp, by go_simp, by go_size⟩
  have Y : Has7 ((w.alloc (.cells #[.bool gr, .slice ro lr cr, .int .i64 er] 49)).alloc (.cells #[.bool ga, .slice ao la ca, .int .i64 ea, .bool gb, .slice bo lb cb, .int .i64 eb, .bool true] 57)).drew (w.heap.size + 1) (.bool ga) (.slice ao la ca) (.int .i64 ea) (.bool gb) (.slice bo lb cb) (.int .i64 eb) (.bool true) := ⟨by go_simp, by go_simp, by go_simp, by go_simp, by go_simp, by go_simp, by go_simp, by go_size⟩
  have HB : Below w.heap.size w ((w.alloc (.cells #[.bool gr, .slice ro lr cr, .int .i64 er] 49)).alloc (.cells #[.bool ga, .slice ao la ca, .int .i64 ea, .bool gb, .slice bo lb cb, .int .i64 eb, .bool true] 57)).drew := by go_grown
  rcases hR with ⟨rfl, rfl⟩ | ⟨hs, rfl⟩
  · have x0 := X.1
    have x1 := X.2.1
    have x2 := X.2.2.1
    first
      | go_region_with (go_at_call 69; refine (cs _ HB).mono ?_; rintro _ w4 ⟨rfl, hb1⟩; replace X := X.keep hb1; replace Y := Y.keep hb1; replace HB := later HB hb1; clear hb1)
      | fail
    all_goals
      go_wp2_with fail
      go_ret
      exact ⟨rfl, HB⟩
  · have hd : decide (0 ≤ s) = true := by simp; omega
    go_region_held3 (fun w' => w'.cell? ⟨w.heap.size, 0, none⟩ = some (.bool gr) ∧ w'.cell? ⟨w.heap.size, 1, none⟩ = some (.slice ro lr cr) ∧ w'.cell? ⟨w.heap.size, 2, none⟩ = some (.int .i64 er) ∧ w'.cell? ⟨w.heap.size + 1, 0, none⟩ = some (.bool ga) ∧ w'.cell? ⟨w.heap.size + 1, 1, none⟩ = some (.slice ao la ca) ∧ w'.cell? ⟨w.heap.size + 1, 2, none⟩ = some (.int .i64 ea) ∧ w'.cell? ⟨w.heap.size + 1, 3, none⟩ = some (.bool gb) ∧ w'.cell? ⟨w.heap.size + 1, 4, none⟩ = some (.slice bo lb cb) ∧ w'.cell? ⟨w.heap.size + 1, 5, none⟩ = some (.int .i64 eb)) (first | exact ⟨X.1, X.2.1, X.2.2.1, Y.1, Y.2.1, Y.2.2.1, Y.2.2.2.1, Y.2.2.2.2.1, Y.2.2.2.2.2.1⟩ | go_keep)
      (first
        | (go_at_call 69; refine (cs _ HB).mono ?_; rintro _ w4 ⟨rfl, hb1⟩; replace X := X.keep hb1; replace Y := Y.keep hb1; replace HB := later HB hb1; clear hb1)
        | (go_at_call 41; refine (cp _ HB).mono ?_; rintro _ w2 ⟨⟨v, rfl, hv⟩, hb1⟩; replace X := X.keep hb1; replace Y := Y.keep hb1; replace HB := later HB hb1; clear hb1)
        | (go_at_call 70; refine (co _ _ HB hv).mono ?_; rintro _ w3 ⟨rfl, hb1⟩; replace X := X.keep hb1; replace Y := Y.keep hb1; replace HB := later HB hb1; clear hb1))
    all_goals
      go_wp2_with fail
      go_ret
      exact ⟨rfl, HB⟩

end Go.Proofs.Ytgigndboadmacaa
