/- Exp as a function of words. -/
import Derived.Test.YtnchhfhoaepjnaaGreatEn
namespace Go.Proofs.YtnchhfhoaepjnaaGreat
open Go.ChangeShapes Go.WideShapes Go.ChangeAt Go.RowKit

set_option maxHeartbeats 1000000 in
theorem exp_hi (v : Nat) (s : Nat × Nat) (o1 : (FloatKind.f64.format.order v 4649456441864749056 == some .gt) = true) (c1 : ∀ w, Calls Tryz.prog 83 #[.int .i64 1] w fun e w' => e = .returned (.float .f64 (infI 1)) ∧ w = w') (c2 : ∀ w, Calls Tryz.prog 82 #[.float .f64 9218868437227405311, .float .f64 (infI 1)] w fun e w' => e = .returned (.agg #[.float .f64 s.1, .float .f64 s.2]) ∧ Below w.heap.size w w') (w : World) : Calls Tryz.prog 80 #[.float .f64 v] w fun e w' => e = .returned (.agg #[.float .f64 s.1, .float .f64 s.2]) ∧ Below w.heap.size w w' := by
  have R : Has2 (w.alloc (.cells #[.float .f64 0, .float .f64 0] 46)) w.heap.size (.float .f64 0) (.float .f64 0) := has2_new _ _ _ _
  have HB : Below w.heap.size w (w.alloc (.cells #[.float .f64 0, .float .f64 0] 46)) := by go_grown
  go_enter Tryz.func80, Tryz.ntmps80
  go_wp2_with (first
    | (go_at_call 83; refine (c1 _).mono ?_; rintro _ V1 ⟨rfl, rfl⟩)
    | (go_at_call 82; refine (c2 _).mono ?_; rintro _ V1 ⟨rfl, hb1⟩; replace R := R.keep hb1; replace HB := later HB hb1; clear hb1; obtain ⟨k0, k1, k2, k3, k4⟩ := id R))
  refine bodyPost_ret (v := .agg #[.float .f64 s.1, .float .f64 s.2]) (by simp [results, Tryz.results80, go_sem, *]) rfl ⟨rfl, ?_⟩; repeat' (first | (with_reducible exact HB) | (with_reducible refine Below.setCell ?_ ?_ _) | go_size)

set_option maxHeartbeats 1000000 in
theorem exp_lo (v : Nat) (s : Nat × Nat) (o1 : (FloatKind.f64.format.order v 4649456441864749056 == some .gt) = false) (o2 : (FloatKind.f64.format.order v 13873145138068324352 == some .lt) = true) (c2 : ∀ w, Calls Tryz.prog 82 #[.float .f64 0, .float .f64 1] w fun e w' => e = .returned (.agg #[.float .f64 s.1, .float .f64 s.2]) ∧ Below w.heap.size w w') (w : World) : Calls Tryz.prog 80 #[.float .f64 v] w fun e w' => e = .returned (.agg #[.float .f64 s.1, .float .f64 s.2]) ∧ Below w.heap.size w w' := by
  have R : Has2 (w.alloc (.cells #[.float .f64 0, .float .f64 0] 46)) w.heap.size (.float .f64 0) (.float .f64 0) := has2_new _ _ _ _
  have HB : Below w.heap.size w (w.alloc (.cells #[.float .f64 0, .float .f64 0] 46)) := by go_grown
  go_enter Tryz.func80, Tryz.ntmps80
  go_wp2_with (go_at_call 82; refine (c2 _).mono ?_; rintro _ V1 ⟨rfl, hb1⟩; replace R := R.keep hb1; replace HB := later HB hb1; clear hb1; obtain ⟨k0, k1, k2, k3, k4⟩ := id R)
  refine bodyPost_ret (v := .agg #[.float .f64 s.1, .float .f64 s.2]) (by simp [results, Tryz.results80, go_sem, *]) rfl ⟨rfl, ?_⟩; repeat' (first | (with_reducible exact HB) | (with_reducible refine Below.setCell ?_ ?_ _) | go_size)

set_option maxHeartbeats 1000000 in
theorem exp_mid (v f : Nat) (k : Int) (p l q m r u s : Nat × Nat) (o1 : (FloatKind.f64.format.order v 4649456441864749056 == some .gt) = false) (o2 : (FloatKind.f64.format.order v 13873145138068324352 == some .lt) = false)
    (c1 : ∀ w, Calls Tryz.prog 114 #[.float .f64 v] w fun e w' => e = .returned (.agg #[.float .f64 p.1, .float .f64 p.2]) ∧ Below w.heap.size w w') (c2 : ∀ w, Calls Tryz.prog 134 #[] w fun e w' => e = .returned (.agg #[.float .f64 l.1, .float .f64 l.2]) ∧ Below w.heap.size w w') (c3 : ∀ w, Calls Tryz.prog 73 #[.agg #[.float .f64 p.1, .float .f64 p.2], .agg #[.float .f64 l.1, .float .f64 l.2]] w fun e w' => e = .returned (.agg #[.float .f64 q.1, .float .f64 q.2]) ∧ Below w.heap.size w w') (c4 : ∀ w, Calls Tryz.prog 133 #[.agg #[.float .f64 q.1, .float .f64 q.2]] w fun e w' => e = .returned (.int .i64 k) ∧ Below w.heap.size w w') (c5 : ∀ w, Calls Tryz.prog 137 #[] w fun e w' => e = .returned (.agg #[.float .f64 f, .float .f64 m.1, .float .f64 m.2]) ∧ Below w.heap.size w w') (c6 : ∀ w, Calls Tryz.prog 138 #[.agg #[.float .f64 f, .float .f64 m.1, .float .f64 m.2], .float .f64 v, .int .i64 k] w fun e w' => e = .returned (.agg #[.float .f64 r.1, .float .f64 r.2]) ∧ Below w.heap.size w w')
    (c7 : ∀ w, Calls Tryz.prog 136 #[.agg #[.float .f64 r.1, .float .f64 r.2]] w fun e w' => e = .returned (.agg #[.float .f64 u.1, .float .f64 u.2]) ∧ Below w.heap.size w w') (c8 : ∀ w, Calls Tryz.prog 135 #[.agg #[.float .f64 u.1, .float .f64 u.2], .int .i64 k] w fun e w' => e = .returned (.agg #[.float .f64 s.1, .float .f64 s.2]) ∧ Below w.heap.size w w') (w : World) : Calls Tryz.prog 80 #[.float .f64 v] w fun e w' => e = .returned (.agg #[.float .f64 s.1, .float .f64 s.2]) ∧ Below w.heap.size w w' := by
  have R : Has2 (w.alloc (.cells #[.float .f64 0, .float .f64 0] 46)) w.heap.size (.float .f64 0) (.float .f64 0) := has2_new _ _ _ _
  have HB : Below w.heap.size w (w.alloc (.cells #[.float .f64 0, .float .f64 0] 46)) := by go_grown
  go_enter Tryz.func80, Tryz.ntmps80
  go_wp2_with (first | (go_at_call 114; with_reducible refine (c1 _).mono ?_; rintro _ VV ⟨rfl, hb1⟩; replace R := R.keep hb1; replace HB := later HB hb1; clear hb1) | (go_at_call 134; with_reducible refine (c2 _).mono ?_; rintro _ VV ⟨rfl, hb1⟩; replace R := R.keep hb1; replace HB := later HB hb1; clear hb1) | (go_at_call 73; with_reducible refine (c3 _).mono ?_; rintro _ VV ⟨rfl, hb1⟩; replace R := R.keep hb1; replace HB := later HB hb1; clear hb1) | (go_at_call 133; with_reducible refine (c4 _).mono ?_; rintro _ VV ⟨rfl, hb1⟩; replace R := R.keep hb1; replace HB := later HB hb1; clear hb1) | (go_at_call 137; with_reducible refine (c5 _).mono ?_; rintro _ VV ⟨rfl, hb1⟩; replace R := R.keep hb1; replace HB := later HB hb1; clear hb1) | (go_at_call 138; with_reducible refine (c6 _).mono ?_; rintro _ VV ⟨rfl, hb1⟩; replace R := R.keep hb1; replace HB := later HB hb1; clear hb1) | (go_at_call 136; with_reducible refine (c7 _).mono ?_; rintro _ VV ⟨rfl, hb1⟩; replace R := R.keep hb1; replace HB := later HB hb1; clear hb1) | (go_at_call 135; refine (c8 _).mono ?_; rintro _ V1 ⟨rfl, hb1⟩; replace R := R.keep hb1; replace HB := later HB hb1; clear hb1; obtain ⟨k0, k1, k2, k3, k4⟩ := id R))
  refine bodyPost_ret (v := .agg #[.float .f64 s.1, .float .f64 s.2]) (by simp [results, Tryz.results80, go_sem, *]) rfl ⟨rfl, ?_⟩; repeat' (first | (with_reducible exact HB) | (with_reducible refine Below.setCell ?_ ?_ _) | go_size)

def ln2Q : Nat × Nat := mkQ 4604418534313441775 4604418534313441776
def restLnQ : Nat × Nat := mkQ 4419120210296499430 4419120210296499431
theorem ln2Q_W2 : W2 ln2Q := mkQ_W2 (by omega) (by omega)
theorem restLnQ_W2 : W2 restLnQ := mkQ_W2 (by omega) (by omega)
theorem cFineLn (w : World) : Calls Tryz.prog 137 #[] w fun e w' => e = .returned (.agg #[.float .f64 4604418534313439232, .float .f64 restLnQ.1, .float .f64 restLnQ.2]) ∧ Below w.heap.size w w' := fineLn2_core _ (fun w => cMake (by omega) (by omega) w) w
def expKI (v : Nat) : Int := nearI (divQ (ptQ v) ln2Q)
def expAtQ (v : Nat) : Nat × Nat :=
  if ltB 4649456441864749056 v then mkQ 9218868437227405311 (infI 1) else if ltB v 13873145138068324352 then mkQ 0 1
  else scaledQ (pwsE (takenQ 4604418534313439232 restLnQ v (expKI v))) (expKI v)

theorem exp_some : Some2 13873145138068324352 4649456441864749056 := hs_iff.1 (by decide +kernel)
theorem ln2_some : Some2 ln2Q.1 ln2Q.2 := hs_iff.1 (by decide +kernel)
theorem exp_lo_key : -4832362400168542207 ≤ key (divQ (13873145138068324352, 4649456441864749056) ln2Q).1 := by decide +kernel
theorem exp_hi_key : key (divQ (13873145138068324352, 4649456441864749056) ln2Q).2 ≤ 4832362400168542207 := by decide +kernel
theorem exp_key : key 13873145138068324352 = -4649773101213548544 ∧ key 4649456441864749056 = 4649456441864749056 := by decide

theorem near_exp {v : Nat} (hv : v < 18446744073709551616) (nv : nanB v = false) (k1 : -4649773101213548544 ≤ key v) (k2 : key v ≤ 4649456441864749056) : midQ (divQ (ptQ v) ln2Q) % 9223372036854775808 < 4832362400168542208 := by
  have X := pt_in hv nv (by omega) (by omega) exp_some (by omega) (by omega) (by rw [exp_key.1]; exact k1) (by rw [exp_key.2]; exact k2)
  have := mid_bound (B := 4832362400168542207) (by omega) (divQ_W2 (ptQ_W2 hv) ln2Q_W2) (div_gr X (In.refl ln2Q_W2.1 ln2Q_W2.2 ln2_some)) exp_lo_key exp_hi_key
  omega

theorem cExpAt {v : Nat} (hv : v < 18446744073709551616) (nv : nanB v = false) (w : World) : Calls Tryz.prog 80 #[.float .f64 v] w fun e w' => e = .returned (.agg #[.float .f64 (expAtQ v).1, .float .f64 (expAtQ v).2]) ∧ Below w.heap.size w w' := by
  have o1 := o_gt hv (show 4649456441864749056 < 18446744073709551616 by omega)
  have o2 := o_lt hv (show 13873145138068324352 < 18446744073709551616 by omega)
  unfold expAtQ
  cases h1 : ltB 4649456441864749056 v with
  | true =>
    rw [if_pos rfl]
    rw [h1] at o1
    exact exp_hi v _ o1 (fun w => inf_w 1 w) (fun w => cMake (by omega) (infI_lt 1) w) w
  | false =>
    rw [if_neg (by simp)]
    rw [h1] at o1
    cases h2 : ltB v 13873145138068324352 with
    | true =>
      rw [if_pos rfl]
      rw [h2] at o2
      exact exp_lo v _ o1 o2 (fun w => cMake (by omega) (by omega) w) w
    | false =>
      rw [if_neg (by simp)]
      rw [h2] at o2
      unfold ltB at h1 h2
      rw [nv, show nanB 4649456441864749056 = false by decide, exp_key.2] at h1
      rw [nv, show nanB 13873145138068324352 = false by decide, exp_key.1] at h2
      simp only [Bool.not_false, Bool.true_and, decide_eq_false_iff_not] at h1 h2
      have b := near_exp hv nv (by omega) (by omega)
      have kr := nearI_in b
      have hd := divQ_W2 (ptQ_W2 hv) ln2Q_W2
      have ht := takenQ_W2 (f := 4604418534313439232) (k := expKI v) (by omega) hv restLnQ_W2
      exact exp_mid v _ (expKI v) _ _ _ _ _ _ _ o1 o2 (fun w => cPoint hv w) (fun w => cLn2 w) (fun w => cDiv (ptQ_W2 hv) ln2Q_W2 w) (fun w => cNear hd b w) (fun w => cFineLn w) (fun w => cTaken _ (by omega) hv restLnQ_W2 w) (fun w => cPows ht w) (fun w => cScaled (pwsE_W2 ht) _ (by unfold expKI; omega) w) w

theorem expAtQ_W2 {v : Nat} (hv : v < 18446744073709551616) : W2 (expAtQ v) := by
  unfold expAtQ
  split
  · exact mkQ_W2 (by omega) (infI_lt 1)
  · split
    · exact mkQ_W2 (by omega) (by omega)
    · exact scaledQ_W2 (pwsE_W2 (takenQ_W2 (by omega) hv restLnQ_W2)) _

def risQ (at_ : Nat → Nat × Nat) (x : Nat × Nat) : Nat × Nat := if cntQ x = noneQ then noneQ else mkQ (at_ (cntQ x).1).1 (at_ (cntQ x).2).2
theorem risQ_W2 {at_ : Nat → Nat × Nat} (h : ∀ v, v < 18446744073709551616 → W2 (at_ v)) {x : Nat × Nat} (hx : W2 x) : W2 (risQ at_ x) := by
  have hc := cntQ_W2 hx
  unfold risQ
  split
  · exact noneQ_W2
  · exact mkQ_W2 (h _ hc.1).1 (h _ hc.2).2
theorem none_not {c : Nat × Nat} (S : Some2 c.1 c.2) : ¬ c = noneQ := by
  rintro rfl
  have := hs_iff.2 S
  rw [show hsB noneQ.1 noneQ.2 = false from empty_some] at this
  cases this

def expQ (x : Nat × Nat) : Nat × Nat := risQ expAtQ x
theorem cExp {x : Nat × Nat} (hx : W2 x) (w : World) : Calls Tryz.prog 40 #[.agg #[.float .f64 x.1, .float .f64 x.2]] w fun e w' => e = .returned (.agg #[.float .f64 (expQ x).1, .float .f64 (expQ x).2]) ∧ Below w.heap.size w w' := by
  refine exp_ris x _ (fun w => ?_) w
  have hc := cntQ_W2 hx
  have c1 := fun w => cCnt hx w
  have ways := meet_ways x allQ
  have ec : meetQ x allQ = cntQ x := rfl
  rw [ec] at ways
  unfold expQ risQ
  generalize cntQ x = c at *
  rcases ways with rfl | S
  · rw [if_pos rfl]
    exact ris_expAt_none x noneQ c1 noneQ_eq.1 noneQ_eq.2 w
  · rw [if_neg (none_not S)]
    exact ris_expAt_some x c _ _ _ c1 (some_ne hc.1 S) (fun w => cExpAt hc.1 S.nl w) (fun w => cExpAt hc.2 S.nh w) (fun w => cMake (expAtQ_W2 hc.1).1 (expAtQ_W2 hc.2).2 w) w
theorem expQ_W2 {x : Nat × Nat} (hx : W2 x) : W2 (expQ x) := risQ_W2 (fun _ hv => expAtQ_W2 hv) hx

end Go.Proofs.YtnchhfhoaepjnaaGreat
