/- The wave at a float, and of an interval: Sin, Cos. -/
import Derived.Test.YtnchhfhoaepjnaaGreatEj
namespace Go.Proofs.YtnchhfhoaepjnaaGreat
open Go.ChangeShapes Go.WideShapes Go.ChangeAt Go.RowKit

theorem pt_in {v u1 u2 : Nat} (hv : v < 18446744073709551616) (nv : nanB v = false) (fl : -9218868437227405312 < key v) (fh : key v < 9218868437227405312) (T : Some2 u1 u2) (b1 : u1 < 18446744073709551616) (b2 : u2 < 18446744073709551616) (k1 : key u1 ≤ key v) (k2 : key v ≤ key u2) : In (ptQ v).1 (ptQ v).2 u1 u2 := by
  have hz : pz v ≠ 9223372036854775808 := by unfold pz; split <;> omega
  have nz : nanB (pz v) = false := by
    unfold pz
    split
    · decide
    · exact nv
  have S : Some2 (pz v) (pz v) := ⟨nz, nz, Int.le_refl _, by rw [key_pz]; exact fh, by rw [key_pz]; exact fl, hz, hz⟩
  have e : ptQ v = (pz v, pz v) := by
    unfold ptQ mkQ makeP
    rw [if_pos (hs_iff.2 S)]
  rw [e]
  exact ⟨S, T, by rw [key_pz]; exact k1, by rw [key_pz]; exact k2, pz_lt hv, pz_lt hv, b1, b2⟩

theorem word_of_key {x : Nat} {B : Int} (hx : x < 18446744073709551616) (h1 : -B ≤ key x) (h2 : key x ≤ B) : ((x % 9223372036854775808 : Nat) : Int) ≤ B := by
  unfold key at h1 h2
  split at h1 <;> omega

theorem midP_word (lo hi : Nat) (hl : lo < 18446744073709551616) (hh : hi < 18446744073709551616) : midP lo hi < 18446744073709551616 := by
  unfold midP
  have a := (midM_facts lo hi).2.2
  have b : midLo lo < 18446744073709551616 := by unfold midLo; rcases (maxW_key lo 18442240474082181119).2 with c | c <;> rw [c] <;> omega
  have c : midHi hi < 18446744073709551616 := by unfold midHi; rcases (minW_key hi 9218868437227405311).2 with c | c <;> rw [c] <;> omega
  split
  · split
    · exact b
    · split
      · exact c
      · exact a
  · omega

theorem pick_between {a m l h B : Int} (h1 : -B ≤ l ∧ l ≤ B) (h2 : -B ≤ h ∧ h ≤ B) (ha : a = l ∨ a = h ∨ (a = m ∧ l ≤ m ∧ m ≤ h)) : -B ≤ a ∧ a ≤ B := by omega

theorem midP_ways {lo hi : Nat} (hs : hsB lo hi = true) : key (midP lo hi) = key (midLo lo) ∨ key (midP lo hi) = key (midHi hi) ∨ (key (midP lo hi) = key (midM lo hi) ∧ key (midLo lo) ≤ key (midM lo hi) ∧ key (midM lo hi) ≤ key (midHi hi)) := by
  unfold midP
  rw [if_pos hs]
  generalize midM lo hi = m
  generalize midLo lo = l
  generalize midHi hi = h
  split
  · exact Or.inl rfl
  · split
    · exact Or.inr (Or.inl rfl)
    · exact Or.inr (Or.inr ⟨rfl, by omega, by omega⟩)

theorem mid_ends_in {lo hi : Nat} {B : Int} (le : key lo ≤ key hi) (a : -B ≤ key lo) (b : key hi ≤ B) : (-B ≤ key (midLo lo) ∧ key (midLo lo) ≤ B) ∧ (-B ≤ key (midHi hi) ∧ key (midHi hi) ≤ B) := by
  have m1 := (maxW_key lo 18442240474082181119).1
  have m2 := (minW_key hi 9218868437227405311).1
  have k3 : key 18442240474082181119 = -9218868437227405311 := by decide
  have k4 : key 9218868437227405311 = 9218868437227405311 := by decide
  unfold midLo midHi
  rw [m1, m2, k3, k4]
  generalize key lo = x at *
  generalize key hi = y at *
  omega

theorem mid_bound {p q : Nat × Nat} {B : Int} (hB : 0 ≤ B ∧ B ≤ 9218868437227405311) (hp : W2 p) (h : Gr p q) (k1 : -B ≤ key q.1) (k2 : key q.2 ≤ B) : ((midQ p % 9223372036854775808 : Nat) : Int) ≤ B := by
  have wd := midP_word p.1 p.2 hp.1 hp.2
  have fin : -B ≤ key (midQ p) ∧ key (midQ p) ≤ B := by
    rcases h with ⟨e, -⟩ | ⟨S, T, a, b⟩
    · have : midQ p = 0 := by
        unfold midQ midP
        rw [e, if_neg (by rw [empty_some]; simp)]
      rw [this]
      have : key 0 = 0 := by decide
      omega
    · have E := mid_ends_in S.le (Int.le_trans k1 a) (Int.le_trans b k2)
      exact pick_between E.1 E.2 (midP_ways (hs_iff.2 S))
  exact word_of_key wd fin.1 fin.2

/-- v less k times a constant. -/
def takenQ (f : Nat) (r : Nat × Nat) (v : Nat) (k : Int) : Nat × Nat := subQ (subQ (ptQ v) (mulQ (wholeQ k) (ptQ f))) (mulQ (wholeQ k) r)
theorem takenQ_W2 {f v : Nat} {r : Nat × Nat} {k : Int} (hf : f < 18446744073709551616) (hv : v < 18446744073709551616) (hr : W2 r) : W2 (takenQ f r v k) := subQ_W2 (subQ_W2 (ptQ_W2 hv) (mulQ_W2 (wholeQ_W2 k) (ptQ_W2 hf))) (mulQ_W2 (wholeQ_W2 k) hr)
theorem cTaken {f v : Nat} {r : Nat × Nat} (k : Int) (hf : f < 18446744073709551616) (hv : v < 18446744073709551616) (hr : W2 r) (w : World) : Calls Tryz.prog 138 #[.agg #[.float .f64 f, .float .f64 r.1, .float .f64 r.2], .float .f64 v, .int .i64 k] w fun e w' => e = .returned (.agg #[.float .f64 (takenQ f r v k).1, .float .f64 (takenQ f r v k).2]) ∧ Below w.heap.size w w' :=
  taken_core v f k r _ _ _ _ _ _ _ (fun w => cPoint hv w) (fun w => cWhole k w) (fun w => cPoint hf w) (fun w => cMul (wholeQ_W2 k) (ptQ_W2 hf) w) (fun w => cSub (ptQ_W2 hv) (mulQ_W2 (wholeQ_W2 k) (ptQ_W2 hf)) w) (fun w => cMul (wholeQ_W2 k) hr w) (fun w => cSub (subQ_W2 (ptQ_W2 hv) (mulQ_W2 (wholeQ_W2 k) (ptQ_W2 hf))) (mulQ_W2 (wholeQ_W2 k) hr) w) w

/-- One of four. -/
def selQ (c : Int) (s1 s2 s3 s4 : Nat × Nat) : Nat × Nat := if c = 0 then s1 else if c = 1 then s2 else if c = 2 then s3 else s4

set_option maxHeartbeats 1000000 in
theorem waveAt_core (v f : Nat) (a k c : Int) (p q m r s1 s2 s3 s4 : Nat × Nat) (ha : 0 ≤ a ∧ a ≤ 3) (hk : -9007199254740993 ≤ k ∧ k ≤ 9007199254740992) (hand : bits .and .i64 (k + a) 3 = c) (hc : c = 0 ∨ c = 1 ∨ c = 2 ∨ c = 3)
    (c1 : ∀ w, Calls Tryz.prog 114 #[.float .f64 v] w fun e w' => e = .returned (.agg #[.float .f64 p.1, .float .f64 p.2]) ∧ Below w.heap.size w w') (c2 : ∀ w, Calls Tryz.prog 181 #[.agg #[.float .f64 p.1, .float .f64 p.2]] w fun e w' => e = .returned (.agg #[.float .f64 q.1, .float .f64 q.2]) ∧ Below w.heap.size w w') (c3 : ∀ w, Calls Tryz.prog 133 #[.agg #[.float .f64 q.1, .float .f64 q.2]] w fun e w' => e = .returned (.int .i64 k) ∧ Below w.heap.size w w') (c4 : ∀ w, Calls Tryz.prog 182 #[] w fun e w' => e = .returned (.agg #[.float .f64 f, .float .f64 m.1, .float .f64 m.2]) ∧ Below w.heap.size w w') (c5 : ∀ w, Calls Tryz.prog 138 #[.agg #[.float .f64 f, .float .f64 m.1, .float .f64 m.2], .float .f64 v, .int .i64 k] w fun e w' => e = .returned (.agg #[.float .f64 r.1, .float .f64 r.2]) ∧ Below w.heap.size w w')
    (c6 : ∀ w, Calls Tryz.prog 183 #[.agg #[.float .f64 r.1, .float .f64 r.2]] w fun e w' => e = .returned (.agg #[.float .f64 s1.1, .float .f64 s1.2]) ∧ Below w.heap.size w w') (c7 : ∀ w, Calls Tryz.prog 184 #[.agg #[.float .f64 r.1, .float .f64 r.2]] w fun e w' => e = .returned (.agg #[.float .f64 s2.1, .float .f64 s2.2]) ∧ Below w.heap.size w w') (c8 : ∀ w, Calls Tryz.prog 74 #[.agg #[.float .f64 s1.1, .float .f64 s1.2]] w fun e w' => e = .returned (.agg #[.float .f64 s3.1, .float .f64 s3.2]) ∧ Below w.heap.size w w') (c9 : ∀ w, Calls Tryz.prog 74 #[.agg #[.float .f64 s2.1, .float .f64 s2.2]] w fun e w' => e = .returned (.agg #[.float .f64 s4.1, .float .f64 s4.2]) ∧ Below w.heap.size w w') (w : World) : Calls Tryz.prog 144 #[.float .f64 v, .int .i64 a] w fun e w' => e = .returned (.agg #[.float .f64 (selQ c s1 s2 s3 s4).1, .float .f64 (selQ c s1 s2 s3 s4).2]) ∧ Below w.heap.size w w' := by
  have R : Has2 (w.alloc (.cells #[.float .f64 0, .float .f64 0] 46)) w.heap.size (.float .f64 0) (.float .f64 0) := has2_new _ _ _ _
  have HB : Below w.heap.size w (w.alloc (.cells #[.float .f64 0, .float .f64 0] 46)) := by go_grown
  go_enter Tryz.func144, Tryz.ntmps144
  go_upto_region 3 with (first | (go_at_call 114; with_reducible refine (c1 _).mono ?_; rintro _ VV ⟨rfl, hb1⟩; replace R := R.keep hb1; replace HB := later HB hb1; clear hb1) | (go_at_call 181; with_reducible refine (c2 _).mono ?_; rintro _ VV ⟨rfl, hb1⟩; replace R := R.keep hb1; replace HB := later HB hb1; clear hb1) | (go_at_call 133; with_reducible refine (c3 _).mono ?_; rintro _ VV ⟨rfl, hb1⟩; replace R := R.keep hb1; replace HB := later HB hb1; clear hb1) | (go_at_call 182; with_reducible refine (c4 _).mono ?_; rintro _ VV ⟨rfl, hb1⟩; replace R := R.keep hb1; replace HB := later HB hb1; clear hb1) | (go_at_call 138; with_reducible refine (c5 _).mono ?_; rintro _ VV ⟨rfl, hb1⟩; replace R := R.keep hb1; replace HB := later HB hb1; clear hb1))
  have D : Has2 (VV.alloc (.cells #[.float .f64 r.1, .float .f64 r.2] 46)) VV.heap.size (.float .f64 r.1) (.float .f64 r.2) := has2_new _ _ _ _
  have hb1 : Below VV.heap.size VV (VV.alloc (.cells #[.float .f64 r.1, .float .f64 r.2] 46)) := by go_grown
  replace R := R.keep hb1; replace HB := later HB hb1; clear hb1
  clear c1 c2 c3 c4 c5
  generalize VV.alloc (.cells #[.float .f64 r.1, .float .f64 r.2] 46) = V2 at *
  generalize VV.heap.size = d at *
  obtain ⟨d0, d1, d2, d3, d4⟩ := id D
  rcases hc with rfl | rfl | rfl | rfl
  · go_wp2_with (go_at_call 183; refine (c6 _).mono ?_; rintro _ V3 ⟨rfl, hb1⟩; replace R := R.keep hb1; replace HB := later HB hb1; clear hb1; obtain ⟨k0, k1, k2, k3, k4⟩ := id R)
    refine bodyPost_ret (v := .agg #[.float .f64 s1.1, .float .f64 s1.2]) (by simp [results, Tryz.results144, go_sem, *]) rfl ⟨rfl, ?_⟩; repeat' (first | (with_reducible exact HB) | (with_reducible refine Below.setCell ?_ ?_ _) | go_size)
  · go_wp2_with (go_at_call 184; refine (c7 _).mono ?_; rintro _ V3 ⟨rfl, hb1⟩; replace R := R.keep hb1; replace HB := later HB hb1; clear hb1; obtain ⟨k0, k1, k2, k3, k4⟩ := id R)
    refine bodyPost_ret (v := .agg #[.float .f64 s2.1, .float .f64 s2.2]) (by simp [results, Tryz.results144, go_sem, *]) rfl ⟨rfl, ?_⟩; repeat' (first | (with_reducible exact HB) | (with_reducible refine Below.setCell ?_ ?_ _) | go_size)
  · go_wp2_with (first
      | (go_at_call 183; refine (c6 _).mono ?_; rintro _ VV ⟨rfl, hb1⟩; replace R := R.keep hb1; replace HB := later HB hb1; clear hb1)
      | (go_at_call 74; refine (c8 _).mono ?_; rintro _ V3 ⟨rfl, hb1⟩; replace R := R.keep hb1; replace HB := later HB hb1; clear hb1; obtain ⟨k0, k1, k2, k3, k4⟩ := id R))
    refine bodyPost_ret (v := .agg #[.float .f64 s3.1, .float .f64 s3.2]) (by simp [results, Tryz.results144, go_sem, *]) rfl ⟨rfl, ?_⟩; repeat' (first | (with_reducible exact HB) | (with_reducible refine Below.setCell ?_ ?_ _) | go_size)
  · go_wp2_with (first
      | (go_at_call 184; refine (c7 _).mono ?_; rintro _ VV ⟨rfl, hb1⟩; replace R := R.keep hb1; replace HB := later HB hb1; clear hb1)
      | (go_at_call 74; refine (c9 _).mono ?_; rintro _ V3 ⟨rfl, hb1⟩; replace R := R.keep hb1; replace HB := later HB hb1; clear hb1; obtain ⟨k0, k1, k2, k3, k4⟩ := id R))
    refine bodyPost_ret (v := .agg #[.float .f64 s4.1, .float .f64 s4.2]) (by simp [results, Tryz.results144, go_sem, *]) rfl ⟨rfl, ?_⟩; repeat' (first | (with_reducible exact HB) | (with_reducible refine Below.setCell ?_ ?_ _) | go_size)

def restHalfQ : Nat × Nat := mkQ 4454258360616903473 4454258360616903474
theorem cFineHalf (w : World) : Calls Tryz.prog 182 #[] w fun e w' => e = .returned (.agg #[.float .f64 4609753056924401664, .float .f64 restHalfQ.1, .float .f64 restHalfQ.2]) ∧ Below w.heap.size w w' := fineHalf_core _ (fun w => cMake (by omega) (by omega) w) w
theorem restHalfQ_W2 : W2 restHalfQ := mkQ_W2 (by omega) (by omega)

def waveKI (v : Nat) : Int := nearI (quartQ (ptQ v))
def waveRQ (v : Nat) : Nat × Nat := takenQ 4609753056924401664 restHalfQ v (waveKI v)
def waveAtQ (v : Nat) (a : Int) : Nat × Nat := selQ ((waveKI v + a) % 4) (sinzQ (waveRQ v)) (coszQ (waveRQ v)) (negQ (sinzQ (waveRQ v))) (negQ (coszQ (waveRQ v)))
theorem selQ_W2 {c : Int} {s1 s2 s3 s4 : Nat × Nat} (h1 : W2 s1) (h2 : W2 s2) (h3 : W2 s3) (h4 : W2 s4) : W2 (selQ c s1 s2 s3 s4) := by
  unfold selQ
  split
  · exact h1
  · split
    · exact h2
    · split
      · exact h3
      · exact h4
theorem waveRQ_W2 {v : Nat} (hv : v < 18446744073709551616) : W2 (waveRQ v) := takenQ_W2 (by omega) hv restHalfQ_W2
theorem waveAtQ_W2 {v : Nat} (hv : v < 18446744073709551616) (a : Int) : W2 (waveAtQ v a) := selQ_W2 (sinzQ_W2 (waveRQ_W2 hv)) (coszQ_W2 (waveRQ_W2 hv)) (negQ_W2 (sinzQ_W2 (waveRQ_W2 hv))) (negQ_W2 (coszQ_W2 (waveRQ_W2 hv)))

theorem far_some : Some2 13920626448202203136 4697254411347427328 := hs_iff.1 (by decide +kernel)
theorem half_some : Some2 halfPiQ.1 halfPiQ.2 := hs_iff.1 (by decide +kernel)
theorem far_lo : -4832362400168542207 ≤ key (quartQ (13920626448202203136, 4697254411347427328)).1 := by decide +kernel
theorem far_hi : key (quartQ (13920626448202203136, 4697254411347427328)).2 ≤ 4832362400168542207 := by decide +kernel

/-- Up to 2^20 the quarters have room. -/
theorem quart_gr {x : Nat × Nat} (X : In x.1 x.2 13920626448202203136 4697254411347427328) : Gr (quartQ x) (quartQ (13920626448202203136, 4697254411347427328)) := div_gr X (In.refl halfPiQ_W2.1 halfPiQ_W2.2 half_some)

theorem far_key : key 13920626448202203136 = -4697254411347427328 ∧ key 4697254411347427328 = 4697254411347427328 := by decide

theorem near_far {v : Nat} (hv : v < 18446744073709551616) (nv : nanB v = false) (k1 : -4697254411347427328 ≤ key v) (k2 : key v ≤ 4697254411347427328) : midQ (quartQ (ptQ v)) % 9223372036854775808 < 4832362400168542208 := by
  have X := pt_in hv nv (by omega) (by omega) far_some (by omega) (by omega) (by rw [far_key.1]; exact k1) (by rw [far_key.2]; exact k2)
  have := mid_bound (B := 4832362400168542207) (by omega) (quartQ_W2 (ptQ_W2 hv)) (quart_gr X) far_lo far_hi
  omega

theorem cWaveAt {v : Nat} (hv : v < 18446744073709551616) (nv : nanB v = false) (k1 : -4697254411347427328 ≤ key v) (k2 : key v ≤ 4697254411347427328) (a : Int) (ha : 0 ≤ a ∧ a ≤ 3) (w : World) : Calls Tryz.prog 144 #[.float .f64 v, .int .i64 a] w fun e w' => e = .returned (.agg #[.float .f64 (waveAtQ v a).1, .float .f64 (waveAtQ v a).2]) ∧ Below w.heap.size w w' := by
  have b := near_far hv nv k1 k2
  have hr := waveRQ_W2 hv
  exact waveAt_core v _ a (waveKI v) _ _ _ _ _ _ _ _ _ ha (nearI_in b) (i64_and3 _) (by omega) (fun w => cPoint hv w) (fun w => cQuart (ptQ_W2 hv) w) (fun w => cNear (quartQ_W2 (ptQ_W2 hv)) b w) (fun w => cFineHalf w) (fun w => cTaken _ (by omega) hv restHalfQ_W2 w) (fun w => cSinz hr w) (fun w => cCosz hr w) (fun w => cNeg (sinzQ_W2 hr) w) (fun w => cNeg (coszQ_W2 hr) w) w

end Go.Proofs.YtnchhfhoaepjnaaGreat
