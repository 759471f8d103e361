/- Functions of intervals as functions of pairs of words, and the small functions of elem. -/
import Derived.Test.YtnchhfhoaepjnaaGreatEf
import Derived.Test.YtnchhfhoaepjnaaGreatNb
import Derived.Test.YtnchhfhoaepjnaaGreatTk
namespace Go.Proofs.YtnchhfhoaepjnaaGreat
open Go.ChangeShapes Go.WideShapes Go.ChangeAt Go.RowKit

/-- Two words. -/
def W2 (p : Nat × Nat) : Prop := p.1 < 18446744073709551616 ∧ p.2 < 18446744073709551616
def mulQ (p q : Nat × Nat) : Nat × Nat := mulP p.1 p.2 q.1 q.2
def addQ (p q : Nat × Nat) : Nat × Nat := addP p.1 p.2 q.1 q.2
def negQ (p : Nat × Nat) : Nat × Nat := negP (p.1, p.2)
def subQ (p q : Nat × Nat) : Nat × Nat := addQ p (negQ q)
def divQ (p q : Nat × Nat) : Nat × Nat := divP p.1 p.2 q.1 q.2
def sqrQ (p : Nat × Nat) : Nat × Nat := sqrP p.1 p.2
def sqrtQ (p : Nat × Nat) : Nat × Nat := sqrtP p.1 p.2
def meetQ (p q : Nat × Nat) : Nat × Nat := meetP p.1 p.2 q.1 q.2
def hullQ (p q : Nat × Nat) : Nat × Nat := hullP p.1 p.2 q.1 q.2
def midQ (p : Nat × Nat) : Nat := midP p.1 p.2
def magQ (p : Nat × Nat) : Nat := magP p.1 p.2
def mkQ (a b : Nat) : Nat × Nat := makeP a b
def ptQ (a : Nat) : Nat × Nat := mkQ a a
def wholeQ (k : Int) : Nat × Nat := ptQ (floatOfInt .f64 k)

theorem mkQ_W2 {a b : Nat} (ha : a < 18446744073709551616) (hb : b < 18446744073709551616) : W2 (mkQ a b) := makeP_lt ha hb
theorem ptQ_W2 {a : Nat} (ha : a < 18446744073709551616) : W2 (ptQ a) := makeP_lt ha ha
theorem wholeQ_W2 (k : Int) : W2 (wholeQ k) := ptQ_W2 (foi_lt k)
theorem mulQ_W2 {p q : Nat × Nat} (hp : W2 p) (hq : W2 q) : W2 (mulQ p q) := mulP_lt hp.1 hp.2 hq.1 hq.2
theorem addQ_W2 {p q : Nat × Nat} (hp : W2 p) (hq : W2 q) : W2 (addQ p q) := addP_lt hp.1 hp.2 hq.1 hq.2
theorem negQ_W2 {p : Nat × Nat} (hp : W2 p) : W2 (negQ p) := negP_lt hp.1 hp.2
theorem subQ_W2 {p q : Nat × Nat} (hp : W2 p) (hq : W2 q) : W2 (subQ p q) := addQ_W2 hp (negQ_W2 hq)
theorem divQ_W2 {p q : Nat × Nat} (hp : W2 p) (hq : W2 q) : W2 (divQ p q) := divP_lt hp.1 hp.2 hq.1 hq.2
theorem sqrQ_W2 {p : Nat × Nat} (hp : W2 p) : W2 (sqrQ p) := sqrP_lt hp.1 hp.2
theorem sqrtQ_W2 {p : Nat × Nat} (hp : W2 p) : W2 (sqrtQ p) := sqrtP_lt hp.1 hp.2
theorem meetQ_W2 {p q : Nat × Nat} (hp : W2 p) (hq : W2 q) : W2 (meetQ p q) := meetP_lt hp.1 hp.2 hq.1 hq.2
theorem hullQ_W2 {p q : Nat × Nat} (hp : W2 p) (hq : W2 q) : W2 (hullQ p q) := hullP_lt hp.1 hp.2 hq.1 hq.2

theorem cMul {p q : Nat × Nat} (hp : W2 p) (hq : W2 q) (w : World) : Calls Tryz.prog 72 #[.agg #[.float .f64 p.1, .float .f64 p.2], .agg #[.float .f64 q.1, .float .f64 q.2]] w fun e w' => e = .returned (.agg #[.float .f64 (mulQ p q).1, .float .f64 (mulQ p q).2]) ∧ Below w.heap.size w w' := Mul_w p.1 p.2 q.1 q.2 hp.1 hp.2 hq.1 hq.2 w
theorem cAdd {p q : Nat × Nat} (hp : W2 p) (hq : W2 q) (w : World) : Calls Tryz.prog 70 #[.agg #[.float .f64 p.1, .float .f64 p.2], .agg #[.float .f64 q.1, .float .f64 q.2]] w fun e w' => e = .returned (.agg #[.float .f64 (addQ p q).1, .float .f64 (addQ p q).2]) ∧ Below w.heap.size w w' := Add_w p.1 p.2 q.1 q.2 hp.1 hp.2 hq.1 hq.2 w
theorem cSub {p q : Nat × Nat} (hp : W2 p) (hq : W2 q) (w : World) : Calls Tryz.prog 71 #[.agg #[.float .f64 p.1, .float .f64 p.2], .agg #[.float .f64 q.1, .float .f64 q.2]] w fun e w' => e = .returned (.agg #[.float .f64 (subQ p q).1, .float .f64 (subQ p q).2]) ∧ Below w.heap.size w w' := Sub_w p.1 p.2 q.1 q.2 hp.1 hp.2 hq.1 hq.2 w
theorem cDiv {p q : Nat × Nat} (hp : W2 p) (hq : W2 q) (w : World) : Calls Tryz.prog 73 #[.agg #[.float .f64 p.1, .float .f64 p.2], .agg #[.float .f64 q.1, .float .f64 q.2]] w fun e w' => e = .returned (.agg #[.float .f64 (divQ p q).1, .float .f64 (divQ p q).2]) ∧ Below w.heap.size w w' := Div_w p.1 p.2 q.1 q.2 hp.1 hp.2 hq.1 hq.2 w
theorem cNeg {p : Nat × Nat} (hp : W2 p) (w : World) : Calls Tryz.prog 74 #[.agg #[.float .f64 p.1, .float .f64 p.2]] w fun e w' => e = .returned (.agg #[.float .f64 (negQ p).1, .float .f64 (negQ p).2]) ∧ Below w.heap.size w w' := neg_w p.1 p.2 hp.1 hp.2 w
theorem cSqr {p : Nat × Nat} (hp : W2 p) (w : World) : Calls Tryz.prog 117 #[.agg #[.float .f64 p.1, .float .f64 p.2]] w fun e w' => e = .returned (.agg #[.float .f64 (sqrQ p).1, .float .f64 (sqrQ p).2]) ∧ Below w.heap.size w w' := Sqr_w p.1 p.2 hp.1 hp.2 w
theorem cSqrt {p : Nat × Nat} (hp : W2 p) (w : World) : Calls Tryz.prog 76 #[.agg #[.float .f64 p.1, .float .f64 p.2]] w fun e w' => e = .returned (.agg #[.float .f64 (sqrtQ p).1, .float .f64 (sqrtQ p).2]) ∧ Below w.heap.size w w' := Sqrt_w p.1 p.2 hp.1 hp.2 w
theorem cMeet {p q : Nat × Nat} (hp : W2 p) (hq : W2 q) (w : World) : Calls Tryz.prog 81 #[.agg #[.float .f64 p.1, .float .f64 p.2], .agg #[.float .f64 q.1, .float .f64 q.2]] w fun e w' => e = .returned (.agg #[.float .f64 (meetQ p q).1, .float .f64 (meetQ p q).2]) ∧ Below w.heap.size w w' := meet_w p.1 p.2 q.1 q.2 hp.1 hp.2 hq.1 hq.2 w
theorem cHull {p q : Nat × Nat} (hp : W2 p) (hq : W2 q) (w : World) : Calls Tryz.prog 143 #[.agg #[.float .f64 p.1, .float .f64 p.2], .agg #[.float .f64 q.1, .float .f64 q.2]] w fun e w' => e = .returned (.agg #[.float .f64 (hullQ p q).1, .float .f64 (hullQ p q).2]) ∧ Below w.heap.size w w' := Hull_w p.1 p.2 q.1 q.2 hp.1 hp.2 hq.1 hq.2 w
theorem cMid {p : Nat × Nat} (hp : W2 p) (w : World) : Calls Tryz.prog 171 #[.agg #[.float .f64 p.1, .float .f64 p.2]] w fun e w' => e = .returned (.float .f64 (midQ p)) ∧ Below w.heap.size w w' := Mid_w p.1 p.2 hp.1 hp.2 w
theorem cMag {p : Nat × Nat} (hp : W2 p) (w : World) : Calls Tryz.prog 127 #[.agg #[.float .f64 p.1, .float .f64 p.2]] w fun e w' => e = .returned (.float .f64 (magQ p)) ∧ Below w.heap.size w w' := mag_w p.1 p.2 hp.1 hp.2 w
theorem cMake {a b : Nat} (ha : a < 18446744073709551616) (hb : b < 18446744073709551616) (w : World) : Calls Tryz.prog 82 #[.float .f64 a, .float .f64 b] w fun e w' => e = .returned (.agg #[.float .f64 (mkQ a b).1, .float .f64 (mkQ a b).2]) ∧ Below w.heap.size w w' := make_w a b ha hb w
theorem cPoint {a : Nat} (ha : a < 18446744073709551616) (w : World) : Calls Tryz.prog 114 #[.float .f64 a] w fun e w' => e = .returned (.agg #[.float .f64 (ptQ a).1, .float .f64 (ptQ a).2]) ∧ Below w.heap.size w w' := point_w a ha w
theorem cWhole (k : Int) (w : World) : Calls Tryz.prog 176 #[.int .i64 k] w fun e w' => e = .returned (.agg #[.float .f64 (wholeQ k).1, .float .f64 (wholeQ k).2]) ∧ Below w.heap.size w w' := wholeI_w k w
theorem cPi (w : World) : Calls Tryz.prog 146 #[] w fun e w' => e = .returned (.agg #[.float .f64 (mkQ 4614256656552045848 4614256656552045849).1, .float .f64 (mkQ 4614256656552045848 4614256656552045849).2]) ∧ Below w.heap.size w w' := Pi_w w
theorem cLn2 (w : World) : Calls Tryz.prog 134 #[] w fun e w' => e = .returned (.agg #[.float .f64 (mkQ 4604418534313441775 4604418534313441776).1, .float .f64 (mkQ 4604418534313441775 4604418534313441776).2]) ∧ Below w.heap.size w w' := Ln2_w w
theorem cNear1 (w : World) : Calls Tryz.prog 174 #[] w fun e w' => e = .returned (.agg #[.float .f64 (mkQ 4602678819172646912 4609434218613702656).1, .float .f64 (mkQ 4602678819172646912 4609434218613702656).2]) ∧ Below w.heap.size w w' := nearOne_w w
theorem cPows {p : Nat × Nat} (hp : W2 p) (w : World) : Calls Tryz.prog 136 #[.agg #[.float .f64 p.1, .float .f64 p.2]] w fun e w' => e = .returned (.agg #[.float .f64 (pwsE p).1, .float .f64 (pwsE p).2]) ∧ Below w.heap.size w w' := pwsE_w p.1 p.2 hp.1 hp.2 w
theorem cOdds {p : Nat × Nat} (hp : W2 p) (w : World) : Calls Tryz.prog 179 #[.agg #[.float .f64 p.1, .float .f64 p.2]] w fun e w' => e = .returned (.agg #[.float .f64 (oddE p.1 p.2).1, .float .f64 (oddE p.1 p.2).2]) ∧ Below w.heap.size w w' := oddE_w p.1 p.2 hp.1 hp.2 w

theorem pwsE_W2 {p : Nat × Nat} (hp : W2 p) : W2 (pwsE p) :=
  serS_lt W2 (mkQ_W2 (a := 4602678819172646912) (b := 4609434218613702656) (by omega) (by omega)) (fun _ _ hx => powF_lt hp.1 hp.2 hx) 16 0
theorem odd_W2 (o t : Nat × Nat) (O : W2 o) (T : W2 t) {z1 z2 : Nat} (h1 : z1 < 18446744073709551616) (h2 : z2 < 18446744073709551616) : W2 (serS (oddF o z1 z2) t 16 0) :=
  serS_lt W2 T (fun _ _ hx => oddF_lt O h1 h2 hx) 16 0
theorem odd_c : oddE = fun z1 z2 => serS (oddF (makeP 4607182418800017408 4607182418800017408) z1 z2) (makeP 13812540057145311232 4589168020290535424) 16 0 := rfl
theorem oddE_W2 {p : Nat × Nat} (hp : W2 p) : W2 (oddE p.1 p.2) := by
  rw [odd_c]
  exact odd_W2 _ _ (makeP_lt (by omega) (by omega)) (makeP_lt (by omega) (by omega)) hp.1 hp.2

set_option maxHeartbeats 1000000 in
theorem fineLn2_core (m : Nat × Nat) (c1 : ∀ w, Calls Tryz.prog 82 #[.float .f64 4419120210296499430, .float .f64 4419120210296499431] w fun e w' => e = .returned (.agg #[.float .f64 m.1, .float .f64 m.2]) ∧ Below w.heap.size w w') (w : World) : Calls Tryz.prog 137 #[] w fun e w' => e = .returned (.agg #[.float .f64 4604418534313439232, .float .f64 m.1, .float .f64 m.2]) ∧ Below w.heap.size w w' := by
  go_enter Tryz.func137, Tryz.ntmps137
  go_wp2_with (go_at_call 82; refine (c1 _).mono ?_; rintro _ w1 ⟨rfl, hb1⟩
               have k1 : Has3 w1 w.heap.size (.float .f64 0) (.float .f64 0) (.float .f64 0) := Has3.keep ⟨by go_simp, by go_simp, by go_simp, by go_simp, by go_simp, by go_simp, by go_size⟩ hb1
               obtain ⟨a0, a1, a2, a3, a4, a5, a6⟩ := k1)
  refine bodyPost_ret (v := .agg #[.float .f64 4604418534313439232, .float .f64 m.1, .float .f64 m.2]) (by simp [results, Tryz.results137, go_sem, *]) rfl ⟨rfl, ?_⟩
  have HB : Below w.heap.size w w1 := later (by go_grown) hb1
  repeat' (first | (with_reducible exact HB) | (with_reducible refine Below.setCell ?_ ?_ _) | go_size)

set_option maxHeartbeats 1000000 in
theorem fineHalf_core (m : Nat × Nat) (c1 : ∀ w, Calls Tryz.prog 82 #[.float .f64 4454258360616903473, .float .f64 4454258360616903474] w fun e w' => e = .returned (.agg #[.float .f64 m.1, .float .f64 m.2]) ∧ Below w.heap.size w w') (w : World) : Calls Tryz.prog 182 #[] w fun e w' => e = .returned (.agg #[.float .f64 4609753056924401664, .float .f64 m.1, .float .f64 m.2]) ∧ Below w.heap.size w w' := by
  go_enter Tryz.func182, Tryz.ntmps182
  go_wp2_with (go_at_call 82; refine (c1 _).mono ?_; rintro _ w1 ⟨rfl, hb1⟩
               have k1 : Has3 w1 w.heap.size (.float .f64 0) (.float .f64 0) (.float .f64 0) := Has3.keep ⟨by go_simp, by go_simp, by go_simp, by go_simp, by go_simp, by go_simp, by go_size⟩ hb1
               obtain ⟨a0, a1, a2, a3, a4, a5, a6⟩ := k1)
  refine bodyPost_ret (v := .agg #[.float .f64 4609753056924401664, .float .f64 m.1, .float .f64 m.2]) (by simp [results, Tryz.results182, go_sem, *]) rfl ⟨rfl, ?_⟩
  have HB : Below w.heap.size w w1 := later (by go_grown) hb1
  repeat' (first | (with_reducible exact HB) | (with_reducible refine Below.setCell ?_ ?_ _) | go_size)

/-- Half of pi. -/
def halfPiQ : Nat × Nat := mulQ (ptQ 4602678819172646912) (mkQ 4614256656552045848 4614256656552045849)
theorem halfPiQ_W2 : W2 halfPiQ := mulQ_W2 (ptQ_W2 (by omega)) (mkQ_W2 (by omega) (by omega))
def quartQ (x : Nat × Nat) : Nat × Nat := divQ x halfPiQ

set_option maxHeartbeats 1000000 in
theorem quart_core (x o t h s : Nat × Nat) (c1 : ∀ w, Calls Tryz.prog 114 #[.float .f64 4602678819172646912] w fun e w' => e = .returned (.agg #[.float .f64 o.1, .float .f64 o.2]) ∧ Below w.heap.size w w') (c2 : ∀ w, Calls Tryz.prog 146 #[] w fun e w' => e = .returned (.agg #[.float .f64 t.1, .float .f64 t.2]) ∧ Below w.heap.size w w') (c3 : ∀ w, Calls Tryz.prog 72 #[.agg #[.float .f64 o.1, .float .f64 o.2], .agg #[.float .f64 t.1, .float .f64 t.2]] w fun e w' => e = .returned (.agg #[.float .f64 h.1, .float .f64 h.2]) ∧ Below w.heap.size w w') (c4 : ∀ w, Calls Tryz.prog 73 #[.agg #[.float .f64 x.1, .float .f64 x.2], .agg #[.float .f64 h.1, .float .f64 h.2]] w fun e w' => e = .returned (.agg #[.float .f64 s.1, .float .f64 s.2]) ∧ Below w.heap.size w w') (w : World) : Calls Tryz.prog 181 #[.agg #[.float .f64 x.1, .float .f64 x.2]] w fun e w' => e = .returned (.agg #[.float .f64 s.1, .float .f64 s.2]) ∧ Below w.heap.size w w' := by
  obtain ⟨X, R, HB⟩ := enter1 w (.float .f64 x.1) (.float .f64 x.2) 46
  go_enter Tryz.func181, Tryz.ntmps181
  go_upto_region 2 with (first | (go_at_call 114; with_reducible refine (c1 _).mono ?_; rintro _ VV ⟨rfl, hb1⟩; replace X := X.keep hb1; replace R := R.keep hb1; replace HB := later HB hb1; clear hb1) | (go_at_call 146; with_reducible refine (c2 _).mono ?_; rintro _ VV ⟨rfl, hb1⟩; replace X := X.keep hb1; replace R := R.keep hb1; replace HB := later HB hb1; clear hb1) | (go_at_call 72; with_reducible refine (c3 _).mono ?_; rintro _ VV ⟨rfl, hb1⟩; replace X := X.keep hb1; replace R := R.keep hb1; replace HB := later HB hb1; clear hb1))
  have D : Has2 (VV.alloc (.cells #[.float .f64 h.1, .float .f64 h.2] 46)) VV.heap.size (.float .f64 h.1) (.float .f64 h.2) := has2_new _ _ _ _
  have hb1 : Below VV.heap.size VV (VV.alloc (.cells #[.float .f64 h.1, .float .f64 h.2] 46)) := by go_grown
  replace X := X.keep hb1; replace R := R.keep hb1; replace HB := later HB hb1; clear hb1
  clear c1 c2 c3
  generalize VV.alloc (.cells #[.float .f64 h.1, .float .f64 h.2] 46) = V2 at *
  generalize VV.heap.size = d at *
  obtain ⟨x0, x1, x2, x3, x4⟩ := id X
  obtain ⟨d0, d1, d2, d3, d4⟩ := id D
  go_wp2_with (go_at_call 73; refine (c4 _).mono ?_; rintro _ V3 ⟨rfl, hb1⟩; replace R := R.keep hb1; replace HB := later HB hb1; clear hb1; obtain ⟨k0, k1, k2, k3, k4⟩ := id R)
  refine bodyPost_ret (v := .agg #[.float .f64 s.1, .float .f64 s.2]) (by simp [results, Tryz.results181, go_sem, *]) rfl ⟨rfl, ?_⟩; repeat' (first | (with_reducible exact HB) | (with_reducible refine Below.setCell ?_ ?_ _) | go_size)

theorem cQuart {x : Nat × Nat} (hx : W2 x) (w : World) : Calls Tryz.prog 181 #[.agg #[.float .f64 x.1, .float .f64 x.2]] w fun e w' => e = .returned (.agg #[.float .f64 (quartQ x).1, .float .f64 (quartQ x).2]) ∧ Below w.heap.size w w' :=
  quart_core x _ _ _ _ (fun w => cPoint (by omega) w) (fun w => cPi w) (fun w => cMul (ptQ_W2 (by omega)) (mkQ_W2 (by omega) (by omega)) w) (fun w => cDiv hx halfPiQ_W2 w) w
theorem quartQ_W2 {x : Nat × Nat} (hx : W2 x) : W2 (quartQ x) := divQ_W2 hx halfPiQ_W2

end Go.Proofs.YtnchhfhoaepjnaaGreat
