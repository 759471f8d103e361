/- The three series as functions of words. -/
import Derived.Test.YtnchhfhoaepjnaaGreatEc
import Derived.Test.YtnchhfhoaepjnaaGreatTk
import Derived.Test.YtnchhfhoaepjnaaGreatKi
import Derived.Test.YtnchhfhoaepjnaaGreatKj
namespace Go.Proofs.YtnchhfhoaepjnaaGreat
open Go.ChangeShapes Go.WideShapes Go.ChangeAt Go.RowKit

set_option maxHeartbeats 1000000 in
theorem pow_core (r1 r2 : Nat) (o t s : Nat × Nat)
    (c1 : ∀ w, Calls Tryz.prog 114 #[.float .f64 4607182418800017408] w fun e w' => e = .returned (.agg #[.float .f64 o.1, .float .f64 o.2]) ∧ Below w.heap.size w w')
    (c2 : ∀ w, Calls Tryz.prog 174 #[] w fun e w' => e = .returned (.agg #[.float .f64 t.1, .float .f64 t.2]) ∧ Below w.heap.size w w')
    (c3 : ∀ a b W, Has2 W a (.float .f64 o.1) (.float .f64 o.2) → Has2 W b (.float .f64 r1) (.float .f64 r2) → Calls Tryz.prog 173 #[.int .i64 16, .agg #[.float .f64 t.1, .float .f64 t.2], .func (.func 175) #[] #[.pointer (some ⟨a, 0, none⟩), .pointer (some ⟨b, 0, none⟩)]] W fun e w' => e = .returned (.agg #[.float .f64 s.1, .float .f64 s.2]) ∧ Below W.heap.size W w') (w : World) :
    Calls Tryz.prog 136 #[.agg #[.float .f64 r1, .float .f64 r2]] w fun e w' => e = .returned (.agg #[.float .f64 s.1, .float .f64 s.2]) ∧ Below w.heap.size w w' := by
  obtain ⟨X, R, HB⟩ := enter1 w (.float .f64 r1) (.float .f64 r2) 46
  go_enter Tryz.func136, Tryz.ntmps136
  go_upto_region 2 with
    (go_at_call 114; refine (c1 _).mono ?_; rintro _ V1 ⟨rfl, hb1⟩; replace X := X.keep hb1; replace R := R.keep hb1; replace HB := later HB hb1; clear hb1)
  have D : Has2 (V1.alloc (.cells #[.float .f64 o.1, .float .f64 o.2] 46)) V1.heap.size (.float .f64 o.1) (.float .f64 o.2) := ⟨by go_simp, by go_simp, by go_simp, by go_simp, by go_size⟩
  have hb1 : Below V1.heap.size V1 (V1.alloc (.cells #[.float .f64 o.1, .float .f64 o.2] 46)) := by go_grown
  replace X := X.keep hb1; replace R := R.keep hb1; replace HB := later HB hb1; clear hb1
  clear c1
  generalize V1.alloc (.cells #[.float .f64 o.1, .float .f64 o.2] 46) = V2 at *
  generalize V1.heap.size = d at *
  have hmf : ∀ (fn : Fn) (first cap : Array Value) (w : World), (Instr.makeFunc fn first cap).run Tryz.prog w = .ok (.func fn first cap) w := fun _ _ _ _ => rfl
  go_wp2_with (first
    | (go_at_call 174; refine (c2 _).mono ?_; rintro _ V3 ⟨rfl, hb1⟩; replace X := X.keep hb1; replace R := R.keep hb1; replace D := D.keep hb1; replace HB := later HB hb1; clear hb1)
    | (go_at_call 173; refine (c3 _ _ _ D X).mono ?_; rintro _ V4 ⟨rfl, hb1⟩; replace R := R.keep hb1; replace HB := later HB hb1; clear hb1; obtain ⟨k0, k1, k2, k3, k4⟩ := id R))
  refine bodyPost_ret (v := .agg #[.float .f64 s.1, .float .f64 s.2]) (by simp [results, Tryz.results136, go_sem, *]) rfl ⟨rfl, ?_⟩
  repeat' (first | (with_reducible exact HB) | (with_reducible refine Below.setCell ?_ ?_ _) | go_size)

set_option maxHeartbeats 1000000 in
theorem oddS_core (r1 r2 : Nat) (o t s : Nat × Nat)
    (c1 : ∀ w, Calls Tryz.prog 114 #[.float .f64 4607182418800017408] w fun e w' => e = .returned (.agg #[.float .f64 o.1, .float .f64 o.2]) ∧ Below w.heap.size w w')
    (c2 : ∀ w, Calls Tryz.prog 82 #[.float .f64 13812540057145311232, .float .f64 4589168020290535424] w fun e w' => e = .returned (.agg #[.float .f64 t.1, .float .f64 t.2]) ∧ Below w.heap.size w w')
    (c3 : ∀ a b W, Has2 W a (.float .f64 o.1) (.float .f64 o.2) → Has2 W b (.float .f64 r1) (.float .f64 r2) → Calls Tryz.prog 173 #[.int .i64 16, .agg #[.float .f64 t.1, .float .f64 t.2], .func (.func 208) #[] #[.pointer (some ⟨a, 0, none⟩), .pointer (some ⟨b, 0, none⟩)]] W fun e w' => e = .returned (.agg #[.float .f64 s.1, .float .f64 s.2]) ∧ Below W.heap.size W w') (w : World) :
    Calls Tryz.prog 179 #[.agg #[.float .f64 r1, .float .f64 r2]] w fun e w' => e = .returned (.agg #[.float .f64 s.1, .float .f64 s.2]) ∧ Below w.heap.size w w' := by
  obtain ⟨X, R, HB⟩ := enter1 w (.float .f64 r1) (.float .f64 r2) 46
  go_enter Tryz.func179, Tryz.ntmps179
  go_upto_region 2 with (first
    | (go_at_call 114; refine (c1 _).mono ?_; rintro _ V1 ⟨rfl, hb1⟩; replace X := X.keep hb1; replace R := R.keep hb1; replace HB := later HB hb1; clear hb1)
    | (go_at_call 82; refine (c2 _).mono ?_; rintro _ V2 ⟨rfl, hb1⟩; replace X := X.keep hb1; replace R := R.keep hb1; replace HB := later HB hb1; clear hb1))
  have D : Has2 ((V2.alloc (.cells #[.float .f64 o.1, .float .f64 o.2] 46)).alloc (.cells #[.float .f64 t.1, .float .f64 t.2] 46)) V2.heap.size (.float .f64 o.1) (.float .f64 o.2) := ⟨by go_simp, by go_simp, by go_simp, by go_simp, by go_size⟩
  have E : Has2 ((V2.alloc (.cells #[.float .f64 o.1, .float .f64 o.2] 46)).alloc (.cells #[.float .f64 t.1, .float .f64 t.2] 46)) (V2.heap.size + 1) (.float .f64 t.1) (.float .f64 t.2) := ⟨by go_simp, by go_simp, by go_simp, by go_simp, by go_size⟩
  have hb1 : Below V2.heap.size V2 ((V2.alloc (.cells #[.float .f64 o.1, .float .f64 o.2] 46)).alloc (.cells #[.float .f64 t.1, .float .f64 t.2] 46)) := by go_grown
  replace X := X.keep hb1; replace R := R.keep hb1; replace HB := later HB hb1; clear hb1
  clear c1 c2
  generalize (V2.alloc (.cells #[.float .f64 o.1, .float .f64 o.2] 46)).alloc (.cells #[.float .f64 t.1, .float .f64 t.2] 46) = V3 at *
  generalize V2.heap.size = d at *
  have hmf : ∀ (fn : Fn) (first cap : Array Value) (w : World), (Instr.makeFunc fn first cap).run Tryz.prog w = .ok (.func fn first cap) w := fun _ _ _ _ => rfl
  obtain ⟨e0, e1, e2, e3, e4⟩ := id E
  go_wp2_with (go_at_call 173; refine (c3 _ _ _ D X).mono ?_; rintro _ V4 ⟨rfl, hb1⟩; replace R := R.keep hb1; replace HB := later HB hb1; clear hb1; obtain ⟨k0, k1, k2, k3, k4⟩ := id R)
  refine bodyPost_ret (v := .agg #[.float .f64 s.1, .float .f64 s.2]) (by simp [results, Tryz.results179, go_sem, *]) rfl ⟨rfl, ?_⟩
  repeat' (first | (with_reducible exact HB) | (with_reducible refine Below.setCell ?_ ?_ _) | go_size)

/-- The step of e's powers. -/
def powF (r : Nat × Nat) (i : Nat) (t : Nat × Nat) : Nat × Nat :=
  let p := mulP r.1 r.2 t.1 t.2
  let m := makeP (floatOfInt .f64 ((i : Int) + 1)) (floatOfInt .f64 ((i : Int) + 1))
  let q := divP p.1 p.2 m.1 m.2
  addP (makeP 4607182418800017408 4607182418800017408).1 (makeP 4607182418800017408 4607182418800017408).2 q.1 q.2
def pwsE (r : Nat × Nat) : Nat × Nat := serS (powF r) (makeP 4602678819172646912 4609434218613702656) 16 0

theorem powF_lt {r t : Nat × Nat} {i : Nat} (h1 : r.1 < 18446744073709551616) (h2 : r.2 < 18446744073709551616) (ht : t.1 < 18446744073709551616 ∧ t.2 < 18446744073709551616) : (powF r i t).1 < 18446744073709551616 ∧ (powF r i t).2 < 18446744073709551616 := by
  have a := mulP_lt h1 h2 ht.1 ht.2
  have b := makeP_lt (foi_lt ((i : Int) + 1)) (foi_lt ((i : Int) + 1))
  have c := divP_lt a.1 a.2 b.1 b.2
  have o := makeP_lt (lo := 4607182418800017408) (hi := 4607182418800017408) (by omega) (by omega)
  exact addP_lt o.1 o.2 c.1 c.2

theorem pwsE_w (r1 r2 : Nat) (h1 : r1 < 18446744073709551616) (h2 : r2 < 18446744073709551616) (w : World) :
    Calls Tryz.prog 136 #[.agg #[.float .f64 r1, .float .f64 r2]] w fun e w' => e = .returned (.agg #[.float .f64 (pwsE (r1, r2)).1, .float .f64 (pwsE (r1, r2)).2]) ∧ Below w.heap.size w w' := by
  have ht := makeP_lt (lo := 4602678819172646912) (hi := 4609434218613702656) (by omega) (by omega)
  refine pow_core r1 r2 _ _ _ (fun w => point_w 4607182418800017408 (by omega) w) (fun w => nearOne_w w) (fun a b W hA hB => ?_) w
  have L : ∀ i, (serS (powF (r1, r2)) (makeP 4602678819172646912 4609434218613702656) 16 i).1 < 18446744073709551616 ∧ (serS (powF (r1, r2)) (makeP 4602678819172646912 4609434218613702656) 16 i).2 < 18446744073709551616 :=
    fun i => serS_lt (fun x => x.1 < 18446744073709551616 ∧ x.2 < 18446744073709551616) ht (fun j x hx => powF_lt h1 h2 hx) 16 i
  have E := ser_pow (serS (powF (r1, r2)) (makeP 4602678819172646912 4609434218613702656) 16) 16 a b (by omega) W (fun i hi W' hb => by
    have Lt := L (i + 1)
    rw [serS_step _ _ 16 i hi]
    generalize serS (powF (r1, r2)) (makeP 4602678819172646912 4609434218613702656) 16 (i + 1) = t at *
    have A := mulP_lt h1 h2 Lt.1 Lt.2
    have B := makeP_lt (foi_lt ((i : Int) + 1)) (foi_lt ((i : Int) + 1))
    have C := divP_lt A.1 A.2 B.1 B.2
    have O := makeP_lt (lo := 4607182418800017408) (hi := 4607182418800017408) (by omega) (by omega)
    exact pow_step _ _ r1 r2 t.1 t.2 _ _ _ (powF (r1, r2) i t) (i : Int) (by omega) (by omega) (fun w => wholeI_w ((i : Int) + 1) w) (fun w => Mul_w r1 r2 t.1 t.2 h1 h2 Lt.1 Lt.2 w) (fun w => Div_w _ _ _ _ A.1 A.2 B.1 B.2 w) (fun w => Add_w _ _ _ _ O.1 O.2 C.1 C.2 w) a b W' (hA.keep hb) (hB.keep hb))
  rw [serS_end] at E
  exact E

end Go.Proofs.YtnchhfhoaepjnaaGreat
