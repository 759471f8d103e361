/- The odd shares as a function of words. -/
import Derived.Test.YtnchhfhoaepjnaaGreatEd
namespace Go.Proofs.YtnchhfhoaepjnaaGreat
open Go.ChangeShapes Go.WideShapes Go.ChangeAt Go.RowKit

theorem odd_ser (F : Nat → Nat × Nat → Nat × Nat) (r1 r2 : Nat) (o t : Nat × Nat)
    (c1 : ∀ w, Calls Tryz.prog 114 #[.float .f64 4607182418800017408] w fun e w' => e = .returned (.agg #[.float .f64 o.1, .float .f64 o.2]) ∧ Below w.heap.size w w')
    (c2 : ∀ w, Calls Tryz.prog 82 #[.float .f64 13812540057145311232, .float .f64 4589168020290535424] w fun e w' => e = .returned (.agg #[.float .f64 t.1, .float .f64 t.2]) ∧ Below w.heap.size w w')
    (ht : t.1 < 18446744073709551616 ∧ t.2 < 18446744073709551616) (hF : ∀ i x, (x.1 < 18446744073709551616 ∧ x.2 < 18446744073709551616) → ((F i x).1 < 18446744073709551616 ∧ (F i x).2 < 18446744073709551616))
    (c3 : ∀ (i : Nat) (x : Nat × Nat), i < 16 → (x.1 < 18446744073709551616 ∧ x.2 < 18446744073709551616) → ∀ a b W, Has2 W a (.float .f64 o.1) (.float .f64 o.2) → Has2 W b (.float .f64 r1) (.float .f64 r2) → Calls Tryz.prog 208 #[.int .i64 (i : Int), .agg #[.float .f64 x.1, .float .f64 x.2], .pointer (some ⟨a, 0, none⟩), .pointer (some ⟨b, 0, none⟩)] W fun e w' => e = .returned (.agg #[.float .f64 (F i x).1, .float .f64 (F i x).2]) ∧ Below W.heap.size W w') (w : World) :
    Calls Tryz.prog 179 #[.agg #[.float .f64 r1, .float .f64 r2]] w fun e w' => e = .returned (.agg #[.float .f64 (serS F t 16 0).1, .float .f64 (serS F t 16 0).2]) ∧ Below w.heap.size w w' := by
  refine oddS_core r1 r2 o t (serS F t 16 0) c1 c2 (fun a b W hA hB => ?_) w
  have E := ser_odd (serS F t 16) 16 a b (by omega) W (fun i hi W' hb => by
    rw [serS_step _ _ 16 i hi]
    exact c3 i _ hi (serS_lt (fun x => x.1 < 18446744073709551616 ∧ x.2 < 18446744073709551616) ht hF 16 (i + 1)) a b W' (hA.keep hb) (hB.keep hb))
  rw [serS_end] at E
  exact E

/-- The step of the odd shares. -/
def oddF (o : Nat × Nat) (z1 z2 : Nat) (i : Nat) (t : Nat × Nat) : Nat × Nat :=
  addP (divP o.1 o.2 (makeP (floatOfInt .f64 (2 * (i : Int) + 1)) (floatOfInt .f64 (2 * (i : Int) + 1))).1 (makeP (floatOfInt .f64 (2 * (i : Int) + 1)) (floatOfInt .f64 (2 * (i : Int) + 1))).2).1
    (divP o.1 o.2 (makeP (floatOfInt .f64 (2 * (i : Int) + 1)) (floatOfInt .f64 (2 * (i : Int) + 1))).1 (makeP (floatOfInt .f64 (2 * (i : Int) + 1)) (floatOfInt .f64 (2 * (i : Int) + 1))).2).2
    (mulP z1 z2 t.1 t.2).1 (mulP z1 z2 t.1 t.2).2

theorem oddF_lt {o : Nat × Nat} {z1 z2 : Nat} {t : Nat × Nat} {i : Nat} (O : o.1 < 18446744073709551616 ∧ o.2 < 18446744073709551616) (h1 : z1 < 18446744073709551616) (h2 : z2 < 18446744073709551616) (ht : t.1 < 18446744073709551616 ∧ t.2 < 18446744073709551616) : (oddF o z1 z2 i t).1 < 18446744073709551616 ∧ (oddF o z1 z2 i t).2 < 18446744073709551616 := by
  have a := mulP_lt h1 h2 ht.1 ht.2
  have b := makeP_lt (foi_lt (2 * (i : Int) + 1)) (foi_lt (2 * (i : Int) + 1))
  have c := divP_lt O.1 O.2 b.1 b.2
  unfold oddF
  exact addP_lt c.1 c.2 a.1 a.2

theorem odd_one (o : Nat × Nat) (O : o.1 < 18446744073709551616 ∧ o.2 < 18446744073709551616) (r1 r2 : Nat) (h1 : r1 < 18446744073709551616) (h2 : r2 < 18446744073709551616) (i : Nat) (x : Nat × Nat) (hi : i < 16) (hx : x.1 < 18446744073709551616 ∧ x.2 < 18446744073709551616) (a b : Nat) (W : World) (hA : Has2 W a (.float .f64 o.1) (.float .f64 o.2)) (hB : Has2 W b (.float .f64 r1) (.float .f64 r2)) :
    Calls Tryz.prog 208 #[.int .i64 (i : Int), .agg #[.float .f64 x.1, .float .f64 x.2], .pointer (some ⟨a, 0, none⟩), .pointer (some ⟨b, 0, none⟩)] W fun e w' => e = .returned (.agg #[.float .f64 (oddF o r1 r2 i x).1, .float .f64 (oddF o r1 r2 i x).2]) ∧ Below W.heap.size W w' := by
  have B := makeP_lt (foi_lt (2 * (i : Int) + 1)) (foi_lt (2 * (i : Int) + 1))
  have c1 := fun w => wholeI_w (2 * (i : Int) + 1) w
  unfold oddF
  generalize makeP (floatOfInt .f64 (2 * (i : Int) + 1)) (floatOfInt .f64 (2 * (i : Int) + 1)) = m at *
  exact odd_step o.1 o.2 r1 r2 x.1 x.2 m (mulP r1 r2 x.1 x.2) (divP o.1 o.2 m.1 m.2) _ (i : Int) (by omega) (by omega) c1 (fun w => Div_w o.1 o.2 m.1 m.2 O.1 O.2 B.1 B.2 w) (fun w => Mul_w r1 r2 x.1 x.2 h1 h2 hx.1 hx.2 w) (fun w => Add_w _ _ _ _ (divP_lt O.1 O.2 B.1 B.2).1 (divP_lt O.1 O.2 B.1 B.2).2 (mulP_lt h1 h2 hx.1 hx.2).1 (mulP_lt h1 h2 hx.1 hx.2).2 w) a b W hA hB

def oddE (z1 z2 : Nat) : Nat × Nat := serS (oddF (makeP 4607182418800017408 4607182418800017408) z1 z2) (makeP 13812540057145311232 4589168020290535424) 16 0

theorem oddE_w (r1 r2 : Nat) (h1 : r1 < 18446744073709551616) (h2 : r2 < 18446744073709551616) (w : World) :
    Calls Tryz.prog 179 #[.agg #[.float .f64 r1, .float .f64 r2]] w fun e w' => e = .returned (.agg #[.float .f64 (oddE r1 r2).1, .float .f64 (oddE r1 r2).2]) ∧ Below w.heap.size w w' := by
  have O := makeP_lt (lo := 4607182418800017408) (hi := 4607182418800017408) (by omega) (by omega)
  have T := makeP_lt (lo := 13812540057145311232) (hi := 4589168020290535424) (by omega) (by omega)
  have c1 := fun w => point_w 4607182418800017408 (by omega) w
  have c2 := fun w => make_w 13812540057145311232 4589168020290535424 (by omega) (by omega) w
  unfold oddE
  generalize makeP 4607182418800017408 4607182418800017408 = o at *
  generalize makeP 13812540057145311232 4589168020290535424 = t at *
  exact odd_ser (oddF o r1 r2) r1 r2 o t c1 c2 T (fun i x hx => oddF_lt O h1 h2 hx) (fun i x hi hx a b W hA hB => odd_one o O r1 r2 h1 h2 i x hi hx a b W hA hB) w

end Go.Proofs.YtnchhfhoaepjnaaGreat
