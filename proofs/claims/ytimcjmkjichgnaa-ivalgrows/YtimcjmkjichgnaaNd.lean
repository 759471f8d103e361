/- IvalGrows' walk. IvalGrows: what the core asks for, and the way out. -/
import Derived.Test.YtimcjmkjichgnaaNb
import Derived.Test.YtimcjmkjichgnaaTf
namespace Go.Proofs.Ytimcjmkjichgnaa
open Go.ChangeShapes Go.WideShapes Go.ChangeAt Go.RowKit

theorem enter3 (w : World) (a b c d e f : Value) (T : TypeId) : Has2 (((w.alloc (.cells #[a, b] T)).alloc (.cells #[c, d] T)).alloc (.cells #[e, f] T)) w.heap.size a b ∧ Has2 (((w.alloc (.cells #[a, b] T)).alloc (.cells #[c, d] T)).alloc (.cells #[e, f] T)) (w.heap.size + 1) c d ∧
    Has2 (((w.alloc (.cells #[a, b] T)).alloc (.cells #[c, d] T)).alloc (.cells #[e, f] T)) (w.heap.size + 1 + 1) e f ∧ Below w.heap.size w (((w.alloc (.cells #[a, b] T)).alloc (.cells #[c, d] T)).alloc (.cells #[e, f] T)) :=
  ⟨⟨by go_simp, by go_simp, by go_simp, by go_simp, by go_size⟩, ⟨by go_simp, by go_simp, by go_simp, by go_simp, by go_size⟩, ⟨by go_simp, by go_simp, by go_simp, by go_simp, by go_size⟩, by go_grown⟩

/-- Four cells in a row. -/
def Cells4 (w : World) (b k : Nat) (p q r s : Value) : Prop := w.cell? ⟨b, k, none⟩ = some p ∧ w.cell? ⟨b, k + 1, none⟩ = some q ∧ w.cell? ⟨b, k + 2, none⟩ = some r ∧ w.cell? ⟨b, k + 3, none⟩ = some s ∧ b < w.heap.size
theorem Cells4.keep {w w2 : World} {b k : Nat} {p q r s : Value} (h : Cells4 w b k p q r s) (hb : Below w.heap.size w w2) : Cells4 w2 b k p q r s :=
  ⟨keepsC hb h.1 h.2.2.2.2, keepsC hb h.2.1 h.2.2.2.2, keepsC hb h.2.2.1 h.2.2.2.2, keepsC hb h.2.2.2.1 h.2.2.2.2, Nat.lt_of_lt_of_le h.2.2.2.2 hb.size⟩
theorem cells4_new (w : World) (p q r s : Value) (T : TypeId) : Cells4 (w.alloc (.cells #[p, q, r, s] T)) w.heap.size 0 p q r s := ⟨by go_simp, by go_simp, by go_simp, by go_simp, by go_size⟩

theorem cell_new (w : World) (cs : Array Value) (T : TypeId) {k : Nat} {v : Value} (h : cs[k]? = some v) : (w.alloc (.cells cs T)).cell? ⟨w.heap.size, k, none⟩ = some v := by
  rw [World.cell?_alloc_new]; exact h

set_option maxHeartbeats 16000000 in
set_option maxRecDepth 100000 in
theorem grows_core (xl xh yl yh ml mh gl gh s t u v f g : Nat) (a b c d : Nat → Nat) (n : Int)
    (ch : ∀ w, Calls Try.prog 38 #[.agg #[.float .f64 xl, .float .f64 xh], .agg #[.float .f64 ml, .float .f64 mh]] w fun e w' => e = .returned (.agg #[.float .f64 gl, .float .f64 gh]) ∧ Below w.heap.size w w')
    (r1 : ∀ w, Calls Try.prog 29 #[.agg #[.float .f64 xl, .float .f64 xh]] w fun e w' => e = .returned (.bool true) ∧ Below w.heap.size w w') (r2 : ∀ w, Calls Try.prog 29 #[.agg #[.float .f64 yl, .float .f64 yh]] w fun e w' => e = .returned (.bool true) ∧ Below w.heap.size w w') (r3 : ∀ w, Calls Try.prog 29 #[.agg #[.float .f64 ml, .float .f64 mh]] w fun e w' => e = .returned (.bool true) ∧ Below w.heap.size w w') (r4 : ∀ w, Calls Try.prog 66 #[.agg #[.float .f64 xl, .float .f64 xh]] w fun e w' => e = .returned (.bool false) ∧ Below w.heap.size w w')
    (c0 : ∀ w, Calls Try.prog 44 #[.agg #[.float .f64 xl, .float .f64 xh], .agg #[.float .f64 yl, .float .f64 yh]] w fun e w' => e = .returned (.agg #[.float .f64 (a 0), .float .f64 (b 0)]) ∧ Below w.heap.size w w') (d0 : ∀ w, Calls Try.prog 44 #[.agg #[.float .f64 gl, .float .f64 gh], .agg #[.float .f64 yl, .float .f64 yh]] w fun e w' => e = .returned (.agg #[.float .f64 (c 0), .float .f64 (d 0)]) ∧ Below w.heap.size w w')
    (c1 : ∀ w, Calls Try.prog 46 #[.agg #[.float .f64 yl, .float .f64 yh], .agg #[.float .f64 xl, .float .f64 xh]] w fun e w' => e = .returned (.agg #[.float .f64 (a 1), .float .f64 (b 1)]) ∧ Below w.heap.size w w') (d1 : ∀ w, Calls Try.prog 46 #[.agg #[.float .f64 yl, .float .f64 yh], .agg #[.float .f64 gl, .float .f64 gh]] w fun e w' => e = .returned (.agg #[.float .f64 (c 1), .float .f64 (d 1)]) ∧ Below w.heap.size w w')
    (c2 : ∀ w, Calls Try.prog 48 #[.agg #[.float .f64 xl, .float .f64 xh], .agg #[.float .f64 yl, .float .f64 yh]] w fun e w' => e = .returned (.agg #[.float .f64 (a 2), .float .f64 (b 2)]) ∧ Below w.heap.size w w') (d2 : ∀ w, Calls Try.prog 48 #[.agg #[.float .f64 gl, .float .f64 gh], .agg #[.float .f64 yl, .float .f64 yh]] w fun e w' => e = .returned (.agg #[.float .f64 (c 2), .float .f64 (d 2)]) ∧ Below w.heap.size w w')
    (c3 : ∀ w, Calls Try.prog 52 #[.agg #[.float .f64 xl, .float .f64 xh], .agg #[.float .f64 yl, .float .f64 yh]] w fun e w' => e = .returned (.agg #[.float .f64 (a 3), .float .f64 (b 3)]) ∧ Below w.heap.size w w') (d3 : ∀ w, Calls Try.prog 52 #[.agg #[.float .f64 gl, .float .f64 gh], .agg #[.float .f64 yl, .float .f64 yh]] w fun e w' => e = .returned (.agg #[.float .f64 (c 3), .float .f64 (d 3)]) ∧ Below w.heap.size w w')
    (c4 : ∀ w, Calls Try.prog 52 #[.agg #[.float .f64 yl, .float .f64 yh], .agg #[.float .f64 xl, .float .f64 xh]] w fun e w' => e = .returned (.agg #[.float .f64 (a 4), .float .f64 (b 4)]) ∧ Below w.heap.size w w') (d4 : ∀ w, Calls Try.prog 52 #[.agg #[.float .f64 yl, .float .f64 yh], .agg #[.float .f64 gl, .float .f64 gh]] w fun e w' => e = .returned (.agg #[.float .f64 (c 4), .float .f64 (d 4)]) ∧ Below w.heap.size w w')
    (c5 : ∀ w, Calls Try.prog 50 #[.agg #[.float .f64 xl, .float .f64 xh]] w fun e w' => e = .returned (.agg #[.float .f64 (a 5), .float .f64 (b 5)]) ∧ Below w.heap.size w w') (d5 : ∀ w, Calls Try.prog 50 #[.agg #[.float .f64 gl, .float .f64 gh]] w fun e w' => e = .returned (.agg #[.float .f64 (c 5), .float .f64 (d 5)]) ∧ Below w.heap.size w w')
    (c6 : ∀ w, Calls Try.prog 65 #[.agg #[.float .f64 xl, .float .f64 xh]] w fun e w' => e = .returned (.agg #[.float .f64 (a 6), .float .f64 (b 6)]) ∧ Below w.heap.size w w') (d6 : ∀ w, Calls Try.prog 65 #[.agg #[.float .f64 gl, .float .f64 gh]] w fun e w' => e = .returned (.agg #[.float .f64 (c 6), .float .f64 (d 6)]) ∧ Below w.heap.size w w')
    (c7 : ∀ w, Calls Try.prog 67 #[.agg #[.float .f64 xl, .float .f64 xh], .int .i64 n] w fun e w' => e = .returned (.agg #[.float .f64 (a 7), .float .f64 (b 7)]) ∧ Below w.heap.size w w') (d7 : ∀ w, Calls Try.prog 67 #[.agg #[.float .f64 gl, .float .f64 gh], .int .i64 n] w fun e w' => e = .returned (.agg #[.float .f64 (c 7), .float .f64 (d 7)]) ∧ Below w.heap.size w w')
    (c8 : ∀ w, Calls Try.prog 40 #[.agg #[.float .f64 xl, .float .f64 xh], .agg #[.float .f64 yl, .float .f64 yh]] w fun e w' => e = .returned (.agg #[.float .f64 (a 8), .float .f64 (b 8)]) ∧ Below w.heap.size w w') (d8 : ∀ w, Calls Try.prog 40 #[.agg #[.float .f64 gl, .float .f64 gh], .agg #[.float .f64 yl, .float .f64 yh]] w fun e w' => e = .returned (.agg #[.float .f64 (c 8), .float .f64 (d 8)]) ∧ Below w.heap.size w w')
    (ci : ∀ i, i < 9 → ∀ w, Calls Try.prog 68 #[.agg #[.float .f64 (a i), .float .f64 (b i)], .agg #[.float .f64 (c i), .float .f64 (d i)]] w fun e w' => e = .returned (.bool true) ∧ Below w.heap.size w w') (ra : ∀ i, i < 9 → ∀ w, Calls Try.prog 29 #[.agg #[.float .f64 (a i), .float .f64 (b i)]] w fun e w' => e = .returned (.bool true) ∧ Below w.heap.size w w') (rb : ∀ i, i < 9 → ∀ w, Calls Try.prog 29 #[.agg #[.float .f64 (c i), .float .f64 (d i)]] w fun e w' => e = .returned (.bool true) ∧ Below w.heap.size w w')
    (e1 : ∀ w, Calls Try.prog 68 #[.agg #[.float .f64 xl, .float .f64 xh], .agg #[.float .f64 gl, .float .f64 gh]] w fun e w' => e = .returned (.bool true) ∧ Below w.heap.size w w') (e2 : ∀ w, Calls Try.prog 56 #[.agg #[.float .f64 xl, .float .f64 xh]] w fun e w' => e = .returned (.float .f64 s) ∧ Below w.heap.size w w') (e3 : ∀ w, Calls Try.prog 56 #[.agg #[.float .f64 gl, .float .f64 gh]] w fun e w' => e = .returned (.float .f64 t) ∧ Below w.heap.size w w') (e4 : ∀ w, Calls Try.prog 58 #[.agg #[.float .f64 xl, .float .f64 xh]] w fun e w' => e = .returned (.float .f64 u) ∧ Below w.heap.size w w') (e5 : ∀ w, Calls Try.prog 58 #[.agg #[.float .f64 gl, .float .f64 gh]] w fun e w' => e = .returned (.float .f64 v) ∧ Below w.heap.size w w') (e6 : ∀ w, Calls Try.prog 60 #[.agg #[.float .f64 xl, .float .f64 xh]] w fun e w' => e = .returned (.float .f64 f) ∧ Below w.heap.size w w') (e7 : ∀ w, Calls Try.prog 60 #[.agg #[.float .f64 gl, .float .f64 gh]] w fun e w' => e = .returned (.float .f64 g) ∧ Below w.heap.size w w')
    (o1 : (FloatKind.f64.format.order s t == some .lt || FloatKind.f64.format.order s t == some .eq) = true) (o2 : (FloatKind.f64.format.order u v == some .lt || FloatKind.f64.format.order u v == some .eq) = true) (o3 : (FloatKind.f64.format.order g f == some .lt || FloatKind.f64.format.order g f == some .eq) = true) (w : World) :
    Calls Try.prog 14 #[.agg #[.float .f64 xl, .float .f64 xh], .agg #[.float .f64 yl, .float .f64 yh], .agg #[.float .f64 ml, .float .f64 mh], .int .i64 n] w fun e w' => e = .returned (.bool true) ∧ Below w.heap.size w w' := by
  obtain ⟨X, Y, M, HB⟩ := enter3 w (.float .f64 xl) (.float .f64 xh) (.float .f64 yl) (.float .f64 yh) (.float .f64 ml) (.float .f64 mh) 31
  go_enter Try.func14, Try.ntmps14
  go_upto_region 1 with fail
  generalize ((w.alloc (.cells #[.float .f64 xl, .float .f64 xh] 31)).alloc (.cells #[.float .f64 yl, .float .f64 yh] 31)).alloc (.cells #[.float .f64 ml, .float .f64 mh] 31) = V0 at *
  obtain ⟨x0, x1, x2, x3, x4⟩ := id X
  obtain ⟨m0, m1, m2, m3, m4⟩ := id M
  go_upto_region 2 with (go_at_call 38; refine (ch _).mono ?_; rintro _ V1 ⟨rfl, hb1⟩; replace X := X.keep hb1; replace Y := Y.keep hb1; replace M := M.keep hb1; replace HB := later HB hb1; clear hb1; clear x0 x1 x2 x3 x4 m0 m1 m2 m3 m4)
  have O := has2_new V1 (.float .f64 gl) (.float .f64 gh) 31
  replace X := X.alloc (.cells #[.float .f64 gl, .float .f64 gh] 31)
  replace Y := Y.alloc (.cells #[.float .f64 gl, .float .f64 gh] 31)
  replace M := M.alloc (.cells #[.float .f64 gl, .float .f64 gh] 31)
  replace HB := below_alloc HB (.cells #[.float .f64 gl, .float .f64 gh] 31)
  generalize V1.alloc (.cells #[.float .f64 gl, .float .f64 gh] 31) = V2 at *
  generalize V1.heap.size = gb at *
  clear V1 V0 ch
  obtain ⟨x0, x1, x2, x3, x4⟩ := id X
  obtain ⟨y0, y1, y2, y3, y4⟩ := id Y
  obtain ⟨m0, m1, m2, m3, m4⟩ := id M
  go_upto_region 4 with (first
    | (go_at_call_of 29 (Value.agg #[.float .f64 xl, .float .f64 xh]); with_reducible refine (r1 _).mono ?_; rintro _ V3 ⟨rfl, hb1⟩; replace X := X.keep hb1; replace Y := Y.keep hb1; replace M := M.keep hb1; replace O := O.keep hb1; replace HB := later HB hb1; clear hb1; clear x0 x1 x2 x3 x4 y0 y1 y2 y3 y4 m0 m1 m2 m3 m4
       obtain ⟨x0, x1, x2, x3, x4⟩ := id X
       obtain ⟨y0, y1, y2, y3, y4⟩ := id Y
       obtain ⟨m0, m1, m2, m3, m4⟩ := id M)
    | (go_at_call 29; with_reducible refine (r2 _).mono ?_; rintro _ V3 ⟨rfl, hb1⟩; replace X := X.keep hb1; replace Y := Y.keep hb1; replace M := M.keep hb1; replace O := O.keep hb1; replace HB := later HB hb1; clear hb1; clear x0 x1 x2 x3 x4 y0 y1 y2 y3 y4 m0 m1 m2 m3 m4
       obtain ⟨x0, x1, x2, x3, x4⟩ := id X
       obtain ⟨y0, y1, y2, y3, y4⟩ := id Y
       obtain ⟨m0, m1, m2, m3, m4⟩ := id M)
    | (go_at_call 29; with_reducible refine (r3 _).mono ?_; rintro _ V3 ⟨rfl, hb1⟩; replace X := X.keep hb1; replace Y := Y.keep hb1; replace M := M.keep hb1; replace O := O.keep hb1; replace HB := later HB hb1; clear hb1; clear x0 x1 x2 x3 x4 y0 y1 y2 y3 y4 m0 m1 m2 m3 m4
       obtain ⟨x0, x1, x2, x3, x4⟩ := id X
       obtain ⟨y0, y1, y2, y3, y4⟩ := id Y
       obtain ⟨m0, m1, m2, m3, m4⟩ := id M)
    | (go_at_call 66; with_reducible refine (r4 _).mono ?_; rintro _ V4 ⟨rfl, hb1⟩; replace X := X.keep hb1; replace Y := Y.keep hb1; replace M := M.keep hb1; replace O := O.keep hb1; replace HB := later HB hb1; clear hb1; clear x0 x1 x2 x3 x4 y0 y1 y2 y3 y4 m0 m1 m2 m3 m4
       obtain ⟨x0, x1, x2, x3, x4⟩ := id X
       obtain ⟨y0, y1, y2, y3, y4⟩ := id Y
       obtain ⟨m0, m1, m2, m3, m4⟩ := id M))
  clear x0 x1 x2 x3 x4 y0 y1 y2 y3 y4 m0 m1 m2 m3 m4 r1 r2 r3 r4
  have kx0 := fun n : Behind V4 => n.cell X.1 X.2.2.2.2
  have kx1 := fun n : Behind V4 => n.cell X.2.1 X.2.2.2.2
  have ky0 := fun n : Behind V4 => n.cell Y.1 Y.2.2.2.2
  have ky1 := fun n : Behind V4 => n.cell Y.2.1 Y.2.2.2.2
  have ko0 := fun n : Behind V4 => n.cell O.1 O.2.2.2.2
  have ko1 := fun n : Behind V4 => n.cell O.2.1 O.2.2.2.2
  try simp only [List.append]
  refine tail_behind_free 59 61 _ (.int .i64 0) (by kernel_rfl) (by kernel_rfl) (by kernel_rfl) rfl (fun _ _ _ h => h) (Or.inl ⟨by rfl, fun w => by go_simp⟩) ?_
  simp only [List.take_succ_cons, List.take_zero, List.drop_succ_cons, List.drop_zero]
  go_simp
  repeat (go_big_quiet_step (first
    | (go_at_call 44; with_reducible refine Behind.call (c0 _))
    | (go_at_call 44; with_reducible refine Behind.call (d0 _))
    | (go_at_call 46; with_reducible refine Behind.call (c1 _))
    | (go_at_call 46; with_reducible refine Behind.call (d1 _))
    | (go_at_call 48; with_reducible refine Behind.call (c2 _))
    | (go_at_call 48; with_reducible refine Behind.call (d2 _))
    | (go_at_call 52; with_reducible refine Behind.call (c3 _))
    | (go_at_call 52; with_reducible refine Behind.call (d3 _))
    | (go_at_call 52; with_reducible refine Behind.call (c4 _))
    | (go_at_call 52; with_reducible refine Behind.call (d4 _))
    | (go_at_call 50; with_reducible refine Behind.call (c5 _))
    | (go_at_call 50; with_reducible refine Behind.call (d5 _))
    | (go_at_call 65; with_reducible refine Behind.call (c6 _))
    | (go_at_call 65; with_reducible refine Behind.call (d6 _))
    | (go_at_call 67; with_reducible refine Behind.call (c7 _))
    | (go_at_call 67; with_reducible refine Behind.call (d7 _))
    | (go_at_call 40; with_reducible refine Behind.call (c8 _))
    | (go_at_call 40; with_reducible refine Behind.call (d8 _))))
  refine wpQuiet_nil ?_
  intro m
  obtain ⟨W, hb1⟩ := m
  dsimp only
  clear kx0 kx1 ky0 ky1 ko0 ko1
  replace X := X.keep hb1; replace Y := Y.keep hb1; replace O := O.keep hb1; replace HB := later HB hb1; clear hb1
  clear M c0 d0 c1 d1 c2 d2 c3 d3 c4 d4 c5 d5 c6 d6 c7 d7 c8 d8
  go_wp2_with fail
  have hsz : W.heap.size < (W.alloc (.cells #[.float .f64 (a 0), .float .f64 (b 0), .float .f64 (c 0), .float .f64 (d 0), .float .f64 (a 1), .float .f64 (b 1), .float .f64 (c 1), .float .f64 (d 1), .float .f64 (a 2), .float .f64 (b 2), .float .f64 (c 2), .float .f64 (d 2), .float .f64 (a 3), .float .f64 (b 3), .float .f64 (c 3), .float .f64 (d 3), .float .f64 (a 4), .float .f64 (b 4), .float .f64 (c 4), .float .f64 (d 4), .float .f64 (a 5), .float .f64 (b 5), .float .f64 (c 5), .float .f64 (d 5), .float .f64 (a 6), .float .f64 (b 6), .float .f64 (c 6), .float .f64 (d 6), .float .f64 (a 7), .float .f64 (b 7), .float .f64 (c 7), .float .f64 (d 7), .float .f64 (a 8), .float .f64 (b 8), .float .f64 (c 8), .float .f64 (d 8)] 45)).heap.size := by go_size
  have C0 : Cells4 (W.alloc (.cells #[.float .f64 (a 0), .float .f64 (b 0), .float .f64 (c 0), .float .f64 (d 0), .float .f64 (a 1), .float .f64 (b 1), .float .f64 (c 1), .float .f64 (d 1), .float .f64 (a 2), .float .f64 (b 2), .float .f64 (c 2), .float .f64 (d 2), .float .f64 (a 3), .float .f64 (b 3), .float .f64 (c 3), .float .f64 (d 3), .float .f64 (a 4), .float .f64 (b 4), .float .f64 (c 4), .float .f64 (d 4), .float .f64 (a 5), .float .f64 (b 5), .float .f64 (c 5), .float .f64 (d 5), .float .f64 (a 6), .float .f64 (b 6), .float .f64 (c 6), .float .f64 (d 6), .float .f64 (a 7), .float .f64 (b 7), .float .f64 (c 7), .float .f64 (d 7), .float .f64 (a 8), .float .f64 (b 8), .float .f64 (c 8), .float .f64 (d 8)] 45)) W.heap.size 0 (.float .f64 (a 0)) (.float .f64 (b 0)) (.float .f64 (c 0)) (.float .f64 (d 0)) := ⟨cell_new _ _ _ rfl, cell_new _ _ _ rfl, cell_new _ _ _ rfl, cell_new _ _ _ rfl, hsz⟩
  have C1 : Cells4 (W.alloc (.cells #[.float .f64 (a 0), .float .f64 (b 0), .float .f64 (c 0), .float .f64 (d 0), .float .f64 (a 1), .float .f64 (b 1), .float .f64 (c 1), .float .f64 (d 1), .float .f64 (a 2), .float .f64 (b 2), .float .f64 (c 2), .float .f64 (d 2), .float .f64 (a 3), .float .f64 (b 3), .float .f64 (c 3), .float .f64 (d 3), .float .f64 (a 4), .float .f64 (b 4), .float .f64 (c 4), .float .f64 (d 4), .float .f64 (a 5), .float .f64 (b 5), .float .f64 (c 5), .float .f64 (d 5), .float .f64 (a 6), .float .f64 (b 6), .float .f64 (c 6), .float .f64 (d 6), .float .f64 (a 7), .float .f64 (b 7), .float .f64 (c 7), .float .f64 (d 7), .float .f64 (a 8), .float .f64 (b 8), .float .f64 (c 8), .float .f64 (d 8)] 45)) W.heap.size 4 (.float .f64 (a 1)) (.float .f64 (b 1)) (.float .f64 (c 1)) (.float .f64 (d 1)) := ⟨cell_new _ _ _ rfl, cell_new _ _ _ rfl, cell_new _ _ _ rfl, cell_new _ _ _ rfl, hsz⟩
  have C2 : Cells4 (W.alloc (.cells #[.float .f64 (a 0), .float .f64 (b 0), .float .f64 (c 0), .float .f64 (d 0), .float .f64 (a 1), .float .f64 (b 1), .float .f64 (c 1), .float .f64 (d 1), .float .f64 (a 2), .float .f64 (b 2), .float .f64 (c 2), .float .f64 (d 2), .float .f64 (a 3), .float .f64 (b 3), .float .f64 (c 3), .float .f64 (d 3), .float .f64 (a 4), .float .f64 (b 4), .float .f64 (c 4), .float .f64 (d 4), .float .f64 (a 5), .float .f64 (b 5), .float .f64 (c 5), .float .f64 (d 5), .float .f64 (a 6), .float .f64 (b 6), .float .f64 (c 6), .float .f64 (d 6), .float .f64 (a 7), .float .f64 (b 7), .float .f64 (c 7), .float .f64 (d 7), .float .f64 (a 8), .float .f64 (b 8), .float .f64 (c 8), .float .f64 (d 8)] 45)) W.heap.size 8 (.float .f64 (a 2)) (.float .f64 (b 2)) (.float .f64 (c 2)) (.float .f64 (d 2)) := ⟨cell_new _ _ _ rfl, cell_new _ _ _ rfl, cell_new _ _ _ rfl, cell_new _ _ _ rfl, hsz⟩
  have C3 : Cells4 (W.alloc (.cells #[.float .f64 (a 0), .float .f64 (b 0), .float .f64 (c 0), .float .f64 (d 0), .float .f64 (a 1), .float .f64 (b 1), .float .f64 (c 1), .float .f64 (d 1), .float .f64 (a 2), .float .f64 (b 2), .float .f64 (c 2), .float .f64 (d 2), .float .f64 (a 3), .float .f64 (b 3), .float .f64 (c 3), .float .f64 (d 3), .float .f64 (a 4), .float .f64 (b 4), .float .f64 (c 4), .float .f64 (d 4), .float .f64 (a 5), .float .f64 (b 5), .float .f64 (c 5), .float .f64 (d 5), .float .f64 (a 6), .float .f64 (b 6), .float .f64 (c 6), .float .f64 (d 6), .float .f64 (a 7), .float .f64 (b 7), .float .f64 (c 7), .float .f64 (d 7), .float .f64 (a 8), .float .f64 (b 8), .float .f64 (c 8), .float .f64 (d 8)] 45)) W.heap.size 12 (.float .f64 (a 3)) (.float .f64 (b 3)) (.float .f64 (c 3)) (.float .f64 (d 3)) := ⟨cell_new _ _ _ rfl, cell_new _ _ _ rfl, cell_new _ _ _ rfl, cell_new _ _ _ rfl, hsz⟩
  have C4 : Cells4 (W.alloc (.cells #[.float .f64 (a 0), .float .f64 (b 0), .float .f64 (c 0), .float .f64 (d 0), .float .f64 (a 1), .float .f64 (b 1), .float .f64 (c 1), .float .f64 (d 1), .float .f64 (a 2), .float .f64 (b 2), .float .f64 (c 2), .float .f64 (d 2), .float .f64 (a 3), .float .f64 (b 3), .float .f64 (c 3), .float .f64 (d 3), .float .f64 (a 4), .float .f64 (b 4), .float .f64 (c 4), .float .f64 (d 4), .float .f64 (a 5), .float .f64 (b 5), .float .f64 (c 5), .float .f64 (d 5), .float .f64 (a 6), .float .f64 (b 6), .float .f64 (c 6), .float .f64 (d 6), .float .f64 (a 7), .float .f64 (b 7), .float .f64 (c 7), .float .f64 (d 7), .float .f64 (a 8), .float .f64 (b 8), .float .f64 (c 8), .float .f64 (d 8)] 45)) W.heap.size 16 (.float .f64 (a 4)) (.float .f64 (b 4)) (.float .f64 (c 4)) (.float .f64 (d 4)) := ⟨cell_new _ _ _ rfl, cell_new _ _ _ rfl, cell_new _ _ _ rfl, cell_new _ _ _ rfl, hsz⟩
  have C5 : Cells4 (W.alloc (.cells #[.float .f64 (a 0), .float .f64 (b 0), .float .f64 (c 0), .float .f64 (d 0), .float .f64 (a 1), .float .f64 (b 1), .float .f64 (c 1), .float .f64 (d 1), .float .f64 (a 2), .float .f64 (b 2), .float .f64 (c 2), .float .f64 (d 2), .float .f64 (a 3), .float .f64 (b 3), .float .f64 (c 3), .float .f64 (d 3), .float .f64 (a 4), .float .f64 (b 4), .float .f64 (c 4), .float .f64 (d 4), .float .f64 (a 5), .float .f64 (b 5), .float .f64 (c 5), .float .f64 (d 5), .float .f64 (a 6), .float .f64 (b 6), .float .f64 (c 6), .float .f64 (d 6), .float .f64 (a 7), .float .f64 (b 7), .float .f64 (c 7), .float .f64 (d 7), .float .f64 (a 8), .float .f64 (b 8), .float .f64 (c 8), .float .f64 (d 8)] 45)) W.heap.size 20 (.float .f64 (a 5)) (.float .f64 (b 5)) (.float .f64 (c 5)) (.float .f64 (d 5)) := ⟨cell_new _ _ _ rfl, cell_new _ _ _ rfl, cell_new _ _ _ rfl, cell_new _ _ _ rfl, hsz⟩
  have C6 : Cells4 (W.alloc (.cells #[.float .f64 (a 0), .float .f64 (b 0), .float .f64 (c 0), .float .f64 (d 0), .float .f64 (a 1), .float .f64 (b 1), .float .f64 (c 1), .float .f64 (d 1), .float .f64 (a 2), .float .f64 (b 2), .float .f64 (c 2), .float .f64 (d 2), .float .f64 (a 3), .float .f64 (b 3), .float .f64 (c 3), .float .f64 (d 3), .float .f64 (a 4), .float .f64 (b 4), .float .f64 (c 4), .float .f64 (d 4), .float .f64 (a 5), .float .f64 (b 5), .float .f64 (c 5), .float .f64 (d 5), .float .f64 (a 6), .float .f64 (b 6), .float .f64 (c 6), .float .f64 (d 6), .float .f64 (a 7), .float .f64 (b 7), .float .f64 (c 7), .float .f64 (d 7), .float .f64 (a 8), .float .f64 (b 8), .float .f64 (c 8), .float .f64 (d 8)] 45)) W.heap.size 24 (.float .f64 (a 6)) (.float .f64 (b 6)) (.float .f64 (c 6)) (.float .f64 (d 6)) := ⟨cell_new _ _ _ rfl, cell_new _ _ _ rfl, cell_new _ _ _ rfl, cell_new _ _ _ rfl, hsz⟩
  have C7 : Cells4 (W.alloc (.cells #[.float .f64 (a 0), .float .f64 (b 0), .float .f64 (c 0), .float .f64 (d 0), .float .f64 (a 1), .float .f64 (b 1), .float .f64 (c 1), .float .f64 (d 1), .float .f64 (a 2), .float .f64 (b 2), .float .f64 (c 2), .float .f64 (d 2), .float .f64 (a 3), .float .f64 (b 3), .float .f64 (c 3), .float .f64 (d 3), .float .f64 (a 4), .float .f64 (b 4), .float .f64 (c 4), .float .f64 (d 4), .float .f64 (a 5), .float .f64 (b 5), .float .f64 (c 5), .float .f64 (d 5), .float .f64 (a 6), .float .f64 (b 6), .float .f64 (c 6), .float .f64 (d 6), .float .f64 (a 7), .float .f64 (b 7), .float .f64 (c 7), .float .f64 (d 7), .float .f64 (a 8), .float .f64 (b 8), .float .f64 (c 8), .float .f64 (d 8)] 45)) W.heap.size 28 (.float .f64 (a 7)) (.float .f64 (b 7)) (.float .f64 (c 7)) (.float .f64 (d 7)) := ⟨cell_new _ _ _ rfl, cell_new _ _ _ rfl, cell_new _ _ _ rfl, cell_new _ _ _ rfl, hsz⟩
  have C8 : Cells4 (W.alloc (.cells #[.float .f64 (a 0), .float .f64 (b 0), .float .f64 (c 0), .float .f64 (d 0), .float .f64 (a 1), .float .f64 (b 1), .float .f64 (c 1), .float .f64 (d 1), .float .f64 (a 2), .float .f64 (b 2), .float .f64 (c 2), .float .f64 (d 2), .float .f64 (a 3), .float .f64 (b 3), .float .f64 (c 3), .float .f64 (d 3), .float .f64 (a 4), .float .f64 (b 4), .float .f64 (c 4), .float .f64 (d 4), .float .f64 (a 5), .float .f64 (b 5), .float .f64 (c 5), .float .f64 (d 5), .float .f64 (a 6), .float .f64 (b 6), .float .f64 (c 6), .float .f64 (d 6), .float .f64 (a 7), .float .f64 (b 7), .float .f64 (c 7), .float .f64 (d 7), .float .f64 (a 8), .float .f64 (b 8), .float .f64 (c 8), .float .f64 (d 8)] 45)) W.heap.size 32 (.float .f64 (a 8)) (.float .f64 (b 8)) (.float .f64 (c 8)) (.float .f64 (d 8)) := ⟨cell_new _ _ _ rfl, cell_new _ _ _ rfl, cell_new _ _ _ rfl, cell_new _ _ _ rfl, hsz⟩
  have hB5 : Below W.heap.size W (W.alloc (.cells #[.float .f64 (a 0), .float .f64 (b 0), .float .f64 (c 0), .float .f64 (d 0), .float .f64 (a 1), .float .f64 (b 1), .float .f64 (c 1), .float .f64 (d 1), .float .f64 (a 2), .float .f64 (b 2), .float .f64 (c 2), .float .f64 (d 2), .float .f64 (a 3), .float .f64 (b 3), .float .f64 (c 3), .float .f64 (d 3), .float .f64 (a 4), .float .f64 (b 4), .float .f64 (c 4), .float .f64 (d 4), .float .f64 (a 5), .float .f64 (b 5), .float .f64 (c 5), .float .f64 (d 5), .float .f64 (a 6), .float .f64 (b 6), .float .f64 (c 6), .float .f64 (d 6), .float .f64 (a 7), .float .f64 (b 7), .float .f64 (c 7), .float .f64 (d 7), .float .f64 (a 8), .float .f64 (b 8), .float .f64 (c 8), .float .f64 (d 8)] 45)) := (Below.refl _ _).alloc (Nat.le_refl _) _
  clear Y hsz
  generalize hV5 : W.alloc (.cells #[.float .f64 (a 0), .float .f64 (b 0), .float .f64 (c 0), .float .f64 (d 0), .float .f64 (a 1), .float .f64 (b 1), .float .f64 (c 1), .float .f64 (d 1), .float .f64 (a 2), .float .f64 (b 2), .float .f64 (c 2), .float .f64 (d 2), .float .f64 (a 3), .float .f64 (b 3), .float .f64 (c 3), .float .f64 (d 3), .float .f64 (a 4), .float .f64 (b 4), .float .f64 (c 4), .float .f64 (d 4), .float .f64 (a 5), .float .f64 (b 5), .float .f64 (c 5), .float .f64 (d 5), .float .f64 (a 6), .float .f64 (b 6), .float .f64 (c 6), .float .f64 (d 6), .float .f64 (a 7), .float .f64 (b 7), .float .f64 (c 7), .float .f64 (d 7), .float .f64 (a 8), .float .f64 (b 8), .float .f64 (c 8), .float .f64 (d 8)] 45) = V5
  rw [hV5] at hB5 C0 C1 C2 C3 C4 C5 C6 C7 C8
  replace X := X.keep hB5
  replace O := O.keep hB5
  replace HB := later HB hB5
  clear hV5 hB5
  go_loopg [93] 9 (fun G s93 wx => Below V5.heap.size V5 wx ∧ ((G = 9 ∧ s93 = .int .i64 0) ∨ (G = 8 ∧ s93 = .int .i64 1) ∨ (G = 7 ∧ s93 = .int .i64 2) ∨ (G = 6 ∧ s93 = .int .i64 3) ∨ (G = 5 ∧ s93 = .int .i64 4) ∨ (G = 4 ∧ s93 = .int .i64 5) ∨ (G = 3 ∧ s93 = .int .i64 6) ∨ (G = 2 ∧ s93 = .int .i64 7) ∨ (G = 1 ∧ s93 = .int .i64 8) ∨ (G = 0 ∧ s93 = .int .i64 9)))
  case atStart => exact ⟨Below.refl _ _, Or.inl ⟨rfl, rfl⟩⟩
  case round =>
    obtain ⟨hV, hh⟩ := hrel
    rcases hh with ⟨rfl, rfl⟩ | ⟨rfl, rfl⟩ | ⟨rfl, rfl⟩ | ⟨rfl, rfl⟩ | ⟨rfl, rfl⟩ | ⟨rfl, rfl⟩ | ⟨rfl, rfl⟩ | ⟨rfl, rfl⟩ | ⟨rfl, rfl⟩ | ⟨rfl, rfl⟩
    · obtain ⟨e0, e1, e2, e3, e4⟩ := id (C0.keep hV)
      go_upto_region 7 with fail
      have P := cells4_new wr (.float .f64 (a 0)) (.float .f64 (b 0)) (.float .f64 (c 0)) (.float .f64 (d 0)) 45
      have HB : Below V5.heap.size V5 (wr.alloc (.cells #[.float .f64 (a 0), .float .f64 (b 0), .float .f64 (c 0), .float .f64 (d 0)] 45)) := below_alloc hV _
      generalize hV6 : wr.alloc (.cells #[.float .f64 (a 0), .float .f64 (b 0), .float .f64 (c 0), .float .f64 (d 0)] 45) = V6
      rw [hV6] at P HB
      clear hV6 e0 e1 e2 e3 e4 hV
      obtain ⟨e0, e1, e2, e3, e4⟩ := id P
      go_wp2_with (first
        | (go_at_call 68; with_reducible refine (ci 0 (by omega) _).mono ?_; rintro _ w1 ⟨rfl, hb1⟩; replace P := P.keep hb1; replace HB := later HB hb1; clear hb1; clear e0 e1 e2 e3 e4
           obtain ⟨e0, e1, e2, e3, e4⟩ := id P)
        | (go_at_call 29; with_reducible refine (ra 0 (by omega) _).mono ?_; rintro _ w1 ⟨rfl, hb1⟩; replace P := P.keep hb1; replace HB := later HB hb1; clear hb1; clear e0 e1 e2 e3 e4
           obtain ⟨e0, e1, e2, e3, e4⟩ := id P)
        | (go_at_call 29; with_reducible refine (rb 0 (by omega) _).mono ?_; rintro _ w1 ⟨rfl, hb1⟩; replace P := P.keep hb1; replace HB := later HB hb1; clear hb1; clear e0 e1 e2 e3 e4
           obtain ⟨e0, e1, e2, e3, e4⟩ := id P))
      go_roundg 8
      case measure => omega
      case rel => exact ⟨HB, Or.inr (Or.inl ⟨by first | rfl | trivial, by first | rfl | trivial⟩)⟩
    · obtain ⟨e0, e1, e2, e3, e4⟩ := id (C1.keep hV)
      go_upto_region 7 with fail
      have P := cells4_new wr (.float .f64 (a 1)) (.float .f64 (b 1)) (.float .f64 (c 1)) (.float .f64 (d 1)) 45
      have HB : Below V5.heap.size V5 (wr.alloc (.cells #[.float .f64 (a 1), .float .f64 (b 1), .float .f64 (c 1), .float .f64 (d 1)] 45)) := below_alloc hV _
      generalize hV6 : wr.alloc (.cells #[.float .f64 (a 1), .float .f64 (b 1), .float .f64 (c 1), .float .f64 (d 1)] 45) = V6
      rw [hV6] at P HB
      clear hV6 e0 e1 e2 e3 e4 hV
      obtain ⟨e0, e1, e2, e3, e4⟩ := id P
      go_wp2_with (first
        | (go_at_call 68; with_reducible refine (ci 1 (by omega) _).mono ?_; rintro _ w1 ⟨rfl, hb1⟩; replace P := P.keep hb1; replace HB := later HB hb1; clear hb1; clear e0 e1 e2 e3 e4
           obtain ⟨e0, e1, e2, e3, e4⟩ := id P)
        | (go_at_call 29; with_reducible refine (ra 1 (by omega) _).mono ?_; rintro _ w1 ⟨rfl, hb1⟩; replace P := P.keep hb1; replace HB := later HB hb1; clear hb1; clear e0 e1 e2 e3 e4
           obtain ⟨e0, e1, e2, e3, e4⟩ := id P)
        | (go_at_call 29; with_reducible refine (rb 1 (by omega) _).mono ?_; rintro _ w1 ⟨rfl, hb1⟩; replace P := P.keep hb1; replace HB := later HB hb1; clear hb1; clear e0 e1 e2 e3 e4
           obtain ⟨e0, e1, e2, e3, e4⟩ := id P))
      go_roundg 7
      case measure => omega
      case rel => exact ⟨HB, Or.inr (Or.inr (Or.inl ⟨by first | rfl | trivial, by first | rfl | trivial⟩))⟩
    · obtain ⟨e0, e1, e2, e3, e4⟩ := id (C2.keep hV)
      go_upto_region 7 with fail
      have P := cells4_new wr (.float .f64 (a 2)) (.float .f64 (b 2)) (.float .f64 (c 2)) (.float .f64 (d 2)) 45
      have HB : Below V5.heap.size V5 (wr.alloc (.cells #[.float .f64 (a 2), .float .f64 (b 2), .float .f64 (c 2), .float .f64 (d 2)] 45)) := below_alloc hV _
      generalize hV6 : wr.alloc (.cells #[.float .f64 (a 2), .float .f64 (b 2), .float .f64 (c 2), .float .f64 (d 2)] 45) = V6
      rw [hV6] at P HB
      clear hV6 e0 e1 e2 e3 e4 hV
      obtain ⟨e0, e1, e2, e3, e4⟩ := id P
      go_wp2_with (first
        | (go_at_call 68; with_reducible refine (ci 2 (by omega) _).mono ?_; rintro _ w1 ⟨rfl, hb1⟩; replace P := P.keep hb1; replace HB := later HB hb1; clear hb1; clear e0 e1 e2 e3 e4
           obtain ⟨e0, e1, e2, e3, e4⟩ := id P)
        | (go_at_call 29; with_reducible refine (ra 2 (by omega) _).mono ?_; rintro _ w1 ⟨rfl, hb1⟩; replace P := P.keep hb1; replace HB := later HB hb1; clear hb1; clear e0 e1 e2 e3 e4
           obtain ⟨e0, e1, e2, e3, e4⟩ := id P)
        | (go_at_call 29; with_reducible refine (rb 2 (by omega) _).mono ?_; rintro _ w1 ⟨rfl, hb1⟩; replace P := P.keep hb1; replace HB := later HB hb1; clear hb1; clear e0 e1 e2 e3 e4
           obtain ⟨e0, e1, e2, e3, e4⟩ := id P))
      go_roundg 6
      case measure => omega
      case rel => exact ⟨HB, Or.inr (Or.inr (Or.inr (Or.inl ⟨by first | rfl | trivial, by first | rfl | trivial⟩)))⟩
    · obtain ⟨e0, e1, e2, e3, e4⟩ := id (C3.keep hV)
      go_upto_region 7 with fail
      have P := cells4_new wr (.float .f64 (a 3)) (.float .f64 (b 3)) (.float .f64 (c 3)) (.float .f64 (d 3)) 45
      have HB : Below V5.heap.size V5 (wr.alloc (.cells #[.float .f64 (a 3), .float .f64 (b 3), .float .f64 (c 3), .float .f64 (d 3)] 45)) := below_alloc hV _
      generalize hV6 : wr.alloc (.cells #[.float .f64 (a 3), .float .f64 (b 3), .float .f64 (c 3), .float .f64 (d 3)] 45) = V6
      rw [hV6] at P HB
      clear hV6 e0 e1 e2 e3 e4 hV
      obtain ⟨e0, e1, e2, e3, e4⟩ := id P
      go_wp2_with (first
        | (go_at_call 68; with_reducible refine (ci 3 (by omega) _).mono ?_; rintro _ w1 ⟨rfl, hb1⟩; replace P := P.keep hb1; replace HB := later HB hb1; clear hb1; clear e0 e1 e2 e3 e4
           obtain ⟨e0, e1, e2, e3, e4⟩ := id P)
        | (go_at_call 29; with_reducible refine (ra 3 (by omega) _).mono ?_; rintro _ w1 ⟨rfl, hb1⟩; replace P := P.keep hb1; replace HB := later HB hb1; clear hb1; clear e0 e1 e2 e3 e4
           obtain ⟨e0, e1, e2, e3, e4⟩ := id P)
        | (go_at_call 29; with_reducible refine (rb 3 (by omega) _).mono ?_; rintro _ w1 ⟨rfl, hb1⟩; replace P := P.keep hb1; replace HB := later HB hb1; clear hb1; clear e0 e1 e2 e3 e4
           obtain ⟨e0, e1, e2, e3, e4⟩ := id P))
      go_roundg 5
      case measure => omega
      case rel => exact ⟨HB, Or.inr (Or.inr (Or.inr (Or.inr (Or.inl ⟨by first | rfl | trivial, by first | rfl | trivial⟩))))⟩
    · obtain ⟨e0, e1, e2, e3, e4⟩ := id (C4.keep hV)
      go_upto_region 7 with fail
      have P := cells4_new wr (.float .f64 (a 4)) (.float .f64 (b 4)) (.float .f64 (c 4)) (.float .f64 (d 4)) 45
      have HB : Below V5.heap.size V5 (wr.alloc (.cells #[.float .f64 (a 4), .float .f64 (b 4), .float .f64 (c 4), .float .f64 (d 4)] 45)) := below_alloc hV _
      generalize hV6 : wr.alloc (.cells #[.float .f64 (a 4), .float .f64 (b 4), .float .f64 (c 4), .float .f64 (d 4)] 45) = V6
      rw [hV6] at P HB
      clear hV6 e0 e1 e2 e3 e4 hV
      obtain ⟨e0, e1, e2, e3, e4⟩ := id P
      go_wp2_with (first
        | (go_at_call 68; with_reducible refine (ci 4 (by omega) _).mono ?_; rintro _ w1 ⟨rfl, hb1⟩; replace P := P.keep hb1; replace HB := later HB hb1; clear hb1; clear e0 e1 e2 e3 e4
           obtain ⟨e0, e1, e2, e3, e4⟩ := id P)
        | (go_at_call 29; with_reducible refine (ra 4 (by omega) _).mono ?_; rintro _ w1 ⟨rfl, hb1⟩; replace P := P.keep hb1; replace HB := later HB hb1; clear hb1; clear e0 e1 e2 e3 e4
           obtain ⟨e0, e1, e2, e3, e4⟩ := id P)
        | (go_at_call 29; with_reducible refine (rb 4 (by omega) _).mono ?_; rintro _ w1 ⟨rfl, hb1⟩; replace P := P.keep hb1; replace HB := later HB hb1; clear hb1; clear e0 e1 e2 e3 e4
           obtain ⟨e0, e1, e2, e3, e4⟩ := id P))
      go_roundg 4
      case measure => omega
      case rel => exact ⟨HB, Or.inr (Or.inr (Or.inr (Or.inr (Or.inr (Or.inl ⟨by first | rfl | trivial, by first | rfl | trivial⟩)))))⟩
    · obtain ⟨e0, e1, e2, e3, e4⟩ := id (C5.keep hV)
      go_upto_region 7 with fail
      have P := cells4_new wr (.float .f64 (a 5)) (.float .f64 (b 5)) (.float .f64 (c 5)) (.float .f64 (d 5)) 45
      have HB : Below V5.heap.size V5 (wr.alloc (.cells #[.float .f64 (a 5), .float .f64 (b 5), .float .f64 (c 5), .float .f64 (d 5)] 45)) := below_alloc hV _
      generalize hV6 : wr.alloc (.cells #[.float .f64 (a 5), .float .f64 (b 5), .float .f64 (c 5), .float .f64 (d 5)] 45) = V6
      rw [hV6] at P HB
      clear hV6 e0 e1 e2 e3 e4 hV
      obtain ⟨e0, e1, e2, e3, e4⟩ := id P
      go_wp2_with (first
        | (go_at_call 68; with_reducible refine (ci 5 (by omega) _).mono ?_; rintro _ w1 ⟨rfl, hb1⟩; replace P := P.keep hb1; replace HB := later HB hb1; clear hb1; clear e0 e1 e2 e3 e4
           obtain ⟨e0, e1, e2, e3, e4⟩ := id P)
        | (go_at_call 29; with_reducible refine (ra 5 (by omega) _).mono ?_; rintro _ w1 ⟨rfl, hb1⟩; replace P := P.keep hb1; replace HB := later HB hb1; clear hb1; clear e0 e1 e2 e3 e4
           obtain ⟨e0, e1, e2, e3, e4⟩ := id P)
        | (go_at_call 29; with_reducible refine (rb 5 (by omega) _).mono ?_; rintro _ w1 ⟨rfl, hb1⟩; replace P := P.keep hb1; replace HB := later HB hb1; clear hb1; clear e0 e1 e2 e3 e4
           obtain ⟨e0, e1, e2, e3, e4⟩ := id P))
      go_roundg 3
      case measure => omega
      case rel => exact ⟨HB, Or.inr (Or.inr (Or.inr (Or.inr (Or.inr (Or.inr (Or.inl ⟨by first | rfl | trivial, by first | rfl | trivial⟩))))))⟩
    · obtain ⟨e0, e1, e2, e3, e4⟩ := id (C6.keep hV)
      go_upto_region 7 with fail
      have P := cells4_new wr (.float .f64 (a 6)) (.float .f64 (b 6)) (.float .f64 (c 6)) (.float .f64 (d 6)) 45
      have HB : Below V5.heap.size V5 (wr.alloc (.cells #[.float .f64 (a 6), .float .f64 (b 6), .float .f64 (c 6), .float .f64 (d 6)] 45)) := below_alloc hV _
      generalize hV6 : wr.alloc (.cells #[.float .f64 (a 6), .float .f64 (b 6), .float .f64 (c 6), .float .f64 (d 6)] 45) = V6
      rw [hV6] at P HB
      clear hV6 e0 e1 e2 e3 e4 hV
      obtain ⟨e0, e1, e2, e3, e4⟩ := id P
      go_wp2_with (first
        | (go_at_call 68; with_reducible refine (ci 6 (by omega) _).mono ?_; rintro _ w1 ⟨rfl, hb1⟩; replace P := P.keep hb1; replace HB := later HB hb1; clear hb1; clear e0 e1 e2 e3 e4
           obtain ⟨e0, e1, e2, e3, e4⟩ := id P)
        | (go_at_call 29; with_reducible refine (ra 6 (by omega) _).mono ?_; rintro _ w1 ⟨rfl, hb1⟩; replace P := P.keep hb1; replace HB := later HB hb1; clear hb1; clear e0 e1 e2 e3 e4
           obtain ⟨e0, e1, e2, e3, e4⟩ := id P)
        | (go_at_call 29; with_reducible refine (rb 6 (by omega) _).mono ?_; rintro _ w1 ⟨rfl, hb1⟩; replace P := P.keep hb1; replace HB := later HB hb1; clear hb1; clear e0 e1 e2 e3 e4
           obtain ⟨e0, e1, e2, e3, e4⟩ := id P))
      go_roundg 2
      case measure => omega
      case rel => exact ⟨HB, Or.inr (Or.inr (Or.inr (Or.inr (Or.inr (Or.inr (Or.inr (Or.inl ⟨by first | rfl | trivial, by first | rfl | trivial⟩)))))))⟩
    · obtain ⟨e0, e1, e2, e3, e4⟩ := id (C7.keep hV)
      go_upto_region 7 with fail
      have P := cells4_new wr (.float .f64 (a 7)) (.float .f64 (b 7)) (.float .f64 (c 7)) (.float .f64 (d 7)) 45
      have HB : Below V5.heap.size V5 (wr.alloc (.cells #[.float .f64 (a 7), .float .f64 (b 7), .float .f64 (c 7), .float .f64 (d 7)] 45)) := below_alloc hV _
      generalize hV6 : wr.alloc (.cells #[.float .f64 (a 7), .float .f64 (b 7), .float .f64 (c 7), .float .f64 (d 7)] 45) = V6
      rw [hV6] at P HB
      clear hV6 e0 e1 e2 e3 e4 hV
      obtain ⟨e0, e1, e2, e3, e4⟩ := id P
      go_wp2_with (first
        | (go_at_call 68; with_reducible refine (ci 7 (by omega) _).mono ?_; rintro _ w1 ⟨rfl, hb1⟩; replace P := P.keep hb1; replace HB := later HB hb1; clear hb1; clear e0 e1 e2 e3 e4
           obtain ⟨e0, e1, e2, e3, e4⟩ := id P)
        | (go_at_call 29; with_reducible refine (ra 7 (by omega) _).mono ?_; rintro _ w1 ⟨rfl, hb1⟩; replace P := P.keep hb1; replace HB := later HB hb1; clear hb1; clear e0 e1 e2 e3 e4
           obtain ⟨e0, e1, e2, e3, e4⟩ := id P)
        | (go_at_call 29; with_reducible refine (rb 7 (by omega) _).mono ?_; rintro _ w1 ⟨rfl, hb1⟩; replace P := P.keep hb1; replace HB := later HB hb1; clear hb1; clear e0 e1 e2 e3 e4
           obtain ⟨e0, e1, e2, e3, e4⟩ := id P))
      go_roundg 1
      case measure => omega
      case rel => exact ⟨HB, Or.inr (Or.inr (Or.inr (Or.inr (Or.inr (Or.inr (Or.inr (Or.inr (Or.inl ⟨by first | rfl | trivial, by first | rfl | trivial⟩))))))))⟩
    · obtain ⟨e0, e1, e2, e3, e4⟩ := id (C8.keep hV)
      go_upto_region 7 with fail
      have P := cells4_new wr (.float .f64 (a 8)) (.float .f64 (b 8)) (.float .f64 (c 8)) (.float .f64 (d 8)) 45
      have HB : Below V5.heap.size V5 (wr.alloc (.cells #[.float .f64 (a 8), .float .f64 (b 8), .float .f64 (c 8), .float .f64 (d 8)] 45)) := below_alloc hV _
      generalize hV6 : wr.alloc (.cells #[.float .f64 (a 8), .float .f64 (b 8), .float .f64 (c 8), .float .f64 (d 8)] 45) = V6
      rw [hV6] at P HB
      clear hV6 e0 e1 e2 e3 e4 hV
      obtain ⟨e0, e1, e2, e3, e4⟩ := id P
      go_wp2_with (first
        | (go_at_call 68; with_reducible refine (ci 8 (by omega) _).mono ?_; rintro _ w1 ⟨rfl, hb1⟩; replace P := P.keep hb1; replace HB := later HB hb1; clear hb1; clear e0 e1 e2 e3 e4
           obtain ⟨e0, e1, e2, e3, e4⟩ := id P)
        | (go_at_call 29; with_reducible refine (ra 8 (by omega) _).mono ?_; rintro _ w1 ⟨rfl, hb1⟩; replace P := P.keep hb1; replace HB := later HB hb1; clear hb1; clear e0 e1 e2 e3 e4
           obtain ⟨e0, e1, e2, e3, e4⟩ := id P)
        | (go_at_call 29; with_reducible refine (rb 8 (by omega) _).mono ?_; rintro _ w1 ⟨rfl, hb1⟩; replace P := P.keep hb1; replace HB := later HB hb1; clear hb1; clear e0 e1 e2 e3 e4
           obtain ⟨e0, e1, e2, e3, e4⟩ := id P))
      go_roundg 0
      case measure => omega
      case rel => exact ⟨HB, Or.inr (Or.inr (Or.inr (Or.inr (Or.inr (Or.inr (Or.inr (Or.inr (Or.inr (⟨by first | rfl | trivial, by first | rfl | trivial⟩)))))))))⟩
    · go_upto_region 10 with fail
      replace X := X.keep hV
      replace O := O.keep hV
      replace HB := later HB hV
      clear hV C0 C1 C2 C3 C4 C5 C6 C7 C8 ci ra rb
      have kx0 := fun n : Behind wr => n.cell X.1 X.2.2.2.2
      have kx1 := fun n : Behind wr => n.cell X.2.1 X.2.2.2.2
      have ko0 := fun n : Behind wr => n.cell O.1 O.2.2.2.2
      have ko1 := fun n : Behind wr => n.cell O.2.1 O.2.2.2.2
      refine region_behind (by kernel_rfl) (by kernel_rfl) ?_
      repeat (go_big_quiet_step (first
        | (go_at_call 68; with_reducible refine Behind.call (e1 _))
        | (go_at_call 56; with_reducible refine Behind.call (e2 _))
        | (go_at_call 56; with_reducible refine Behind.call (e3 _))
        | (go_at_call 58; with_reducible refine Behind.call (e4 _))
        | (go_at_call 58; with_reducible refine Behind.call (e5 _))
        | (go_at_call 60; with_reducible refine Behind.call (e6 _))
        | (go_at_call 60; with_reducible refine Behind.call (e7 _))))
      refine wpQuiet_nil ?_
      rintro _ ⟨m, rfl⟩
      obtain ⟨W, hb⟩ := m
      go_wp2_with fail
      go_ret
      exact ⟨rfl, later HB hb⟩

end Go.Proofs.Ytimcjmkjichgnaa

namespace Go.Proofs.Ytimcjmkjichgnaa
open Go.ChangeShapes Go.WideShapes Go.ChangeAt Go.RowKit

set_option maxHeartbeats 4000000 in
theorem grows_out (xl xh yl yh ml mh gl gh : Nat) (n : Int) (b1 b2 b3 b4 : Bool)
    (ch : ∀ w, Calls Try.prog 38 #[.agg #[.float .f64 xl, .float .f64 xh], .agg #[.float .f64 ml, .float .f64 mh]] w fun e w' => e = .returned (.agg #[.float .f64 gl, .float .f64 gh]) ∧ Below w.heap.size w w')
    (r1 : ∀ w, Calls Try.prog 29 #[.agg #[.float .f64 xl, .float .f64 xh]] w fun e w' => e = .returned (.bool b1) ∧ Below w.heap.size w w') (r2 : ∀ w, Calls Try.prog 29 #[.agg #[.float .f64 yl, .float .f64 yh]] w fun e w' => e = .returned (.bool b2) ∧ Below w.heap.size w w') (r3 : ∀ w, Calls Try.prog 29 #[.agg #[.float .f64 ml, .float .f64 mh]] w fun e w' => e = .returned (.bool b3) ∧ Below w.heap.size w w') (r4 : ∀ w, Calls Try.prog 66 #[.agg #[.float .f64 xl, .float .f64 xh]] w fun e w' => e = .returned (.bool (!b4)) ∧ Below w.heap.size w w') (hb : (b1 && b2 && b3 && b4) = false) (w : World) :
    Calls Try.prog 14 #[.agg #[.float .f64 xl, .float .f64 xh], .agg #[.float .f64 yl, .float .f64 yh], .agg #[.float .f64 ml, .float .f64 mh], .int .i64 n] w fun e w' => e = .returned (.bool true) ∧ Below w.heap.size w w' := by
  obtain ⟨X, Y, M, HB⟩ := enter3 w (.float .f64 xl) (.float .f64 xh) (.float .f64 yl) (.float .f64 yh) (.float .f64 ml) (.float .f64 mh) 31
  go_enter Try.func14, Try.ntmps14
  go_upto_region 1 with fail
  generalize ((w.alloc (.cells #[.float .f64 xl, .float .f64 xh] 31)).alloc (.cells #[.float .f64 yl, .float .f64 yh] 31)).alloc (.cells #[.float .f64 ml, .float .f64 mh] 31) = V0 at *
  obtain ⟨x0, x1, x2, x3, x4⟩ := id X
  obtain ⟨m0, m1, m2, m3, m4⟩ := id M
  go_upto_region 2 with (go_at_call 38; refine (ch _).mono ?_; rintro _ V1 ⟨rfl, hb1⟩; replace X := X.keep hb1; replace Y := Y.keep hb1; replace M := M.keep hb1; replace HB := later HB hb1; clear hb1; clear x0 x1 x2 x3 x4 m0 m1 m2 m3 m4)
  replace X := X.alloc (.cells #[.float .f64 gl, .float .f64 gh] 31)
  replace Y := Y.alloc (.cells #[.float .f64 gl, .float .f64 gh] 31)
  replace M := M.alloc (.cells #[.float .f64 gl, .float .f64 gh] 31)
  replace HB := below_alloc HB (.cells #[.float .f64 gl, .float .f64 gh] 31)
  generalize V1.alloc (.cells #[.float .f64 gl, .float .f64 gh] 31) = V2 at *
  clear ch
  obtain ⟨x0, x1, x2, x3, x4⟩ := id X
  obtain ⟨y0, y1, y2, y3, y4⟩ := id Y
  obtain ⟨m0, m1, m2, m3, m4⟩ := id M
  cases b1
  case' true =>
    cases b2
    case' true =>
      cases b3
      case' true =>
        cases b4
        case' true => cases hb
  all_goals
    try simp only [Bool.not_false] at r4
    go_wp2_with (first
    | (go_at_call_of 29 (Value.agg #[.float .f64 xl, .float .f64 xh]); with_reducible refine (r1 _).mono ?_; rintro _ V3 ⟨rfl, hb1⟩; replace X := X.keep hb1; replace Y := Y.keep hb1; replace M := M.keep hb1; replace HB := later HB hb1; clear hb1; clear x0 x1 x2 x3 x4 y0 y1 y2 y3 y4 m0 m1 m2 m3 m4
       obtain ⟨x0, x1, x2, x3, x4⟩ := id X
       obtain ⟨y0, y1, y2, y3, y4⟩ := id Y
       obtain ⟨m0, m1, m2, m3, m4⟩ := id M)
    | (go_at_call 29; with_reducible refine (r2 _).mono ?_; rintro _ V3 ⟨rfl, hb1⟩; replace X := X.keep hb1; replace Y := Y.keep hb1; replace M := M.keep hb1; replace HB := later HB hb1; clear hb1; clear x0 x1 x2 x3 x4 y0 y1 y2 y3 y4 m0 m1 m2 m3 m4
       obtain ⟨x0, x1, x2, x3, x4⟩ := id X
       obtain ⟨y0, y1, y2, y3, y4⟩ := id Y
       obtain ⟨m0, m1, m2, m3, m4⟩ := id M)
    | (go_at_call 29; with_reducible refine (r3 _).mono ?_; rintro _ V3 ⟨rfl, hb1⟩; replace X := X.keep hb1; replace Y := Y.keep hb1; replace M := M.keep hb1; replace HB := later HB hb1; clear hb1; clear x0 x1 x2 x3 x4 y0 y1 y2 y3 y4 m0 m1 m2 m3 m4
       obtain ⟨x0, x1, x2, x3, x4⟩ := id X
       obtain ⟨y0, y1, y2, y3, y4⟩ := id Y
       obtain ⟨m0, m1, m2, m3, m4⟩ := id M)
    | (go_at_call 66; with_reducible refine (r4 _).mono ?_; rintro _ V4 ⟨rfl, hb1⟩; replace X := X.keep hb1; replace Y := Y.keep hb1; replace M := M.keep hb1; replace HB := later HB hb1; clear hb1; clear x0 x1 x2 x3 x4 y0 y1 y2 y3 y4 m0 m1 m2 m3 m4))
    go_ret
    exact ⟨rfl, HB⟩

theorem ivalGrows_all (xl xh yl yh ml mh : Nat) (n : Int) (h1 : xl < 18446744073709551616) (h2 : xh < 18446744073709551616) (h3 : yl < 18446744073709551616) (h4 : yh < 18446744073709551616) (h5 : ml < 18446744073709551616) (h6 : mh < 18446744073709551616) (w : World) :
    Calls Try.prog 14 #[.agg #[.float .f64 xl, .float .f64 xh], .agg #[.float .f64 yl, .float .f64 yh], .agg #[.float .f64 ml, .float .f64 mh], .int .i64 n] w fun e w' => e = .returned (.bool true) ∧ Below w.heap.size w w' := by
  have r1 := fun w => refRight_w xl xh h1 h2 w
  have r2 := fun w => refRight_w yl yh h3 h4 w
  have r3 := fun w => refRight_w ml mh h5 h6 w
  have r4 := fun w => none_w xl xh h1 h2 w
  have ch := fun w => lawHull_w xl xh ml mh h1 h2 h5 h6 w
  have gl := hullP_lt h1 h2 h5 h6
  by_cases c : (rightB xl xh && rightB yl yh && rightB ml mh && hsB xl xh) = true
  · simp only [Bool.and_eq_true] at c
    obtain ⟨⟨⟨q1, q2⟩, q3⟩, q4⟩ := c
    rw [q1] at r1
    rw [q2] at r2
    rw [q3] at r3
    rw [q4] at r4
    have S := hs_iff.1 q4
    obtain ⟨T, kl, kh⟩ := inside_iff.1 (inside_hull xl xh ml mh).1 S
    have X : In xl xh (hullP xl xh ml mh).1 (hullP xl xh ml mh).2 := ⟨S, T, kl, kh, h1, h2, gl.1, gl.2⟩
    generalize (hullP xl xh ml mh).1 = g1 at *
    generalize (hullP xl xh ml mh).2 = g2 at *
    have E : hsB yl yh = false → ∀ a b, addP a b yl yh = (infI 1, infI (-1)) ∧ mulP a b yl yh = (infI 1, infI (-1)) ∧ divP a b yl yh = (infI 1, infI (-1)) ∧ divP yl yh a b = (infI 1, infI (-1)) ∧ meetP a b yl yh = (infI 1, infI (-1)) ∧ addP yl yh a b = (infI 1, infI (-1)) := fun h a b => by
      unfold addP mulP divP meetP
      rw [h]
      simp
    have P : Gr (addP xl xh yl yh) (addP g1 g2 yl yh) ∧ Gr (addP yl yh (negP (xl, xh)).1 (negP (xl, xh)).2) (addP yl yh (negP (g1, g2)).1 (negP (g1, g2)).2) ∧ Gr (mulP xl xh yl yh) (mulP g1 g2 yl yh) ∧ Gr (divP xl xh yl yh) (divP g1 g2 yl yh) ∧ Gr (divP yl yh xl xh) (divP yl yh g1 g2) ∧ Gr (meetP xl xh yl yh) (meetP g1 g2 yl yh) := by
      cases hy : hsB yl yh
      · have E := E hy
        rw [(E xl xh).1, (E g1 g2).1, (E xl xh).2.1, (E g1 g2).2.1, (E xl xh).2.2.1, (E g1 g2).2.2.1, (E xl xh).2.2.2.1, (E g1 g2).2.2.2.1, (E xl xh).2.2.2.2.1, (E g1 g2).2.2.2.2.1, (E _ _).2.2.2.2.2, (E _ _).2.2.2.2.2]
        exact ⟨gr_empty, gr_empty, gr_empty, gr_empty, gr_empty, gr_empty⟩
      · have Y := In.refl h3 h4 (hs_iff.1 hy)
        exact ⟨add_gr X Y, add_gr Y (neg_in X), mul_gr X h3 h4 (hs_iff.1 hy), div_gr X Y, div_gr Y X, meet_gr X (hs_iff.1 hy)⟩
    obtain ⟨p0, p1, p2, p3, p4, p8⟩ := P
    have p5 := sqr_gr X
    have p6 := sqrt_gr X
    have p7 := pow_gr X n
    have nl := negP_lt h1 h2
    have ng := negP_lt gl.1 gl.2
    obtain ⟨F, hF⟩ : ∃ F : Nat → Nat × Nat, ∀ i, F i = match i with | 0 => addP xl xh yl yh | 1 => addP yl yh (negP (xl, xh)).1 (negP (xl, xh)).2 | 2 => mulP xl xh yl yh | 3 => divP xl xh yl yh | 4 => divP yl yh xl xh | 5 => sqrP xl xh | 6 => sqrtP xl xh | 7 => powP xl xh n | _ => meetP xl xh yl yh := ⟨_, fun _ => rfl⟩
    obtain ⟨G, hG⟩ : ∃ G : Nat → Nat × Nat, ∀ i, G i = match i with | 0 => addP g1 g2 yl yh | 1 => addP yl yh (negP (g1, g2)).1 (negP (g1, g2)).2 | 2 => mulP g1 g2 yl yh | 3 => divP g1 g2 yl yh | 4 => divP yl yh g1 g2 | 5 => sqrP g1 g2 | 6 => sqrtP g1 g2 | 7 => powP g1 g2 n | _ => meetP g1 g2 yl yh := ⟨_, fun _ => rfl⟩
    have W : ∀ i, i < 9 → Gr (F i) (G i) ∧ ((F i).1 < 18446744073709551616 ∧ (F i).2 < 18446744073709551616) ∧ ((G i).1 < 18446744073709551616 ∧ (G i).2 < 18446744073709551616) := fun i hi => by
      rw [hF, hG]
      match i, hi with
      | 0, _ => exact ⟨p0, addP_lt h1 h2 h3 h4, addP_lt gl.1 gl.2 h3 h4⟩
      | 1, _ => exact ⟨p1, addP_lt h3 h4 nl.1 nl.2, addP_lt h3 h4 ng.1 ng.2⟩
      | 2, _ => exact ⟨p2, mulP_lt h1 h2 h3 h4, mulP_lt gl.1 gl.2 h3 h4⟩
      | 3, _ => exact ⟨p3, divP_lt h1 h2 h3 h4, divP_lt gl.1 gl.2 h3 h4⟩
      | 4, _ => exact ⟨p4, divP_lt h3 h4 h1 h2, divP_lt h3 h4 gl.1 gl.2⟩
      | 5, _ => exact ⟨p5, sqrP_lt h1 h2, sqrP_lt gl.1 gl.2⟩
      | 6, _ => exact ⟨p6, sqrtP_lt h1 h2, sqrtP_lt gl.1 gl.2⟩
      | 7, _ => exact ⟨p7, powP_lt h1 h2 n, powP_lt gl.1 gl.2 n⟩
      | 8, _ => exact ⟨p8, meetP_lt h1 h2 h3 h4, meetP_lt gl.1 gl.2 h3 h4⟩
    have le : ∀ {x y : Nat}, x < 18446744073709551616 → y < 18446744073709551616 → nanB x = false → nanB y = false → key x ≤ key y → (FloatKind.f64.format.order x y == some .lt || FloatKind.f64.format.order x y == some .eq) = true := fun {x y} hx hy nx ny k => by
      rw [o_le hx hy]
      unfold leB
      rw [nx, ny]
      simp [k]
    have D : ∀ {lo hi : Nat}, lo < 18446744073709551616 → hi < 18446744073709551616 → Some2 lo hi → widP lo hi < 18446744073709551616 ∧ nanB (widP lo hi) = false := fun {lo hi} a b S => addR_word b (negB_lt a) (wid_is a b S)
    obtain ⟨-, -, -, n1, n2, m1, m2⟩ := mag_keys h1 h2 S
    obtain ⟨-, -, -, n3, n4, m3, m4⟩ := mag_keys gl.1 gl.2 T
    have mle := mag_le X
    have fF0 : F 0 = addP xl xh yl yh := hF 0
    have fG0 : G 0 = addP g1 g2 yl yh := hG 0
    have fF1 : F 1 = addP yl yh (negP (xl, xh)).1 (negP (xl, xh)).2 := hF 1
    have fG1 : G 1 = addP yl yh (negP (g1, g2)).1 (negP (g1, g2)).2 := hG 1
    have fF2 : F 2 = mulP xl xh yl yh := hF 2
    have fG2 : G 2 = mulP g1 g2 yl yh := hG 2
    have fF3 : F 3 = divP xl xh yl yh := hF 3
    have fG3 : G 3 = divP g1 g2 yl yh := hG 3
    have fF4 : F 4 = divP yl yh xl xh := hF 4
    have fG4 : G 4 = divP yl yh g1 g2 := hG 4
    have fF5 : F 5 = sqrP xl xh := hF 5
    have fG5 : G 5 = sqrP g1 g2 := hG 5
    have fF6 : F 6 = sqrtP xl xh := hF 6
    have fG6 : G 6 = sqrtP g1 g2 := hG 6
    have fF7 : F 7 = powP xl xh n := hF 7
    have fG7 : G 7 = powP g1 g2 n := hG 7
    have fF8 : F 8 = meetP xl xh yl yh := hF 8
    have fG8 : G 8 = meetP g1 g2 yl yh := hG 8
    clear hF hG
    refine grows_core xl xh yl yh ml mh g1 g2 (widP xl xh) (widP g1 g2) (magP xl xh) (magP g1 g2) (migP xl xh) (migP g1 g2) (fun i => (F i).1) (fun i => (F i).2) (fun i => (G i).1) (fun i => (G i).2) n ch r1 r2 r3 r4
      (fun w => by have q := Add_w xl xh yl yh h1 h2 h3 h4 w; rw [← fF0] at q; exact q) (fun w => by have q := Add_w g1 g2 yl yh gl.1 gl.2 h3 h4 w; rw [← fG0] at q; exact q) (fun w => by have q := Sub_w yl yh xl xh h3 h4 h1 h2 w; rw [← fF1] at q; exact q) (fun w => by have q := Sub_w yl yh g1 g2 h3 h4 gl.1 gl.2 w; rw [← fG1] at q; exact q) (fun w => by have q := Mul_w xl xh yl yh h1 h2 h3 h4 w; rw [← fF2] at q; exact q) (fun w => by have q := Mul_w g1 g2 yl yh gl.1 gl.2 h3 h4 w; rw [← fG2] at q; exact q) (fun w => by have q := Div_w xl xh yl yh h1 h2 h3 h4 w; rw [← fF3] at q; exact q) (fun w => by have q := Div_w g1 g2 yl yh gl.1 gl.2 h3 h4 w; rw [← fG3] at q; exact q) (fun w => by have q := Div_w yl yh xl xh h3 h4 h1 h2 w; rw [← fF4] at q; exact q) (fun w => by have q := Div_w yl yh g1 g2 h3 h4 gl.1 gl.2 w; rw [← fG4] at q; exact q) (fun w => by have q := Sqr_w xl xh h1 h2 w; rw [← fF5] at q; exact q) (fun w => by have q := Sqr_w g1 g2 gl.1 gl.2 w; rw [← fG5] at q; exact q) (fun w => by have q := Sqrt_w xl xh h1 h2 w; rw [← fF6] at q; exact q) (fun w => by have q := Sqrt_w g1 g2 gl.1 gl.2 w; rw [← fG6] at q; exact q) (fun w => by have q := Pow_w xl xh h1 h2 n w; rw [← fF7] at q; exact q) (fun w => by have q := Pow_w g1 g2 gl.1 gl.2 n w; rw [← fG7] at q; exact q) (fun w => by have q := meet_w xl xh yl yh h1 h2 h3 h4 w; rw [← fF8] at q; exact q) (fun w => by have q := meet_w g1 g2 yl yh gl.1 gl.2 h3 h4 w; rw [← fG8] at q; exact q) (fun i hi w => ?_) (fun i hi w => ?_) (fun i hi w => ?_) (fun w => ?_) (fun w => Wid_w xl xh h1 h2 w) (fun w => Wid_w g1 g2 gl.1 gl.2 w) (fun w => mag_w xl xh h1 h2 w) (fun w => mag_w g1 g2 gl.1 gl.2 w) (fun w => mig_w xl xh h1 h2 w) (fun w => mig_w g1 g2 gl.1 gl.2 w)
      (le (D h1 h2 S).1 (D gl.1 gl.2 T).1 (D h1 h2 S).2 (D gl.1 gl.2 T).2 (wid_le X)) (le (by omega) (by omega) n2 n4 mle.1) (le (by omega) (by omega) n3 n1 mle.2) w
    · have q := inside_w (F i).1 (F i).2 (G i).1 (G i).2 (W i hi).2.1.1 (W i hi).2.1.2 (W i hi).2.2.1 (W i hi).2.2.2 w
      rw [(W i hi).1.told.1] at q
      exact q
    · have q := refRight_w (F i).1 (F i).2 (W i hi).2.1.1 (W i hi).2.1.2 w
      rw [(W i hi).1.told.2.1] at q
      exact q
    · have q := refRight_w (G i).1 (G i).2 (W i hi).2.2.1 (W i hi).2.2.2 w
      rw [(W i hi).1.told.2.2] at q
      exact q
    · have q := inside_w xl xh g1 g2 h1 h2 gl.1 gl.2 w
      rw [inside_iff.2 fun _ => ⟨T, kl, kh⟩] at q
      exact q
  · exact grows_out xl xh yl yh ml mh _ _ n _ _ _ _ ch r1 r2 r3 r4 (by simpa using c) w


end Go.Proofs.Ytimcjmkjichgnaa
