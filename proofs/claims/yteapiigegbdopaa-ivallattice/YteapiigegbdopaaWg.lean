/- The walk of product: the exact product of two amounts, with a mark for what is lost. -/
import Derived.Test.YteapiigegbdopaaWe
import Derived.Deep.RegionHeld3
import Derived.Deep.CutRange
namespace Go.Proofs.Yteapiigegbdopaa
open Go.ChangeShapes Go.WideShapes Go.ChangeAt Go.RowKit

theorem keepsC {W0 w2 : World} (hb : Below W0.heap.size W0 w2) {b o : Nat} {v : Value} (hc : W0.cell? ⟨b, o, none⟩ = some v) (hlt : b < W0.heap.size) : w2.cell? ⟨b, o, none⟩ = some v := (hb.cell hlt).trans hc
theorem keepsF {W0 w2 : World} (hb : Below W0.heap.size W0 w2) {b o : Nat} {v : Bool} (hc : W0.frozen? ⟨b, o, none⟩ = v) (hlt : b < W0.heap.size) : w2.frozen? ⟨b, o, none⟩ = v := (hb.frozen hlt).trans hc

/-- Three cells of a block, that may be written. -/
def Has3 (w : World) (b : Nat) (x y z : Value) : Prop := w.cell? ⟨b, 0, none⟩ = some x ∧ w.cell? ⟨b, 1, none⟩ = some y ∧ w.cell? ⟨b, 2, none⟩ = some z ∧ w.frozen? ⟨b, 0, none⟩ = false ∧ w.frozen? ⟨b, 1, none⟩ = false ∧ w.frozen? ⟨b, 2, none⟩ = false ∧ b < w.heap.size

theorem Has3.keep {W0 w2 : World} {b : Nat} {x y z : Value} (h : Has3 W0 b x y z) (hb : Below W0.heap.size W0 w2) : Has3 w2 b x y z := by
  obtain ⟨h0, h1, h2, f0, f1, f2, hl⟩ := h
  exact ⟨keepsC hb h0 hl, keepsC hb h1 hl, keepsC hb h2 hl, keepsF hb f0 hl, keepsF hb f1 hl, keepsF hb f2 hl, Nat.lt_of_lt_of_le hl hb.size⟩

theorem has_new3 (T : TypeId) (w : World) (x1 y1 z1 x2 y2 z2 x3 y3 z3 : Value) :
    Has3 (((w.alloc (.cells #[x1, y1, z1] T)).alloc (.cells #[x2, y2, z2] T)).alloc (.cells #[x3, y3, z3] T)).drew w.heap.size x1 y1 z1 ∧
    Has3 (((w.alloc (.cells #[x1, y1, z1] T)).alloc (.cells #[x2, y2, z2] T)).alloc (.cells #[x3, y3, z3] T)).drew (w.heap.size + 1) x2 y2 z2 ∧
    Has3 (((w.alloc (.cells #[x1, y1, z1] T)).alloc (.cells #[x2, y2, z2] T)).alloc (.cells #[x3, y3, z3] T)).drew (w.heap.size + 1 + 1) x3 y3 z3 ∧
    Below w.heap.size w (((w.alloc (.cells #[x1, y1, z1] T)).alloc (.cells #[x2, y2, z2] T)).alloc (.cells #[x3, y3, z3] T)).drew := by
  refine ⟨⟨by go_simp, by go_simp, by go_simp, by go_simp, by go_simp, by go_simp, ?_⟩, ⟨by go_simp, by go_simp, by go_simp, by go_simp, by go_simp, by go_simp, ?_⟩, ⟨by go_simp, by go_simp, by go_simp, by go_simp, by go_simp, by go_simp, ?_⟩, by go_grown⟩
  · show w.heap.size < ((((w.alloc _).alloc _).alloc _).drew).heap.size
    simp only [World.size_drew, World.size_alloc]; omega
  · show w.heap.size + 1 < ((((w.alloc _).alloc _).alloc _).drew).heap.size
    simp only [World.size_drew, World.size_alloc]; omega
  · show w.heap.size + 1 + 1 < ((((w.alloc _).alloc _).alloc _).drew).heap.size
    simp only [World.size_drew, World.size_alloc]; omega

/-- A struct of three cells is stored. -/
def put3 (w : World) (b : Nat) (x y z : Value) : World := ((w.setCell ⟨b, 0, none⟩ x).setCell ⟨b, 1, none⟩ y).setCell ⟨b, 2, none⟩ z

theorem Has3.put {w : World} {b : Nat} {x y z : Value} (h : Has3 w b x y z) (x' y' z' : Value) : Has3 (((w.setCell ⟨b, 0, none⟩ x').setCell ⟨b, 1, none⟩ y').setCell ⟨b, 2, none⟩ z') b x' y' z' := by
  obtain ⟨h0, h1, h2, f0, f1, f2, hl⟩ := h
  refine ⟨by go_simp, by go_simp, by go_simp, by go_simp, by go_simp, by go_simp, ?_⟩
  simp only [World.size_setCell]; exact hl

theorem Has3.far {w : World} {b c : Nat} {x y z : Value} (h : Has3 w b x y z) (hne : c ≠ b) (x' y' z' : Value) : Has3 (((w.setCell ⟨c, 0, none⟩ x').setCell ⟨c, 1, none⟩ y').setCell ⟨c, 2, none⟩ z') b x y z := by
  obtain ⟨h0, h1, h2, f0, f1, f2, hl⟩ := h
  have hne' : b ≠ c := fun e => hne e.symm
  refine ⟨by simp [World.cell?_setCell_far, *], by simp [World.cell?_setCell_far, *], by simp [World.cell?_setCell_far, *], by go_simp, by go_simp, by go_simp, ?_⟩
  simp only [World.size_setCell]; exact hl

set_option maxHeartbeats 4000000 in
theorem product_core (gp gq : Bool) (mp mq np nq hi lo k : Nat) (ep eq fp fq : Int) (hfp : -5000 ≤ fp ∧ fp ≤ 5000) (hfq : -5000 ≤ fq ∧ fq ≤ 5000)
    (hn1 : ∀ w, Calls Try.prog 76 #[.agg #[.bool gp, .int .u64 mp, .int .i64 ep]] w fun r w' => r = .returned (.agg #[.bool gp, .int .u64 np, .int .i64 fp]) ∧ Below w.heap.size w w')
    (hn2 : ∀ w, Calls Try.prog 76 #[.agg #[.bool gq, .int .u64 mq, .int .i64 eq]] w fun r w' => r = .returned (.agg #[.bool gq, .int .u64 nq, .int .i64 fq]) ∧ Below w.heap.size w w')
    (hml : ∀ w, Calls Try.prog 80 #[.int .u64 np, .int .u64 nq] w fun r w' => r = .returned (.tuple #[.int .u64 hi, .int .u64 lo]) ∧ w = w')
    (hmk : ∀ w, Calls Try.prog 81 #[.int .u64 hi, .bool ((lo : Int) != 0)] w fun r w' => r = .returned (.int .u64 k) ∧ w = w') (w : World) :
    Calls Try.prog 52 #[.agg #[.bool gp, .int .u64 mp, .int .i64 ep], .agg #[.bool gq, .int .u64 mq, .int .i64 eq]] w fun r w' => r = .returned (.agg #[.bool (gp != gq), .int .u64 k, .int .i64 (fp + fq + 64)]) ∧ Below w.heap.size w w' := by
  go_enter Try.func52, Try.ntmps52
  go_upto_region 1 with fail
  go_cut [] from 7 to 10 (fun wx => Below w.heap.size w wx ∧ Has3 wx w.heap.size (.bool gp) (.int .u64 np) (.int .i64 fp) ∧ Has3 wx (w.heap.size + 1) (.bool gq) (.int .u64 nq) (.int .i64 fq) ∧ Has3 wx (w.heap.size + 1 + 1) (.bool false) (.int .u64 0) (.int .i64 0))
  case first =>
    obtain ⟨hA, hB, hC, hS⟩ := has_new3 48 w (.bool gp) (.int .u64 mp) (.int .i64 ep) (.bool gq) (.int .u64 mq) (.int .i64 eq) (.bool false) (.int .u64 0) (.int .i64 0)
    go_region_with (first
      | (go_at_call_of 76 (Value.agg #[.bool gp, .int .u64 mp, .int .i64 ep]); refine (hn1 _).mono ?_; rintro _ w1 ⟨rfl, hb1⟩; have c10 : w1.cell? ⟨w.heap.size + 1, 0, none⟩ = some (.bool gq) := (hb1.cell (by simp)).trans (by go_simp); have c11 : w1.cell? ⟨w.heap.size + 1, 1, none⟩ = some (.int .u64 mq) := (hb1.cell (by simp)).trans (by go_simp); have c12 : w1.cell? ⟨w.heap.size + 1, 2, none⟩ = some (.int .i64 eq) := (hb1.cell (by simp)).trans (by go_simp))
      | (go_at_call_of 76 (Value.agg #[.bool gq, .int .u64 mq, .int .i64 eq]); refine (hn2 _).mono ?_; rintro _ w2 ⟨rfl, hb2⟩;
         obtain ⟨x0, x1, x2, x3, x4, x5, x6⟩ := (hA.keep hb1).keep hb2; obtain ⟨y0, y1, y2, y3, y4, y5, y6⟩ := (hB.keep hb1).keep hb2))
    all_goals
      go_wp2_with fail
      go_meet
      case rel =>
        refine ⟨?_, (((hA.keep hb1).keep hb2).put _ _ _).far (by omega) _ _ _, ((((hB.keep hb1).keep hb2).far (by omega) _ _ _).put _ _ _), ((((hC.keep hb1).keep hb2).far (by omega) _ _ _).far (by omega) _ _ _)⟩
        have hT := later (later hS hb1) hb2
        repeat' (first | (with_reducible exact hT) | (with_reducible refine Below.setCell ?_ ?_ _) | go_size)
  case rest =>
  have ne1 : w.heap.size + 1 + 1 ≠ w.heap.size := by omega
  have ne2 : w.heap.size ≠ w.heap.size + 1 + 1 := by omega
  obtain ⟨hb, ⟨a0, a1, a2, b0, b1, b2, bl⟩, ⟨c0, c1, c2, d0, d1, d2, dl⟩, ⟨e0, e1, e2, f0, f1, f2, fl⟩⟩ := hcut
  go_wp2_with (first | (go_at_call 80; refine (hml _).mono ?_; rintro _ _ ⟨rfl, rfl⟩))
  go_region_held3 (fun w' => w'.cell? ⟨w.heap.size, 0, none⟩ = some (.bool gp) ∧ w'.cell? ⟨w.heap.size, 2, none⟩ = some (.int .i64 fp) ∧ w'.cell? ⟨w.heap.size + 1, 0, none⟩ = some (.bool gq) ∧ w'.cell? ⟨w.heap.size + 1, 2, none⟩ = some (.int .i64 fq)) (go_keep)
    (first | (go_at_call 81; refine (hmk _).mono ?_; rintro _ _ ⟨rfl, rfl⟩))
  all_goals go_wp2_with fail
  all_goals
    have hw1 : IntKind.i64.wrap (IntKind.i64.wrap (fp + fq) + 64) = fp + fq + 64 := by rw [IntKind.wrap_i64, IntKind.wrap_i64]; omega
    rw [hw1]
    refine bodyPost_ret (v := .agg #[.bool (!(gp == gq)), .int .u64 k, .int .i64 (fp + fq + 64)]) (by simp [results, Try.results52, go_sem, e0, e1, e2]) rfl ⟨rfl, ?_⟩
    refine Below.drew ?_
    repeat' (first | (with_reducible exact hb) | (with_reducible refine Below.setCell ?_ ?_ _) | go_size)

/-- The exact product's amount, its last bit a mark for what is lost; its exponent. -/
def prodM (mp mq : Nat) : Nat := markN (topN mp * topN mq / 18446744073709551616) (decide (topN mp * topN mq % 18446744073709551616 ≠ 0))
def prodE (mp : Nat) (ep : Int) (mq : Nat) (eq : Int) : Int := (ep - shiftN mp) + (eq - shiftN mq) + 64

theorem product_w (gp gq : Bool) (mp mq : Nat) (ep eq : Int) (z1 : mp ≠ 0) (z2 : mq ≠ 0) (h1 : mp < 18446744073709551616) (h2 : mq < 18446744073709551616) (he1 : -2000 ≤ ep ∧ ep ≤ 2000) (he2 : -2000 ≤ eq ∧ eq ≤ 2000) (w : World) :
    Calls Try.prog 52 #[.agg #[.bool gp, .int .u64 mp, .int .i64 ep], .agg #[.bool gq, .int .u64 mq, .int .i64 eq]] w fun r w' => r = .returned (.agg #[.bool (gp != gq), .int .u64 (prodM mp mq), .int .i64 (prodE mp ep mq eq)]) ∧ Below w.heap.size w w' := by
  have b1 := topN_bounds z1 h1
  have b2 := topN_bounds z2 h2
  have s1 : shiftN mp ≤ 63 := by unfold shiftN; omega
  have s2 : shiftN mq ≤ 63 := by unfold shiftN; omega
  refine product_core gp gq mp mq (topN mp) (topN mq) _ _ _ ep eq (ep - shiftN mp) (eq - shiftN mq) (by omega) (by omega) (fun w => normal_w gp mp ep z1 h1 (by omega) (by omega) w) (fun w => normal_w gq mq eq z2 h2 (by omega) (by omega) w) (fun w => mul64_w _ _ b1.2 b2.2 w) (fun w => ?_) w
  have hlt : topN mp * topN mq / 18446744073709551616 < 18446744073709551616 := Nat.div_lt_of_lt_mul (Nat.mul_lt_mul'' b1.2 b2.2)
  have hm := mark_w (topN mp * topN mq / 18446744073709551616) (decide (topN mp * topN mq % 18446744073709551616 ≠ 0)) hlt w
  have e : (((topN mp * topN mq % 18446744073709551616 : Nat) : Int) != 0) = decide (topN mp * topN mq % 18446744073709551616 ≠ 0) := by
    rw [Bool.eq_iff_iff]; simp only [bne_iff_ne, ne_eq, decide_eq_true_eq]; omega
  rw [e]
  exact hm

end Go.Proofs.Yteapiigegbdopaa
