/- The walk of root: the exact root of an amount, with a mark for what is lost. -/
import Derived.Test.YteapiigegbdopaaWi
import Derived.Test.YteapiigegbdopaaWj
namespace Go.Proofs.Yteapiigegbdopaa
open Go.ChangeShapes Go.WideShapes Go.ChangeAt Go.RowKit

theorem has_new2 (T : TypeId) (w : World) (x1 y1 z1 x2 y2 z2 : Value) :
    Has3 ((w.alloc (.cells #[x1, y1, z1] T)).alloc (.cells #[x2, y2, z2] T)) w.heap.size x1 y1 z1 ∧
    Has3 ((w.alloc (.cells #[x1, y1, z1] T)).alloc (.cells #[x2, y2, z2] T)) (w.heap.size + 1) x2 y2 z2 ∧
    Below w.heap.size w ((w.alloc (.cells #[x1, y1, z1] T)).alloc (.cells #[x2, y2, z2] T)) := by
  refine ⟨⟨by go_simp, by go_simp, by go_simp, by go_simp, by go_simp, by go_simp, ?_⟩, ⟨by go_simp, by go_simp, by go_simp, by go_simp, by go_simp, by go_simp, ?_⟩, by go_grown⟩
  · show w.heap.size < (((w.alloc _).alloc _)).heap.size
    simp only [World.size_alloc]; omega
  · show w.heap.size + 1 < (((w.alloc _).alloc _)).heap.size
    simp only [World.size_alloc]; omega

set_option maxHeartbeats 400000 in
theorem root_core (gp : Bool) (mp np mm m k : Nat) (ex : Bool) (ep fp ff h : Int) (hfp : -5000 ≤ fp ∧ fp ≤ 5000) (hff : -5000 ≤ ff ∧ ff ≤ 5000) (hh : ff = 2 * h)
    (hn1 : ∀ w, Calls Try.prog 76 #[.agg #[.bool gp, .int .u64 mp, .int .i64 ep]] w fun r w' => r = .returned (.agg #[.bool gp, .int .u64 np, .int .i64 fp]) ∧ Below w.heap.size w w')
    (hpar : (bits .and .i64 fp 1 != 0) = true ∧ (np : Int) / 2 = (mm : Int) ∧ fp + 1 = ff ∨ (bits .and .i64 fp 1 != 0) = false ∧ np = mm ∧ fp = ff)
    (hrt : ∀ w, Calls Try.prog 82 #[.int .u64 mm] w fun x w' => x = .returned (.tuple #[.int .u64 m, .bool ex]) ∧ Below w.heap.size w w')
    (hmk : ∀ w, Calls Try.prog 81 #[.int .u64 m, .bool (!ex)] w fun x w' => x = .returned (.int .u64 k) ∧ w = w') (w : World) :
    Calls Try.prog 53 #[.agg #[.bool gp, .int .u64 mp, .int .i64 ep]] w fun r w' => r = .returned (.agg #[.bool false, .int .u64 k, .int .i64 (h - 32)]) ∧ Below w.heap.size w w' := by
  obtain ⟨hA, hB, hS⟩ := has_new2 48 w (.bool gp) (.int .u64 mp) (.int .i64 ep) (.bool false) (.int .u64 0) (.int .i64 0)
  have hdiv : IntKind.i64.wrap (IntKind.i64.wrap (ff.tdiv 2) - 32) = h - 32 := by
    subst hh
    rw [Int.mul_tdiv_cancel_left _ (by decide), IntKind.wrap_i64, IntKind.wrap_i64]; omega
  clear hh
  go_enter Try.func53, Try.ntmps53
  go_upto_if 10 with (first
    | (go_at_call 76; refine (hn1 _).mono ?_; rintro _ w1 ⟨rfl, hb1⟩; obtain ⟨x0, x1, x2, x3, x4, x5, x6⟩ := hA.keep hb1; obtain ⟨y0, y1, y2, y3, y4, y5, y6⟩ := hB.keep hb1))
  have hS1 := later hS hb1
  have hA1 := (hA.keep hb1).put (.bool gp) (.int .u64 np) (.int .i64 fp)
  have hB1 := (hB.keep hb1).far (show w.heap.size ≠ w.heap.size + 1 by omega) (.bool gp) (.int .u64 np) (.int .i64 fp)
  have hS2 : Below w.heap.size w (((w1.setCell ⟨w.heap.size, 0, none⟩ (.bool gp)).setCell ⟨w.heap.size, 1, none⟩ (.int .u64 np)).setCell ⟨w.heap.size, 2, none⟩ (.int .i64 fp)) := by
    repeat' (first | (with_reducible exact hS1) | (with_reducible refine Below.setCell ?_ ?_ _) | go_size)
  clear x0 x1 x2 x3 x4 x5 x6 y0 y1 y2 y3 y4 y5 y6 hA hB hS hS1 hb1
  generalize (((w1.setCell ⟨w.heap.size, 0, none⟩ (.bool gp)).setCell ⟨w.heap.size, 1, none⟩ (.int .u64 np)).setCell ⟨w.heap.size, 2, none⟩ (.int .i64 fp)) = wy at *
  go_cut [] from 7 to 18 (fun wx => Below w.heap.size w wx ∧ wx.cell? ⟨w.heap.size, 1, none⟩ = some (.int .u64 mm) ∧ wx.cell? ⟨w.heap.size, 2, none⟩ = some (.int .i64 ff) ∧ w.heap.size < wx.heap.size ∧ Has3 wx (w.heap.size + 1) (.bool false) (.int .u64 0) (.int .i64 0))
  case first =>
    clear hn1 hrt hmk hdiv
    obtain ⟨x0, x1, x2, x3, x4, x5, x6⟩ := hA1
    rcases hpar with ⟨h1, h2, h3⟩ | ⟨h1, h2, h3⟩
    · go_wp2_with fail
      go_meet
      refine ⟨?_, by go_simp, by go_simp, by simp only [World.size_setCell]; exact x6, ?_⟩
      · repeat' (first | (with_reducible exact hS2) | (with_reducible refine Below.setCell ?_ ?_ _) | go_size)
      · obtain ⟨y0, y1, y2, y3, y4, y5, y6⟩ := hB1
        have ne1 : w.heap.size ≠ w.heap.size + 1 := by omega
        have ne2 : w.heap.size + 1 ≠ w.heap.size := by omega
        refine ⟨by simp [World.cell?_setCell_far, *], by simp [World.cell?_setCell_far, *], by simp [World.cell?_setCell_far, *], by go_simp, by go_simp, by go_simp, ?_⟩
        simp only [World.size_setCell]; exact y6
    · subst h2 h3
      go_wp2_with fail
      go_meet
      exact ⟨hS2, x1, x2, x6, hB1⟩
  case rest =>
  obtain ⟨hb, a1, a2, al, hC⟩ := hcut
  clear hn1 hpar hB1 hS2 hA1
  go_wp2_with (first | (go_at_call 82; refine (hrt _).mono ?_; rintro _ w2 ⟨rfl, hb2⟩))
  have b2 := keepsC hb2 a2 al
  have hD := hC.keep hb2
  have hT := later hb hb2
  clear a1 a2 al hC hb2 hb hrt
  obtain ⟨e0, e1, e2, f0, f1, f2, fl⟩ := hD
  have ne1 : w.heap.size ≠ w.heap.size + 1 := by omega
  have ne2 : w.heap.size + 1 ≠ w.heap.size := by omega
  go_region_held3 (fun w' => w'.cell? ⟨w.heap.size, 2, none⟩ = some (.int .i64 ff)) (go_keep)
    (first | (go_at_call 81; refine (hmk _).mono ?_; rintro _ _ ⟨rfl, rfl⟩))
  all_goals go_wp2_with fail
  all_goals
    refine bodyPost_ret (v := .agg #[.bool false, .int .u64 k, .int .i64 (h - 32)]) (by simp [results, Try.results53, go_sem, e0, e1, e2]) rfl ⟨rfl, ?_⟩
    repeat' (first | (with_reducible exact hT) | (with_reducible refine Below.drew ?_) | (with_reducible refine Below.setCell ?_ ?_ _) | go_size)

end Go.Proofs.Yteapiigegbdopaa
