/- Trimming: the program's needed. -/
import Derived.Test.YtfhccdpdjadepaaTp
namespace Go.Proofs.Ytfhccdpdjadepaa
open Go.ChangeShapes Go.WideShapes Go.ChangeAt Go.RowKit

theorem moved_w (o : Opw) (g n : Nat) (pl : Nat → Int) (hj : ∀ j, j < o.ar → 0 ≤ o.at j ∧ o.at j < (n : Int)) (w : World) (L : Cel w g n (fun i => .int .i64 (pl i))) :
    Calls Try.prog 16 #[.slice (some ⟨g, 0, none⟩) n n, o.val] w fun e w' => e = .returned (movO pl o).val ∧ Below w.heap.size w w' :=
  moved_core o _ g n _ _ w (fun w2 q => atOps_w o g n pl hj w2 (L.keep q)) rfl

set_option maxHeartbeats 2000000 in
theorem need_w (v : Int) (A : Option Addr) (n C : Nat) (D : Option Addr) (m E : Nat) (X : Nat → Opw) (Y : Nat → Int) (hn : n ≤ 4000) (hm : m ≤ 400)
    (hy : ∀ k, k < m → 0 ≤ Y k ∧ Y k < (n : Int)) (hx : ∀ i, i < n → ∀ j, j < (X i).ar → 0 ≤ (X i).at j ∧ (X i).at j < (n : Int)) (w : World) (VX : Ops w A n X) (VY : Ins w D m Y) :
    Calls Try.prog 15 #[tapeV v A n C D m E] w fun e w' => ∃ g, w.heap.size ≤ g ∧ e = .returned (.slice (some ⟨g, 0, none⟩) n n) ∧ Cel w' g n (fun i => .bool (needF X n Y m i)) ∧ Below w.heap.size w w' := by
  have HY : Hid (∀ k, k < m → 0 ≤ Y k ∧ Y k < (n : Int)) := hy
  have HX : Hid (∀ i, i < n → ∀ j, j < (X i).ar → 0 ≤ (X i).at j ∧ (X i).at j < (n : Int)) := hx
  clear hx hy
  unfold tapeV
  have e1 : (w.alloc (Obj.cells #[.int .i64 v, .slice A n C, .slice D m E] 25)).cell? ⟨w.heap.size, 1, none⟩ = some (.slice A n C) := by go_simp
  have e2 : (w.alloc (Obj.cells #[.int .i64 v, .slice A n C, .slice D m E] 25)).cell? ⟨w.heap.size, 2, none⟩ = some (.slice D m E) := by go_simp
  have es : w.heap.size < (w.alloc (Obj.cells #[.int .i64 v, .slice A n C, .slice D m E] 25)).heap.size := by go_size
  have eb : Below w.heap.size w (w.alloc (Obj.cells #[.int .i64 v, .slice A n C, .slice D m E] 25)) := by go_grown
  go_enter Try.func15, Try.ntmps15
  go_wp2_with (at_make; refine wpList_makeB (by rfl) _ _ (by rfl) n (by rfl) (by rfl) (by omega) ?_; intro w3 I hb3 hS3
               replace e1 := keepsC hb3 e1 es
               replace e2 := keepsC hb3 e2 es
               replace eb := later eb hb3
               simp only [World.size_alloc] at I hS3 es
               clear hb3)
  have hg : w.heap.size + 1 ≠ w.heap.size := by omega
  obtain ⟨g, hgg⟩ : ∃ g, g = w.heap.size + 1 := ⟨_, rfl⟩
  rw [← hgg] at I hS3 hg ⊢
  have hg2 : w.heap.size ≤ g := by omega
  have hne : w.heap.size ≠ g := fun e => hg e.symm
  clear hgg es
  go_loopg [16] m (fun G s16 wx => ∃ i : Nat, i + G = m ∧ s16 = .int .i64 (i : Int) ∧ Below w.heap.size w wx ∧ wx.cell? ⟨w.heap.size, 1, none⟩ = some (.slice A n C) ∧ w.heap.size < wx.heap.size ∧ Cel wx g n (fun j => .bool (outN Y i j)))
  case atStart => exact ⟨0, by omega, rfl, eb, e1, by omega, I⟩
  case round =>
    clear e1 e2 eb I hS3
    obtain ⟨i, hi, rfl, HB, e1, es, I⟩ := hrel
    by_cases ci : i = m
    · subst ci
      clear VY HY
      go_wp2_with fail
      go_loopg [6] n (fun G s6 wx => ∃ (d : Nat) (z : Int), d + G = n ∧ z = (n : Int) - 1 - (d : Int) ∧ s6 = .int .i64 z ∧ Below w.heap.size w wx ∧ wx.cell? ⟨w.heap.size, 1, none⟩ = some (.slice A n C) ∧ w.heap.size < wx.heap.size ∧ Cel wx g n (fun j => .bool (backN X n (outN Y i) d j)))
      case atStart => exact ⟨0, (n : Int) - 1, by omega, by omega, by first | rfl | go_num, HB, e1, es, I⟩
      case round =>
        clear HB e1 es I
        obtain ⟨d, z, hd, hz, rfl, HB, e1, es, I⟩ := hrel
        by_cases cd : d = n
        · have hz0 : ¬ (0 : Int) ≤ z := by omega
          rw [cd] at I
          go_wp2_with fail
          go_ret
          exact ⟨g, hg2, rfl, I, HB⟩
        · obtain ⟨t, rfl⟩ : ∃ t : Nat, z = (t : Int) := ⟨z.toNat, by omega⟩
          have ht : t = n - 1 - d := by omega
          have htn : (t : Int) < (n : Int) := by omega
          have hz0 : (0 : Int) ≤ (t : Int) := by omega
          obtain ⟨c0, -⟩ := I.2 t (by omega)
          dsimp only at c0
          have gl := I.1
          have hstep : Hid (backN X n (outN Y i) (d + 1) = if backN X n (outN Y i) d t then opN (X t) (backN X n (outN Y i) d) (X t).ar else backN X n (outN Y i) d) := by rw [ht]; exact Eq.refl _
          have HZ : Hid ((t : Int) = (n : Int) - 1 - (d : Int)) := hz
          clear ht hz
          have hcase : backN X n (outN Y i) d t = true ∨ backN X n (outN Y i) d t = false := by cases backN X n (outN Y i) d t <;> simp
          rcases hcase with hq | hq
          · rw [hq] at c0
            have hst : Hid (backN X n (outN Y i) (d + 1) = opN (X t) (backN X n (outN Y i) d) (X t).ar) := Eq.trans hstep (if_pos hq)
            obtain ⟨b, o, hA, hb, x0, x1, x2, x3, x4, x5, -, -⟩ := (VX.keep HB) t (by omega)
            have co := fun w => operands_w (X t) w
            have hLe : (arI (X t).k).toNat = (X t).ar := rfl
            rw [hLe] at co
            have hop := HX t (by omega)
            unfold Opw.val at co
            subst hA
            clear hq hstep hLe
            have hL2 : (X t).ar ≤ 2 := by have := ar_le (X t).k; unfold Opw.ar; omega
            have HO : Hid (∀ j, j < (X t).ar → 0 ≤ (X t).at j ∧ (X t).at j < (n : Int)) := hop
            clear hop
            obtain ⟨s0, hs0⟩ : ∃ s0, s0 = backN X n (outN Y i) d := ⟨_, rfl⟩
            rw [← hs0] at I hst
            clear hs0
            generalize hL : (X t).ar = L at *
            go_wp2_with (go_at_call 24; with_reducible refine (co _).mono ?_; rintro _ w4 ⟨⟨B, hB0, hB1, rfl, k0, k1⟩, hb4⟩; replace e1 := keepsC hb4 e1 es; replace es := Nat.lt_of_lt_of_le es hb4.size; replace I := I.keep hb4; replace HB := later HB hb4)
            have gB : g ≠ B := by have := I.1; omega
            have kk : ∀ j, j < L → w4.cell? ⟨B, j, none⟩ = some (.int .i64 ((X t).at j)) := by
              intro j hj
              have : j = 0 ∨ j = 1 := by omega
              rcases this with rfl | rfl
              · exact k0
              · exact k1
            clear co hb4 k0 k1 x0 x1 x2 x3 x4 x5 c0
            go_loopg [44] L (fun G s44 wy => ∃ j : Nat, j + G = L ∧ s44 = .int .i64 (j : Int) ∧ Below w.heap.size w wy ∧ wy.cell? ⟨w.heap.size, 1, none⟩ = some (.slice (some ⟨b, o, none⟩) n C) ∧ w.heap.size < wy.heap.size ∧ Cel wy g n (fun q => .bool (opN (X t) s0 j q)) ∧ Hid (∀ q, q < L → wy.cell? ⟨B, q, none⟩ = some (.int .i64 ((X t).at q))))
            case atStart => exact ⟨0, by omega, rfl, HB, e1, es, I, kk⟩
            case round =>
              clear HB e1 es I kk hB1 hB0
              obtain ⟨j, hj, rfl, HB, e1, es, I, kk⟩ := hrel
              by_cases cj : j = L
              · rw [cj] at I
                subst cj
                go_wp2_with fail
                go_roundg (n - d - 1)
                case measure => omega
                case rel => exact ⟨d + 1, (t : Int) - 1, by omega, by have hz : (t : Int) = (n : Int) - 1 - (d : Int) := HZ; omega, by first | rfl | go_num, HB, e1, es, by rw [show backN X n (outN Y i) (d + 1) = _ from hst]; exact I⟩
              · have hlt : (j : Int) < (L : Int) := by omega
                have kj := kk j (by omega)
                obtain ⟨y0, y1⟩ := HO j (by omega)
                obtain ⟨c0, c1⟩ := I.2 ((X t).at j).toNat (by omega)
                have gl := I.1
                have K2 : Hid (∀ q, q < L → wr.cell? ⟨B, q, none⟩ = some (.int .i64 ((X t).at q))) := kk
                clear kk
                go_wp2_with fail
                go_roundg (L - j - 1)
                case measure => omega
                case rel =>
                  refine ⟨j + 1, by omega, by go_num, Below.setCell HB hg2 _, ?_, ?_, ?_, ?_⟩
                  · simp [World.cell?_setCell_far, *]
                  · simp only [World.size_setCell]; exact es
                  · refine (I.set ((X t).at j).toNat (.bool true) (by omega)).congr fun q hq => ?_
                    show (if q = ((X t).at j).toNat then Value.bool true else Value.bool (opN (X t) s0 j q)) = Value.bool (setN (opN (X t) s0 j) ((X t).at j).toNat q)
                    unfold setN
                    split <;> rfl
                  · exact fun q hq => (World.cell?_setCell_far _ _ _ _ gB).trans (K2 q hq)
          · rw [hq] at c0
            have hst : Hid (backN X n (outN Y i) (d + 1) = backN X n (outN Y i) d) := Eq.trans hstep (if_neg (by rw [hq]; simp))
            clear hq hstep
            go_wp2_with fail
            go_roundg (n - d - 1)
            case measure => omega
            case rel => exact ⟨d + 1, (t : Int) - 1, by omega, by have hz : (t : Int) = (n : Int) - 1 - (d : Int) := HZ; omega, by first | rfl | go_num, HB, e1, es, by rw [show backN X n (outN Y i) (d + 1) = _ from hst]; exact I⟩
    · have hlt : (i : Int) < (m : Int) := by omega
      obtain ⟨b, o, hA, hb, x0⟩ := (VY.keep HB) i (by omega)
      obtain ⟨y0, y1⟩ := HY i (by omega)
      obtain ⟨c0, c1⟩ := I.2 (Y i).toNat (by omega)
      have gl := I.1
      subst hA
      go_wp2_with fail
      go_roundg (m - i - 1)
      case measure => omega
      case rel =>
        refine ⟨i + 1, by omega, by go_num, ?_, ?_, ?_, ?_⟩
        · exact Below.setCell HB hg2 _
        · simp [World.cell?_setCell_far, *]
        · simp only [World.size_setCell]; exact es
        · refine (I.set (Y i).toNat (.bool true) (by omega)).congr fun j hj => ?_
          show (if j = (Y i).toNat then Value.bool true else Value.bool (outN Y i j)) = Value.bool (setN (outN Y i) (Y i).toNat j)
          unfold setN
          split <;> rfl

end Go.Proofs.Ytfhccdpdjadepaa
