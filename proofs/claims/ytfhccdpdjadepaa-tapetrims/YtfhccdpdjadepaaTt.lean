/- Trimming: the reference's needed. -/
import Derived.Test.YtfhccdpdjadepaaTs
namespace Go.Proofs.Ytfhccdpdjadepaa
open Go.ChangeShapes Go.WideShapes Go.ChangeAt Go.RowKit

def bI (b : Bool) : Int := if b then 1 else 0

theorem cel_one {w : World} {g n j : Nat} {s : Nat → Bool} (h : Cel w g n (fun i => .int .i64 (bI (s i)))) (hj : j < n) : Cel (w.setCell ⟨g, j, none⟩ (.int .i64 1)) g n (fun i => .int .i64 (bI (setN s j i))) := by
  refine (h.set j (.int .i64 1) hj).congr fun i _ => ?_
  unfold setN
  by_cases e : i = j
  · simp [e, bI]
  · simp [e]

set_option maxHeartbeats 2000000 in
theorem rneed_w (v : Int) (A : Option Addr) (n C : Nat) (D : Option Addr) (m E : Nat) (X : Nat → Opw) (Y : Nat → Int) (hn : n ≤ 4000) (hm : m ≤ 400)
    (hy : ∀ k, k < m → 0 ≤ Y k ∧ Y k < (n : Int)) (hx : ∀ i, i < n → ∀ j, j < (X i).ar → 0 ≤ (X i).at j ∧ (X i).at j < (i : Int)) (hk : ∀ i, i < n → rarI (X i).k = arI (X i).k) (w : World) (VX : Ops w A n X) (VY : Ins w D m Y) :
    Calls Try.prog 18 #[tapeV v A n C D m E] w fun e w' => ∃ g, w.heap.size ≤ g ∧ e = .returned (.slice (some ⟨g, 0, none⟩) n n) ∧ Cel w' g n (fun i => .int .i64 (bI (needF X n Y m i))) ∧ Below w.heap.size w w' := by
  have HY : Hid (∀ k, k < m → 0 ≤ Y k ∧ Y k < (n : Int)) := hy
  have HX : Hid (∀ i, i < n → ∀ j, j < (X i).ar → 0 ≤ (X i).at j ∧ (X i).at j < (i : Int)) := hx
  have HK : Hid (∀ i, i < n → rarI (X i).k = arI (X i).k) := hk
  clear hx hy hk
  unfold tapeV
  have e1 : (w.alloc (Obj.cells #[.int .i64 v, .slice A n C, .slice D m E] 25)).cell? ⟨w.heap.size, 1, none⟩ = some (.slice A n C) := by go_simp
  have e2 : (w.alloc (Obj.cells #[.int .i64 v, .slice A n C, .slice D m E] 25)).cell? ⟨w.heap.size, 2, none⟩ = some (.slice D m E) := by go_simp
  have es : w.heap.size < (w.alloc (Obj.cells #[.int .i64 v, .slice A n C, .slice D m E] 25)).heap.size := by go_size
  have eb : Below w.heap.size w (w.alloc (Obj.cells #[.int .i64 v, .slice A n C, .slice D m E] 25)) := by go_grown
  go_enter Try.func18, Try.ntmps18
  go_wp2_with (at_make; refine wpList_makeN (by rfl) _ _ (by rfl) n (by rfl) (by rfl) (by omega) ?_; intro w3 I hb3 hS3
               replace e1 := keepsC hb3 e1 es
               replace e2 := keepsC hb3 e2 es
               replace eb := later eb hb3
               simp only [World.size_alloc] at I hS3 es
               clear hb3)
  have hg : w.heap.size + 1 ≠ w.heap.size := by omega
  obtain ⟨g, hgg⟩ : ∃ g, g = w.heap.size + 1 := ⟨_, rfl⟩
  rw [← hgg] at I hS3 hg ⊢
  have hg2 : w.heap.size ≤ g := by omega
  have hne : w.heap.size ≠ g := fun e => hg e.symm
  clear hgg es
  replace I : Cel w3 g n (fun j => .int .i64 (bI (outN Y 0 j))) := I
  go_loopg [15] m (fun G s15 wx => ∃ i : Nat, i + G = m ∧ s15 = .int .i64 (i : Int) ∧ Below w.heap.size w wx ∧ wx.cell? ⟨w.heap.size, 1, none⟩ = some (.slice A n C) ∧ w.heap.size < wx.heap.size ∧ Cel wx g n (fun j => .int .i64 (bI (outN Y i j))))
  case atStart => exact ⟨0, by omega, rfl, eb, e1, by omega, I⟩
  case round =>
    clear e1 e2 eb I hS3
    obtain ⟨i, hi, rfl, HB, e1, es, I⟩ := hrel
    by_cases ci : i = m
    · subst ci
      clear VY HY
      go_wp2_with fail
      go_loopg [6] n (fun G s6 wx => ∃ (d : Nat) (z : Int), d + G = n ∧ z = (n : Int) - 1 - (d : Int) ∧ s6 = .int .i64 z ∧ Below w.heap.size w wx ∧ wx.cell? ⟨w.heap.size, 1, none⟩ = some (.slice A n C) ∧ w.heap.size < wx.heap.size ∧ Cel wx g n (fun j => .int .i64 (bI (backN X n (outN Y i) d j))))
      case atStart => exact ⟨0, (n : Int) - 1, by omega, by omega, by first | rfl | go_num, HB, e1, es, I⟩
      case round =>
        clear HB e1 es I
        obtain ⟨d, z, hd, hz, rfl, HB, e1, es, I⟩ := hrel
        by_cases cd : d = n
        · have hz0 : ¬ (0 : Int) ≤ z := by omega
          rw [cd] at I
          go_wp2_with fail
          go_ret
          exact ⟨g, hg2, rfl, I, HB⟩
        · obtain ⟨t, rfl⟩ : ∃ t : Nat, z = (t : Int) := ⟨z.toNat, by omega⟩
          have ht : t = n - 1 - d := by omega
          have htn : (t : Int) < (n : Int) := by omega
          have hz0 : (0 : Int) ≤ (t : Int) := by omega
          have hstep : Hid (backN X n (outN Y i) (d + 1) = if backN X n (outN Y i) d t then opN (X t) (backN X n (outN Y i) d) (X t).ar else backN X n (outN Y i) d) := by rw [ht]; exact Eq.refl _
          have HZ : Hid ((t : Int) = (n : Int) - 1 - (d : Int)) := hz
          clear ht hz
          obtain ⟨c0, -⟩ := I.2 t (by omega)
          dsimp only at c0
          have gl := I.1
          obtain ⟨b, o, hA, hb, x0, x1, x2, x3, x4, x5, -, -⟩ := (VX.keep HB) t (by omega)
          have ca := fun w => args_w (X t).k w
          rw [HK t (by omega)] at ca
          have hop := HX t (by omega)
          have bg : b ≠ g := by
            obtain ⟨b', o', hA', hb', -⟩ := VX t (by omega)
            rw [hA] at hA'
            simp only [Option.some.injEq, Addr.mk.injEq] at hA'
            omega
          have gb : g ≠ b := fun e => bg e.symm
          subst hA
          have hcase : backN X n (outN Y i) d t = true ∨ backN X n (outN Y i) d t = false := by cases backN X n (outN Y i) d t <;> simp
          rcases hcase with hq | hq
          · have hst : Hid (backN X n (outN Y i) (d + 1) = opN (X t) (backN X n (outN Y i) d) (X t).ar) := Eq.trans hstep (if_pos hq)
            rw [hq, show bI true = 1 from rfl] at c0
            obtain ⟨s0, hs0⟩ : ∃ s0, s0 = backN X n (outN Y i) d := ⟨_, rfl⟩
            rw [← hs0] at I hst hq
            have hq2 : Hid (s0 t = true) := hq
            clear hs0 hq hstep
            rcases ar_cases3 (X t) with ⟨a1, a2⟩ | ⟨a1, a2⟩ | ⟨a1, a2⟩
            · rw [a1] at ca
              rw [a2] at hst
              clear a1 a2 hop
              go_wp2_with (go_at_call 13; with_reducible refine (ca _).mono ?_; rintro _ _ ⟨rfl, rfl⟩)
              go_roundg (n - d - 1)
              case measure => omega
              case rel => exact ⟨d + 1, (t : Int) - 1, by omega, by have hz : (t : Int) = (n : Int) - 1 - (d : Int) := HZ; omega, by first | rfl | go_num, HB, e1, es, by rw [show backN X n (outN Y i) (d + 1) = _ from hst]; exact I⟩
            · rw [a1] at ca
              rw [a2] at hst
              have q := hop 0 (by omega)
              have q0 : 0 ≤ (X t).a := q.1
              have q1 : (X t).a < (t : Int) := q.2
              have q2 : (X t).a < (n : Int) := by omega
              have qt : (X t).a.toNat ≠ t := by omega
              have qt2 : t ≠ (X t).a.toNat := by omega
              obtain ⟨d0, d1⟩ := I.2 (X t).a.toNat (by omega)
              clear a1 a2 hop q
              go_wp2_with (go_at_call 13; with_reducible refine (ca _).mono ?_; rintro _ _ ⟨rfl, rfl⟩)
              go_roundg (n - d - 1)
              case measure => omega
              case rel => exact ⟨d + 1, (t : Int) - 1, by omega, by have hz : (t : Int) = (n : Int) - 1 - (d : Int) := HZ; omega, by first | rfl | go_num, Below.setCell HB hg2 _, by simp [World.cell?_setCell_far, *], by simp only [World.size_setCell]; exact es, by rw [show backN X n (outN Y i) (d + 1) = _ from hst]; exact cel_one I (by omega)⟩
            · rw [a1] at ca
              rw [a2] at hst
              have q := hop 0 (by omega)
              have q0 : 0 ≤ (X t).a := q.1
              have q1 : (X t).a < (t : Int) := q.2
              have q2 : (X t).a < (n : Int) := by omega
              have qt : (X t).a.toNat ≠ t := by omega
              have qt2 : t ≠ (X t).a.toNat := by omega
              have p := hop 1 (by omega)
              have p0 : 0 ≤ (X t).b := p.1
              have p1 : (X t).b < (t : Int) := p.2
              have p2 : (X t).b < (n : Int) := by omega
              obtain ⟨d0, d1⟩ := I.2 (X t).a.toNat (by omega)
              obtain ⟨f0, f1⟩ := (cel_one I (show (X t).a.toNat < n by omega)).2 (X t).b.toNat (by omega)
              clear a1 a2 hop q p
              go_wp2_with (go_at_call 13; with_reducible refine (ca _).mono ?_; rintro _ _ ⟨rfl, rfl⟩)
              go_roundg (n - d - 1)
              case measure => omega
              case rel => exact ⟨d + 1, (t : Int) - 1, by omega, by have hz : (t : Int) = (n : Int) - 1 - (d : Int) := HZ; omega, by first | rfl | go_num, Below.setCell (Below.setCell HB hg2 _) hg2 _, by simp [World.cell?_setCell_far, *], by simp only [World.size_setCell]; exact es, by rw [show backN X n (outN Y i) (d + 1) = _ from hst]; exact cel_one (cel_one I (by omega)) (by omega)⟩
          · have hst : Hid (backN X n (outN Y i) (d + 1) = backN X n (outN Y i) d) := Eq.trans hstep (if_neg (by rw [hq]; simp))
            rw [hq, show bI false = 0 from rfl] at c0
            clear hq hstep
            rcases ar_cases3 (X t) with ⟨a1, a2⟩ | ⟨a1, a2⟩ | ⟨a1, a2⟩
            all_goals
              rw [a1] at ca
              clear a1 a2 hop
              go_wp2_with (go_at_call 13; with_reducible refine (ca _).mono ?_; rintro _ _ ⟨rfl, rfl⟩)
              go_roundg (n - d - 1)
              case measure => omega
              case rel => exact ⟨d + 1, (t : Int) - 1, by omega, by have hz : (t : Int) = (n : Int) - 1 - (d : Int) := HZ; omega, by first | rfl | go_num, HB, e1, es, by rw [show backN X n (outN Y i) (d + 1) = _ from hst]; exact I⟩
    · have hlt : (i : Int) < (m : Int) := by omega
      obtain ⟨b, o, hA, hb, x0⟩ := (VY.keep HB) i (by omega)
      obtain ⟨y0, y1⟩ := HY i (by omega)
      obtain ⟨c0, c1⟩ := I.2 (Y i).toNat (by omega)
      have gl := I.1
      subst hA
      go_wp2_with fail
      go_roundg (m - i - 1)
      case measure => omega
      case rel =>
        refine ⟨i + 1, by omega, by go_num, ?_, ?_, ?_, cel_one I (by omega)⟩
        · exact Below.setCell HB hg2 _
        · simp [World.cell?_setCell_far, *]
        · simp only [World.size_setCell]; exact es

end Go.Proofs.Ytfhccdpdjadepaa
