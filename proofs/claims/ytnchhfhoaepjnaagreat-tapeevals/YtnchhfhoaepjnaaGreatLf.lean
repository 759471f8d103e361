/- The program's image of a vector. -/
import Derived.Test.YtnchhfhoaepjnaaGreatLd
namespace Go.Proofs.YtnchhfhoaepjnaaGreat
open Go.ChangeShapes Go.WideShapes Go.ChangeAt Go.RowKit

/-- N intervals in a block, that may be written. -/
def Img (w : World) (g N : Nat) (xs : Nat → Nat × Nat) : Prop :=
  g < w.heap.size ∧ ∀ i, i < N → w.cell? ⟨g, i * 2, none⟩ = some (.float .f64 (xs i).1) ∧ w.cell? ⟨g, i * 2 + 1, none⟩ = some (.float .f64 (xs i).2) ∧ w.frozen? ⟨g, i * 2, none⟩ = false ∧ w.frozen? ⟨g, i * 2 + 1, none⟩ = false

theorem Img.keep {w w2 : World} {g N : Nat} {xs : Nat → Nat × Nat} (h : Img w g N xs) (hb : Below w.heap.size w w2) : Img w2 g N xs :=
  ⟨Nat.lt_of_lt_of_le h.1 hb.size, fun i hi => by obtain ⟨a, b, c, d⟩ := h.2 i hi; exact ⟨keepsC hb a h.1, keepsC hb b h.1, keepsF hb c h.1, keepsF hb d h.1⟩⟩

theorem Img.set {w : World} {g N : Nat} {xs : Nat → Nat × Nat} (h : Img w g N xs) (r p q : Nat) (hr : r < N) : Img ((w.setCell ⟨g, r * 2, none⟩ (.float .f64 p)).setCell ⟨g, r * 2 + 1, none⟩ (.float .f64 q)) g N (fun i => if i = r then (p, q) else xs i) := by
  refine ⟨by simp only [World.size_setCell]; exact h.1, fun i hi => ?_⟩
  obtain ⟨a, b, c, d⟩ := h.2 i hi
  obtain ⟨a', b', c', d'⟩ := h.2 r hr
  have ne3 : r * 2 ≠ r * 2 + 1 := by omega
  have ne4 : r * 2 + 1 ≠ r * 2 := by omega
  by_cases e : i = r
  · subst e
    simp only [if_true]
    exact ⟨by go_simp, by go_simp, by go_simp, by go_simp⟩
  · simp only [e, if_false]
    have n1 : i * 2 ≠ r * 2 := by omega
    have n2 : i * 2 ≠ r * 2 + 1 := by omega
    have n3 : i * 2 + 1 ≠ r * 2 := by omega
    have n4 : i * 2 + 1 ≠ r * 2 + 1 := by omega
    have m1 : r * 2 ≠ i * 2 := by omega
    have m2 : r * 2 + 1 ≠ i * 2 := by omega
    have m3 : r * 2 ≠ i * 2 + 1 := by omega
    have m4 : r * 2 + 1 ≠ i * 2 + 1 := by omega
    refine ⟨?_, ?_, by go_simp, by go_simp⟩
    · go_simp
    · go_simp

theorem Img.congr {w : World} {g N : Nat} {xs ys : Nat → Nat × Nat} (h : Img w g N xs) (e : ∀ i, i < N → xs i = ys i) : Img w g N ys :=
  ⟨h.1, fun i hi => by rw [← e i hi]; exact h.2 i hi⟩

theorem Img.ivs {w : World} {g N : Nat} {xs : Nat → Nat × Nat} (h : Img w g N xs) (hx : ∀ i, i < N → (xs i).1 < 18446744073709551616 ∧ (xs i).2 < 18446744073709551616) : Ivs w (some ⟨g, 0, none⟩) N xs := fun i hi => by
  obtain ⟨a, b, -, -⟩ := h.2 i hi
  exact ⟨g, 0, rfl, h.1, by rw [Nat.zero_add]; exact a, by rw [Nat.zero_add]; exact b, hx i hi⟩

theorem wpList_makeI {w : World} {ops : Array Oper} {rest : List Oper} {o : Oper} {a : Act} {Q : Exit → Act → World → Prop} (hgd : o.guard = none) (l c : Operand)
    (ho : o.op = .makeSlice 26 l c) (n : Nat) (hl : a.eval l = .int .i64 (n : Int)) (hc : a.eval c = .int .i64 (n : Int)) (hn : n ≤ 3000000)
    (h : ∀ w', Img w' w.heap.size n (fun _ => (0, 0)) → Below w.heap.size w w' → w.heap.size < w'.heap.size → wpList Tryz.prog ops Q rest (a.put o.dst (.slice (some ⟨w.heap.size, 0, none⟩) n n)) w') : wpList Tryz.prog ops Q (o :: rest) a w := by
  obtain ⟨i0, hi, hz0, hz1, hz2⟩ := info_parts Tryz.infoIval
  refine wpList_make_full w hgd l c 26 ho w.heap.size 46 i0 (.agg #[.float .f64 0, .float .f64 0]) 2 Tryz.underlying26 hi hz0 hz1 .i64 .i64 _ _ n hl hc rfl rfl (by rw [hz2]; omega) (by unfold maxLen; omega) (Nat.le_refl _) ?_
  intro w' h1 h2
  have hlt := (World.ownsRow.lt h1 _ rfl).2
  refine h w' ⟨hlt, fun i hi => ?_⟩ ⟨h2.os, h2.tape, h2.output, h2.size, fun k hk => h2.block k hk (by simp)⟩ hlt
  have hc : ∀ j, j < n * 2 → w'.cell? ⟨w.heap.size, j, none⟩ = some (.float .f64 0) := fun j hj => by
    have e1 : (madeCells (Value.agg #[.float .f64 0, .float .f64 0]).cells (n * 2)).toList = List.replicate (n * 2) (Value.float .f64 0) := by
      refine List.eq_replicate_iff.2 ⟨by simp [madeCells], fun b hb => ?_⟩
      simp [madeCells, Value.cells] at hb
      obtain ⟨x, -, hx⟩ := hb
      rw [← hx]
      have : x % 2 = 0 ∨ x % 2 = 1 := by omega
      rcases this with e | e <;> simp [e]
    rw [World.ownsRow.cellAt h1 j hj, e1]
    simp [hj]
  exact ⟨hc _ (by omega), hc _ (by omega), World.ownsRow.frozenAt h1 _, World.ownsRow.frozenAt h1 _⟩

theorem ownI_ivs {B : Nat} {w : World} {v : Value} {xs : List (Nat × Nat)} (h : OwnI B w v xs) (hx : ∀ p ∈ xs, p.1 < 18446744073709551616 ∧ p.2 < 18446744073709551616) : ∃ A C, v = .slice A xs.length C ∧ Ivs w A xs.length (fun i => xs.getD i (0, 0)) := by
  have h' : w.ownsRow B 46 2 v xs.length (ivCells xs) := h
  rcases h'.2 with ⟨rfl, hn⟩ | ⟨g, cap, cur, rfl, -⟩
  · rw [hn]
    exact ⟨none, 0, rfl, fun i hi => by omega⟩
  · refine ⟨_, cap, rfl, fun i hi => ?_⟩
    have hl := (World.ownsRow.lt h g rfl).2
    have hg : xs[i]? = some (xs.getD i (0, 0)) := by simp [List.getD, hi]
    obtain ⟨a, b⟩ := ivCells_at xs i _ hg
    refine ⟨g, 0, rfl, hl, ?_, ?_, hx _ ?_⟩
    · rw [Nat.zero_add, World.ownsRow.cellAt h (i * 2) (by omega)]; exact a
    · rw [Nat.zero_add, World.ownsRow.cellAt h (i * 2 + 1) (by omega)]; exact b
    · show xs.getD i (0, 0) ∈ xs
      have := List.getElem?_eq_some_iff.1 hg
      obtain ⟨h1, h2⟩ := this
      rw [← h2]
      exact List.getElem_mem h1

set_option maxHeartbeats 2000000 in
theorem rsameV_w (A B : Option Addr) (n C D : Nat) (X Y : Nat → Nat × Nat) (hn : n ≤ 9223372036854775807) (hxy : ∀ i, i < n → X i = Y i) (w : World) (V : Ivs w A n X) (U : Ivs w B n Y) :
    Calls Tryz.prog 8 #[.slice A n C, .slice B n D] w fun e w' => e = .returned (.bool true) ∧ Below w.heap.size w w' := by
  have HX : Hid (∀ i, i < n → X i = Y i) := hxy
  clear hxy
  go_enter Tryz.func8, Tryz.ntmps8
  go_wp2_with fail
  go_loopg [13] n (fun G s13 wx => Below w.heap.size w wx ∧ ∃ i : Nat, i + G = n ∧ s13 = .int .i64 (i : Int))
  case atStart => exact ⟨Below.refl _ _, 0, by omega, rfl⟩
  case round =>
    obtain ⟨HB, i, hi, rfl⟩ := hrel
    by_cases ci : i = n
    · subst ci
      go_wp2_with fail
      go_ret
      exact ⟨rfl, HB⟩
    · have hlt : (i : Int) < (n : Int) := by omega
      obtain ⟨b, o, hA, hb, x0, x1, l0, l1⟩ := (V.keep HB) i (by omega)
      obtain ⟨b', o', hB, hb', y0, y1, -, -⟩ := (U.keep HB) i (by omega)
      rw [← HX i (by omega)] at y0 y1
      have c := fun w => rsame_self (X i).1 (X i).2 l0 l1 w
      subst hA hB
      go_upto_region 6 with fail
      have kx0 := fun n : Behind wr => n.cell x0 hb
      have kx1 := fun n : Behind wr => n.cell x1 hb
      have ky0 := fun n : Behind wr => n.cell y0 hb'
      have ky1 := fun n : Behind wr => n.cell y1 hb'
      refine region_behind (by kernel_rfl) (by kernel_rfl) ?_
      repeat (go_big_quiet_step (first
        | (go_at_call 24; with_reducible refine Behind.call (c _))))
      refine wpQuiet_nil ?_
      rintro _ ⟨q, rfl⟩
      obtain ⟨W, hb1⟩ := q
      dsimp only
      replace HB := later HB hb1
      clear hb1 kx0 kx1 ky0 ky1
      go_wp2_with fail
      go_roundg (n - i - 1)
      case measure => omega
      case rel => exact ⟨HB, i + 1, by omega, by go_num⟩

end Go.Proofs.YtnchhfhoaepjnaaGreat
