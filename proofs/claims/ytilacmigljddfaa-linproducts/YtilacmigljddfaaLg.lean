/- Columns, and rows of noughts: what the program makes. -/
import Derived.Test.YtilacmigljddfaaLf
namespace Go.Proofs.Ytilacmigljddfaa
open Go.ChangeShapes Go.WideShapes Go.ChangeAt Go.RowKit

set_option maxHeartbeats 2000000 in
theorem column_w (A : Option Addr) (N C j : Nat) (RA : Nat → Option Addr) (RL RC : Nat → Nat) (X : Nat → Nat → Nat × Nat) (hN : N ≤ 24) (hR : ∀ r, r < N → j < RL r) (w : World) (V : Rws w A N RA RL RC X) :
    Calls Try.prog 53 #[.slice A N C, .int .i64 (j : Int)] w fun e w' => ∃ g, e = .returned (.slice (some ⟨g, 0, none⟩) N N) ∧ Img w' g N (fun r => X r j) ∧ w.heap.size ≤ g ∧ Below w.heap.size w w' := by
  have HR : Hid (∀ r, r < N → j < RL r) := hR
  clear hR
  go_enter Try.func53, Try.ntmps53
  go_wp2_with (at_make; refine wpList_makeI (by rfl) _ _ (by rfl) N (by rfl) (by rfl) (by omega) ?_; intro w3 hI HB hS3)
  go_loopg [12] N (fun G s12 wx => Below w.heap.size w wx ∧ ∃ r : Nat, r + G = N ∧ s12 = .int .i64 (r : Int) ∧ Img wx w.heap.size N (fun i => if i < r then X i j else (0, 0)))
  case atStart => exact ⟨HB, 0, by omega, rfl, hI.congr fun i _ => by simp⟩
  case round =>
    clear HB hI
    obtain ⟨HB, r, hr, rfl, hI⟩ := hrel
    by_cases cr : r = N
    · subst cr
      go_wp2_with fail
      go_ret
      exact ⟨_, rfl, hI.congr fun i hi => by simp [hi], Nat.le_refl _, HB⟩
    · have hlt : (r : Int) < (N : Int) := by omega
      obtain ⟨b', o', hA, hb', x0, l0, I⟩ := (V.keep HB) r (by omega)
      have hjr := HR r (by omega)
      have hlt2 : (j : Int) < (RL r : Int) := by omega
      obtain ⟨b2, o2, hA2, hb2, y0, y1, -, -⟩ := I j hjr
      obtain ⟨i0, i1, f0, f1⟩ := id (hI.2 r (by omega))
      subst hA
      rw [hA2] at x0
      go_wp2_with fail
      go_roundg (N - r - 1)
      case measure => omega
      case rel =>
        refine ⟨?_, r + 1, by omega, by go_num, (hI.set r _ _ (by omega)).congr fun i hi => ?_⟩
        · repeat' (first | (with_reducible exact HB) | (with_reducible refine Below.setCell ?_ ?_ _) | go_size | omega)
        · by_cases e : i = r
          · subst e
            simp
          · simp only [e, if_false]
            by_cases q : i < r
            · simp [q, show i < r + 1 by omega]
            · simp [q, show ¬ i < r + 1 by omega]

/-- n cells of a block, that may be written. -/
def Out (w : World) (g n : Nat) (f : Nat → Value) : Prop := g < w.heap.size ∧ ∀ i, i < n → w.cell? ⟨g, i, none⟩ = some (f i) ∧ w.frozen? ⟨g, i, none⟩ = false

theorem Out.keep {w w2 : World} {g n : Nat} {f : Nat → Value} (h : Out w g n f) (hb : Below w.heap.size w w2) : Out w2 g n f :=
  ⟨Nat.lt_of_lt_of_le h.1 hb.size, fun i hi => ⟨keepsC hb (h.2 i hi).1 h.1, keepsF hb (h.2 i hi).2 h.1⟩⟩
theorem Out.congr {w : World} {g n : Nat} {f k : Nat → Value} (h : Out w g n f) (e : ∀ i, i < n → f i = k i) : Out w g n k := ⟨h.1, fun i hi => by rw [← e i hi]; exact h.2 i hi⟩
theorem Out.set {w : World} {g n : Nat} {f : Nat → Value} (h : Out w g n f) (r : Nat) (v : Value) (hr : r < n) : Out (w.setCell ⟨g, r, none⟩ v) g n (fun i => if i = r then v else f i) := by
  refine ⟨by simp only [World.size_setCell]; exact h.1, fun i hi => ?_⟩
  obtain ⟨a, b⟩ := h.2 i hi
  obtain ⟨a', b'⟩ := h.2 r hr
  by_cases e : i = r
  · subst e
    simp only [if_true]
    exact ⟨by go_simp, by go_simp⟩
  · simp only [e, if_false]
    have m : r ≠ i := fun c => e c.symm
    exact ⟨by go_simp, by go_simp⟩
theorem Img.far {w : World} {g N c k : Nat} {xs : Nat → Nat × Nat} (h : Img w g N xs) (hne : c ≠ g) (v : Value) : Img (w.setCell ⟨c, k, none⟩ v) g N xs := by
  refine ⟨by simp only [World.size_setCell]; exact h.1, fun i hi => ?_⟩
  obtain ⟨a, b, d, e⟩ := h.2 i hi
  have hne' : g ≠ c := fun e => hne e.symm
  exact ⟨by simp [World.cell?_setCell_far, *], by simp [World.cell?_setCell_far, *], by go_simp, by go_simp⟩

theorem Out.far {w : World} {g n c k : Nat} {f : Nat → Value} (h : Out w g n f) (hne : c ≠ g) (v : Value) : Out (w.setCell ⟨c, k, none⟩ v) g n f := by
  refine ⟨by simp only [World.size_setCell]; exact h.1, fun i hi => ?_⟩
  obtain ⟨a, b⟩ := h.2 i hi
  have hne' : g ≠ c := fun e => hne e.symm
  exact ⟨by simp [World.cell?_setCell_far, *], by go_simp⟩

theorem Try.infoRow : (Try.prog.info? 23).map (fun i => (i.zero, i.size, i.bytes)) = some (some (.slice none 0 0), 1, 24) := by kernel_rfl

theorem wpList_makeR {w : World} {ops : Array Oper} {rest : List Oper} {o : Oper} {a : Act} {Q : Exit → Act → World → Prop} (hgd : o.guard = none) (l c : Operand)
    (ho : o.op = .makeSlice 22 l c) (n : Nat) (hl : a.eval l = .int .i64 (n : Int)) (hc : a.eval c = .int .i64 (n : Int)) (hn : n ≤ 3000000)
    (h : ∀ w', Out w' w.heap.size n (fun _ => .slice none 0 0) → Below w.heap.size w w' → w.heap.size < w'.heap.size → wpList Try.prog ops Q rest (a.put o.dst (.slice (some ⟨w.heap.size, 0, none⟩) n n)) w') : wpList Try.prog ops Q (o :: rest) a w := by
  obtain ⟨i0, hi, hz0, hz1, hz2⟩ := info_parts Try.infoRow
  refine wpList_make_full w hgd l c 22 ho w.heap.size 23 i0 (.slice none 0 0) 1 Try.underlying22 hi hz0 hz1 .i64 .i64 _ _ n hl hc rfl rfl (by rw [hz2]; omega) (by unfold maxLen; omega) (Nat.le_refl _) ?_
  intro w' h1 h2
  have hlt := (World.ownsRow.lt h1 _ rfl).2
  refine h w' ⟨hlt, fun i hi => ⟨?_, World.ownsRow.frozenAt h1 _⟩⟩ ⟨h2.os, h2.tape, h2.output, h2.size, fun k hk => h2.block k hk (by simp)⟩ hlt
  have e1 : (madeCells (Value.slice none 0 0).cells (n * 1)).toList = List.replicate (n * 1) (Value.slice none 0 0) := by
    refine List.eq_replicate_iff.2 ⟨by simp [madeCells], fun b hb => ?_⟩
    simp [madeCells, Value.cells] at hb
    obtain ⟨x, -, hx⟩ := hb
    rw [← hx]
    have : x % 1 = 0 := by omega
    simp [this]
  rw [World.ownsRow.cellAt h1 i (by omega), e1]
  simp [hi]

/-- n rows of m intervals, each in a block of its own. -/
structure Grd (w : World) (g n m : Nat) (h : Nat → Nat) (F : Nat → Nat → Nat × Nat) : Prop where
  out : Out w g n (fun r => .slice (some ⟨h r, 0, none⟩) m m)
  row : ∀ r, r < n → Img w (h r) m (F r)
  ne : ∀ r, r < n → h r ≠ g
  inj : ∀ r, r < n → ∀ s, s < n → r ≠ s → h r ≠ h s

set_option maxHeartbeats 2000000 in
theorem grid_w (n m : Nat) (hn : n ≤ 24) (hm : m ≤ 24) (w : World) :
    Calls Try.prog 36 #[.int .i64 (n : Int), .int .i64 (m : Int)] w fun e w' => ∃ g h, e = .returned (.slice (some ⟨g, 0, none⟩) n n) ∧ Grd w' g n m h (fun _ _ => (0, 0)) ∧ w.heap.size ≤ g ∧ (∀ r, r < n → w.heap.size ≤ h r) ∧ Below w.heap.size w w' := by
  go_enter Try.func36, Try.ntmps36
  go_wp2_with (at_make; refine wpList_makeR (by rfl) _ _ (by rfl) n (by rfl) (by rfl) (by omega) ?_; intro w3 hO HB hS3)
  go_loopg [11] n (fun G s11 wx => Below w.heap.size w wx ∧ ∃ (r : Nat) (h : Nat → Nat), r + G = n ∧ s11 = .int .i64 (r : Int) ∧ Out wx w.heap.size n (fun i => if i < r then .slice (some ⟨h i, 0, none⟩) m m else .slice none 0 0) ∧
    Hid (∀ i, i < r → Img wx (h i) m (fun _ => (0, 0)) ∧ w.heap.size < h i) ∧ Hid (∀ i, i < r → ∀ j, j < r → i ≠ j → h i ≠ h j))
  case atStart => exact ⟨HB, 0, fun _ => 0, by omega, rfl, hO.congr fun i _ => by simp, fun i hi => absurd hi (by omega), fun i hi => absurd hi (by omega)⟩
  case round =>
    clear HB hO
    obtain ⟨HB, r, h, hr, rfl, hO, hI, hJ⟩ := hrel
    by_cases cr : r = n
    · subst cr
      go_wp2_with fail
      go_ret
      exact ⟨_, h, rfl, ⟨hO.congr fun i hi => by simp [hi], fun i hi => (hI i hi).1, fun i hi => by have := (hI i hi).2; omega, hJ⟩, Nat.le_refl _, fun i hi => by have := (hI i hi).2; omega, HB⟩
    · have hlt : (r : Int) < (n : Int) := by omega
      have hg : w.heap.size < wr.heap.size := hO.1
      go_wp2_with (at_make; refine wpList_makeI (by rfl) _ _ (by rfl) m (by rfl) (by rfl) (by omega) ?_; intro w4 hI4 hb4 hS4; replace HB := later HB hb4; replace hO := hO.keep hb4; obtain ⟨o0, o1⟩ := id (hO.2 r (by omega)))
      go_roundg (n - r - 1)
      case measure => omega
      case rel =>
        have ne : w.heap.size ≠ wr.heap.size := by omega
        refine ⟨?_, r + 1, fun i => if i = r then wr.heap.size else h i, by omega, by go_num, (hO.set r _ (by omega)).congr fun i hi => ?_, fun i hi => ?_, fun i hi j hj hij => ?_⟩
        · repeat' (first | (with_reducible exact HB) | (with_reducible refine Below.setCell ?_ ?_ _) | go_size | omega)
        · by_cases e : i = r
          · subst e
            simp
          · simp only [e, if_false]
            by_cases q : i < r
            · simp [q, show i < r + 1 by omega]
            · simp [q, show ¬ i < r + 1 by omega]
        · by_cases e : i = r
          · simp only [e, if_true]
            exact ⟨hI4.far ne _, hg⟩
          · simp only [e, if_false]
            have q := hI i (by omega)
            exact ⟨(q.1.keep hb4).far (by have := q.2; omega) _, q.2⟩
        · have f : ∀ k, k < r → h k < wr.heap.size := fun k hk => (hI k hk).1.1
          by_cases e : i = r
          · by_cases e' : j = r
            · omega
            · simp only [e, e', if_true, if_false]
              have := f j (by omega)
              omega
          · by_cases e' : j = r
            · simp only [e, e', if_true, if_false]
              have := f i (by omega)
              omega
            · simp only [e, e', if_false]
              exact hJ i (by omega) j (by omega) hij

end Go.Proofs.Ytilacmigljddfaa
