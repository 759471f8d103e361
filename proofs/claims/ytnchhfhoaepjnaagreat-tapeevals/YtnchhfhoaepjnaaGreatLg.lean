/- Columns, and rows of noughts: what the program makes. The program's product of two matrices. -/
import Derived.Test.YtnchhfhoaepjnaaGreatLf
namespace Go.Proofs.YtnchhfhoaepjnaaGreat
open Go.ChangeShapes Go.WideShapes Go.ChangeAt Go.RowKit

/-- n cells of a block, that may be written. -/
def Out (w : World) (g n : Nat) (f : Nat → Value) : Prop := g < w.heap.size ∧ ∀ i, i < n → w.cell? ⟨g, i, none⟩ = some (f i) ∧ w.frozen? ⟨g, i, none⟩ = false

theorem Out.keep {w w2 : World} {g n : Nat} {f : Nat → Value} (h : Out w g n f) (hb : Below w.heap.size w w2) : Out w2 g n f :=
  ⟨Nat.lt_of_lt_of_le h.1 hb.size, fun i hi => ⟨keepsC hb (h.2 i hi).1 h.1, keepsF hb (h.2 i hi).2 h.1⟩⟩
theorem Out.congr {w : World} {g n : Nat} {f k : Nat → Value} (h : Out w g n f) (e : ∀ i, i < n → f i = k i) : Out w g n k := ⟨h.1, fun i hi => by rw [← e i hi]; exact h.2 i hi⟩
theorem Out.set {w : World} {g n : Nat} {f : Nat → Value} (h : Out w g n f) (r : Nat) (v : Value) (hr : r < n) : Out (w.setCell ⟨g, r, none⟩ v) g n (fun i => if i = r then v else f i) := by
  refine ⟨by simp only [World.size_setCell]; exact h.1, fun i hi => ?_⟩
  obtain ⟨a, b⟩ := h.2 i hi
  obtain ⟨a', b'⟩ := h.2 r hr
  by_cases e : i = r
  · subst e
    simp only [if_true]
    exact ⟨by go_simp, by go_simp⟩
  · simp only [e, if_false]
    have m : r ≠ i := fun c => e c.symm
    exact ⟨by go_simp, by go_simp⟩
theorem Img.far {w : World} {g N c k : Nat} {xs : Nat → Nat × Nat} (h : Img w g N xs) (hne : c ≠ g) (v : Value) : Img (w.setCell ⟨c, k, none⟩ v) g N xs := by
  refine ⟨by simp only [World.size_setCell]; exact h.1, fun i hi => ?_⟩
  obtain ⟨a, b, d, e⟩ := h.2 i hi
  have hne' : g ≠ c := fun e => hne e.symm
  exact ⟨by simp [World.cell?_setCell_far, *], by simp [World.cell?_setCell_far, *], by go_simp, by go_simp⟩

theorem Out.far {w : World} {g n c k : Nat} {f : Nat → Value} (h : Out w g n f) (hne : c ≠ g) (v : Value) : Out (w.setCell ⟨c, k, none⟩ v) g n f := by
  refine ⟨by simp only [World.size_setCell]; exact h.1, fun i hi => ?_⟩
  obtain ⟨a, b⟩ := h.2 i hi
  have hne' : g ≠ c := fun e => hne e.symm
  exact ⟨by simp [World.cell?_setCell_far, *], by go_simp⟩

theorem Tryz.infoRow : (Tryz.prog.info? 26).map (fun i => (i.zero, i.size, i.bytes)) = some (some (.slice none 0 0), 1, 24) := by kernel_rfl

theorem wpList_makeR {w : World} {ops : Array Oper} {rest : List Oper} {o : Oper} {a : Act} {Q : Exit → Act → World → Prop} (hgd : o.guard = none) (l c : Operand)
    (ho : o.op = .makeSlice 31 l c) (n : Nat) (hl : a.eval l = .int .i64 (n : Int)) (hc : a.eval c = .int .i64 (n : Int)) (hn : n ≤ 3000000)
    (h : ∀ w', Out w' w.heap.size n (fun _ => .slice none 0 0) → Below w.heap.size w w' → w.heap.size < w'.heap.size → wpList Tryz.prog ops Q rest (a.put o.dst (.slice (some ⟨w.heap.size, 0, none⟩) n n)) w') : wpList Tryz.prog ops Q (o :: rest) a w := by
  obtain ⟨i0, hi, hz0, hz1, hz2⟩ := info_parts Tryz.infoRow
  refine wpList_make_full w hgd l c 31 ho w.heap.size 26 i0 (.slice none 0 0) 1 Tryz.underlying31 hi hz0 hz1 .i64 .i64 _ _ n hl hc rfl rfl (by rw [hz2]; omega) (by unfold maxLen; omega) (Nat.le_refl _) ?_
  intro w' h1 h2
  have hlt := (World.ownsRow.lt h1 _ rfl).2
  refine h w' ⟨hlt, fun i hi => ⟨?_, World.ownsRow.frozenAt h1 _⟩⟩ ⟨h2.os, h2.tape, h2.output, h2.size, fun k hk => h2.block k hk (by simp)⟩ hlt
  have e1 : (madeCells (Value.slice none 0 0).cells (n * 1)).toList = List.replicate (n * 1) (Value.slice none 0 0) := by
    refine List.eq_replicate_iff.2 ⟨by simp [madeCells], fun b hb => ?_⟩
    simp [madeCells, Value.cells] at hb
    obtain ⟨x, -, hx⟩ := hb
    rw [← hx]
    have : x % 1 = 0 := by omega
    simp [this]
  rw [World.ownsRow.cellAt h1 i (by omega), e1]
  simp [hi]

/-- n rows of m intervals, each in a block of its own. -/
structure Grd (w : World) (g n m : Nat) (h : Nat → Nat) (F : Nat → Nat → Nat × Nat) : Prop where
  out : Out w g n (fun r => .slice (some ⟨h r, 0, none⟩) m m)
  row : ∀ r, r < n → Img w (h r) m (F r)
  ne : ∀ r, r < n → h r ≠ g
  inj : ∀ r, r < n → ∀ s, s < n → r ≠ s → h r ≠ h s

theorem Grd.keep {w w2 : World} {g n m : Nat} {h : Nat → Nat} {F : Nat → Nat → Nat × Nat} (G : Grd w g n m h F) (hb : Below w.heap.size w w2) : Grd w2 g n m h F :=
  ⟨G.out.keep hb, fun r hr => (G.row r hr).keep hb, G.ne, G.inj⟩

theorem Grd.congr {w : World} {g n m : Nat} {h : Nat → Nat} {F E : Nat → Nat → Nat × Nat} (G : Grd w g n m h F) (e : ∀ r, r < n → ∀ c, c < m → F r c = E r c) : Grd w g n m h E :=
  ⟨G.out, fun r hr => (G.row r hr).congr (e r hr), G.ne, G.inj⟩

theorem Grd.set {w : World} {g n m : Nat} {h : Nat → Nat} {F : Nat → Nat → Nat × Nat} (G : Grd w g n m h F) (i j p q : Nat) (hi : i < n) (hj : j < m) :
    Grd ((w.setCell ⟨h i, j * 2, none⟩ (.float .f64 p)).setCell ⟨h i, j * 2 + 1, none⟩ (.float .f64 q)) g n m h (fun r c => if r = i ∧ c = j then (p, q) else F r c) := by
  refine ⟨(G.out.far (G.ne i hi) _).far (G.ne i hi) _, fun r hr => ?_, G.ne, G.inj⟩
  by_cases e : r = i
  · subst e
    exact ((G.row r hr).set j p q hj).congr fun c _ => by simp
  · refine (((G.row r hr).far (G.inj i hi r hr (fun c => e c.symm)) _).far (G.inj i hi r hr (fun c => e c.symm)) _).congr fun c _ => ?_
    simp [e]

/-- The product, place by place. -/
def prodI (X Y : Nat → Nat → Nat × Nat) (M i j : Nat) : Nat × Nat := dotP (X i) (fun s => Y s j) M

theorem rws_words {w : World} {A : Option Addr} {N : Nat} {RA : Nat → Option Addr} {RL RC : Nat → Nat} {X : Nat → Nat → Nat × Nat} (V : Rws w A N RA RL RC X) {r c : Nat} (hr : r < N) (hc : c < RL r) : (X r c).1 < 18446744073709551616 ∧ (X r c).2 < 18446744073709551616 := by
  obtain ⟨b, o, -, -, -, -, I⟩ := V r hr
  exact ivs_words I c hc

end Go.Proofs.YtnchhfhoaepjnaaGreat
