/- Slices of intervals that a call makes: one more at their end, as many noughts, and what they hold. The program's Dot, a matrix's first row, and both images of a vector. -/
import Derived.Test.YtnchhfhoaepjnaaGreatLa
import Derived.Handy
namespace Go.Proofs.YtnchhfhoaepjnaaGreat
open Go.ChangeShapes Go.WideShapes Go.ChangeAt Go.RowKit

def ivCells (xs : List (Nat × Nat)) : List Value := xs.flatMap fun p => [.float .f64 p.1, .float .f64 p.2]

theorem ivCells_len (xs : List (Nat × Nat)) : (ivCells xs).length = xs.length * 2 := by
  induction xs with
  | nil => rfl
  | cons p t ih =>
    have e : ivCells (p :: t) = .float .f64 p.1 :: .float .f64 p.2 :: ivCells t := rfl
    rw [e]
    simp only [List.length_cons]
    omega

theorem ivCells_at (xs : List (Nat × Nat)) (i : Nat) (p : Nat × Nat) (h : xs[i]? = some p) : (ivCells xs)[i * 2]? = some (.float .f64 p.1) ∧ (ivCells xs)[i * 2 + 1]? = some (.float .f64 p.2) := by
  induction xs generalizing i with
  | nil => simp at h
  | cons q t ih =>
    have e : ivCells (q :: t) = .float .f64 q.1 :: .float .f64 q.2 :: ivCells t := rfl
    rw [e]
    cases i with
    | zero =>
      simp at h
      subst h
      exact ⟨rfl, rfl⟩
    | succ i =>
      have h' : t[i]? = some p := by simpa using h
      have := ih i h'
      rw [show (i + 1) * 2 = i * 2 + 2 by omega, show i * 2 + 2 + 1 = (i * 2 + 1) + 2 by omega]
      simpa using this

/-- The value v is, in w, the intervals xs, in a block of the call's own. -/
def OwnI (B : Nat) (w : World) (v : Value) (xs : List (Nat × Nat)) : Prop := w.ownsRow B 46 2 v xs.length (ivCells xs)

theorem Tryz.infoIval : (Tryz.prog.info? 46).map (fun i => (i.zero, i.size, i.bytes)) = some (some (.agg #[.float .f64 0, .float .f64 0]), 2, 16) := by kernel_rfl

theorem ownI_empty (w : World) : OwnI w.heap.size (w.alloc (.cells #[] 46)) (.slice (some ⟨w.heap.size, 0, none⟩) 0 0) [] := World.ownsRow_made w #[] 0 (Nat.le_refl _) (Nat.zero_le _) rfl

theorem wpList_pushI {B : Nat} {w0 wr : World} {ops : Array Oper} {rest : List Oper} {o : Oper} {a : Act} {Q : Exit → Act → World → Prop} (hgd : o.guard = none) (s x : Operand)
    (ho : o.op = .call { callee := .builtin .append, args := #[s, x], argTypes := #[26, 26] }) (v : Value) (xs : List (Nat × Nat)) (p q : Nat) (hs : a.eval s = v) (hx : a.eval x = .slice (some ⟨wr.heap.size, 0, none⟩) 1 1)
    (hown : OwnI B wr v xs) (hl : xs.length ≤ 2000000) (hB : B ≤ wr.heap.size) (hbel : Below B w0 wr)
    (h : ∀ v' w', OwnI B w' v' (xs ++ [(p, q)]) → Below B w0 w' → B ≤ w'.heap.size → wpList Tryz.prog ops Q rest (a.put o.dst v') w') : wpList Tryz.prog ops Q (o :: rest) a (wr.alloc (.cells #[.float .f64 p, .float .f64 q] 46)) := by
  obtain ⟨i0, hi, hz0, hz1, hz2⟩ := info_parts Tryz.infoIval
  refine wpList_append_own _ hgd s x 26 ho B 46 i0 (.agg #[.float .f64 0, .float .f64 0]) 2 16 Tryz.underlying26 hi hz0 hz1 hz2 rfl (by decide) v xs.length (ivCells xs) hs (hown.alloc _) ⟨wr.heap.size, 0, none⟩ 1 1 [.float .f64 p, .float .f64 q] hx rfl ?_ ?_ (by unfold maxLen; omega) (by omega) (by simp; omega) ?_
  · intro j u hj
    match j, hj with
    | 0, hj => simp at hj; subst hj; simp [Addr.add]
    | 1, hj => simp at hj; subst hj; simp [Addr.add]
  · intro u hu
    simp at hu
    rcases hu with rfl | rfl <;> rfl
  · intro v' w' h1 h2 _
    refine h v' w' ?_ ((hbel.alloc hB _).grown h2 (by simp; omega) ?_) (by have := h2.size; simp at this; omega)
    · unfold OwnI
      have e : ivCells (xs ++ [(p, q)]) = ivCells xs ++ [.float .f64 p, .float .f64 q] := by simp [ivCells]
      rw [e, List.length_append]
      exact h1
    · intro k hk
      exact (World.ownsRow.lt hown k hk).1

theorem OwnI.keep {B : Nat} {w w2 : World} {v : Value} {xs : List (Nat × Nat)} (h : OwnI B w v xs) (hb : Below w.heap.size w w2) : OwnI B w2 v xs := by
  refine ⟨h.1, ?_⟩
  rcases h.2 with hn | ⟨g, cap, cur, hv, hb2, hg, rest⟩
  · exact .inl hn
  · have hlt : g < w.heap.size := (Array.getElem?_eq_some_iff.1 hg).1
    refine .inr ⟨g, cap, cur, hv, hb2, ?_, rest⟩
    rw [← hg]
    exact hb.block g hlt

/-- The image of a vector, row by row. -/
def imageP (X : Nat → Nat → Nat × Nat) (Y : Nat → Nat × Nat) (k : Nat) (n : Nat) : List (Nat × Nat) := (List.range n).map fun r => dotP (X r) Y k

theorem imageP_step (X : Nat → Nat → Nat × Nat) (Y : Nat → Nat × Nat) (k n : Nat) : imageP X Y k (n + 1) = imageP X Y k n ++ [((dotP (X n) Y k).1, (dotP (X n) Y k).2)] := by
  unfold imageP
  rw [List.range_succ, List.map_append]
  rfl

theorem imageP_len (X : Nat → Nat → Nat × Nat) (Y : Nat → Nat × Nat) (k n : Nat) : (imageP X Y k n).length = n := by simp [imageP]

end Go.Proofs.YtnchhfhoaepjnaaGreat
