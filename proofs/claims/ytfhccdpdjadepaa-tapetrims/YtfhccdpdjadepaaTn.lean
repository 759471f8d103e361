/- Trimming: rows of whole numbers and of truths in blocks of the call's own; what is needed, and where it stands now: the plain facts. -/
import Derived.Test.YtfhccdpdjadepaaTm
import Derived.Handy
namespace Go.Proofs.Ytfhccdpdjadepaa
open Go.ChangeShapes Go.WideShapes Go.ChangeAt Go.RowKit

/-- n cells of a block, that may be written. -/
def Cel (w : World) (g n : Nat) (f : Nat → Value) : Prop := g < w.heap.size ∧ ∀ i, i < n → w.cell? ⟨g, i, none⟩ = some (f i) ∧ w.frozen? ⟨g, i, none⟩ = false

theorem Cel.keepB {B : Nat} {w w2 : World} {g n : Nat} {f : Nat → Value} (h : Cel w g n f) (hb : Below B w w2) (hg : g < B) (hs : w.heap.size ≤ w2.heap.size) : Cel w2 g n f :=
  ⟨Nat.lt_of_lt_of_le h.1 hs, fun i hi => ⟨(hb.cell hg).trans (h.2 i hi).1, (hb.frozen hg).trans (h.2 i hi).2⟩⟩
theorem Cel.keep {w w2 : World} {g n : Nat} {f : Nat → Value} (h : Cel w g n f) (hb : Below w.heap.size w w2) : Cel w2 g n f :=
  ⟨Nat.lt_of_lt_of_le h.1 hb.size, fun i hi => ⟨keepsC hb (h.2 i hi).1 h.1, keepsF hb (h.2 i hi).2 h.1⟩⟩
theorem Cel.congr {w : World} {g n : Nat} {f k : Nat → Value} (h : Cel w g n f) (e : ∀ i, i < n → f i = k i) : Cel w g n k := ⟨h.1, fun i hi => by rw [← e i hi]; exact h.2 i hi⟩
theorem Cel.set {w : World} {g n : Nat} {f : Nat → Value} (h : Cel w g n f) (r : Nat) (v : Value) (hr : r < n) : Cel (w.setCell ⟨g, r, none⟩ v) g n (fun i => if i = r then v else f i) := by
  refine ⟨by simp only [World.size_setCell]; exact h.1, fun i hi => ?_⟩
  obtain ⟨a, b⟩ := h.2 i hi
  obtain ⟨a', b'⟩ := h.2 r hr
  by_cases e : i = r
  · subst e
    simp only [if_true]
    exact ⟨by go_simp, by go_simp⟩
  · simp only [e, if_false]
    have m : r ≠ i := fun c => e c.symm
    exact ⟨by go_simp, by go_simp⟩
theorem Cel.far {w : World} {g n c k : Nat} {f : Nat → Value} (h : Cel w g n f) (hne : c ≠ g) (v : Value) : Cel (w.setCell ⟨c, k, none⟩ v) g n f := by
  refine ⟨by simp only [World.size_setCell]; exact h.1, fun i hi => ?_⟩
  obtain ⟨a, b⟩ := h.2 i hi
  have hne' : g ≠ c := fun e => hne e.symm
  exact ⟨by simp [World.cell?_setCell_far, *], by go_simp⟩

theorem Try.infoInt : (Try.prog.info? 3).map (fun i => (i.zero, i.size, i.bytes)) = some (some (.int .i64 0), 1, 8) := by kernel_rfl
theorem Try.infoBool : (Try.prog.info? 4).map (fun i => (i.zero, i.size, i.bytes)) = some (some (.bool false), 1, 1) := by kernel_rfl
theorem Try.infoOp : (Try.prog.info? 37).map (fun i => (i.zero, i.size, i.bytes)) = some (some (.agg #[.int .i64 0, .int .i64 0, .int .i64 0, .int .i64 0, .float .f64 0, .float .f64 0]), 6, 48) := by kernel_rfl

theorem made_one (v : Value) (hv : v.cells = #[v]) (n : Nat) : (madeCells v.cells (n * 1)).toList = List.replicate (n * 1) v := by
  refine List.eq_replicate_iff.2 ⟨by simp [madeCells], fun b hb => ?_⟩
  rw [hv] at hb
  simp [madeCells] at hb
  obtain ⟨x, -, hx⟩ := hb
  rw [← hx]
  have : x % 1 = 0 := by omega
  simp [this]

theorem wpList_makeN {w : World} {ops : Array Oper} {rest : List Oper} {o : Oper} {a : Act} {Q : Exit → Act → World → Prop} (hgd : o.guard = none) (l c : Operand)
    (ho : o.op = .makeSlice 23 l c) (n : Nat) (hl : a.eval l = .int .i64 (n : Int)) (hc : a.eval c = .int .i64 (n : Int)) (hn : n ≤ 3000000)
    (h : ∀ w', Cel w' w.heap.size n (fun _ => .int .i64 0) → Below w.heap.size w w' → w.heap.size < w'.heap.size → wpList Try.prog ops Q rest (a.put o.dst (.slice (some ⟨w.heap.size, 0, none⟩) n n)) w') : wpList Try.prog ops Q (o :: rest) a w := by
  obtain ⟨i0, hi, hz0, hz1, hz2⟩ := info_parts Try.infoInt
  refine wpList_make_full w hgd l c 23 ho w.heap.size 3 i0 (.int .i64 0) 1 Try.underlying23 hi hz0 hz1 .i64 .i64 _ _ n hl hc rfl rfl (by rw [hz2]; omega) (by unfold maxLen; omega) (Nat.le_refl _) ?_
  intro w' h1 h2
  have hlt := (World.ownsRow.lt h1 _ rfl).2
  refine h w' ⟨hlt, fun i hi => ⟨?_, World.ownsRow.frozenAt h1 _⟩⟩ ⟨h2.os, h2.tape, h2.output, h2.size, fun k hk => h2.block k hk (by simp)⟩ hlt
  rw [World.ownsRow.cellAt h1 i (by omega), made_one _ rfl]
  simp [hi]

theorem wpList_makeB {w : World} {ops : Array Oper} {rest : List Oper} {o : Oper} {a : Act} {Q : Exit → Act → World → Prop} (hgd : o.guard = none) (l c : Operand)
    (ho : o.op = .makeSlice 40 l c) (n : Nat) (hl : a.eval l = .int .i64 (n : Int)) (hc : a.eval c = .int .i64 (n : Int)) (hn : n ≤ 3000000)
    (h : ∀ w', Cel w' w.heap.size n (fun _ => .bool false) → Below w.heap.size w w' → w.heap.size < w'.heap.size → wpList Try.prog ops Q rest (a.put o.dst (.slice (some ⟨w.heap.size, 0, none⟩) n n)) w') : wpList Try.prog ops Q (o :: rest) a w := by
  obtain ⟨i0, hi, hz0, hz1, hz2⟩ := info_parts Try.infoBool
  refine wpList_make_full w hgd l c 40 ho w.heap.size 4 i0 (.bool false) 1 Try.underlying40 hi hz0 hz1 .i64 .i64 _ _ n hl hc rfl rfl (by rw [hz2]; omega) (by unfold maxLen; omega) (Nat.le_refl _) ?_
  intro w' h1 h2
  have hlt := (World.ownsRow.lt h1 _ rfl).2
  refine h w' ⟨hlt, fun i hi => ⟨?_, World.ownsRow.frozenAt h1 _⟩⟩ ⟨h2.os, h2.tape, h2.output, h2.size, fun k hk => h2.block k hk (by simp)⟩ hlt
  rw [World.ownsRow.cellAt h1 i (by omega), made_one _ rfl]
  simp [hi]

/-- The value v is, in w, the whole numbers zs, in a block of the call's own. -/
def OwnN (B : Nat) (w : World) (v : Value) (zs : List Int) : Prop := w.ownsRow B 3 1 v zs.length (zs.map fun z => Value.int .i64 z)

theorem own_keep {B : Nat} {w w2 : World} {e : TypeId} {sz : Nat} {v : Value} {n : Nat} {xs : List Value} (h : w.ownsRow B e sz v n xs) (hb : Below w.heap.size w w2) : w2.ownsRow B e sz v n xs := by
  refine ⟨h.1, ?_⟩
  rcases h.2 with hn | ⟨g, cap, cur, hv, hb2, hg, rest⟩
  · exact .inl hn
  · have hlt : g < w.heap.size := (Array.getElem?_eq_some_iff.1 hg).1
    refine .inr ⟨g, cap, cur, hv, hb2, ?_, rest⟩
    rw [← hg]
    exact hb.block g hlt

theorem wpList_pushN {B : Nat} {w0 wr : World} {ops : Array Oper} {rest : List Oper} {o : Oper} {a : Act} {Q : Exit → Act → World → Prop} (hgd : o.guard = none) (s x : Operand)
    (ho : o.op = .call { callee := .builtin .append, args := #[s, x], argTypes := #[23, 23] }) (v : Value) (zs : List Int) (z : Int) (hs : a.eval s = v) (hx : a.eval x = .slice (some ⟨wr.heap.size, 0, none⟩) 1 1)
    (hown : OwnN B wr v zs) (hl : zs.length ≤ 2000000) (hB : B ≤ wr.heap.size) (hbel : Below B w0 wr)
    (h : ∀ v' w', OwnN B w' v' (zs ++ [z]) → Below B w0 w' → B ≤ w'.heap.size → Below B wr w' → wr.heap.size ≤ w'.heap.size → wpList Try.prog ops Q rest (a.put o.dst v') w') : wpList Try.prog ops Q (o :: rest) a (wr.alloc (.cells #[.int .i64 z] 3)) := by
  obtain ⟨i0, hi, hz0, hz1, hz2⟩ := info_parts Try.infoInt
  have hal : Below wr.heap.size wr (wr.alloc (.cells #[.int .i64 z] 3)) := (Below.refl _ _).alloc (Nat.le_refl _) _
  have hown' : (wr.alloc (.cells #[.int .i64 z] 3)).ownsRow B 3 1 v zs.length (zs.map fun z => Value.int .i64 z) := own_keep hown hal
  refine wpList_append_own _ hgd s x 23 ho B 3 i0 (.int .i64 0) 1 8 Try.underlying23 hi hz0 hz1 hz2 rfl (by decide) v zs.length _ hs hown' ⟨wr.heap.size, 0, none⟩ 1 1 [.int .i64 z] hx rfl ?_ ?_ (by unfold maxLen; omega) (by omega) (by simp; omega) ?_
  · intro j u hj
    match j, hj with
    | 0, hj => simp at hj; subst hj; simp [Addr.add]
  · intro u hu
    simp at hu
    rw [hu]
    rfl
  · intro v' w' h1 h2 _
    have lt : ∀ k, v.ownBlock = some k → B ≤ k := fun k hk => (World.ownsRow.lt hown k hk).1
    have sz := h2.size
    simp only [World.size_alloc] at sz
    refine h v' w' ?_ ((hbel.alloc hB _).grown h2 (by simp; omega) lt) (by omega) (((Below.refl B wr).alloc hB _).grown h2 (by simp; omega) lt) (by omega)
    unfold OwnN
    rw [List.length_append, List.map_append]
    exact h1

def opCells (T : List Opw) : List Value := T.flatMap fun o => [.int .i64 o.k, .int .i64 o.a, .int .i64 o.b, .int .i64 o.n, .float .f64 o.lo, .float .f64 o.hi]
/-- The value v is, in w, the operations T, in a block of the call's own. -/
def OwnO (B : Nat) (w : World) (v : Value) (T : List Opw) : Prop := w.ownsRow B 37 6 v T.length (opCells T)

theorem wpList_pushO {B : Nat} {w0 wr : World} {ops : Array Oper} {rest : List Oper} {o : Oper} {a : Act} {Q : Exit → Act → World → Prop} (hgd : o.guard = none) (s x : Operand)
    (ho : o.op = .call { callee := .builtin .append, args := #[s, x], argTypes := #[22, 22] }) (v : Value) (T : List Opw) (z : Opw) (hs : a.eval s = v) (hx : a.eval x = .slice (some ⟨wr.heap.size, 0, none⟩) 1 1)
    (hown : OwnO B wr v T) (hl : T.length ≤ 200000) (hB : B ≤ wr.heap.size) (hbel : Below B w0 wr)
    (h : ∀ v' w', OwnO B w' v' (T ++ [z]) → Below B w0 w' → B ≤ w'.heap.size → Below B wr w' → wr.heap.size ≤ w'.heap.size → wpList Try.prog ops Q rest (a.put o.dst v') w') : wpList Try.prog ops Q (o :: rest) a (wr.alloc (.cells #[.int .i64 z.k, .int .i64 z.a, .int .i64 z.b, .int .i64 z.n, .float .f64 z.lo, .float .f64 z.hi] 37)) := by
  obtain ⟨i0, hi, hz0, hz1, hz2⟩ := info_parts Try.infoOp
  have hal : Below wr.heap.size wr (wr.alloc (.cells #[.int .i64 z.k, .int .i64 z.a, .int .i64 z.b, .int .i64 z.n, .float .f64 z.lo, .float .f64 z.hi] 37)) := (Below.refl _ _).alloc (Nat.le_refl _) _
  have hown' : (wr.alloc (.cells #[.int .i64 z.k, .int .i64 z.a, .int .i64 z.b, .int .i64 z.n, .float .f64 z.lo, .float .f64 z.hi] 37)).ownsRow B 37 6 v T.length (opCells T) := own_keep hown hal
  refine wpList_append_own _ hgd s x 22 ho B 37 i0 (.agg #[.int .i64 0, .int .i64 0, .int .i64 0, .int .i64 0, .float .f64 0, .float .f64 0]) 6 48 Try.underlying22 hi hz0 hz1 hz2 rfl (by decide) v T.length _ hs hown' ⟨wr.heap.size, 0, none⟩ 1 1 [.int .i64 z.k, .int .i64 z.a, .int .i64 z.b, .int .i64 z.n, .float .f64 z.lo, .float .f64 z.hi] hx rfl ?_ ?_ (by unfold maxLen; omega) (by omega) (by simp; omega) ?_
  · intro j u hj
    match j, hj with
    | 0, hj => simp at hj; subst hj; simp [Addr.add]
    | 1, hj => simp at hj; subst hj; simp [Addr.add]
    | 2, hj => simp at hj; subst hj; simp [Addr.add]
    | 3, hj => simp at hj; subst hj; simp [Addr.add]
    | 4, hj => simp at hj; subst hj; simp [Addr.add]
    | 5, hj => simp at hj; subst hj; simp [Addr.add]
  · intro u hu
    simp at hu
    rcases hu with rfl | rfl | rfl | rfl | rfl | rfl <;> rfl
  · intro v' w' h1 h2 _
    have lt : ∀ k, v.ownBlock = some k → B ≤ k := fun k hk => (World.ownsRow.lt hown k hk).1
    have sz := h2.size
    simp only [World.size_alloc] at sz
    refine h v' w' ?_ ((hbel.alloc hB _).grown h2 (by simp; omega) lt) (by omega) (((Below.refl B wr).alloc hB _).grown h2 (by simp; omega) lt) (by omega)
    unfold OwnO
    have e : opCells (T ++ [z]) = opCells T ++ [.int .i64 z.k, .int .i64 z.a, .int .i64 z.b, .int .i64 z.n, .float .f64 z.lo, .float .f64 z.hi] := by simp [opCells]
    rw [e, List.length_append]
    exact h1

end Go.Proofs.Ytfhccdpdjadepaa
