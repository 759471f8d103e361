/- Trimming: a tape's three fields in a block; a map in a block. -/
import Derived.Test.YtfhccdpdjadepaaTq
import Derived.Maps.Own
import Derived.Deep.AppendLies
import Derived.Deep.RegionHeld3
import Derived.Deep.RegionLaw
namespace Go.Proofs.Ytfhccdpdjadepaa
open Go.ChangeShapes Go.WideShapes Go.ChangeAt Go.RowKit

/-- Three cells of a block, that may be written. -/
structure Tap3 (w : World) (b : Nat) (x y z : Value) : Prop where
  c0 : w.cell? ⟨b, 0, none⟩ = some x
  c1 : w.cell? ⟨b, 1, none⟩ = some y
  c2 : w.cell? ⟨b, 2, none⟩ = some z
  f0 : w.frozen? ⟨b, 0, none⟩ = false
  f1 : w.frozen? ⟨b, 1, none⟩ = false
  f2 : w.frozen? ⟨b, 2, none⟩ = false
  lt : b < w.heap.size

theorem Tap3.keepB {B : Nat} {w w2 : World} {b : Nat} {x y z : Value} (h : Tap3 w b x y z) (hb : Below B w w2) (hg : b < B) (hs : w.heap.size ≤ w2.heap.size) : Tap3 w2 b x y z :=
  ⟨(hb.cell hg).trans h.c0, (hb.cell hg).trans h.c1, (hb.cell hg).trans h.c2, (hb.frozen hg).trans h.f0, (hb.frozen hg).trans h.f1, (hb.frozen hg).trans h.f2, Nat.lt_of_lt_of_le h.lt hs⟩
theorem Tap3.keep {w w2 : World} {b : Nat} {x y z : Value} (h : Tap3 w b x y z) (hb : Below w.heap.size w w2) : Tap3 w2 b x y z := h.keepB hb h.lt hb.size
theorem tap3_new (w : World) (x y z : Value) (T : TypeId) : Tap3 (w.alloc (.cells #[x, y, z] T)) w.heap.size x y z :=
  ⟨by go_simp, by go_simp, by go_simp, by go_simp, by go_simp, by go_simp, by go_size⟩
theorem Tap3.alloc {w : World} {b : Nat} {x y z : Value} (h : Tap3 w b x y z) (o : Obj) : Tap3 (w.alloc o) b x y z := h.keep (below_alloc (Below.refl _ _) o)
theorem Tap3.far {w : World} {b c k : Nat} {x y z : Value} (h : Tap3 w b x y z) (hne : c ≠ b) (v : Value) : Tap3 (w.setCell ⟨c, k, none⟩ v) b x y z := by
  have hne' : b ≠ c := fun e => hne e.symm
  obtain ⟨a0, a1, a2, b0, b1, b2, l⟩ := h
  exact ⟨by simp [World.cell?_setCell_far, *], by simp [World.cell?_setCell_far, *], by simp [World.cell?_setCell_far, *], by go_simp, by go_simp, by go_simp, by simp only [World.size_setCell]; exact l⟩
theorem Tap3.set1 {w : World} {b : Nat} {x y z : Value} (h : Tap3 w b x y z) (v : Value) : Tap3 (w.setCell ⟨b, 1, none⟩ v) b x v z := by
  obtain ⟨a0, a1, a2, b0, b1, b2, l⟩ := h
  exact ⟨by go_simp, by go_simp, by go_simp, by go_simp, by go_simp, by go_simp, by simp only [World.size_setCell]; exact l⟩
theorem Tap3.set2 {w : World} {b : Nat} {x y z : Value} (h : Tap3 w b x y z) (v : Value) : Tap3 (w.setCell ⟨b, 2, none⟩ v) b x y v := by
  obtain ⟨a0, a1, a2, b0, b1, b2, l⟩ := h
  exact ⟨by go_simp, by go_simp, by go_simp, by go_simp, by go_simp, by go_simp, by simp only [World.size_setCell]; exact l⟩

theorem putM_size (w : World) (r : Nat) (o : Obj) : (putM w r o).heap.size = w.heap.size := by simp [putM]
theorem putM_at {w : World} {r : Nat} {o : Obj} (h : r < w.heap.size) : (putM w r o).heap[r]? = some o := by simp [putM, h]
theorem putM_off {w : World} {r b : Nat} {o : Obj} (h : b ≠ r) : (putM w r o).heap[b]? = w.heap[b]? := by
  have : r ≠ b := fun e => h e.symm
  simp [putM, this]
theorem putM_cell {w : World} {r b i : Nat} {o : Obj} (h : b ≠ r) : (putM w r o).cell? ⟨b, i, none⟩ = w.cell? ⟨b, i, none⟩ := by
  unfold World.cell?
  simp only [putM_off h]
theorem putM_frozen {w : World} {r b i : Nat} {o : Obj} (h : b ≠ r) : (putM w r o).frozen? ⟨b, i, none⟩ = w.frozen? ⟨b, i, none⟩ := by
  unfold World.frozen?
  simp only [putM_off h]
theorem below_putM {B : Nat} {w0 w : World} (h : Below B w0 w) {r : Nat} (hr : B ≤ r) (o : Obj) : Below B w0 (putM w r o) :=
  ⟨h.os, h.tape, h.output, by rw [putM_size]; exact h.size, fun k hk => (putM_off (by omega)).trans (h.block k hk)⟩

theorem Tap3.putM {w : World} {b r : Nat} {x y z : Value} (h : Tap3 w b x y z) (hne : b ≠ r) (o : Obj) : Tap3 (putM w r o) b x y z :=
  ⟨(putM_cell hne).trans h.c0, (putM_cell hne).trans h.c1, (putM_cell hne).trans h.c2, (putM_frozen hne).trans h.f0, (putM_frozen hne).trans h.f1, (putM_frozen hne).trans h.f2, by rw [putM_size]; exact h.lt⟩
theorem Cel.putM {w : World} {g n r : Nat} {f : Nat → Value} (h : Cel w g n f) (hne : g ≠ r) (o : Obj) : Cel (putM w r o) g n f :=
  ⟨by rw [putM_size]; exact h.1, fun i hi => ⟨(putM_cell hne).trans (h.2 i hi).1, (putM_frozen hne).trans (h.2 i hi).2⟩⟩
theorem Has6.putM {w : World} {b r : Nat} {x : Opw} (h : Has6 w b x) (hne : b ≠ r) (o : Obj) : Has6 (putM w r o) b x :=
  ⟨(putM_cell hne).trans h.c0, (putM_cell hne).trans h.c1, (putM_cell hne).trans h.c2, (putM_cell hne).trans h.c3, (putM_cell hne).trans h.c4, (putM_cell hne).trans h.c5, (putM_frozen hne).trans h.f0, (putM_frozen hne).trans h.f1, (putM_frozen hne).trans h.f2, (putM_frozen hne).trans h.f3, (putM_frozen hne).trans h.f4, (putM_frozen hne).trans h.f5, by rw [putM_size]; exact h.lt⟩
theorem Has6.keepB {B : Nat} {w w2 : World} {b : Nat} {x : Opw} (h : Has6 w b x) (hb : Below B w w2) (hg : b < B) (hs : w.heap.size ≤ w2.heap.size) : Has6 w2 b x :=
  ⟨(hb.cell hg).trans h.c0, (hb.cell hg).trans h.c1, (hb.cell hg).trans h.c2, (hb.cell hg).trans h.c3, (hb.cell hg).trans h.c4, (hb.cell hg).trans h.c5, (hb.frozen hg).trans h.f0, (hb.frozen hg).trans h.f1, (hb.frozen hg).trans h.f2, (hb.frozen hg).trans h.f3, (hb.frozen hg).trans h.f4, (hb.frozen hg).trans h.f5, Nat.lt_of_lt_of_le h.lt hs⟩

/-- What is owned from B on is not touched below B, or in a block of another kind. -/
theorem own_put {B : Nat} {w : World} {e : TypeId} {sz : Nat} {v : Value} {n : Nat} {xs : List Value} (h : w.ownsRow B e sz v n xs) {r : Nat} (hr : r < B) (o : Obj) : (putM w r o).ownsRow B e sz v n xs := by
  refine ⟨h.1, ?_⟩
  rcases h.2 with hn | ⟨g, cap, cur, hv, hb2, hg, rest⟩
  · exact .inl hn
  · exact .inr ⟨g, cap, cur, hv, hb2, by rw [putM_off (by omega)]; exact hg, rest⟩
theorem own_set {B : Nat} {w : World} {e : TypeId} {sz : Nat} {v : Value} {n : Nat} {xs : List Value} (h : w.ownsRow B e sz v n xs) {r k : Nat} (hr : r < B) (u : Value) : (w.setCell ⟨r, k, none⟩ u).ownsRow B e sz v n xs := by
  refine ⟨h.1, ?_⟩
  rcases h.2 with hn | ⟨g, cap, cur, hv, hb2, hg, rest⟩
  · exact .inl hn
  · refine .inr ⟨g, cap, cur, hv, hb2, ?_, rest⟩
    rw [← hg]
    exact Below.heap_setCell w ⟨r, k, none⟩ u g (by show g ≠ r; omega)

theorem wpList_mapNew {w : World} {ops : Array Oper} {rest : List Oper} {o : Oper} {a : Act} {Q : Exit → Act → World → Prop} (hg : o.guard = none) (m x v : Operand) (hop : o.op = Op.mapUpdate 42 m x v)
    (r : Nat) (hm : a.eval m = .map (some r)) (mv : Opw) (hx : a.eval x = .agg #[.int .i64 mv.k, .int .i64 mv.a, .int .i64 mv.b, .int .i64 mv.n, .float .f64 mv.lo, .float .f64 mv.hi]) (T : List Opw) (hv : a.eval v = .int .i64 (T.length : Int))
    (ok : mv.ok) (oks : ∀ t ∈ T, t.ok) (hn : T.findIdx? (eqO mv) = none) (hb : w.heap[r]? = some (.map (entO T) T.length))
    (h : wpList Try.prog ops Q rest (a.put o.dst undef) (putM w r (.map (entO (T ++ [mv])) (T.length + 1)))) : wpList Try.prog ops Q (o :: rest) a w := by
  refine wpList_plain hg fun K' hK' => ?_
  have hrun := put_op mv ok T oks hn r w hb
  unfold Opw.val at hrun
  unfold Oper.wp
  simp [execOp, hop, hm, hx, hv, hrun, Result.andThen]
  exact hK' _ _ h

/-- One more whole number, at a step of a region that draws its order. -/
theorem step_pushN {B g0 : Nat} {w : World} {ops : Array Oper} {o : Oper} {a : Act} {K : Act → World → Prop} {Q : Exit → Act → World → Prop} {E : Prop} (hgd : o.guard = none) (s x : Operand)
    (ho : o.op = .call { callee := .builtin .append, args := #[s, x], argTypes := #[23, 23] }) (v : Value) (zs : List Int) (z : Int) (hs : a.eval s = v) (hx : a.eval x = .slice (some ⟨g0, 0, none⟩) 1 1)
    (hc : w.cell? ⟨g0, 0, none⟩ = some (.int .i64 z)) (hown : OwnN B w v zs) (hl : zs.length ≤ 2000000) (hB : B ≤ w.heap.size)
    (h : ∀ q c w', OwnN B w' (.slice q (zs.length + 1) c) (zs ++ [z]) → Below B w w' → w.heap.size ≤ w'.heap.size → K (a.put o.dst (.slice q (zs.length + 1) c)) w') :
    if Region.wanted o (yielded ops a.tmps) = true then Oper.wp Try.prog o a w K Q else E := by
  obtain ⟨i0, hi, hz0, hz1, hz2⟩ := info_parts Try.infoInt
  refine step_append_lies w hgd s x 23 ho B 3 i0 (.int .i64 0) 1 8 Try.underlying23 hi hz0 hz1 hz2 rfl (by decide) v zs.length _ hs hown ⟨g0, 0, none⟩ 1 1 [.int .i64 z] hx rfl ?_ ?_ (by omega) (by unfold maxLen; omega) (by omega) hB w.heap.size rfl ?_
  · intro j u hj
    match j, hj with
    | 0, hj => simp at hj; subst hj; simpa [Addr.add] using hc
  · intro u hu
    simp at hu
    rw [hu]
    rfl
  · intro g cap w' h1 h2 _ _
    have lt : ∀ k, v.ownBlock = some k → B ≤ k := fun k hk => (World.ownsRow.lt hown k hk).1
    refine h _ _ w' ?_ ((Below.refl B w).grown h2 hB lt) h2.size
    unfold OwnN
    rw [List.length_append, List.map_append]
    exact h1

end Go.Proofs.Ytfhccdpdjadepaa
