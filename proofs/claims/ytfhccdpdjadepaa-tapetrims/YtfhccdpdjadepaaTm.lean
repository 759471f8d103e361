/- Trimming: the plain facts, and a map whose keys are operations. -/
import Derived.Test.YtfhccdpdjadepaaTe
import Derived.WideKeyRuns
namespace Go.Proofs.Ytfhccdpdjadepaa
open Go.ChangeShapes Go.WideShapes Go.ChangeAt Go.RowKit

/-- Are two operations the same, as a whole? -/
def eqO (x y : Opw) : Bool := x.k == y.k && (x.a == y.a && (x.b == y.b && (x.n == y.n && (eqB x.lo y.lo && eqB x.hi y.hi))))
def Opw.ok (x : Opw) : Prop := x.lo < 18446744073709551616 ∧ x.hi < 18446744073709551616

theorem equalIn_f (a b : Nat) (w : World) : (Op.equalIn 9998 33 (.float .f64 a) (.float .f64 b)).run Try.prog w = .ok (FloatKind.f64.format.order a b == some .eq) w := by
  unfold Op.equalIn
  simp [go_sem]
  rfl

theorem equalIn_iv (a b c d : Nat) (w : World) : (Op.equalIn 9999 35 (.agg #[.float .f64 a, .float .f64 b]) (.agg #[.float .f64 c, .float .f64 d])).run Try.prog w = .ok ((FloatKind.f64.format.order a c == some .eq) && (FloatKind.f64.format.order b d == some .eq)) w := by
  show (Op.equalIn (9998 + 1) 35 _ _).run Try.prog w = _
  rw [run_equalIn_struct w 9998 35 _ _ (by kernel_rfl) (by kernel_rfl)]
  cases h1 : (FloatKind.f64.format.order a c == some .eq) <;> cases h2 : (FloatKind.f64.format.order b d == some .eq) <;> simp [go_sem, equalIn_f, h1, h2]

theorem equal_op (x y : Opw) (hx : x.ok) (hy : y.ok) (w : World) : (Op.equal 37 x.val y.val).run Try.prog w = .ok (eqO x y) w := by
  have e1 := o_eq hx.1 hy.1
  have e2 := o_eq hx.2 hy.2
  unfold Opw.val
  show (Op.equalIn (9999 + 1) 37 _ _).run Try.prog w = _
  rw [run_equalIn_struct w 9999 37 _ _ (by kernel_rfl) (by kernel_rfl)]
  unfold eqO
  rw [← e1, ← e2]
  cases h1 : x.k == y.k
  · simp [go_sem, h1]
  cases h2 : x.a == y.a
  · simp [go_sem, h1, h2]
  cases h3 : x.b == y.b
  · simp [go_sem, h1, h2, h3]
  cases h4 : x.n == y.n
  · simp [go_sem, h1, h2, h3, h4]
  cases h5 : (FloatKind.f64.format.order x.lo y.lo == some .eq) <;> cases h6 : (FloatKind.f64.format.order x.hi y.hi == some .eq) <;> simp [go_sem, h1, h2, h3, h4, equalIn_iv, h5, h6]

/-- The map's entries: each operation with its place. -/
def entL (T : List Opw) (i : Nat) : List MapEntry := (T.zipIdx i).map fun p => { key := p.1.val, val := .int .i64 (p.2 : Int), born := p.2 }
def entO (T : List Opw) : Array MapEntry := (entL T 0).toArray

theorem entL_cons (o : Opw) (T : List Opw) (i : Nat) : entL (o :: T) i = { key := o.val, val := .int .i64 (i : Int), born := i } :: entL T (i + 1) := by
  unfold entL; simp [List.zipIdx_cons]

theorem entO_push (T : List Opw) (o : Opw) : entO (T ++ [o]) = (entO T).push { key := o.val, val := .int .i64 (T.length : Int), born := T.length } := by
  unfold entO entL
  rw [List.zipIdx_append]
  simp

theorem find_ops (mv : Opw) (hm : mv.ok) (w : World) : ∀ (T : List Opw) (i : Nat), (∀ t ∈ T, t.ok) → (Instr.findAsking 37 mv.val (entL T i) i).run Try.prog w = .ok ((T.findIdx? (eqO mv)).map fun j => (i + j, .int .i64 ((i + j : Nat) : Int))) w
  | [], i, _ => by simp [entL, Instr.findAsking]
  | o :: T, i, h => by
    rw [entL_cons]
    unfold Instr.findAsking
    have e := equal_op mv o hm (h o (by simp)) w
    have ih := find_ops mv hm w T (i + 1) (fun t ht => h t (by simp [ht]))
    cases c : eqO mv o
    · rw [c] at e
      simp only [Sem.run_bind, e, Result.andThen_ok, Bool.false_eq_true, if_false]
      rw [ih, List.findIdx?_cons, c]
      cases T.findIdx? (eqO mv) with
      | none => rfl
      | some j =>
        simp only [Option.map_some]
        rw [show i + 1 + j = i + (j + 1) by omega]
        rfl
    · rw [c] at e
      simp only [Sem.run_bind, e, Result.andThen_ok, if_true]
      rw [List.findIdx?_cons, c]
      simp

theorem findKey_ops (mv : Opw) (hm : mv.ok) (T : List Opw) (h : ∀ t ∈ T, t.ok) (w : World) : (Instr.findKey 37 mv.val (entO T).toList).run Try.prog w = .ok ((T.findIdx? (eqO mv)).map fun j => (j, .int .i64 (j : Int))) w := by
  rw [run_findKey_eq (k := 37) w (by kernel_rfl)]
  have := find_ops mv hm w T 0 h
  simpa [entO] using this

theorem ck_int (b : Bool) (n : Nat) (x : Int) (w : World) : (Instr.checkKey b (n + 1) 3 (.int .i64 x)).run Try.prog w = .ok () w := by
  unfold Instr.checkKey
  simp [Sem.run_bind, run_underlying Try.underlying3]
theorem ck_flt (b : Bool) (n : Nat) (x : Nat) (w : World) : (Instr.checkKey b (n + 1) 33 (.float .f64 x)).run Try.prog w = .ok () w := by
  unfold Instr.checkKey
  simp [Sem.run_bind, run_underlying Try.underlying33]
theorem ck_iv (b : Bool) (n x y : Nat) (w : World) : (Instr.checkKey b (n + 2) 35 (.agg #[.float .f64 x, .float .f64 y])).run Try.prog w = .ok () w := by
  have c := fun z w => ck_flt b n z w
  generalize hN : n + 1 = N at c
  rw [show n + 2 = N + 1 by omega]
  unfold Instr.checkKey
  simp [Sem.run_bind, run_underlying Try.underlying35, go_sem, c]
theorem ck_op (b : Bool) (n : Nat) (o : Opw) (w : World) : (Instr.checkKey b (n + 3) 37 o.val).run Try.prog w = .ok () w := by
  have c := fun z w => ck_int b (n + 1) z w
  have d := fun x y w => ck_iv b n x y w
  rw [show n + 1 + 1 = n + 2 by omega] at c
  generalize hN : n + 2 = N at c d
  rw [show n + 3 = N + 1 by omega]
  unfold Opw.val
  unfold Instr.checkKey
  simp [Sem.run_bind, run_underlying Try.underlying37, go_sem, c, d]
theorem checkKey_op (o : Opw) (b : Bool) (w : World) : (Instr.checkKey b 10000 37 o.val).run Try.prog w = .ok () w := ck_op b 9997 o w

theorem look_op (mv : Opw) (hm : mv.ok) (T : List Opw) (h : ∀ t ∈ T, t.ok) (r c : Nat) (w : World) (hb : w.heap[r]? = some (.map (entO T) c)) :
    (Instr.lookup 42 (.map (some r)) mv.val true).run Try.prog w = .ok (.tuple #[.int .i64 ((((T.findIdx? (eqO mv)).getD 0 : Nat)) : Int), .bool (T.findIdx? (eqO mv)).isSome]) w := by
  have e1 := findKey_ops mv hm T h w
  have e2 := checkKey_op mv (entO T).isEmpty w
  have e3 := run_getObj_map (P := Try.prog) w r _ _ hb
  unfold Instr.lookup
  simp only [Sem.run_bind, run_underlying Try.underlying42, Result.andThen_ok, e3, e2, e1, Sem.run_pure]
  cases T.findIdx? (eqO mv) with
  | none => simp [go_sem]
  | some j => simp

/-- A world in which one block is another. -/
def putM (w : World) (r : Nat) (o : Obj) : World := { w with heap := w.heap.setIfInBounds r o }

theorem put_op (mv : Opw) (hm : mv.ok) (T : List Opw) (h : ∀ t ∈ T, t.ok) (hn : T.findIdx? (eqO mv) = none) (r : Nat) (w : World) (hb : w.heap[r]? = some (.map (entO T) T.length)) :
    (Instr.mapUpdate 42 (.map (some r)) mv.val (.int .i64 (T.length : Int))).run Try.prog w = .ok () (putM w r (.map (entO (T ++ [mv])) (T.length + 1))) := by
  have e1 := findKey_ops mv hm T h w
  have e2 := checkKey_op mv false w
  have e3 := run_getObj_map (P := Try.prog) w r _ _ hb
  have e4 := Go.MapKept.run_setObj_map (P := Try.prog) (.map (entO (T ++ [mv])) (T.length + 1)) hb
  rw [hn] at e1
  rw [entO_push] at e4 ⊢
  unfold Instr.mapUpdate
  simp only [Sem.run_bind, run_underlying Try.underlying42, Result.andThen_ok, e3, e2, e1, Option.map_none, e4]
  rfl

end Go.Proofs.Ytfhccdpdjadepaa
