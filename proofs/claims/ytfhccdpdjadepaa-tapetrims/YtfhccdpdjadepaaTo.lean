/- Trimming: what is needed, and where it stands now: the plain facts, and the program's small functions. -/
import Derived.Test.YtfhccdpdjadepaaTn
namespace Go.Proofs.Ytfhccdpdjadepaa
open Go.ChangeShapes Go.WideShapes Go.ChangeAt Go.RowKit

def setN (s : Nat → Bool) (j : Nat) : Nat → Bool := fun i => if i = j then true else s i
/-- What the first k of Outs need. -/
def outN (Y : Nat → Int) : Nat → Nat → Bool
  | 0 => fun _ => false
  | k + 1 => setN (outN Y k) (Y k).toNat
/-- .. and an operation's first j operands. -/
def opN (o : Opw) (s : Nat → Bool) : Nat → Nat → Bool
  | 0 => s
  | j + 1 => setN (opN o s j) (o.at j).toNat
/-- .. gone through from the end, d operations. -/
def backN (X : Nat → Opw) (n : Nat) (s : Nat → Bool) : Nat → Nat → Bool
  | 0 => s
  | d + 1 => if backN X n s d (n - 1 - d) then opN (X (n - 1 - d)) (backN X n s d) (X (n - 1 - d)).ar else backN X n s d
def needF (X : Nat → Opw) (n : Nat) (Y : Nat → Int) (m : Nat) : Nat → Bool := backN X n (outN Y m) n

/-- An operation with its operands where they stand now, and nothing in what it does not need. -/
def movO (pl : Nat → Int) (o : Opw) : Opw :=
  { k := o.k, a := if arI o.k = 0 then 0 else pl o.a.toNat, b := if arI o.k = 2 then pl o.b.toNat else 0, n := if o.k = 2 ∨ o.k = 8 then o.n else 0, lo := if o.k = 1 then o.lo else 0, hi := if o.k = 1 then o.hi else 0 }

def updI (pl : Nat → Int) (i : Nat) (z : Int) : Nat → Int := fun j => if j = i then z else pl j
/-- The operations that are kept, and where each stands now, behind i of them. -/
def trimS (X : Nat → Opw) (need : Nat → Bool) : Nat → List Opw × (Nat → Int)
  | 0 => ([], fun _ => 0)
  | i + 1 => if need i then
      match (trimS X need i).1.findIdx? (eqO (movO (trimS X need i).2 (X i))) with
      | some j => ((trimS X need i).1, updI (trimS X need i).2 i (j : Int))
      | none => ((trimS X need i).1 ++ [movO (trimS X need i).2 (X i)], updI (trimS X need i).2 i ((trimS X need i).1.length : Int))
    else trimS X need i

/-- All operands of an operation that may be are operations ahead. -/
theorem opB_at {o : Opw} {i v : Int} (h : opB o i v = true) {j : Nat} (hj : j < o.ar) : 0 ≤ o.at j ∧ o.at j < i := by
  unfold opB at h
  simp only [Bool.and_eq_true] at h
  have := all_upto2.1 h.1.2 j hj
  exact of_decide_eq_true this

theorem ar_cases3 (o : Opw) : (arI o.k = 0 ∧ o.ar = 0) ∨ (arI o.k = 1 ∧ o.ar = 1) ∨ (arI o.k = 2 ∧ o.ar = 2) := by
  have := ar_le o.k
  unfold Opw.ar
  omega

set_option maxHeartbeats 1000000 in
theorem atOps_w (o : Opw) (g n : Nat) (pl : Nat → Int) (hj : ∀ j, j < o.ar → 0 ≤ o.at j ∧ o.at j < (n : Int)) (w : World) (L : Cel w g n (fun i => .int .i64 (pl i))) :
    Calls Try.prog 25 #[o.val, .slice (some ⟨g, 0, none⟩) n n] w fun e w' => e = .returned (.tuple #[.int .i64 (if arI o.k = 0 then 0 else pl o.a.toNat), .int .i64 (if arI o.k = 2 then pl o.b.toNat else 0)]) ∧ Below w.heap.size w w' := by
  have ha := fun w => arity_w o.k w
  rcases ar_cases3 o with ⟨h1, h2⟩ | ⟨h1, h2⟩ | ⟨h1, h2⟩
  · rw [h1] at ha ⊢
    clear hj h1 h2
    unfold Opw.val
    go_enter Try.func25, Try.ntmps25
    go_wp2_with (go_at_call 30; refine (ha _).mono ?_; rintro _ _ ⟨rfl, rfl⟩)
    go_returns
    exact ⟨rfl, by go_grown⟩
  · rw [h1] at ha ⊢
    have q := hj 0 (by omega)
    have q0 : 0 ≤ o.a := q.1
    have q1 : o.a < (n : Int) := q.2
    have c := (L.2 o.a.toNat (by omega)).1
    have lt := L.1
    clear hj h1 h2 q
    unfold Opw.val
    go_enter Try.func25, Try.ntmps25
    go_wp2_with (go_at_call 30; refine (ha _).mono ?_; rintro _ _ ⟨rfl, rfl⟩)
    go_returns
    exact ⟨rfl, by go_grown⟩
  · rw [h1] at ha ⊢
    have q := hj 0 (by omega)
    have q0 : 0 ≤ o.a := q.1
    have q1 : o.a < (n : Int) := q.2
    have p := hj 1 (by omega)
    have p0 : 0 ≤ o.b := p.1
    have p1 : o.b < (n : Int) := p.2
    have c := (L.2 o.a.toNat (by omega)).1
    have d := (L.2 o.b.toNat (by omega)).1
    have lt := L.1
    clear hj h1 h2 q p
    unfold Opw.val
    go_enter Try.func25, Try.ntmps25
    go_wp2_with (go_at_call 30; refine (ha _).mono ?_; rintro _ _ ⟨rfl, rfl⟩)
    first
      | (go_quiet (fail)
         go_wp2_with fail
         go_returns
         exact ⟨rfl, below_drewN (by go_grown) _⟩)
      | (go_region
         all_goals
           go_wp2_with fail
           go_returns
           exact ⟨rfl, by go_grown⟩)
      | (go_region_held3 (fun w' => w'.cell? ⟨g, o.a.toNat, none⟩ = some (.int .i64 (pl o.a.toNat))) (first | go_keep | assumption) (fail)
         all_goals trace_state
         all_goals sorry)

end Go.Proofs.Ytfhccdpdjadepaa
