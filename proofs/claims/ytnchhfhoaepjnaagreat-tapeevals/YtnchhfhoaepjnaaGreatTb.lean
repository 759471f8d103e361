/- Tapes: which operations may be, as the program tells. -/
import Derived.Test.YtnchhfhoaepjnaaGreatTa
namespace Go.Proofs.YtnchhfhoaepjnaaGreat
open Go.ChangeShapes Go.WideShapes Go.ChangeAt Go.RowKit

def Opw.at (o : Opw) (j : Nat) : Int := if j = 0 then o.a else o.b
def Opw.ar (o : Opw) : Nat := (arI o.k).toNat
/-- Are all operands operations ahead? -/
def opdB (o : Opw) (i : Int) : Bool := (List.range o.ar).all fun j => oneOf (o.at j) i
def restB (o : Opw) (vars : Int) : Bool := if o.k = 1 then hsB o.lo o.hi else if o.k = 2 then oneOf o.n vars else if o.k = 8 then decide (-64 ≤ o.n ∧ o.n ≤ 64) else true
def opB (o : Opw) (i vars : Int) : Bool := decide (1 ≤ o.k ∧ o.k ≤ 14) && opdB o i && restB o vars

theorem all_upto2 {p : Nat → Bool} {n : Nat} : (List.range n).all p = true ↔ ∀ i, i < n → p i = true := by
  rw [List.all_eq_true]
  exact ⟨fun h i hi => h i (List.mem_range.2 hi), fun h i hi => h i (List.mem_range.1 hi)⟩

theorem all_not2 {p : Nat → Bool} {n i : Nat} (hi : i < n) (h : p i = false) : (List.range n).all p = false := by
  cases c : (List.range n).all p
  · rfl
  · rw [all_upto2.1 c i hi] at h; cases h

set_option maxHeartbeats 1000000 in
theorem opMay_w (o : Opw) (i vars : Int) (hl : o.lo < 18446744073709551616) (hh : o.hi < 18446744073709551616) (w : World) :
    Calls Tryz.prog 60 #[o.val, .int .i64 i, .int .i64 vars] w fun e w' => e = .returned (.bool (opB o i vars)) ∧ Below w.heap.size w w' := by
  by_cases h1 : o.k < 1
  · have e : opB o i vars = false := by unfold opB; rw [decide_eq_false (by omega)]; rfl
    rw [e]
    unfold Opw.val
    go_enter Tryz.func60, Tryz.ntmps60
    go_wp2_with fail
    go_ret
    exact ⟨rfl, by go_grown⟩
  by_cases h2 : o.k > 14
  · have e : opB o i vars = false := by unfold opB; rw [decide_eq_false (by omega)]; rfl
    rw [e]
    unfold Opw.val
    go_enter Tryz.func60, Tryz.ntmps60
    go_wp2_with fail
    go_ret
    exact ⟨rfl, by go_grown⟩
  have e : opB o i vars = (opdB o i && restB o vars) := by unfold opB; rw [decide_eq_true (by omega)]; rfl
  rw [e]
  have co := fun w => operands_w o w
  have har : o.ar ≤ 2 := by have := ar_le o.k; unfold Opw.ar; omega
  have hL : (arI o.k).toNat = o.ar := rfl
  rw [hL] at co
  have hd : opdB o i = (List.range o.ar).all fun j => oneOf (o.at j) i := rfl
  clear hL e
  generalize o.ar = L at *
  unfold Opw.val at *
  go_enter Tryz.func60, Tryz.ntmps60
  go_wp2_with (go_at_call 62; refine (co _).mono ?_; rintro _ w1 ⟨⟨B, hB0, hB1, rfl, c0, c1⟩, hb1⟩)
  have k0 : w1.cell? ⟨w.heap.size, 0, none⟩ = some (.int .i64 o.k) := keepsC hb1 (by go_simp) (by go_size)
  have k3 : w1.cell? ⟨w.heap.size, 3, none⟩ = some (.int .i64 o.n) := keepsC hb1 (by go_simp) (by go_size)
  have k4 : w1.cell? ⟨w.heap.size, 4, none⟩ = some (.float .f64 o.lo) := keepsC hb1 (by go_simp) (by go_size)
  have k5 : w1.cell? ⟨w.heap.size, 5, none⟩ = some (.float .f64 o.hi) := keepsC hb1 (by go_simp) (by go_size)
  have HB : Below w.heap.size w w1 := later (by go_grown) hb1
  have ca : ∀ j, j < L → w1.cell? ⟨B, j, none⟩ = some (.int .i64 (o.at j)) := by
    intro j hj
    have : j = 0 ∨ j = 1 := by omega
    rcases this with rfl | rfl
    · exact c0
    · exact c1
  clear co hb1 c0 c1 hB0
  go_loopg [20] L (fun G s20 wx => wx = w1 ∧ ∃ j : Nat, j + G = L ∧ s20 = .int .i64 (j : Int) ∧ Hid (∀ q, q < j → oneOf (o.at q) i = true))
  case atStart => exact ⟨rfl, 0, by omega, rfl, fun j hj => absurd hj (by omega)⟩
  case round =>
    obtain ⟨rfl, j, hj, rfl, hall⟩ := hrel
    by_cases cj : j = L
    · have e1 : opdB o i = true := by rw [hd]; subst cj; exact all_upto2.2 hall
      subst cj
      by_cases q1 : o.k = 1
      · have e2 : restB o vars = hsB o.lo o.hi := by unfold restB; rw [if_pos q1]
        have ee : (opdB o i && restB o vars) = _ := (congr (congrArg and e1) e2).trans (Bool.true_and _)
        have cm := fun w => mayHold_w o.lo o.hi hl hh w
        rw [q1] at k0
        replace ee : Hid _ := ee
        clear hd e1 e2 hall ca
        go_wp2_with (go_at_call 33; refine (cm _).mono ?_; rintro _ w2 ⟨rfl, hb2⟩)
        go_ret
        exact ⟨congrArg (fun q => Ending.returned (Value.bool q)) (Eq.symm ee), later HB hb2⟩
      by_cases q2 : o.k = 2
      · have e2 : restB o vars = oneOf o.n vars := by unfold restB; rw [if_neg q1, if_pos q2]
        have ee : (opdB o i && restB o vars) = _ := (congr (congrArg and e1) e2).trans (Bool.true_and _)
        rw [q2] at k0
        replace ee : Hid _ := ee
        clear hd e1 e2 hall ca
        go_wp2_with (go_at_call 61; refine (oneOf_w _ _ _).mono ?_; rintro _ _ ⟨rfl, rfl⟩)
        go_ret
        first | exact ⟨congrArg (fun q => Ending.returned (Value.bool q)) (Eq.symm ee), HB⟩ | exact ⟨rfl, HB⟩
      by_cases q8 : o.k = 8
      · have e2 : restB o vars = decide (-64 ≤ o.n ∧ o.n ≤ 64) := by unfold restB; rw [if_neg q1, if_neg q2, if_pos q8]
        have ee : (opdB o i && restB o vars) = _ := (congr (congrArg and e1) e2).trans (Bool.true_and _)
        rw [q8] at k0
        replace ee : Hid _ := ee
        clear hd e1 e2 hall ca
        by_cases g1 : -64 ≤ o.n
        · by_cases g2 : o.n ≤ 64
          · replace ee := Eq.trans ee (decide_eq_true (And.intro g1 g2))
            go_wp2_with fail
            go_ret
            first | exact ⟨congrArg (fun q => Ending.returned (Value.bool q)) (Eq.symm ee), HB⟩ | exact ⟨rfl, HB⟩
          · replace ee := Eq.trans ee (decide_eq_false (fun q : -64 ≤ o.n ∧ o.n ≤ 64 => g2 q.2))
            go_wp2_with fail
            go_ret
            first | exact ⟨congrArg (fun q => Ending.returned (Value.bool q)) (Eq.symm ee), HB⟩ | exact ⟨rfl, HB⟩
        · replace ee := Eq.trans ee (decide_eq_false (fun q : -64 ≤ o.n ∧ o.n ≤ 64 => g1 q.1))
          go_wp2_with fail
          go_ret
          first | exact ⟨congrArg (fun q => Ending.returned (Value.bool q)) (Eq.symm ee), HB⟩ | exact ⟨rfl, HB⟩
      · have e2 : restB o vars = true := by unfold restB; rw [if_neg q1, if_neg q2, if_neg q8]
        have ee : (opdB o i && restB o vars) = _ := (congr (congrArg and e1) e2).trans (Bool.true_and _)
        replace ee : Hid _ := ee
        clear hd e1 e2 hall ca
        go_wp2_with fail
        go_ret
        first | exact ⟨congrArg (fun q => Ending.returned (Value.bool q)) (Eq.symm ee), HB⟩ | exact ⟨rfl, HB⟩
    · have hlt : (j : Int) < (L : Int) := by omega
      have cc := ca j (by omega)
      have hcase : oneOf (o.at j) i = true ∨ oneOf (o.at j) i = false := by cases oneOf (o.at j) i <;> simp
      have c1 := fun w => oneOf_w (o.at j) i w
      clear ca k0 k3 k4 k5
      rcases hcase with hq | hq
      · rw [hq] at c1
        go_wp2_with (go_at_call 61; refine (c1 _).mono ?_; rintro _ _ ⟨rfl, rfl⟩)
        go_roundg (L - j - 1)
        case measure => omega
        case rel => exact ⟨rfl, j + 1, by omega, by go_num, fun q hq' => by rcases Nat.lt_or_ge q j with h | h; exact hall q h; rw [show q = j by omega]; exact hq⟩
      · rw [hq] at c1
        have e1 : opdB o i = false := by rw [hd]; exact all_not2 (i := j) (by omega) hq
        have ee : (opdB o i && restB o vars) = false := by rw [e1, Bool.false_and]
        go_wp2_with (go_at_call 61; refine (c1 _).mono ?_; rintro _ _ ⟨rfl, rfl⟩)
        go_ret
        first | exact ⟨congrArg (fun q => Ending.returned (Value.bool q)) (Eq.symm ee), HB⟩ | exact ⟨rfl, HB⟩

/-- n operations from an address on. -/
def Ops (w : World) (A : Option Addr) (n : Nat) (X : Nat → Opw) : Prop :=
  ∀ i, i < n → ∃ b o, A = some ⟨b, o, none⟩ ∧ b < w.heap.size ∧ w.cell? ⟨b, o + i * 6, none⟩ = some (.int .i64 (X i).k) ∧ w.cell? ⟨b, o + i * 6 + 1, none⟩ = some (.int .i64 (X i).a) ∧ w.cell? ⟨b, o + i * 6 + 2, none⟩ = some (.int .i64 (X i).b) ∧ w.cell? ⟨b, o + i * 6 + 3, none⟩ = some (.int .i64 (X i).n) ∧ w.cell? ⟨b, o + i * 6 + 4, none⟩ = some (.float .f64 (X i).lo) ∧ w.cell? ⟨b, o + i * 6 + 5, none⟩ = some (.float .f64 (X i).hi) ∧ (X i).lo < 18446744073709551616 ∧ (X i).hi < 18446744073709551616

theorem Ops.keep {w w2 : World} {A : Option Addr} {n : Nat} {X : Nat → Opw} (h : Ops w A n X) (hb : Below w.heap.size w w2) : Ops w2 A n X := fun i hi => by
  obtain ⟨b, o, e, l, c0, c1, c2, c3, c4, c5, r⟩ := h i hi
  exact ⟨b, o, e, Nat.lt_of_lt_of_le l hb.size, keepsC hb c0 l, keepsC hb c1 l, keepsC hb c2 l, keepsC hb c3 l, keepsC hb c4 l, keepsC hb c5 l, r⟩

/-- n whole numbers from an address on. -/
def Ins (w : World) (A : Option Addr) (n : Nat) (Y : Nat → Int) : Prop :=
  ∀ i, i < n → ∃ b o, A = some ⟨b, o, none⟩ ∧ b < w.heap.size ∧ w.cell? ⟨b, o + i, none⟩ = some (.int .i64 (Y i))

theorem Ins.keep {w w2 : World} {A : Option Addr} {n : Nat} {Y : Nat → Int} (h : Ins w A n Y) (hb : Below w.heap.size w w2) : Ins w2 A n Y := fun i hi => by
  obtain ⟨b, o, e, l, c0⟩ := h i hi
  exact ⟨b, o, e, Nat.lt_of_lt_of_le l hb.size, keepsC hb c0 l⟩

def tapeV (v : Int) (A : Option Addr) (n C : Nat) (D : Option Addr) (m E : Nat) : Value := .agg #[.int .i64 v, .slice A n C, .slice D m E]

def opsB (v : Int) (n : Nat) (X : Nat → Opw) : Bool := (List.range n).all fun i => opB (X i) (i : Int) v
def outsB (n m : Nat) (Y : Nat → Int) : Bool := (List.range m).all fun i => oneOf (Y i) (n : Int)
def sizesB (v : Int) (n m : Nat) : Bool := decide (0 ≤ v ∧ v ≤ 64 ∧ n ≤ 4000 ∧ m ≤ 400)
def rightT (v : Int) (n : Nat) (X : Nat → Opw) (m : Nat) (Y : Nat → Int) : Bool := sizesB v n m && opsB v n X && outsB n m Y

theorem sizes_w (v : Int) (A : Option Addr) (n C : Nat) (D : Option Addr) (m E : Nat) (w : World) :
    Calls Tryz.prog 26 #[tapeV v A n C D m E] w fun e w' => e = .returned (.bool (sizesB v n m)) ∧ Below w.heap.size w w' := by
  by_cases h1 : 0 ≤ v
  · by_cases h2 : v ≤ 64
    · by_cases h3 : (n : Int) ≤ 4000
      · by_cases h4 : (m : Int) ≤ 400
        · have e : sizesB v n m = true := decide_eq_true (by omega)
          rw [e]
          unfold tapeV
          go_enter Tryz.func26, Tryz.ntmps26
          go_wp2_with fail
          go_ret
          exact ⟨rfl, by go_grown⟩
        · have e : sizesB v n m = false := decide_eq_false (by omega)
          rw [e]
          unfold tapeV
          go_enter Tryz.func26, Tryz.ntmps26
          go_wp2_with fail
          go_ret
          exact ⟨rfl, by go_grown⟩
      · have e : sizesB v n m = false := decide_eq_false (by omega)
        rw [e]
        unfold tapeV
        go_enter Tryz.func26, Tryz.ntmps26
        go_wp2_with fail
        go_ret
        exact ⟨rfl, by go_grown⟩
    · have e : sizesB v n m = false := decide_eq_false (by omega)
      rw [e]
      unfold tapeV
      go_enter Tryz.func26, Tryz.ntmps26
      go_wp2_with fail
      go_ret
      exact ⟨rfl, by go_grown⟩
  · have e : sizesB v n m = false := decide_eq_false (by omega)
    rw [e]
    unfold tapeV
    go_enter Tryz.func26, Tryz.ntmps26
    go_wp2_with fail
    go_ret
    exact ⟨rfl, by go_grown⟩

end Go.Proofs.YtnchhfhoaepjnaaGreat
