/- The walks of Add, Mul, Div and Sqrt, way by way: what is no number, what is infinite, nought, and the finite ones. The walks of Div, Sqrt and Sub, way by way. What Add, Mul, Div and Sqrt answer, of all words: by plain functions on numbers. What Add, Sub, Mul, Div and Sqrt answer, of all words: the whole contracts. What Mul, Div and Sqrt answer, of all words: the whole contracts. What Sqrt answers, of all words. -/
import Derived.Test.YtdnpoacjamkhkaaWn
import Derived.Test.YtdnpoacjamkhkaaWd
import Derived.Test.YtdnpoacjamkhkaaRk
namespace Go.Proofs.Ytdnpoacjamkhkaa
open Go.ChangeShapes Go.WideShapes Go.ChangeAt Go.RowKit

/-- What a float operation without an answer hands back: some word that is no number. -/
def nanOf (a b : Nat) (w : World) : Nat := Question.cut (.nanBits .f64 a b) (w.tape w.drawn (.nanBits .f64 a b))
theorem nanOf_nan (a b : Nat) (w : World) : nanB (nanOf a b w) = true ∧ nanOf a b w < 18446744073709551616 := by
  unfold nanOf Question.cut nanB
  generalize w.tape w.drawn (.nanBits .f64 a b) = t
  have hm : t / 2 % (2 ^ 52 - 1) < 4503599627370495 := Nat.mod_lt _ (by decide)
  simp only [decide_eq_true_eq]
  generalize t / 2 % (2 ^ 52 - 1) = u at *
  rcases Nat.mod_two_eq_zero_or_one t with h | h
  · rw [h]; omega
  · rw [h]; omega

theorem run_float_none (op : BinOp) (t : TypeId) (a b : Nat) (hop : op = .add ∨ op = .mul ∨ op = .quo) (h : floatBits op .f64 a b = none) (w : World) :
    (binOp op t (.float .f64 a) (.float .f64 b)).run Try.prog w = .ok (.float .f64 (nanOf a b w)) w.drew := by
  rcases hop with rfl | rfl | rfl
  all_goals
    unfold floatBits at h
    simp only at h
    simp [binOp, Op.floatArith, h, nanOf, Question.forced]

/-- What is handed back: the word, or, where there is none, any word that is no number. -/
def Ans (o : Option Nat) (x : Ending) : Prop := ∃ r, x = .returned (.float .f64 r) ∧ r < 18446744073709551616 ∧ match o with | some v => r = v | none => nanB r = true

theorem ans_nan : Ans none (.returned (.float .f64 9221120237041090561)) := ⟨_, rfl, by omega, by decide⟩

set_option maxHeartbeats 400000 in
theorem add_out (a b : Nat) (dir : Int) (ga gb fa fb : Bool) (ma mb : Nat) (ea eb : Int) (o : Option Nat) (hf : (fa && fb) = false) (hlt : ∀ r, o = some r → r < 18446744073709551616)
    (ha : ∀ w, Calls Try.prog 93 #[.float .f64 a] w fun x w' => x = .returned (.tuple #[.agg #[.bool ga, .int .u64 ma, .int .i64 ea], .bool fa]) ∧ Below w.heap.size w w')
    (hb : ∀ w, Calls Try.prog 93 #[.float .f64 b] w fun x w' => x = .returned (.tuple #[.agg #[.bool gb, .int .u64 mb, .int .i64 eb], .bool fb]) ∧ Below w.heap.size w w')
    (ho : floatBits .add .f64 a b = o) (w : World) :
    Calls Try.prog 63 #[.float .f64 a, .float .f64 b, .int .i64 dir] w fun x w' => Ans o x ∧ Below w.heap.size w w' := by
  have fin : ∀ (w1 w2 : World) (hb1 : Below w.heap.size w w1) (hb2 : Below (w1.alloc (Obj.cells #[Value.bool ga, Value.int IntKind.u64 ma, Value.int IntKind.i64 ea] 78)).heap.size (w1.alloc (Obj.cells #[Value.bool ga, Value.int IntKind.u64 ma, Value.int IntKind.i64 ea] 78)) w2),
      Below w.heap.size w (w2.alloc (Obj.cells #[Value.bool gb, Value.int IntKind.u64 mb, Value.int IntKind.i64 eb] 78)) := fun w1 w2 hb1 hb2 => by
    have t2 : Below w.heap.size w (w1.alloc (Obj.cells #[Value.bool ga, Value.int IntKind.u64 ma, Value.int IntKind.i64 ea] 78)) := hb1.alloc hb1.size _
    have t3 := later t2 hb2
    exact t3.alloc t3.size _
  cases o with
  | some r =>
    have hop := fun (t : TypeId) (w : World) => run_float_arith (P := Try.prog) w .add t .f64 a b r ho
    have hl := hlt r rfl
    clear ho hlt
    cases fa <;> cases fb <;> (try (cases hf; done))
    all_goals
      go_enter Try.func63, Try.ntmps63
      go_upto_region 2 with (first | (go_at_call_of 93 (Value.float .f64 a); refine (ha _).mono ?_; rintro _ w1 ⟨rfl, hb1⟩))
      go_wp2_with (first | (go_at_call_of 93 (Value.float .f64 b); refine (hb _).mono ?_; rintro _ w2 ⟨rfl, hb2⟩))
      go_ret
      exact ⟨⟨r, rfl, hl, rfl⟩, fin w1 w2 hb1 hb2⟩
  | none =>
    have hop := fun (t : TypeId) (w : World) => run_float_none .add t a b (Or.inl rfl) ho w
    clear ho hlt
    cases fa <;> cases fb <;> (try (cases hf; done))
    all_goals
      go_enter Try.func63, Try.ntmps63
      go_upto_region 2 with (first | (go_at_call_of 93 (Value.float .f64 a); refine (ha _).mono ?_; rintro _ w1 ⟨rfl, hb1⟩))
      go_wp2_with (first | (go_at_call_of 93 (Value.float .f64 b); refine (hb _).mono ?_; rintro _ w2 ⟨rfl, hb2⟩))
      go_ret
      exact ⟨⟨_, rfl, (nanOf_nan _ _ _).2, (nanOf_nan _ _ _).1⟩, (fin w1 w2 hb1 hb2).drew⟩

set_option maxHeartbeats 400000 in
theorem mul_core (a b : Nat) (dir : Int) (hx : a < 18446744073709551616) (hy : b < 18446744073709551616) (na : nanB a = false) (nb : nanB b = false) (za : (FloatKind.f64.format.order a 0 == some .eq) = false) (zb : (FloatKind.f64.format.order b 0 == some .eq) = false)
    (ga gb gs : Bool) (ma mb ms : Nat) (ea eb es : Int) (r : Nat)
    (ha : ∀ w, Calls Try.prog 93 #[.float .f64 a] w fun x w' => x = .returned (.tuple #[.agg #[.bool ga, .int .u64 ma, .int .i64 ea], .bool true]) ∧ Below w.heap.size w w')
    (hb : ∀ w, Calls Try.prog 93 #[.float .f64 b] w fun x w' => x = .returned (.tuple #[.agg #[.bool gb, .int .u64 mb, .int .i64 eb], .bool true]) ∧ Below w.heap.size w w')
    (hs : ∀ w, Calls Try.prog 98 #[.agg #[.bool ga, .int .u64 ma, .int .i64 ea], .agg #[.bool gb, .int .u64 mb, .int .i64 eb]] w fun x w' => x = .returned (.agg #[.bool gs, .int .u64 ms, .int .i64 es]) ∧ Below w.heap.size w w')
    (hr : ∀ w, Calls Try.prog 62 #[.agg #[.bool gs, .int .u64 ms, .int .i64 es], .int .i64 dir] w fun x w' => x = .returned (.float .f64 r) ∧ Below w.heap.size w w') (w : World) :
    Calls Try.prog 66 #[.float .f64 a, .float .f64 b, .int .i64 dir] w fun x w' => x = .returned (.float .f64 r) ∧ Below w.heap.size w w' := by
  go_enter Try.func66, Try.ntmps66
  go_upto_region 6 with (first | (go_at_call 96; refine (isNaN_w _ (by assumption) _).mono ?_; rintro _ _ ⟨rfl, rfl⟩) | (go_at_call_of 93 (Value.float .f64 a); refine (ha _).mono ?_; rintro _ w1 ⟨rfl, hb1⟩))
  go_wp2_with (first
    | (go_at_call_of 93 (Value.float .f64 b); refine (hb _).mono ?_; rintro _ w2 ⟨rfl, hb2⟩
       have c0 := keepsC hb2 (b := w1.heap.size) (o := 0) (v := .bool ga) (by go_simp) (by simp)
       have c1 := keepsC hb2 (b := w1.heap.size) (o := 1) (v := .int .u64 ma) (by go_simp) (by simp)
       have c2 := keepsC hb2 (b := w1.heap.size) (o := 2) (v := .int .i64 ea) (by go_simp) (by simp)
       have hsz : w1.heap.size < w2.heap.size := by have := hb2.size; simp only [World.size_alloc] at this; omega)
    | (go_at_call 98; refine (hs _).mono ?_; rintro _ w3 ⟨rfl, hb3⟩)
    | (go_at_call 62; refine (hr _).mono ?_; rintro _ w4 ⟨rfl, hb4⟩))
  all_goals
    go_ret
    refine ⟨rfl, ?_⟩
    have t2 : Below w.heap.size w (w1.alloc (Obj.cells #[Value.bool ga, Value.int IntKind.u64 ma, Value.int IntKind.i64 ea] 78)) := hb1.alloc hb1.size _
    have t3 := later t2 hb2
    have t4 : Below w.heap.size w (w2.alloc (Obj.cells #[Value.bool gb, Value.int IntKind.u64 mb, Value.int IntKind.i64 eb] 78)) := t3.alloc t3.size _
    exact later (later t4 hb3) hb4

theorem mul_nan (a b : Nat) (dir : Int) (hx : a < 18446744073709551616) (hy : b < 18446744073709551616) (h : nanB a = true ∨ nanB a = false ∧ nanB b = true) (w : World) :
    Calls Try.prog 66 #[.float .f64 a, .float .f64 b, .int .i64 dir] w fun x w' => Ans none x ∧ Below w.heap.size w w' := by
  rcases h with h | ⟨h, h2⟩
  all_goals
    go_enter Try.func66, Try.ntmps66
    go_wp2_with (first | (go_at_call 96; refine (isNaN_w _ (by assumption) _).mono ?_; rintro _ _ ⟨rfl, rfl⟩) | (go_at_call 97; refine (nan_w _).mono ?_; rintro _ _ ⟨rfl, rfl⟩))
    go_ret
    exact ⟨ans_nan, Below.refl _ _⟩

theorem mul_zero (a b : Nat) (dir : Int) (hx : a < 18446744073709551616) (hy : b < 18446744073709551616) (na : nanB a = false) (nb : nanB b = false)
    (h : (FloatKind.f64.format.order a 0 == some .eq) = true ∨ (FloatKind.f64.format.order a 0 == some .eq) = false ∧ (FloatKind.f64.format.order b 0 == some .eq) = true) (w : World) :
    Calls Try.prog 66 #[.float .f64 a, .float .f64 b, .int .i64 dir] w fun x w' => Ans (some 0) x ∧ Below w.heap.size w w' := by
  rcases h with h | ⟨h, h2⟩
  all_goals
    go_enter Try.func66, Try.ntmps66
    go_wp2_with (first | (go_at_call 96; refine (isNaN_w _ (by assumption) _).mono ?_; rintro _ _ ⟨rfl, rfl⟩))
    go_ret
    exact ⟨⟨0, rfl, by omega, rfl⟩, Below.refl _ _⟩

set_option maxHeartbeats 400000 in
theorem mul_inf (a b : Nat) (dir : Int) (hx : a < 18446744073709551616) (hy : b < 18446744073709551616) (na : nanB a = false) (nb : nanB b = false) (za : (FloatKind.f64.format.order a 0 == some .eq) = false) (zb : (FloatKind.f64.format.order b 0 == some .eq) = false)
    (ga gb fa fb : Bool) (ma mb : Nat) (ea eb : Int) (r : Nat) (hl : r < 18446744073709551616) (hf : (fa && fb) = false)
    (ha : ∀ w, Calls Try.prog 93 #[.float .f64 a] w fun x w' => x = .returned (.tuple #[.agg #[.bool ga, .int .u64 ma, .int .i64 ea], .bool fa]) ∧ Below w.heap.size w w')
    (hb : ∀ w, Calls Try.prog 93 #[.float .f64 b] w fun x w' => x = .returned (.tuple #[.agg #[.bool gb, .int .u64 mb, .int .i64 eb], .bool fb]) ∧ Below w.heap.size w w')
    (ho : floatBits .mul .f64 a b = some r) (w : World) :
    Calls Try.prog 66 #[.float .f64 a, .float .f64 b, .int .i64 dir] w fun x w' => Ans (some r) x ∧ Below w.heap.size w w' := by
  have hop := fun (t : TypeId) (w : World) => run_float_arith (P := Try.prog) w .mul t .f64 a b r ho
  clear ho
  cases fa <;> cases fb <;> (try (cases hf; done))
  all_goals
    go_enter Try.func66, Try.ntmps66
    go_upto_region 6 with (first | (go_at_call 96; refine (isNaN_w _ (by assumption) _).mono ?_; rintro _ _ ⟨rfl, rfl⟩) | (go_at_call_of 93 (Value.float .f64 a); refine (ha _).mono ?_; rintro _ w1 ⟨rfl, hb1⟩))
    go_wp2_with (first | (go_at_call_of 93 (Value.float .f64 b); refine (hb _).mono ?_; rintro _ w2 ⟨rfl, hb2⟩))
    go_ret
    have t2 : Below w.heap.size w (w1.alloc (Obj.cells #[Value.bool ga, Value.int IntKind.u64 ma, Value.int IntKind.i64 ea] 78)) := hb1.alloc hb1.size _
    have t3 := later t2 hb2
    exact ⟨⟨r, rfl, hl, rfl⟩, t3.alloc t3.size _⟩

end Go.Proofs.Ytdnpoacjamkhkaa

namespace Go.Proofs.Ytdnpoacjamkhkaa
open Go.ChangeShapes Go.WideShapes Go.ChangeAt Go.RowKit

end Go.Proofs.Ytdnpoacjamkhkaa

namespace Go.Proofs.Ytdnpoacjamkhkaa
open Go.ChangeShapes Go.WideShapes Go.ChangeAt Go.RowKit

theorem lz_zero (w : World) : Calls Try.prog 87 #[.int .u64 0] w fun e w' => e = .returned (.int .i64 64) ∧ w = w' := by
  have c := fun w => len64_i 0 w (by omega) (by omega)
  have e : ((Lib.bitLen (0 : Int).toNat : Nat) : Int) = 0 := rfl
  rw [e] at c
  go_enter Try.func87, Try.ntmps87
  go_wp2_with (go_at_call 106; refine (c _).mono ?_; rintro _ _ ⟨rfl, rfl⟩)
  all_goals (go_ret; exact ⟨rfl, rfl⟩)

theorem normal_zero (g : Bool) (e : Int) (he1 : -1000000 ≤ e) (he2 : e ≤ 1000000) (w : World) :
    Calls Try.prog 90 #[.agg #[.bool g, .int .u64 0, .int .i64 e]] w fun r w' => r = .returned (.agg #[.bool g, .int .u64 0, .int .i64 (e - 64)]) ∧ Below w.heap.size w w' := by
  go_enter Try.func90, Try.ntmps90
  go_wp2_with (go_at_call 87; refine (lz_zero _).mono ?_; rintro _ _ ⟨rfl, rfl⟩)
  all_goals (go_returns; exact ⟨rfl, by go_grown⟩)

end Go.Proofs.Ytdnpoacjamkhkaa

namespace Go.Proofs.Ytdnpoacjamkhkaa
open Go.ChangeShapes Go.WideShapes Go.ChangeAt Go.RowKit

theorem read_nan {x : Nat} (hx : x < 18446744073709551616) (h : nanB x = true) : ∃ s f, Ieee.double.read x = .nan s f := by
  have hr : 9218868437227405312 < x % 9223372036854775808 := by simpa [nanB] using h
  rw [read_eq x hx, if_neg (by omega), if_neg (by omega)]
  exact ⟨_, _, rfl⟩
theorem read_inf {x : Nat} (hx : x < 18446744073709551616) (h : nanB x = false) (hf : finB x = false) : Ieee.double.read x = .infinity (decide (9223372036854775808 ≤ x)) := by
  have hr : ¬ 9218868437227405312 < x % 9223372036854775808 := by simpa [nanB] using h
  have hg : ¬ x % 9223372036854775808 < 9218868437227405312 := by simpa [finB] using hf
  rw [read_eq x hx, if_neg hg, if_pos (by omega)]
theorem read_fin {x : Nat} (hx : x < 18446744073709551616) (hf : finB x = true) : ∃ e, Ieee.double.read x = .number (decide (9223372036854775808 ≤ x)) (splitM x) e := by
  have hg : x % 9223372036854775808 < 9218868437227405312 := by simpa [finB] using hf
  rw [read_eq x hx, if_pos hg]
  exact ⟨_, rfl⟩
theorem write_inf (s : Bool) : Ieee.double.write (.infinity s) = if s then 18442240474082181120 else 9218868437227405312 := by cases s <;> decide
theorem inf_word {x : Nat} (hx : x < 18446744073709551616) (h : nanB x = false) (hf : finB x = false) : x = if decide (9223372036854775808 ≤ x) then 18442240474082181120 else 9218868437227405312 := by
  have hr : ¬ 9218868437227405312 < x % 9223372036854775808 := by simpa [nanB] using h
  have hg : ¬ x % 9223372036854775808 < 9218868437227405312 := by simpa [finB] using hf
  by_cases c : 9223372036854775808 ≤ x
  · simp only [c, decide_true, if_true]; omega
  · simp only [c, decide_false, Bool.false_eq_true, if_false]; omega
theorem fin_not_nan {x : Nat} (hf : finB x = true) : nanB x = false := by
  have hg : x % 9223372036854775808 < 9218868437227405312 := by simpa [finB] using hf
  simp [nanB]; omega
theorem nan_not_fin {x : Nat} (h : nanB x = true) : finB x = false := by
  cases hf : finB x
  · rfl
  · rw [fin_not_nan hf] at h; cases h

theorem split_any (x : Nat) (hx : x < 18446744073709551616) : ∃ (g : Bool) (m : Nat) (e : Int), ∀ w, Calls Try.prog 93 #[.float .f64 x] w fun r w' => r = .returned (.tuple #[.agg #[.bool g, .int .u64 m, .int .i64 e], .bool (finB x)]) ∧ Below w.heap.size w w' := by
  cases hf : finB x
  · exact ⟨false, 0, 0, fun w => split_not x hx hf w⟩
  · exact ⟨_, _, _, fun w => split_w x hx hf w⟩

theorem splitM_norm {x : Nat} (hf : finB x = true) : splitM x ≠ 0 → -1074 < splitE x → 4503599627370496 ≤ splitM x := by
  have hg : x % 9223372036854775808 < 9218868437227405312 := by simpa [finB] using hf
  unfold splitM splitE
  intro h1 h2
  split at h2
  · split at h1 <;> omega
  · split <;> omega

def isZ (x : Nat) : Bool := decide (x % 9223372036854775808 = 0)
def infW (g : Bool) : Nat := if g then 18442240474082181120 else 9218868437227405312
def signB (x : Nat) : Bool := decide (9223372036854775808 ≤ x)

def addF (a b : Nat) (dir : Int) : Nat := roundN (sumG (splitG a) (splitM a) (splitE a) (splitG b) (splitM b) (splitE b)) (sumM (splitG a) (splitM a) (splitE a) (splitG b) (splitM b) (splitE b)) (sumE (splitM a) (splitE a) (splitM b) (splitE b)) dir
def addR (a b : Nat) (dir : Int) : Option Nat :=
  if nanB a || nanB b then none else if finB a && finB b then some (addF a b dir) else if !finB a && !finB b && (signB a != signB b) then none else some (if finB a then b else a)

theorem markN_lt {m : Nat} {l : Bool} (h : m < 18446744073709551616) : markN m l < 18446744073709551616 := by unfold markN; split <;> omega
theorem moveN_lt {m n : Nat} (h : m < 18446744073709551616) : moveN m n < 18446744073709551616 := markN_lt (Nat.lt_of_le_of_lt (Nat.div_le_self _ _) h)
theorem moveN_le {m n : Nat} (h : m ≤ 9223372036854775807) : moveN m n ≤ 9223372036854775808 := by
  have := Nat.div_le_self m (2 ^ n)
  unfold moveN markN; split <;> omega
theorem sumM_lt (ga : Bool) (ma : Nat) (ea : Int) (gb : Bool) (mb : Nat) (eb : Int) (h1 : ma < 9007199254740992) (h2 : mb < 9007199254740992) : sumM ga ma ea gb mb eb < 18446744073709551616 := by
  have hA : ∀ (g : Bool) (x : Nat) (e : Int) (g' : Bool) (y : Nat) (e' : Int), x < 9007199254740992 → y < 9007199254740992 → addM g x e g' y e' < 18446744073709551616 := fun g x e g' y e' hx hy => by
    have := moveN_le (m := y * 1024) (n := (e - e').toNat) (by omega)
    unfold addM; split <;> omega
  unfold sumM
  split
  · omega
  · split
    · omega
    · split
      · exact hA _ _ _ _ _ _ h2 h1
      · exact hA _ _ _ _ _ _ h1 h2

theorem add_bits {a b : Nat} (ha : a < 18446744073709551616) (hb : b < 18446744073709551616) (dir : Int) (hf : (finB a && finB b) = false) : floatBits .add .f64 a b = addR a b dir := by
  show ((Ieee.double.read a).sum (Ieee.double.read b)).map Ieee.double.write = _
  unfold addR
  cases na : nanB a
  · cases nb : nanB b
    · simp only [Bool.or_self, Bool.false_eq_true, if_false, hf]
      cases fa : finB a
      · rw [read_inf ha na fa]
        have ea := inf_word ha na fa
        cases fb : finB b
        · rw [read_inf hb nb fb]
          unfold signB
          simp only [Ieee.Datum.sum, Bool.not_false, Bool.true_and, Bool.false_eq_true, if_false]
          generalize decide (9223372036854775808 ≤ a) = s at *
          generalize decide (9223372036854775808 ≤ b) = t at *
          cases s <;> cases t <;> simp only [if_true, if_false, Option.map, write_inf, bne_self_eq_false, Bool.false_eq_true, Bool.true_eq_false] <;> first | rfl | (rw [ea]; rfl)
        · obtain ⟨e, he⟩ := read_fin hb fb
          rw [he]
          simp only [Ieee.Datum.sum, Option.map, write_inf, Bool.not_true, Bool.and_false, Bool.false_and, Bool.false_eq_true, if_false]
          rw [← ea]
      · have fb : finB b = false := by rw [fa] at hf; simpa using hf
        rw [read_inf hb nb fb]
        have eb := inf_word hb nb fb
        obtain ⟨e, he⟩ := read_fin ha fa
        rw [he]
        simp only [Ieee.Datum.sum, Option.map, write_inf, Bool.not_true, Bool.false_and, Bool.false_eq_true, if_false, if_true]
        rw [← eb]
    · obtain ⟨s, f, he⟩ := read_nan hb nb
      rw [he]
      simp only [Bool.or_true, if_true]
      cases Ieee.double.read a <;> rfl
  · obtain ⟨s, f, he⟩ := read_nan ha na
    rw [he]
    simp only [Bool.true_or, if_true]
    rfl

theorem add_w (a b : Nat) (dir : Int) (ha : a < 18446744073709551616) (hb : b < 18446744073709551616) (w : World) :
    Calls Try.prog 63 #[.float .f64 a, .float .f64 b, .int .i64 dir] w fun x w' => Ans (addR a b dir) x ∧ Below w.heap.size w w' := by
  by_cases hf : (finB a && finB b) = true
  · have fa : finB a = true := by cases h : finB a <;> simp_all
    have fb : finB b = true := by cases h : finB b <;> simp_all
    have e : addR a b dir = some (addF a b dir) := by unfold addR; simp only [fin_not_nan fa, fin_not_nan fb, fa, fb, Bool.or_self, Bool.and_self, Bool.false_eq_true, if_false, if_true]
    rw [e]
    have hm := sumM_lt (splitG a) (splitM a) (splitE a) (splitG b) (splitM b) (splitE b) (splitM_lt a) (splitM_lt b)
    have c := add_core a b dir _ _ _ _ _ _ _ _ _ _ (fun w => split_w a ha fa w) (fun w => split_w b hb fb w)
      (fun w => sum_w (splitG a) (splitG b) (splitM a) (splitM b) (splitE a) (splitE b) (splitM_lt a) (splitM_lt b) (splitE_bounds fa) (splitE_bounds fb) (splitM_norm fa) (splitM_norm fb) w)
      (fun w => round_w _ _ _ dir hm w) w
    exact c.mono fun x w' h => ⟨⟨_, h.1, (roundN_facts _ _ _ dir hm).2.2, rfl⟩, h.2⟩
  · have hf : (finB a && finB b) = false := by simpa using hf
    obtain ⟨ga, ma, ea, sa⟩ := split_any a ha
    obtain ⟨gb, mb, eb, sb⟩ := split_any b hb
    refine add_out a b dir ga gb (finB a) (finB b) ma mb ea eb (addR a b dir) hf ?_ sa sb (add_bits ha hb dir hf) w
    intro r hr
    have := floatBits_wf (op := .add) (k := .f64) (x := a) (y := b) (r := r) (by rw [add_bits ha hb dir hf, hr])
    simpa [Lit.wf] using this

end Go.Proofs.Ytdnpoacjamkhkaa

namespace Go.Proofs.Ytdnpoacjamkhkaa
open Go.ChangeShapes Go.WideShapes Go.ChangeAt Go.RowKit

theorem ord_zero {x : Nat} (hx : x < 18446744073709551616) (hn : nanB x = false) : (FloatKind.f64.format.order x 0 == some .eq) = isZ x := by
  unfold isZ
  rcases cases0 x hx with ⟨h, _, _⟩ | ⟨_, ho, hc⟩ | ⟨_, ho, hc⟩ | ⟨_, ho, hc⟩
  · rw [hn] at h; cases h
  · rw [ho]; simp [hc]
  · rw [ho]
    have : ¬ x % 9223372036854775808 = 0 := by omega
    simp [this]
  · rw [ho]
    have : ¬ x % 9223372036854775808 = 0 := by omega
    simp [this]
theorem ord_neg {x : Nat} (hx : x < 18446744073709551616) (hn : nanB x = false) : (FloatKind.f64.format.order x 0 == some .lt) = splitG x := by
  unfold splitG
  rcases cases0 x hx with ⟨h, _, _⟩ | ⟨_, ho, hc⟩ | ⟨_, ho, hc⟩ | ⟨_, ho, hc⟩
  · rw [hn] at h; cases h
  · rw [ho]
    have : ¬ 9223372036854775808 < x := by omega
    simp [this]
  · rw [ho]
    have : ¬ 9223372036854775808 < x := by omega
    simp [this]
  · rw [ho]
    have : 9223372036854775808 < x := by omega
    simp [this]
theorem splitM_zero {x : Nat} (h : isZ x = false) : splitM x ≠ 0 := by
  have hz : ¬ x % 9223372036854775808 = 0 := by simpa [isZ] using h
  unfold splitM; split <;> omega
theorem splitG_sign {x : Nat} (h : isZ x = false) : splitG x = signB x := by
  have hz : ¬ x % 9223372036854775808 = 0 := by simpa [isZ] using h
  unfold splitG signB
  rw [Bool.eq_iff_iff]; simp only [decide_eq_true_eq]; omega

def mulF (a b : Nat) (dir : Int) : Nat := roundN (splitG a != splitG b) (prodM (splitM a) (splitM b)) (prodE (splitM a) (splitE a) (splitM b) (splitE b)) dir
def mulR (a b : Nat) (dir : Int) : Option Nat :=
  if nanB a || nanB b then none else if isZ a || isZ b then some 0 else if finB a && finB b then some (mulF a b dir) else some (infW (signB a != signB b))

theorem prodM_lt {a b : Nat} (z1 : a ≠ 0) (z2 : b ≠ 0) (h1 : a < 18446744073709551616) (h2 : b < 18446744073709551616) : prodM a b < 18446744073709551616 :=
  markN_lt (Nat.div_lt_of_lt_mul (Nat.mul_lt_mul'' (topN_bounds z1 h1).2 (topN_bounds z2 h2).2))

theorem mul_bits {a b : Nat} (ha : a < 18446744073709551616) (hb : b < 18446744073709551616) (na : nanB a = false) (nb : nanB b = false) (za : isZ a = false) (zb : isZ b = false) (hf : (finB a && finB b) = false) :
    floatBits .mul .f64 a b = some (infW (signB a != signB b)) := by
  show ((Ieee.double.read a).product (Ieee.double.read b)).map Ieee.double.write = _
  have wi : ∀ s t : Bool, Ieee.double.write (.infinity (s ^^ t)) = infW (s != t) := by intro s t; cases s <;> cases t <;> decide
  unfold signB
  cases fa : finB a
  · rw [read_inf ha na fa]
    cases fb : finB b
    · rw [read_inf hb nb fb]
      simp only [Ieee.Datum.product, Option.map, wi]
    · obtain ⟨e, he⟩ := read_fin hb fb
      rw [he]
      simp only [Ieee.Datum.product, splitM_zero zb, if_false, Option.map, wi]
  · have fb : finB b = false := by rw [fa] at hf; simpa using hf
    rw [read_inf hb nb fb]
    obtain ⟨e, he⟩ := read_fin ha fa
    rw [he]
    simp only [Ieee.Datum.product, splitM_zero za, if_false, Option.map, wi]
    generalize decide (9223372036854775808 ≤ a) = s
    generalize decide (9223372036854775808 ≤ b) = t
    cases s <;> cases t <;> rfl

theorem infW_lt (g : Bool) : infW g < 18446744073709551616 := by cases g <;> decide

theorem mul_w (a b : Nat) (dir : Int) (ha : a < 18446744073709551616) (hb : b < 18446744073709551616) (w : World) :
    Calls Try.prog 66 #[.float .f64 a, .float .f64 b, .int .i64 dir] w fun x w' => Ans (mulR a b dir) x ∧ Below w.heap.size w w' := by
  unfold mulR
  cases na : nanB a
  · cases nb : nanB b
    · simp only [Bool.or_self, Bool.false_eq_true, if_false]
      cases za : isZ a
      · cases zb : isZ b
        · simp only [Bool.or_self, Bool.false_eq_true, if_false]
          have oa := ord_zero ha na
          have ob := ord_zero hb nb
          rw [za] at oa
          rw [zb] at ob
          by_cases hf : (finB a && finB b) = true
          · have fa : finB a = true := by cases h : finB a <;> simp_all
            have fb : finB b = true := by cases h : finB b <;> simp_all
            rw [if_pos hf]
            have h1 := splitM_lt a
            have h2 := splitM_lt b
            have e1 := splitE_bounds fa
            have e2 := splitE_bounds fb
            have hm := prodM_lt (splitM_zero za) (splitM_zero zb) (show splitM a < 18446744073709551616 by omega) (show splitM b < 18446744073709551616 by omega)
            have c := mul_core a b dir ha hb na nb oa ob _ _ _ _ _ _ _ _ _ _ (fun w => split_w a ha fa w) (fun w => split_w b hb fb w)
              (fun w => product_w (splitG a) (splitG b) (splitM a) (splitM b) (splitE a) (splitE b) (splitM_zero za) (splitM_zero zb) (by omega) (by omega) (by omega) (by omega) w)
              (fun w => round_w _ _ _ dir hm w) w
            exact c.mono fun x w' h => ⟨⟨_, h.1, (roundN_facts _ _ _ dir hm).2.2, rfl⟩, h.2⟩
          · have hf : (finB a && finB b) = false := by simpa using hf
            rw [hf]
            simp only [Bool.false_eq_true, if_false]
            obtain ⟨ga, ma, ea, sa⟩ := split_any a ha
            obtain ⟨gb, mb, eb, sb⟩ := split_any b hb
            exact mul_inf a b dir ha hb na nb oa ob ga gb (finB a) (finB b) ma mb ea eb _ (infW_lt _) hf sa sb (mul_bits ha hb na nb za zb hf) w
        · have oa := ord_zero ha na
          have ob := ord_zero hb nb
          rw [za] at oa
          rw [zb] at ob
          simp only [Bool.or_true, if_true]
          exact mul_zero a b dir ha hb na nb (Or.inr ⟨oa, ob⟩) w
      · have oa := ord_zero ha na
        rw [za] at oa
        simp only [Bool.true_or, if_true]
        exact mul_zero a b dir ha hb na nb (Or.inl oa) w
    · simp only [Bool.or_true, if_true]
      exact mul_nan a b dir ha hb (Or.inr ⟨na, nb⟩) w
  · simp only [Bool.true_or, if_true]
    exact mul_nan a b dir ha hb (Or.inl na) w

def quoM (mp mq : Nat) : Nat := markN (topN mp * 9223372036854775808 / topN mq) (decide (topN mp * 9223372036854775808 % topN mq ≠ 0))
def quoE (mp : Nat) (ep : Int) (mq : Nat) (eq : Int) : Int := (ep - shiftN mp) - (eq - shiftN mq) - 63
def divF (a b : Nat) (dir : Int) : Nat := roundN (splitG a != splitG b) (quoM (splitM a) (splitM b)) (quoE (splitM a) (splitE a) (splitM b) (splitE b)) dir
def divR (a b : Nat) (dir : Int) : Option Nat :=
  if nanB a || nanB b || isZ b then none else if !finB a then (if !finB b then none else some (infW (signB a != signB b))) else if !finB b then some 0 else some (divF a b dir)

theorem quoM_zero (mq : Nat) : quoM 0 mq = 0 := by
  have : topN 0 = 0 := by unfold topN; simp
  unfold quoM; rw [this]; simp [markN]

theorem quoM_lt {mp mq : Nat} (z1 : mp ≠ 0) (z2 : mq ≠ 0) (h1 : mp < 18446744073709551616) (h2 : mq < 18446744073709551616) : quoM mp mq < 18446744073709551616 := by
  have b1 := topN_bounds z1 h1
  have b2 := topN_bounds z2 h2
  refine markN_lt (Nat.div_lt_of_lt_mul ?_)
  have h : 9223372036854775808 * 18446744073709551616 ≤ topN mq * 18446744073709551616 := Nat.mul_le_mul_right _ b2.1
  omega

theorem div_bits {a b : Nat} (ha : a < 18446744073709551616) (hb : b < 18446744073709551616) (na : nanB a = false) (nb : nanB b = false) (fa : finB a = false) :
    floatBits .quo .f64 a b = if !finB b then none else some (infW (signB a != signB b)) := by
  show ((Ieee.double.read a).quotient _ (Ieee.double.read b)).map Ieee.double.write = _
  have wi : ∀ s t : Bool, Ieee.double.write (.infinity (s ^^ t)) = infW (s != t) := by intro s t; cases s <;> cases t <;> decide
  unfold signB
  rw [read_inf ha na fa]
  cases fb : finB b
  · rw [read_inf hb nb fb]; rfl
  · obtain ⟨e, he⟩ := read_fin hb fb
    rw [he]
    simp only [Ieee.Datum.quotient, Option.map, wi, Bool.not_true, Bool.false_eq_true, if_false]

end Go.Proofs.Ytdnpoacjamkhkaa

namespace Go.Proofs.Ytdnpoacjamkhkaa
open Go.ChangeShapes Go.WideShapes Go.ChangeAt Go.RowKit

/-- The whole part of a root. -/
def isqrt : Nat → Nat
  | 0 => 0
  | n + 1 => if (isqrt n + 1) * (isqrt n + 1) ≤ n + 1 then isqrt n + 1 else isqrt n

theorem isqrt_is (n : Nat) : IsRoot n (isqrt n) := by
  induction n with
  | zero => exact ⟨by decide, by decide⟩
  | succ n ih =>
    obtain ⟨h1, h2⟩ := ih
    unfold isqrt
    split
    · rename_i h
      refine ⟨h, ?_⟩
      have : (isqrt n + 1 + 1) * (isqrt n + 1 + 1) = (isqrt n + 1) * (isqrt n + 1) + (isqrt n + 1) + (isqrt n + 1) + 1 := by
        rw [Nat.add_mul (isqrt n + 1) 1, Nat.mul_add (isqrt n + 1) (isqrt n + 1) 1]; omega
      omega
    · rename_i h
      exact ⟨by omega, by omega⟩

def rootW (m : Nat) (e : Int) : Nat := if (e - shiftN m) % 2 = 1 then topN m / 2 else topN m
def rootF (m : Nat) (e : Int) : Int := if (e - shiftN m) % 2 = 1 then e - shiftN m + 1 else e - shiftN m
def rootM (m : Nat) (e : Int) : Nat := markN (isqrt (rootW m e * 18446744073709551616)) (!decide (isqrt (rootW m e * 18446744073709551616) * isqrt (rootW m e * 18446744073709551616) = rootW m e * 18446744073709551616))
def rootE (m : Nat) (e : Int) : Int := rootF m e / 2 - 32

theorem isqrt_lt {n : Nat} (h : n < 18446744073709551616) : isqrt (n * 18446744073709551616) < 18446744073709551616 := by
  rcases Nat.lt_or_ge (isqrt (n * 18446744073709551616)) 18446744073709551616 with c | c
  · exact c
  · have h1 := (isqrt_is (n * 18446744073709551616)).1
    have h2 := Nat.mul_le_mul c c
    generalize isqrt (n * 18446744073709551616) * isqrt (n * 18446744073709551616) = z at *
    omega

theorem rootM_zero (e : Int) : rootM 0 e = 0 := by
  have t : topN 0 = 0 := by unfold topN; simp
  have w : rootW 0 e = 0 := by unfold rootW; rw [t]; split <;> rfl
  unfold rootM
  rw [w]
  rfl

def sqrtF (a : Nat) (dir : Int) : Nat := roundN false (rootM (splitM a) (splitE a)) (rootE (splitM a) (splitE a)) dir
def sqrtR (a : Nat) (dir : Int) : Option Nat := if nanB a || splitG a then none else if finB a then some (sqrtF a dir) else some a

theorem rootM_lt {m : Nat} {e : Int} (h : m < 18446744073709551616) : rootM m e < 18446744073709551616 := by
  by_cases z : m = 0
  · subst z; rw [rootM_zero]; omega
  · have b := topN_bounds z h
    have hw : rootW m e < 18446744073709551616 := by unfold rootW; split <;> omega
    exact markN_lt (isqrt_lt hw)

theorem splitE_zero {x : Nat} (h : splitM x = 0) : splitE x = 0 := by
  unfold splitM at h
  unfold splitE
  split at h
  · rw [if_pos h]
  · omega

end Go.Proofs.Ytdnpoacjamkhkaa
