/- Slices of intervals that a call makes: one more at their end, as many noughts, and what they hold. The program's Dot, a matrix's first row, and both images of a vector. -/
import Derived.Test.YtddkojmdhckleaaLa
import Derived.Handy
namespace Go.Proofs.Ytddkojmdhckleaa
open Go.ChangeShapes Go.WideShapes Go.ChangeAt Go.RowKit

def ivCells (xs : List (Nat × Nat)) : List Value := xs.flatMap fun p => [.float .f64 p.1, .float .f64 p.2]

theorem ivCells_len (xs : List (Nat × Nat)) : (ivCells xs).length = xs.length * 2 := by
  induction xs with
  | nil => rfl
  | cons p t ih =>
    have e : ivCells (p :: t) = .float .f64 p.1 :: .float .f64 p.2 :: ivCells t := rfl
    rw [e]
    simp only [List.length_cons]
    omega

theorem ivCells_at (xs : List (Nat × Nat)) (i : Nat) (p : Nat × Nat) (h : xs[i]? = some p) : (ivCells xs)[i * 2]? = some (.float .f64 p.1) ∧ (ivCells xs)[i * 2 + 1]? = some (.float .f64 p.2) := by
  induction xs generalizing i with
  | nil => simp at h
  | cons q t ih =>
    have e : ivCells (q :: t) = .float .f64 q.1 :: .float .f64 q.2 :: ivCells t := rfl
    rw [e]
    cases i with
    | zero =>
      simp at h
      subst h
      exact ⟨rfl, rfl⟩
    | succ i =>
      have h' : t[i]? = some p := by simpa using h
      have := ih i h'
      rw [show (i + 1) * 2 = i * 2 + 2 by omega, show i * 2 + 2 + 1 = (i * 2 + 1) + 2 by omega]
      simpa using this

/-- The value v is, in w, the intervals xs, in a block of the call's own. -/
def OwnI (B : Nat) (w : World) (v : Value) (xs : List (Nat × Nat)) : Prop := w.ownsRow B 26 2 v xs.length (ivCells xs)

theorem Try.infoIval : (Try.prog.info? 26).map (fun i => (i.zero, i.size, i.bytes)) = some (some (.agg #[.float .f64 0, .float .f64 0]), 2, 16) := by kernel_rfl

theorem ownI_empty (w : World) : OwnI w.heap.size (w.alloc (.cells #[] 26)) (.slice (some ⟨w.heap.size, 0, none⟩) 0 0) [] := World.ownsRow_made w #[] 0 (Nat.le_refl _) (Nat.zero_le _) rfl

theorem wpList_pushI {B : Nat} {w0 wr : World} {ops : Array Oper} {rest : List Oper} {o : Oper} {a : Act} {Q : Exit → Act → World → Prop} (hgd : o.guard = none) (s x : Operand)
    (ho : o.op = .call { callee := .builtin .append, args := #[s, x], argTypes := #[23, 23] }) (v : Value) (xs : List (Nat × Nat)) (p q : Nat) (hs : a.eval s = v) (hx : a.eval x = .slice (some ⟨wr.heap.size, 0, none⟩) 1 1)
    (hown : OwnI B wr v xs) (hl : xs.length ≤ 2000000) (hB : B ≤ wr.heap.size) (hbel : Below B w0 wr)
    (h : ∀ v' w', OwnI B w' v' (xs ++ [(p, q)]) → Below B w0 w' → B ≤ w'.heap.size → wpList Try.prog ops Q rest (a.put o.dst v') w') : wpList Try.prog ops Q (o :: rest) a (wr.alloc (.cells #[.float .f64 p, .float .f64 q] 26)) := by
  obtain ⟨i0, hi, hz0, hz1, hz2⟩ := info_parts Try.infoIval
  refine wpList_append_own _ hgd s x 23 ho B 26 i0 (.agg #[.float .f64 0, .float .f64 0]) 2 16 Try.underlying23 hi hz0 hz1 hz2 rfl (by decide) v xs.length (ivCells xs) hs (hown.alloc _) ⟨wr.heap.size, 0, none⟩ 1 1 [.float .f64 p, .float .f64 q] hx rfl ?_ ?_ (by unfold maxLen; omega) (by omega) (by simp; omega) ?_
  · intro j u hj
    match j, hj with
    | 0, hj => simp at hj; subst hj; simp [Addr.add]
    | 1, hj => simp at hj; subst hj; simp [Addr.add]
  · intro u hu
    simp at hu
    rcases hu with rfl | rfl <;> rfl
  · intro v' w' h1 h2 _
    refine h v' w' ?_ ((hbel.alloc hB _).grown h2 (by simp; omega) ?_) (by have := h2.size; simp at this; omega)
    · unfold OwnI
      have e : ivCells (xs ++ [(p, q)]) = ivCells xs ++ [.float .f64 p, .float .f64 q] := by simp [ivCells]
      rw [e, List.length_append]
      exact h1
    · intro k hk
      exact (World.ownsRow.lt hown k hk).1

theorem OwnI.keep {B : Nat} {w w2 : World} {v : Value} {xs : List (Nat × Nat)} (h : OwnI B w v xs) (hb : Below w.heap.size w w2) : OwnI B w2 v xs := by
  refine ⟨h.1, ?_⟩
  rcases h.2 with hn | ⟨g, cap, cur, hv, hb2, hg, rest⟩
  · exact .inl hn
  · have hlt : g < w.heap.size := (Array.getElem?_eq_some_iff.1 hg).1
    refine .inr ⟨g, cap, cur, hv, hb2, ?_, rest⟩
    rw [← hg]
    exact hb.block g hlt

theorem first_none (A : Option Addr) (C : Nat) (w : World) : Calls Try.prog 7 #[.slice A 0 C] w fun e w' => e = .returned (.slice none 0 0) ∧ w = w' := by
  go_enter Try.func7, Try.ntmps7
  go_wp2_with fail
  go_ret
  exact ⟨rfl, rfl⟩

theorem first_some (A : Option Addr) (N C : Nat) (RA : Nat → Option Addr) (RL RC : Nat → Nat) (X : Nat → Nat → Nat × Nat) (hN : 0 < N) (w : World) (V : Rws w A N RA RL RC X) : Calls Try.prog 7 #[.slice A N C] w fun e w' => e = .returned (.slice (RA 0) (RL 0) (RC 0)) ∧ w = w' := by
  obtain ⟨b, o, rfl, hb, x0, l0, -⟩ := V 0 hN
  rw [Nat.add_zero] at x0
  have h1 : ((N : Int) == 0) = false := by rw [beq_eq_false_iff_ne]; omega
  have h2 : (0 : Int) < (N : Int) := by omega
  clear V
  go_enter Try.func7, Try.ntmps7
  go_wp2_with fail
  go_ret
  exact ⟨rfl, rfl⟩

set_option maxHeartbeats 2000000 in
theorem Dot_core (A B : Option Addr) (n m C D d1 d2 : Nat) (b1 b2 b3 : Bool) (w : World)
    (c1 : ∀ w2, Below w.heap.size w w2 → Calls Try.prog 31 #[.slice A n C] w2 fun e w' => e = .returned (.bool b1) ∧ Below w2.heap.size w2 w')
    (c2 : ∀ w2, Below w.heap.size w w2 → Calls Try.prog 31 #[.slice B m D] w2 fun e w' => e = .returned (.bool b2) ∧ Below w2.heap.size w2 w')
    (h3 : ((n : Int) != (m : Int)) = !b3)
    (c3 : (b1 && b2 && b3) = true → ∀ w2, Below w.heap.size w w2 → Calls Try.prog 32 #[.slice A n C, .slice B m D] w2 fun e w' => e = .returned (.agg #[.float .f64 d1, .float .f64 d2]) ∧ Below w2.heap.size w2 w')
    (r1 r2 : Nat) (r3 : Int) (e1 : r1 = if b1 && b2 && b3 then d1 else 0) (e2 : r2 = if b1 && b2 && b3 then d2 else 0) (e3 : r3 = if b1 && b2 && b3 then 0 else 1) :
    Calls Try.prog 6 #[.slice A n C, .slice B m D] w fun e w' => e = .returned (.tuple #[.agg #[.float .f64 r1, .float .f64 r2], .int .i64 r3]) ∧ Below w.heap.size w w' := by
  have R : Has2 (w.alloc (.cells #[.float .f64 0, .float .f64 0] 26)) w.heap.size (.float .f64 0) (.float .f64 0) := has2_new _ _ _ _
  have HB : Below w.heap.size w (w.alloc (.cells #[.float .f64 0, .float .f64 0] 26)) := below_alloc (Below.refl _ _) _
  cases b1
  case' true => cases b2
  case' true.true => cases b3
  all_goals
    simp only [Bool.and_self, Bool.and_false, Bool.false_and, Bool.not_true, Bool.not_false, Bool.false_eq_true, if_true, if_false] at e1 e2 e3 h3
    subst e1 e2 e3
    first | replace c3 := c3 rfl | clear c3
    go_enter Try.func6, Try.ntmps6
    go_upto_region 1 with fail
    generalize w.alloc (.cells #[.float .f64 0, .float .f64 0] 26) = V0 at *
    obtain ⟨k0, k1, k2, k3, k4⟩ := id R
    go_wp2_with (first
      | (go_at_call 31; with_reducible refine (c1 _ HB).mono ?_; rintro _ w1 ⟨rfl, hb1⟩; replace R := R.keep hb1; replace HB := later HB hb1; clear hb1; clear k0 k1 k2 k3 k4
         obtain ⟨k0, k1, k2, k3, k4⟩ := id R)
      | (go_at_call 31; with_reducible refine (c2 _ HB).mono ?_; rintro _ w1 ⟨rfl, hb1⟩; replace R := R.keep hb1; replace HB := later HB hb1; clear hb1; clear k0 k1 k2 k3 k4
         obtain ⟨k0, k1, k2, k3, k4⟩ := id R)
      | (go_at_call 32; with_reducible refine (c3 _ HB).mono ?_; rintro _ w1 ⟨rfl, hb1⟩; replace R := R.keep hb1; replace HB := later HB hb1; clear hb1; clear k0 k1 k2 k3 k4
         obtain ⟨k0, k1, k2, k3, k4⟩ := id R))
    first
      | (refine bodyPost_ret (v := .tuple #[.agg #[.float .f64 0, .float .f64 0], .int .i64 1]) (by simp [results, Try.results6, go_sem, *]) rfl ⟨rfl, ?_⟩
         repeat' (first | (with_reducible exact HB) | (with_reducible refine Below.setCell ?_ ?_ _) | go_size))
      | (refine bodyPost_ret (v := .tuple #[.agg #[.float .f64 r1, .float .f64 r2], .int .i64 0]) (by simp [results, Try.results6, go_sem, *]) rfl ⟨rfl, ?_⟩
         repeat' (first | (with_reducible exact HB) | (with_reducible refine Below.setCell ?_ ?_ _) | go_size))

/-- The image of a vector, row by row. -/
def imageP (X : Nat → Nat → Nat × Nat) (Y : Nat → Nat × Nat) (k : Nat) (n : Nat) : List (Nat × Nat) := (List.range n).map fun r => dotP (X r) Y k

theorem imageP_step (X : Nat → Nat → Nat × Nat) (Y : Nat → Nat × Nat) (k n : Nat) : imageP X Y k (n + 1) = imageP X Y k n ++ [((dotP (X n) Y k).1, (dotP (X n) Y k).2)] := by
  unfold imageP
  rw [List.range_succ, List.map_append]
  rfl

theorem imageP_len (X : Nat → Nat → Nat × Nat) (Y : Nat → Nat × Nat) (k n : Nat) : (imageP X Y k n).length = n := by simp [imageP]

set_option maxHeartbeats 2000000 in
theorem rapply_w (A B : Option Addr) (N C k D : Nat) (RA : Nat → Option Addr) (RL RC : Nat → Nat) (X : Nat → Nat → Nat × Nat) (Y : Nat → Nat × Nat) (hN : N ≤ 24) (hk : k ≤ 24) (hR : ∀ r, r < N → RL r = k) (w : World) (V : Rws w A N RA RL RC X) (U : Ivs w B k Y) :
    Calls Try.prog 14 #[.slice A N C, .slice B k D] w fun e w' => ∃ v, e = .returned v ∧ OwnI w.heap.size w' v (imageP X Y k N) ∧ Below w.heap.size w w' := by
  obtain ⟨Z, hZ⟩ : ∃ Z : Nat → List (Nat × Nat), ∀ n, Z n = imageP X Y k n := ⟨_, fun _ => rfl⟩
  have hs : ∀ n, Z (n + 1) = Z n ++ [((dotP (X n) Y k).1, (dotP (X n) Y k).2)] := fun n => by rw [hZ, hZ]; exact imageP_step X Y k n
  have hl : ∀ n, (Z n).length = n := fun n => by rw [hZ]; exact imageP_len X Y k n
  have h0 : Z 0 = [] := by rw [hZ]; rfl
  rw [← hZ N]
  clear hZ
  have E := ownI_empty w
  rw [← h0] at E
  have HE : Hid (∀ n, Z (n + 1) = Z n ++ [((dotP (X n) Y k).1, (dotP (X n) Y k).2)]) := hs
  have HL : Hid (∀ n, (Z n).length = n) := hl
  have HR : Hid (∀ r, r < N → RL r = k) := hR
  clear hs hl h0 hR
  have hB0 : Below w.heap.size w (w.alloc (.cells #[] 26)) := below_alloc (Below.refl _ _) _
  go_enter Try.func14, Try.ntmps14
  go_wp2_with fail
  go_loopg [5, 11] N (fun G s5 s11 wx => Below w.heap.size w wx ∧ w.heap.size ≤ wx.heap.size ∧ ∃ r : Nat, r + G = N ∧ s11 = .int .i64 (r : Int) ∧ OwnI w.heap.size wx s5 (Z r))
  case atStart => exact ⟨hB0, hB0.size, 0, by omega, rfl, E⟩
  case round =>
    clear E hB0
    obtain ⟨HB, hS, r, hr, rfl, hown⟩ := hrel
    by_cases cr : r = N
    · subst cr
      go_wp2_with fail
      go_ret
      exact ⟨_, rfl, hown, HB⟩
    · have hlt : (r : Int) < (N : Int) := by omega
      obtain ⟨b, o, hA, hb, x0, l0, I⟩ := (V.keep HB) r (by omega)
      have c : Calls Try.prog 10 #[.slice (RA r) (RL r) (RC r), .slice B k D] wr fun e w' => e = .returned (.agg #[.float .f64 (dotP (X r) Y (RL r)).1, .float .f64 (dotP (X r) Y (RL r)).2]) ∧ Below wr.heap.size wr w' :=
        rdot_w (RA r) B (RL r) k (RC r) D (X r) Y l0 (by omega) (by have := HR r (by omega); omega) wr I (U.keep HB)
      have e1 : (dotP (X r) Y (RL r)) = dotP (X r) Y k := by rw [HR r (by omega)]
      rw [e1] at c
      clear e1
      have hlen : (Z r).length ≤ 2000000 := by rw [HL r]; omega
      subst hA
      go_wp2_with (first
        | (go_at_call 10; refine c.mono ?_; rintro _ w1 ⟨rfl, hb1⟩; replace hown := OwnI.keep hown hb1; replace HB := later HB hb1; have hS1 := HB.size)
        | (at_builtin; refine wpList_pushI (by rfl) _ _ (by rfl) _ (Z r) (dotP (X r) Y k).1 (dotP (X r) Y k).2 (by rfl) (by rfl) hown hlen hS1 HB ?_; intro v' w' hown' hB' hS'))
      go_roundg (N - r - 1)
      case measure => omega
      case rel => exact ⟨hB', hS', r + 1, by omega, by go_num, by rw [HE r]; exact hown'⟩

end Go.Proofs.Ytddkojmdhckleaa
