/- The program's Mul; two matrices of the same intervals are the same to the reference. The reference's product of two matrices. -/
import Derived.Test.YtddkojmdhckleaaLg
namespace Go.Proofs.Ytddkojmdhckleaa
open Go.ChangeShapes Go.WideShapes Go.ChangeAt Go.RowKit

set_option maxHeartbeats 2000000 in
theorem Mul_bad (A B : Option Addr) (N C M D : Nat) (RA : Nat → Option Addr) (RL RC : Nat → Nat) (X : Nat → Nat → Nat × Nat) (b1 b2 b3 : Bool) (w : World) (V : Rws w A N RA RL RC X) (h0 : b1 = true → 0 < N) (h3 : ((RL 0 : Int) != (M : Int)) = !b3) (hb : (b1 && b2 && b3) = false)
    (c1 : ∀ w2, Below w.heap.size w w2 → Calls Try.prog 37 #[.slice A N C] w2 fun e w' => e = .returned (.bool b1) ∧ Below w2.heap.size w2 w')
    (c2 : ∀ w2, Below w.heap.size w w2 → Calls Try.prog 37 #[.slice B M D] w2 fun e w' => e = .returned (.bool b2) ∧ Below w2.heap.size w2 w') :
    Calls Try.prog 15 #[.slice A N C, .slice B M D] w fun e w' => e = .returned (.tuple #[.slice none 0 0, .int .i64 1]) ∧ Below w.heap.size w w' := by
  have HB : Below w.heap.size w w := Below.refl _ _
  cases b1
  · clear h0 h3 c2 V
    go_enter Try.func15, Try.ntmps15
    go_wp2_with (go_at_call 37; with_reducible refine (c1 _ HB).mono ?_; rintro _ w1 ⟨rfl, hb1⟩; replace HB := later HB hb1)
    refine bodyPost_ret (v := .tuple #[.slice none 0 0, .int .i64 1]) (by simp [results, Try.results15, go_sem, *]) rfl ⟨rfl, HB⟩
  · have hN := h0 rfl
    have h4 : (0 : Int) < (N : Int) := by omega
    obtain ⟨b, o, hA, hl, x0, -, -⟩ := V 0 hN
    rw [Nat.add_zero] at x0
    clear V h0
    subst hA
    cases b2
    case' true => cases b3
    case true.true => cases hb
    all_goals
      try simp only [Bool.not_false] at h3
      go_enter Try.func15, Try.ntmps15
      go_wp2_with (first
        | (go_at_call 37; with_reducible refine (c1 _ HB).mono ?_; rintro _ w1 ⟨rfl, hb1⟩; have x1 := keepsC hb1 x0 hl; replace HB := later HB hb1)
        | (go_at_call 37; with_reducible refine (c2 _ HB).mono ?_; rintro _ w2 ⟨rfl, hb2⟩; have x2 := keepsC hb2 x1 (Nat.lt_of_lt_of_le hl hb1.size); replace HB := later HB hb2))
      refine bodyPost_ret (v := .tuple #[.slice none 0 0, .int .i64 1]) (by simp [results, Try.results15, go_sem, *]) rfl ⟨rfl, HB⟩


set_option maxHeartbeats 2000000 in
theorem Mul_good (A B : Option Addr) (N M L C D : Nat) (RA SA : Nat → Option Addr) (RL RC SL SC : Nat → Nat) (X Y : Nat → Nat → Nat × Nat) (hN : N ≤ 24) (hN0 : 0 < N) (hM : M ≤ 24) (hM0 : 0 < M) (hL : L ≤ 24) (hR : ∀ r, r < N → RL r = M) (hS : ∀ s, s < M → SL s = L) (w : World) (V : Rws w A N RA RL RC X) (U : Rws w B M SA SL SC Y)
    (c1 : ∀ w2, Below w.heap.size w w2 → Calls Try.prog 37 #[.slice A N C] w2 fun e w' => e = .returned (.bool true) ∧ Below w2.heap.size w2 w')
    (c2 : ∀ w2, Below w.heap.size w w2 → Calls Try.prog 37 #[.slice B M D] w2 fun e w' => e = .returned (.bool true) ∧ Below w2.heap.size w2 w') :
    Calls Try.prog 15 #[.slice A N C, .slice B M D] w fun e w' => ∃ g h, e = .returned (.tuple #[.slice (some ⟨g, 0, none⟩) N N, .int .i64 0]) ∧ Grd w' g N L h (prodI X Y M) ∧ Below w.heap.size w w' := by
  have h3 : ((RL 0 : Int) != (M : Int)) = false := by simp [hR 0 hN0]
  have h4 : (0 : Int) < (N : Int) := by omega
  have cp : ∀ w2, Below w.heap.size w w2 → _ := fun w2 hb => prodM_w A B N M L C D RA SA RL RC SL SC X Y hN hM hM0 hL hR hS w2 (V.keep hb) (U.keep hb)
  have HB : Below w.heap.size w w := Below.refl _ _
  obtain ⟨b, o, hA, hl, x0, -, -⟩ := V 0 hN0
  rw [Nat.add_zero] at x0
  clear V U hR hS
  subst hA
  go_enter Try.func15, Try.ntmps15
  go_wp2_with (first
    | (go_at_call 37; with_reducible refine (c1 _ HB).mono ?_; rintro _ w1 ⟨rfl, hb1⟩; have x1 := keepsC hb1 x0 hl; replace HB := later HB hb1)
    | (go_at_call 37; with_reducible refine (c2 _ HB).mono ?_; rintro _ w2 ⟨rfl, hb2⟩; have x2 := keepsC hb2 x1 (Nat.lt_of_lt_of_le hl hb1.size); replace HB := later HB hb2)
    | (go_at_call 38; refine (cp _ HB).mono ?_; rintro _ w3 ⟨g, h, rfl, G0, hb3⟩))
  refine bodyPost_ret (v := .tuple #[.slice (some ⟨g, 0, none⟩) N N, .int .i64 0]) (by simp [results, Try.results15, go_sem, *]) rfl ⟨g, h, rfl, G0, later HB hb3⟩

theorem Grd.rws {w : World} {g n m : Nat} {h : Nat → Nat} {F : Nat → Nat → Nat × Nat} (G : Grd w g n m h F) (hm : m ≤ 9223372036854775807) (hF : ∀ r, r < n → ∀ c, c < m → (F r c).1 < 18446744073709551616 ∧ (F r c).2 < 18446744073709551616) :
    Rws w (some ⟨g, 0, none⟩) n (fun r => some ⟨h r, 0, none⟩) (fun _ => m) (fun _ => m) F := fun r hr =>
  ⟨g, 0, rfl, G.out.1, by rw [Nat.zero_add]; exact (G.out.2 r hr).1, hm, (G.row r hr).ivs (hF r hr)⟩

set_option maxHeartbeats 2000000 in
theorem rsameA_w (A B : Option Addr) (N C D : Nat) (RA SA : Nat → Option Addr) (RL RC SL SC : Nat → Nat) (X Y : Nat → Nat → Nat × Nat) (hN : N ≤ 9223372036854775807) (hl : ∀ r, r < N → RL r = SL r) (hxy : ∀ r, r < N → ∀ c, c < RL r → X r c = Y r c) (w : World) (V : Rws w A N RA RL RC X) (U : Rws w B N SA SL SC Y) :
    Calls Try.prog 16 #[.slice A N C, .slice B N D] w fun e w' => e = .returned (.bool true) ∧ Below w.heap.size w w' := by
  have HL : Hid (∀ r, r < N → RL r = SL r) := hl
  have HX : Hid (∀ r, r < N → ∀ c, c < RL r → X r c = Y r c) := hxy
  clear hl hxy
  go_enter Try.func16, Try.ntmps16
  go_wp2_with fail
  go_loopg [13] N (fun G s13 wx => Below w.heap.size w wx ∧ ∃ i : Nat, i + G = N ∧ s13 = .int .i64 (i : Int))
  case atStart => exact ⟨Below.refl _ _, 0, by omega, rfl⟩
  case round =>
    obtain ⟨HB, i, hi, rfl⟩ := hrel
    by_cases ci : i = N
    · subst ci
      go_wp2_with fail
      go_ret
      exact ⟨rfl, HB⟩
    · have hlt : (i : Int) < (N : Int) := by omega
      obtain ⟨b, o, hA, hb, x0, l0, I⟩ := (V.keep HB) i (by omega)
      obtain ⟨b', o', hB, hb', y0, l1, J⟩ := (U.keep HB) i (by omega)
      have hle := HL i (by omega)
      rw [← hle] at y0 J
      have c : ∀ n : Behind wr, Calls Try.prog 13 #[.slice (RA i) (RL i) (RC i), .slice (SA i) (RL i) (SC i)] n.W fun e w' => e = .returned (.bool true) ∧ Below n.W.heap.size n.W w' := fun n => rsameV_w (RA i) (SA i) (RL i) (RC i) (SC i) (X i) (Y i) l0 (HX i (by omega)) n.W (I.keep n.bel) (J.keep n.bel)
      clear hle
      subst hA hB
      go_upto_region 6 with fail
      have kx0 := fun n : Behind wr => n.cell x0 hb
      have ky0 := fun n : Behind wr => n.cell y0 hb'
      refine region_behind (by kernel_rfl) (by kernel_rfl) ?_
      repeat (go_big_quiet_step (first
        | (go_at_call 13; with_reducible refine Behind.call (c _))))
      refine wpQuiet_nil ?_
      rintro _ ⟨q, rfl⟩
      obtain ⟨W, hb1⟩ := q
      dsimp only
      replace HB := later HB hb1
      clear hb1 kx0 ky0
      go_wp2_with fail
      go_roundg (N - i - 1)
      case measure => omega
      case rel => exact ⟨HB, i + 1, by omega, by go_num⟩

/-- The value v is, in w, a slice of those slices, in a block of the call's own. -/
def OwnR (B : Nat) (w : World) (v : Value) (vs : List Value) : Prop := w.ownsRow B 23 1 v vs.length vs

theorem ownR_empty (w : World) : OwnR w.heap.size (w.alloc (.cells #[] 23)) (.slice (some ⟨w.heap.size, 0, none⟩) 0 0) [] := World.ownsRow_made w #[] 0 (Nat.le_refl _) (Nat.zero_le _) rfl

theorem OwnR.keep {B : Nat} {w w2 : World} {v : Value} {vs : List Value} (h : OwnR B w v vs) (hb : Below w.heap.size w w2) : OwnR B w2 v vs := by
  refine ⟨h.1, ?_⟩
  rcases h.2 with hn | ⟨g, cap, cur, hv, hb2, hg, rest⟩
  · exact .inl hn
  · have hlt : g < w.heap.size := (Array.getElem?_eq_some_iff.1 hg).1
    refine .inr ⟨g, cap, cur, hv, hb2, ?_, rest⟩
    rw [← hg]
    exact hb.block g hlt

theorem OwnI.base {B B' : Nat} {w : World} {v : Value} {xs : List (Nat × Nat)} (h : OwnI B w v xs) (hb : B' ≤ B) : OwnI B' w v xs := by
  refine ⟨h.1, ?_⟩
  rcases h.2 with hn | ⟨g, cap, cur, hv, hb2, rest⟩
  · exact .inl hn
  · exact .inr ⟨g, cap, cur, hv, Nat.le_trans hb hb2, rest⟩

theorem own_apart {B : Nat} {w : World} {u v : Value} {xs : List (Nat × Nat)} {vs : List Value} (h : OwnI B w u xs) (k : OwnR B w v vs) : u.ownBlock = none ∨ u.ownBlock ≠ v.ownBlock := by
  rcases h.2 with ⟨rfl, -⟩ | ⟨g, cap, cur, rfl, -, hg, -⟩
  · exact .inl rfl
  · right
    rcases k.2 with ⟨rfl, -⟩ | ⟨g', cap', cur', rfl, -, hg', -⟩
    · intro e
      cases e
    · intro e
      have e' : g = g' := Option.some.inj e
      subst e'
      rw [hg] at hg'
      simp at hg'

theorem wpList_pushR {B : Nat} {w0 wr : World} {ops : Array Oper} {rest : List Oper} {o : Oper} {a : Act} {Q : Exit → Act → World → Prop} (hgd : o.guard = none) (s x : Operand)
    (ho : o.op = .call { callee := .builtin .append, args := #[s, x], argTypes := #[22, 22] }) (v : Value) (vs : List Value) (A : Option Addr) (n c : Nat) (hs : a.eval s = v) (hx : a.eval x = .slice (some ⟨wr.heap.size, 0, none⟩) 1 1)
    (hown : OwnR B wr v vs) (hl : vs.length ≤ 2000000) (hB : B ≤ wr.heap.size) (hbel : Below B w0 wr)
    (h : ∀ v' w', OwnR B w' v' (vs ++ [.slice A n c]) → Below B w0 w' → B ≤ w'.heap.size → (∀ u xs, OwnI B wr u xs → OwnI B w' u xs) → wpList Try.prog ops Q rest (a.put o.dst v') w') : wpList Try.prog ops Q (o :: rest) a (wr.alloc (.cells #[.slice A n c] 23)) := by
  obtain ⟨i0, hi, hz0, hz1, hz2⟩ := info_parts Try.infoRow
  have hal : Below wr.heap.size wr (wr.alloc (.cells #[.slice A n c] 23)) := (Below.refl _ _).alloc (Nat.le_refl _) _
  refine wpList_append_own _ hgd s x 22 ho B 23 i0 (.slice none 0 0) 1 24 Try.underlying22 hi hz0 hz1 hz2 rfl (by decide) v vs.length vs hs (hown.keep hal) ⟨wr.heap.size, 0, none⟩ 1 1 [.slice A n c] hx rfl ?_ ?_ (by unfold maxLen; omega) (by omega) (by simp; omega) ?_
  · intro j u hj
    match j, hj with
    | 0, hj => simp at hj; subst hj; simp [Addr.add]
  · intro u hu
    simp at hu
    rw [hu]
    rfl
  · intro v' w' h1 h2 _
    refine h v' w' ?_ ((hbel.alloc hB _).grown h2 (by simp; omega) ?_) (by have := h2.size; simp at this; omega) fun u xs hu => ?_
    · unfold OwnR
      rw [List.length_append]
      exact h1
    · intro k hk
      exact (World.ownsRow.lt hown k hk).1
    · exact World.ownsRow.kept (hu.keep hal) h2 (own_apart (hu.keep hal) (hown.keep hal))

theorem dotP_congr {X X' Y Y' : Nat → Nat × Nat} (n : Nat) (hx : ∀ i, i < n → X i = X' i) (hy : ∀ i, i < n → Y i = Y' i) : dotP X Y n = dotP X' Y' n := by
  induction n with
  | zero => rfl
  | succ n ih =>
    show addP (dotP X Y n).1 (dotP X Y n).2 (mulP (X n).1 (X n).2 (Y n).1 (Y n).2).1 (mulP (X n).1 (X n).2 (Y n).1 (Y n).2).2 = addP (dotP X' Y' n).1 (dotP X' Y' n).2 (mulP (X' n).1 (X' n).2 (Y' n).1 (Y' n).2).1 (mulP (X' n).1 (X' n).2 (Y' n).1 (Y' n).2).2
    rw [ih (fun i hi => hx i (by omega)) (fun i hi => hy i (by omega)), hx n (by omega), hy n (by omega)]

def colL (Y : Nat → Nat → Nat × Nat) (j n : Nat) : List (Nat × Nat) := (List.range n).map fun s => Y s j
def rowL (X Y : Nat → Nat → Nat × Nat) (M i n : Nat) : List (Nat × Nat) := (List.range n).map fun c => prodI X Y M i c

theorem colL_step (Y : Nat → Nat → Nat × Nat) (j n : Nat) : colL Y j (n + 1) = colL Y j n ++ [((Y n j).1, (Y n j).2)] := by
  unfold colL; rw [List.range_succ, List.map_append]; rfl
theorem rowL_step (X Y : Nat → Nat → Nat × Nat) (M i n : Nat) : rowL X Y M i (n + 1) = rowL X Y M i n ++ [((prodI X Y M i n).1, (prodI X Y M i n).2)] := by
  unfold rowL; rw [List.range_succ, List.map_append]; rfl
theorem colL_len (Y : Nat → Nat → Nat × Nat) (j n : Nat) : (colL Y j n).length = n := by simp [colL]
theorem rowL_len (X Y : Nat → Nat → Nat × Nat) (M i n : Nat) : (rowL X Y M i n).length = n := by simp [rowL]
theorem colL_at (Y : Nat → Nat → Nat × Nat) (j n t : Nat) (ht : t < n) : (colL Y j n).getD t (0, 0) = Y t j := by simp [colL, List.getD, ht]
theorem rowL_at (X Y : Nat → Nat → Nat × Nat) (M i n t : Nat) (ht : t < n) : (rowL X Y M i n).getD t (0, 0) = prodI X Y M i t := by simp [rowL, List.getD, ht]

theorem OwnI.form {B : Nat} {w : World} {v : Value} {xs : List (Nat × Nat)} (h : OwnI B w v xs) : ∃ A C, v = .slice A xs.length C := by
  rcases h.2 with ⟨rfl, hn⟩ | ⟨g, cap, cur, rfl, -⟩
  · exact ⟨none, 0, by rw [hn]⟩
  · exact ⟨_, _, rfl⟩

/-- The rows so far: each a slice of the call's own. -/
def Rowed (B : Nat) (w : World) (X Y : Nat → Nat → Nat × Nat) (M L i : Nat) (vs : List Value) : Prop := vs.length = i ∧ ∀ r, r < i → ∃ A C, vs[r]? = some (.slice A L C) ∧ OwnI B w (.slice A L C) (rowL X Y M r L)

theorem Rowed.keep {B : Nat} {w w2 : World} {X Y : Nat → Nat → Nat × Nat} {M L i : Nat} {vs : List Value} (h : Rowed B w X Y M L i vs) (hb : ∀ u xs, OwnI B w u xs → OwnI B w2 u xs) : Rowed B w2 X Y M L i vs :=
  ⟨h.1, fun r hr => by obtain ⟨A, C, a, b⟩ := h.2 r hr; exact ⟨A, C, a, hb _ _ b⟩⟩

theorem Rowed.push {B : Nat} {w : World} {X Y : Nat → Nat → Nat × Nat} {M L i : Nat} {vs : List Value} (h : Rowed B w X Y M L i vs) {A : Option Addr} {C : Nat} (k : OwnI B w (.slice A L C) (rowL X Y M i L)) : Rowed B w X Y M L (i + 1) (vs ++ [.slice A L C]) := by
  refine ⟨by rw [List.length_append, h.1]; rfl, fun r hr => ?_⟩
  by_cases e : r = i
  · subst e
    refine ⟨A, C, ?_, k⟩
    rw [← h.1]
    simp
  · obtain ⟨A', C', a, b⟩ := h.2 r (by omega)
    refine ⟨A', C', ?_, b⟩
    rw [List.getElem?_append_left (by rw [h.1]; omega)]
    exact a

set_option maxHeartbeats 8000000 in
theorem rMulM_w (A B : Option Addr) (N M L C D : Nat) (RA SA : Nat → Option Addr) (RL RC SL SC : Nat → Nat) (X Y : Nat → Nat → Nat × Nat) (hN : N ≤ 24) (hM : M ≤ 24) (hM0 : 0 < M) (hL : L ≤ 24) (hR : ∀ r, r < N → RL r = M) (hS : ∀ s, s < M → SL s = L) (w : World) (V : Rws w A N RA RL RC X) (U : Rws w B M SA SL SC Y) :
    Calls Try.prog 17 #[.slice A N C, .slice B M D] w fun e w' => ∃ v vs, e = .returned v ∧ OwnR w.heap.size w' v vs ∧ Rowed w.heap.size w' X Y M L N vs ∧ Below w.heap.size w w' := by
  have HR : Hid (∀ r, r < N → RL r = M) := hR
  have HS : Hid (∀ s, s < M → SL s = L) := hS
  have h4 : (0 : Int) < (M : Int) := by omega
  clear hR hS
  have E := ownR_empty w
  have hB0 : Below w.heap.size w (w.alloc (.cells #[] 23)) := below_alloc (Below.refl _ _) _
  obtain ⟨b, o, hB, hb, u0, -, -⟩ := U 0 hM0
  rw [Nat.add_zero, HS 0 hM0] at u0
  subst hB
  go_enter Try.func17, Try.ntmps17
  go_wp2_with fail
  go_loopg [5, 16] N (fun G s5 s16 wx => Below w.heap.size w wx ∧ w.heap.size ≤ wx.heap.size ∧ ∃ (i : Nat) (vs : List Value), i + G = N ∧ s16 = .int .i64 (i : Int) ∧ OwnR w.heap.size wx s5 vs ∧ Rowed w.heap.size wx X Y M L i vs)
  case atStart => exact ⟨hB0, hB0.size, 0, [], by omega, rfl, E, rfl, fun r hr => absurd hr (by omega)⟩
  case round =>
    clear E hB0
    obtain ⟨HB, hSz, i, vs, hi, rfl, hown, hrow⟩ := hrel
    by_cases ci : i = N
    · subst ci
      go_wp2_with fail
      go_ret
      exact ⟨_, vs, rfl, hown, hrow, HB⟩
    · have hlti : (i : Int) < (N : Int) := by omega
      obtain ⟨b', o', hA, hb', y0, l0, I⟩ := (V.keep HB) i (by omega)
      have u1 := keepsC HB u0 hb
      have hbl : b < wr.heap.size := Nat.lt_of_lt_of_le hb HB.size
      have E1 := ownI_empty wr
      have hB1 : Below wr.heap.size wr (wr.alloc (.cells #[] 26)) := below_alloc (Below.refl _ _) _
      subst hA
      obtain ⟨w1, rfl⟩ : ∃ w1, w1 = wr := ⟨_, rfl⟩
      go_wp2_with fail
      go_loopg [8, 25] L (fun G s8 s25 wy => Below w1.heap.size w1 wy ∧ w1.heap.size ≤ wy.heap.size ∧ ∃ j : Nat, j + G = L ∧ s25 = .int .i64 (j : Int) ∧ OwnI w1.heap.size wy s8 (rowL X Y M i j))
      case atStart => exact ⟨hB1, hB1.size, 0, by omega, rfl, E1⟩
      case round =>
        clear E1 hB1
        obtain ⟨HC, hSy, j, hj, rfl, hownI⟩ := hrel
        by_cases cj : j = L
        · subst cj
          obtain ⟨A', C', hv⟩ := hownI.form
          rw [rowL_len] at hv
          subst hv
          have hlen : vs.length ≤ 2000000 := by rw [hrow.1]; omega
          have hownR := hown.keep HC
          have hrow1 := hrow.keep fun u xs q => q.keep HC
          have HB1 := later HB HC
          have hS1 := HB1.size
          go_wp2_with (at_builtin; refine wpList_pushR (by rfl) _ _ (by rfl) _ vs A' j C' (by rfl) (by rfl) hownR hlen hS1 HB1 ?_; intro v' w' hown' hB' hS' hkeep)
          go_roundg (N - i - 1)
          case measure => omega
          case rel => exact ⟨hB', hS', i + 1, _, by omega, by go_num, hown', (hrow1.keep hkeep).push (hkeep _ _ (hownI.base hSz))⟩
        · have hltj : (j : Int) < (L : Int) := by omega
          have E2 := ownI_empty wr
          have hB2 : Below wr.heap.size wr (wr.alloc (.cells #[] 26)) := below_alloc (Below.refl _ _) _
          obtain ⟨w2, rfl⟩ : ∃ w2, w2 = wr := ⟨_, rfl⟩
          go_wp2_with fail
          go_loopg [10, 31] M (fun G s10 s31 wz => Below w2.heap.size w2 wz ∧ w2.heap.size ≤ wz.heap.size ∧ ∃ k : Nat, k + G = M ∧ s31 = .int .i64 (k : Int) ∧ OwnI w2.heap.size wz s10 (colL Y j k))
          case atStart => exact ⟨hB2, hB2.size, 0, by omega, rfl, E2⟩
          case round =>
            clear E2 hB2
            obtain ⟨HD, hSw, k, hk, rfl, hcol⟩ := hrel
            by_cases ck : k = M
            · subst ck
              obtain ⟨A', C', hv, J⟩ := ownI_ivs hcol (fun p hp => by
                simp only [colL, List.mem_map, List.mem_range] at hp
                obtain ⟨t, ht, rfl⟩ := hp
                exact rws_words U ht (by have := HS t ht; omega))
              rw [colL_len] at hv J
              subst hv
              have cd : Calls Try.prog 10 #[.slice (RA i) (RL i) (RC i), .slice A' k C'] wr fun e w' => e = .returned (.agg #[.float .f64 (prodI X Y k i j).1, .float .f64 (prodI X Y k i j).2]) ∧ Below wr.heap.size wr w' := by
                have q := rdot_w (RA i) A' (RL i) k (RC i) C' (X i) (fun t => (colL Y j k).getD t (0, 0)) l0 (by omega) (by have := HR i (by omega); omega) wr ((I.keep HC).keep HD) J
                have e1 : dotP (X i) (fun t => (colL Y j k).getD t (0, 0)) (RL i) = prodI X Y k i j := by
                  rw [HR i (by omega)]
                  exact dotP_congr k (fun _ _ => rfl) (fun t ht => colL_at Y j k t ht)
                rw [e1] at q
                exact q
              have hlen : (rowL X Y k i j).length ≤ 2000000 := by rw [rowL_len]; omega
              have hown1 := hownI.keep HD
              have HC1 := later HC HD
              go_wp2_with (first
                | (go_at_call 10; refine cd.mono ?_; rintro _ w3 ⟨rfl, hb1⟩; replace hown1 := OwnI.keep hown1 hb1; replace HC1 := later HC1 hb1; have hS1 := HC1.size)
                | (at_builtin; refine wpList_pushI (by rfl) _ _ (by rfl) _ (rowL X Y k i j) (prodI X Y k i j).1 (prodI X Y k i j).2 (by rfl) (by rfl) hown1 hlen hS1 HC1 ?_; intro v' w' hown' hB' hS'))
              go_roundg (L - j - 1)
              case measure => omega
              case rel => exact ⟨hB', hS', j + 1, by omega, by go_num, by rw [rowL_step]; exact hown'⟩
            · have hltk : (k : Int) < (M : Int) := by omega
              obtain ⟨b3, o3, hA3, hb3, z0, l3, I3⟩ := (U.keep (later (later HB HC) HD)) k (by omega)
              have hjk : j < SL k := by have := HS k (by omega); omega
              have hltjk : (j : Int) < (SL k : Int) := by omega
              obtain ⟨b4, o4, hA4, hb4, q0, q1, -, -⟩ := I3 j hjk
              simp only [Option.some.injEq, Addr.mk.injEq, and_true] at hA3
              obtain ⟨rfl, rfl⟩ := hA3
              rw [hA4] at z0
              have hlen : (colL Y j k).length ≤ 2000000 := by rw [colL_len]; omega
              have hSz2 := HD.size
              clear I3
              go_wp2_with (at_builtin; refine wpList_pushI (by rfl) _ _ (by rfl) _ (colL Y j k) (Y k j).1 (Y k j).2 (by rfl) (by rfl) hcol hlen hSw HD ?_; intro v' w' hown' hB' hS')
              go_roundg (M - k - 1)
              case measure => omega
              case rel => exact ⟨hB', hS', k + 1, by omega, by go_num, by rw [colL_step]; exact hown'⟩

end Go.Proofs.Ytddkojmdhckleaa
