/- The program's Mul; two matrices of the same intervals are the same to the reference. The reference's product of two matrices. -/
import Derived.Test.YtnchhfhoaepjnaaGreatLg
namespace Go.Proofs.YtnchhfhoaepjnaaGreat
open Go.ChangeShapes Go.WideShapes Go.ChangeAt Go.RowKit

theorem Grd.rws {w : World} {g n m : Nat} {h : Nat → Nat} {F : Nat → Nat → Nat × Nat} (G : Grd w g n m h F) (hm : m ≤ 9223372036854775807) (hF : ∀ r, r < n → ∀ c, c < m → (F r c).1 < 18446744073709551616 ∧ (F r c).2 < 18446744073709551616) :
    Rws w (some ⟨g, 0, none⟩) n (fun r => some ⟨h r, 0, none⟩) (fun _ => m) (fun _ => m) F := fun r hr =>
  ⟨g, 0, rfl, G.out.1, by rw [Nat.zero_add]; exact (G.out.2 r hr).1, hm, (G.row r hr).ivs (hF r hr)⟩

set_option maxHeartbeats 2000000 in
theorem rsameA_w (A B : Option Addr) (N C D : Nat) (RA SA : Nat → Option Addr) (RL RC SL SC : Nat → Nat) (X Y : Nat → Nat → Nat × Nat) (hN : N ≤ 9223372036854775807) (hl : ∀ r, r < N → RL r = SL r) (hxy : ∀ r, r < N → ∀ c, c < RL r → X r c = Y r c) (w : World) (V : Rws w A N RA RL RC X) (U : Rws w B N SA SL SC Y) :
    Calls Tryz.prog 14 #[.slice A N C, .slice B N D] w fun e w' => e = .returned (.bool true) ∧ Below w.heap.size w w' := by
  have HL : Hid (∀ r, r < N → RL r = SL r) := hl
  have HX : Hid (∀ r, r < N → ∀ c, c < RL r → X r c = Y r c) := hxy
  clear hl hxy
  go_enter Tryz.func14, Tryz.ntmps14
  go_wp2_with fail
  go_loopg [13] N (fun G s13 wx => Below w.heap.size w wx ∧ ∃ i : Nat, i + G = N ∧ s13 = .int .i64 (i : Int))
  case atStart => exact ⟨Below.refl _ _, 0, by omega, rfl⟩
  case round =>
    obtain ⟨HB, i, hi, rfl⟩ := hrel
    by_cases ci : i = N
    · subst ci
      go_wp2_with fail
      go_ret
      exact ⟨rfl, HB⟩
    · have hlt : (i : Int) < (N : Int) := by omega
      obtain ⟨b, o, hA, hb, x0, l0, I⟩ := (V.keep HB) i (by omega)
      obtain ⟨b', o', hB, hb', y0, l1, J⟩ := (U.keep HB) i (by omega)
      have hle := HL i (by omega)
      rw [← hle] at y0 J
      have c : ∀ n : Behind wr, Calls Tryz.prog 8 #[.slice (RA i) (RL i) (RC i), .slice (SA i) (RL i) (SC i)] n.W fun e w' => e = .returned (.bool true) ∧ Below n.W.heap.size n.W w' := fun n => rsameV_w (RA i) (SA i) (RL i) (RC i) (SC i) (X i) (Y i) l0 (HX i (by omega)) n.W (I.keep n.bel) (J.keep n.bel)
      clear hle
      subst hA hB
      go_upto_region 6 with fail
      have kx0 := fun n : Behind wr => n.cell x0 hb
      have ky0 := fun n : Behind wr => n.cell y0 hb'
      refine region_behind (by kernel_rfl) (by kernel_rfl) ?_
      repeat (go_big_quiet_step (first
        | (go_at_call 8; with_reducible refine Behind.call (c _))))
      refine wpQuiet_nil ?_
      rintro _ ⟨q, rfl⟩
      obtain ⟨W, hb1⟩ := q
      dsimp only
      replace HB := later HB hb1
      clear hb1 kx0 ky0
      go_wp2_with fail
      go_roundg (N - i - 1)
      case measure => omega
      case rel => exact ⟨HB, i + 1, by omega, by go_num⟩

/-- The value v is, in w, a slice of those slices, in a block of the call's own. -/
def OwnR (B : Nat) (w : World) (v : Value) (vs : List Value) : Prop := w.ownsRow B 26 1 v vs.length vs

theorem ownR_empty (w : World) : OwnR w.heap.size (w.alloc (.cells #[] 26)) (.slice (some ⟨w.heap.size, 0, none⟩) 0 0) [] := World.ownsRow_made w #[] 0 (Nat.le_refl _) (Nat.zero_le _) rfl

theorem OwnR.keep {B : Nat} {w w2 : World} {v : Value} {vs : List Value} (h : OwnR B w v vs) (hb : Below w.heap.size w w2) : OwnR B w2 v vs := by
  refine ⟨h.1, ?_⟩
  rcases h.2 with hn | ⟨g, cap, cur, hv, hb2, hg, rest⟩
  · exact .inl hn
  · have hlt : g < w.heap.size := (Array.getElem?_eq_some_iff.1 hg).1
    refine .inr ⟨g, cap, cur, hv, hb2, ?_, rest⟩
    rw [← hg]
    exact hb.block g hlt

theorem OwnI.base {B B' : Nat} {w : World} {v : Value} {xs : List (Nat × Nat)} (h : OwnI B w v xs) (hb : B' ≤ B) : OwnI B' w v xs := by
  refine ⟨h.1, ?_⟩
  rcases h.2 with hn | ⟨g, cap, cur, hv, hb2, rest⟩
  · exact .inl hn
  · exact .inr ⟨g, cap, cur, hv, Nat.le_trans hb hb2, rest⟩

theorem own_apart {B : Nat} {w : World} {u v : Value} {xs : List (Nat × Nat)} {vs : List Value} (h : OwnI B w u xs) (k : OwnR B w v vs) : u.ownBlock = none ∨ u.ownBlock ≠ v.ownBlock := by
  rcases h.2 with ⟨rfl, -⟩ | ⟨g, cap, cur, rfl, -, hg, -⟩
  · exact .inl rfl
  · right
    rcases k.2 with ⟨rfl, -⟩ | ⟨g', cap', cur', rfl, -, hg', -⟩
    · intro e
      cases e
    · intro e
      have e' : g = g' := Option.some.inj e
      subst e'
      rw [hg] at hg'
      simp at hg'

theorem wpList_pushR {B : Nat} {w0 wr : World} {ops : Array Oper} {rest : List Oper} {o : Oper} {a : Act} {Q : Exit → Act → World → Prop} (hgd : o.guard = none) (s x : Operand)
    (ho : o.op = .call { callee := .builtin .append, args := #[s, x], argTypes := #[31, 31] }) (v : Value) (vs : List Value) (A : Option Addr) (n c : Nat) (hs : a.eval s = v) (hx : a.eval x = .slice (some ⟨wr.heap.size, 0, none⟩) 1 1)
    (hown : OwnR B wr v vs) (hl : vs.length ≤ 2000000) (hB : B ≤ wr.heap.size) (hbel : Below B w0 wr)
    (h : ∀ v' w', OwnR B w' v' (vs ++ [.slice A n c]) → Below B w0 w' → B ≤ w'.heap.size → (∀ u xs, OwnI B wr u xs → OwnI B w' u xs) → wpList Tryz.prog ops Q rest (a.put o.dst v') w') : wpList Tryz.prog ops Q (o :: rest) a (wr.alloc (.cells #[.slice A n c] 26)) := by
  obtain ⟨i0, hi, hz0, hz1, hz2⟩ := info_parts Tryz.infoRow
  have hal : Below wr.heap.size wr (wr.alloc (.cells #[.slice A n c] 26)) := (Below.refl _ _).alloc (Nat.le_refl _) _
  refine wpList_append_own _ hgd s x 31 ho B 26 i0 (.slice none 0 0) 1 24 Tryz.underlying31 hi hz0 hz1 hz2 rfl (by decide) v vs.length vs hs (hown.keep hal) ⟨wr.heap.size, 0, none⟩ 1 1 [.slice A n c] hx rfl ?_ ?_ (by unfold maxLen; omega) (by omega) (by simp; omega) ?_
  · intro j u hj
    match j, hj with
    | 0, hj => simp at hj; subst hj; simp [Addr.add]
  · intro u hu
    simp at hu
    rw [hu]
    rfl
  · intro v' w' h1 h2 _
    refine h v' w' ?_ ((hbel.alloc hB _).grown h2 (by simp; omega) ?_) (by have := h2.size; simp at this; omega) fun u xs hu => ?_
    · unfold OwnR
      rw [List.length_append]
      exact h1
    · intro k hk
      exact (World.ownsRow.lt hown k hk).1
    · exact World.ownsRow.kept (hu.keep hal) h2 (own_apart (hu.keep hal) (hown.keep hal))

theorem dotP_congr {X X' Y Y' : Nat → Nat × Nat} (n : Nat) (hx : ∀ i, i < n → X i = X' i) (hy : ∀ i, i < n → Y i = Y' i) : dotP X Y n = dotP X' Y' n := by
  induction n with
  | zero => rfl
  | succ n ih =>
    show addP (dotP X Y n).1 (dotP X Y n).2 (mulP (X n).1 (X n).2 (Y n).1 (Y n).2).1 (mulP (X n).1 (X n).2 (Y n).1 (Y n).2).2 = addP (dotP X' Y' n).1 (dotP X' Y' n).2 (mulP (X' n).1 (X' n).2 (Y' n).1 (Y' n).2).1 (mulP (X' n).1 (X' n).2 (Y' n).1 (Y' n).2).2
    rw [ih (fun i hi => hx i (by omega)) (fun i hi => hy i (by omega)), hx n (by omega), hy n (by omega)]

def colL (Y : Nat → Nat → Nat × Nat) (j n : Nat) : List (Nat × Nat) := (List.range n).map fun s => Y s j
def rowL (X Y : Nat → Nat → Nat × Nat) (M i n : Nat) : List (Nat × Nat) := (List.range n).map fun c => prodI X Y M i c

theorem colL_step (Y : Nat → Nat → Nat × Nat) (j n : Nat) : colL Y j (n + 1) = colL Y j n ++ [((Y n j).1, (Y n j).2)] := by
  unfold colL; rw [List.range_succ, List.map_append]; rfl
theorem rowL_step (X Y : Nat → Nat → Nat × Nat) (M i n : Nat) : rowL X Y M i (n + 1) = rowL X Y M i n ++ [((prodI X Y M i n).1, (prodI X Y M i n).2)] := by
  unfold rowL; rw [List.range_succ, List.map_append]; rfl
theorem colL_len (Y : Nat → Nat → Nat × Nat) (j n : Nat) : (colL Y j n).length = n := by simp [colL]
theorem rowL_len (X Y : Nat → Nat → Nat × Nat) (M i n : Nat) : (rowL X Y M i n).length = n := by simp [rowL]
theorem colL_at (Y : Nat → Nat → Nat × Nat) (j n t : Nat) (ht : t < n) : (colL Y j n).getD t (0, 0) = Y t j := by simp [colL, List.getD, ht]
theorem rowL_at (X Y : Nat → Nat → Nat × Nat) (M i n t : Nat) (ht : t < n) : (rowL X Y M i n).getD t (0, 0) = prodI X Y M i t := by simp [rowL, List.getD, ht]

theorem OwnI.form {B : Nat} {w : World} {v : Value} {xs : List (Nat × Nat)} (h : OwnI B w v xs) : ∃ A C, v = .slice A xs.length C := by
  rcases h.2 with ⟨rfl, hn⟩ | ⟨g, cap, cur, rfl, -⟩
  · exact ⟨none, 0, by rw [hn]⟩
  · exact ⟨_, _, rfl⟩

/-- The rows so far: each a slice of the call's own. -/
def Rowed (B : Nat) (w : World) (X Y : Nat → Nat → Nat × Nat) (M L i : Nat) (vs : List Value) : Prop := vs.length = i ∧ ∀ r, r < i → ∃ A C, vs[r]? = some (.slice A L C) ∧ OwnI B w (.slice A L C) (rowL X Y M r L)

theorem Rowed.keep {B : Nat} {w w2 : World} {X Y : Nat → Nat → Nat × Nat} {M L i : Nat} {vs : List Value} (h : Rowed B w X Y M L i vs) (hb : ∀ u xs, OwnI B w u xs → OwnI B w2 u xs) : Rowed B w2 X Y M L i vs :=
  ⟨h.1, fun r hr => by obtain ⟨A, C, a, b⟩ := h.2 r hr; exact ⟨A, C, a, hb _ _ b⟩⟩

theorem Rowed.push {B : Nat} {w : World} {X Y : Nat → Nat → Nat × Nat} {M L i : Nat} {vs : List Value} (h : Rowed B w X Y M L i vs) {A : Option Addr} {C : Nat} (k : OwnI B w (.slice A L C) (rowL X Y M i L)) : Rowed B w X Y M L (i + 1) (vs ++ [.slice A L C]) := by
  refine ⟨by rw [List.length_append, h.1]; rfl, fun r hr => ?_⟩
  by_cases e : r = i
  · subst e
    refine ⟨A, C, ?_, k⟩
    rw [← h.1]
    simp
  · obtain ⟨A', C', a, b⟩ := h.2 r (by omega)
    refine ⟨A', C', ?_, b⟩
    rw [List.getElem?_append_left (by rw [h.1]; omega)]
    exact a

end Go.Proofs.YtnchhfhoaepjnaaGreat
