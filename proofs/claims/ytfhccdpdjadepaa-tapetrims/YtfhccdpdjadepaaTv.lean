/- Trimming: the reference's Trim. -/
import Derived.Test.YtfhccdpdjadepaaTu
import Derived.Test.YtfhccdpdjadepaaTr
import Derived.Deep.CutRange
namespace Go.Proofs.Ytfhccdpdjadepaa
open Go.ChangeShapes Go.WideShapes Go.ChangeAt Go.RowKit

/-- What lies in memory while the reference goes through operations. -/
structure StR (w wx : World) (bR bT g bP S0 n : Nat) (xv xa xd vO : Value) (nd : Nat → Bool) (T : List Opw) (pl : Nat → Int) : Prop where
  HB : Below w.heap.size w wx
  t : Tap3 wx w.heap.size xv xa xd
  r : Tap3 wx bR (.int .i64 0) (.slice none 0 0) (.slice none 0 0)
  tr : Tap3 wx bT xv vO (.slice none 0 0)
  nd : Cel wx g n (fun i => .int .i64 (bI (nd i)))
  pl : Cel wx bP n (fun i => .int .i64 (pl i))
  ow : OwnO S0 wx vO T
  sz : S0 ≤ wx.heap.size

theorem StR.keep {w wx w2 : World} {bR bT g bP S0 n : Nat} {xv xa xd vO : Value} {nd : Nat → Bool} {T : List Opw} {pl : Nat → Int} (s : StR w wx bR bT g bP S0 n xv xa xd vO nd T pl) (hb : Below wx.heap.size wx w2) : StR w w2 bR bT g bP S0 n xv xa xd vO nd T pl :=
  ⟨later s.HB hb, s.t.keep hb, s.r.keep hb, s.tr.keep hb, s.nd.keep hb, s.pl.keep hb, own_keep s.ow hb, Nat.le_trans s.sz hb.size⟩

def OrdR (b0 bR bT g bP S0 : Nat) : Prop := b0 < bR ∧ bR < bT ∧ bT < g ∧ g < bP ∧ bP < S0

theorem StR.setP {w wx : World} {bR bT g bP S0 n i : Nat} {xv xa xd vO : Value} {nd : Nat → Bool} {T : List Opw} {pl : Nat → Int} (s : StR w wx bR bT g bP S0 n xv xa xd vO nd T pl) (o : OrdR w.heap.size bR bT g bP S0) (hi : i < n) (z : Int) :
    StR w (wx.setCell ⟨bP, i, none⟩ (.int .i64 z)) bR bT g bP S0 n xv xa xd vO nd T (updI pl i z) := by
  obtain ⟨o0, o1, o2, o3, o5⟩ := o
  exact ⟨Below.setCell s.HB (by show w.heap.size ≤ bP; omega) _, s.t.far (by omega) _, s.r.far (by omega) _, s.tr.far (by omega) _, s.nd.far (by omega) _, cel_upd s.pl hi z, own_set s.ow o5 _, by simp only [World.size_setCell]; exact s.sz⟩

theorem StR.grow {w wx w' : World} {bR bT g bP S0 n : Nat} {xv xa xd vO v' : Value} {nd : Nat → Bool} {T : List Opw} {pl : Nat → Int} {mv : Opw} (s : StR w wx bR bT g bP S0 n xv xa xd vO nd T pl) (o : OrdR w.heap.size bR bT g bP S0)
    (hown : OwnO S0 w' v' (T ++ [mv])) (hb : Below S0 wx w') : StR w (w'.setCell ⟨bT, 1, none⟩ v') bR bT g bP S0 n xv xa xd v' nd (T ++ [mv]) pl := by
  obtain ⟨o0, o1, o2, o3, o5⟩ := o
  have hs := hb.size
  refine ⟨Below.setCell (s.HB.trans (hb.mono (by omega))) (by show w.heap.size ≤ bT; omega) _, (s.t.keepB hb (by omega) hs).far (by omega) _, (s.r.keepB hb (by omega) hs).far (by omega) _, (s.tr.keepB hb (by omega) hs).set1 _, (s.nd.keepB hb (by omega) hs).far (by omega) _, (s.pl.keepB hb (by omega) hs).far (by omega) _, own_set hown (by omega) _, ?_⟩
  simp only [World.size_setCell]
  exact Nat.le_trans s.sz hs

theorem own_setN {B : Nat} {w : World} {e : TypeId} {sz : Nat} {v : Value} {n : Nat} {xs : List Value} (h : w.ownsRow B e sz v n xs) {c k : Nat} (hk : ∀ q, v.ownBlock = some q → q < c) (u : Value) : (w.setCell ⟨c, k, none⟩ u).ownsRow B e sz v n xs := by
  refine ⟨h.1, ?_⟩
  rcases h.2 with hn | ⟨g, cap, cur, hv, hb2, hg, rest⟩
  · exact .inl hn
  · refine .inr ⟨g, cap, cur, hv, hb2, ?_, rest⟩
    rw [← hg]
    have := hk g (by rw [hv]; rfl)
    exact Below.heap_setCell w ⟨c, k, none⟩ u g (by show g ≠ c; omega)

theorem StR.setO {w wx : World} {bR bT g bP S0 n c k : Nat} {xv xa xd vO : Value} {nd : Nat → Bool} {T : List Opw} {pl : Nat → Int} (s : StR w wx bR bT g bP S0 n xv xa xd vO nd T pl) (o : OrdR w.heap.size bR bT g bP S0) (hc : bP < c) (hk : ∀ q, vO.ownBlock = some q → q < c) (u : Value) :
    StR w (wx.setCell ⟨c, k, none⟩ u) bR bT g bP S0 n xv xa xd vO nd T pl := by
  obtain ⟨o0, o1, o2, o3, o5⟩ := o
  exact ⟨Below.setCell s.HB (by show w.heap.size ≤ c; omega) _, s.t.far (by omega) _, s.r.far (by omega) _, s.tr.far (by omega) _, s.nd.far (by omega) _, s.pl.far (by omega) _, own_setN s.ow hk _, by simp only [World.size_setCell]; exact s.sz⟩

theorem has6_set {w : World} {b : Nat} {x : Opw} (h : Has6 w b x) (y : Opw) : Has6 ((((((w.setCell ⟨b, 0, none⟩ (.int .i64 y.k)).setCell ⟨b, 1, none⟩ (.int .i64 y.a)).setCell ⟨b, 2, none⟩ (.int .i64 y.b)).setCell ⟨b, 3, none⟩ (.int .i64 y.n)).setCell ⟨b, 4, none⟩ (.float .f64 y.lo)).setCell ⟨b, 5, none⟩ (.float .f64 y.hi)) b y := by
  obtain ⟨c0, c1, c2, c3, c4, c5, f0, f1, f2, f3, f4, f5, l⟩ := h
  exact ⟨by go_simp, by go_simp, by go_simp, by go_simp, by go_simp, by go_simp, by go_simp, by go_simp, by go_simp, by go_simp, by go_simp, by go_simp, by simp only [World.size_setCell]; exact l⟩
theorem Has6.setA {w : World} {b : Nat} {x : Opw} (h : Has6 w b x) (z : Int) : Has6 (w.setCell ⟨b, 1, none⟩ (.int .i64 z)) b { x with a := z } := by
  obtain ⟨c0, c1, c2, c3, c4, c5, f0, f1, f2, f3, f4, f5, l⟩ := h
  exact ⟨by go_simp, by go_simp, by go_simp, by go_simp, by go_simp, by go_simp, by go_simp, by go_simp, by go_simp, by go_simp, by go_simp, by go_simp, by simp only [World.size_setCell]; exact l⟩
theorem Has6.setB {w : World} {b : Nat} {x : Opw} (h : Has6 w b x) (z : Int) : Has6 (w.setCell ⟨b, 2, none⟩ (.int .i64 z)) b { x with b := z } := by
  obtain ⟨c0, c1, c2, c3, c4, c5, f0, f1, f2, f3, f4, f5, l⟩ := h
  exact ⟨by go_simp, by go_simp, by go_simp, by go_simp, by go_simp, by go_simp, by go_simp, by go_simp, by go_simp, by go_simp, by go_simp, by go_simp, by simp only [World.size_setCell]; exact l⟩

theorem opCells_at (T : List Opw) (j : Nat) (x : Opw) (h : T[j]? = some x) : (opCells T)[j * 6]? = some (.int .i64 x.k) ∧ (opCells T)[j * 6 + 1]? = some (.int .i64 x.a) ∧ (opCells T)[j * 6 + 2]? = some (.int .i64 x.b) ∧ (opCells T)[j * 6 + 3]? = some (.int .i64 x.n) ∧ (opCells T)[j * 6 + 4]? = some (.float .f64 x.lo) ∧ (opCells T)[j * 6 + 5]? = some (.float .f64 x.hi) := by
  induction T generalizing j with
  | nil => simp at h
  | cons q t ih =>
    have e : opCells (q :: t) = .int .i64 q.k :: .int .i64 q.a :: .int .i64 q.b :: .int .i64 q.n :: .float .f64 q.lo :: .float .f64 q.hi :: opCells t := rfl
    rw [e]
    cases j with
    | zero =>
      simp at h
      subst h
      exact ⟨rfl, rfl, rfl, rfl, rfl, rfl⟩
    | succ j =>
      have h' : t[j]? = some x := by simpa using h
      have := ih j h'
      rw [show (j + 1) * 6 = j * 6 + 6 by omega, show j * 6 + 6 + 1 = (j * 6 + 1) + 6 by omega, show j * 6 + 6 + 2 = (j * 6 + 2) + 6 by omega, show j * 6 + 6 + 3 = (j * 6 + 3) + 6 by omega, show j * 6 + 6 + 4 = (j * 6 + 4) + 6 by omega, show j * 6 + 6 + 5 = (j * 6 + 5) + 6 by omega]
      simpa using this

theorem opCells_len (T : List Opw) : (opCells T).length = T.length * 6 := by
  induction T with
  | nil => rfl
  | cons q t ih =>
    have e : opCells (q :: t) = .int .i64 q.k :: .int .i64 q.a :: .int .i64 q.b :: .int .i64 q.n :: .float .f64 q.lo :: .float .f64 q.hi :: opCells t := rfl
    rw [e]
    simp only [List.length_cons]
    omega

/-- Operations that a call made, as they lie in memory. -/
theorem own_ops {B : Nat} {w : World} {v : Value} {T : List Opw} (h : OwnO B w v T) (hk : ∀ t ∈ T, t.ok) : ∃ A C, v = .slice A T.length C ∧ Ops w A T.length (fun j => T.getD j zeroO) := by
  have h' : w.ownsRow B 37 6 v T.length (opCells T) := h
  rcases h'.2 with ⟨rfl, hn⟩ | ⟨g, cap, cur, rfl, -⟩
  · rw [hn]
    exact ⟨none, 0, rfl, fun i hi => by omega⟩
  · have hl := (World.ownsRow.lt h' g rfl).2
    refine ⟨_, cap, rfl, fun i hi => ?_⟩
    obtain ⟨x, hx⟩ : ∃ x, T[i]? = some x := ⟨_, List.getElem?_eq_getElem hi⟩
    have e : T.getD i zeroO = x := by simp [List.getD, hx]
    have e' : (fun j => T.getD j zeroO) i = x := e
    have L := opCells_len T
    obtain ⟨a0, a1, a2, a3, a4, a5⟩ := opCells_at T i x hx
    have ok := hk x (List.mem_of_getElem? hx)
    refine ⟨g, 0, rfl, hl, ?_, ?_, ?_, ?_, ?_, ?_, ?_, ?_⟩
    · rw [Nat.zero_add, World.ownsRow.cellAt h' _ (by omega), a0, e']
    · rw [Nat.zero_add, World.ownsRow.cellAt h' _ (by omega), a1, e']
    · rw [Nat.zero_add, World.ownsRow.cellAt h' _ (by omega), a2, e']
    · rw [Nat.zero_add, World.ownsRow.cellAt h' _ (by omega), a3, e']
    · rw [Nat.zero_add, World.ownsRow.cellAt h' _ (by omega), a4, e']
    · rw [Nat.zero_add, World.ownsRow.cellAt h' _ (by omega), a5, e']
    · show (T.getD i zeroO).lo < _; rw [e]; exact ok.1
    · show (T.getD i zeroO).hi < _; rw [e]; exact ok.2

theorem mov_fit {pl : Nat → Int} {o : Opw} (h : o.ok) (hf : o.k = 1 → hsB o.lo o.hi = true) : (movO pl o).fit := by
  refine ⟨mov_ok h, ?_⟩
  show hsB (if o.k = 1 then o.lo else 0) (if o.k = 1 then o.hi else 0) = true
  by_cases e : o.k = 1
  · rw [if_pos e, if_pos e]; exact hf e
  · rw [if_neg e, if_neg e]; decide

theorem trim_fit {X : Nat → Opw} {nd : Nat → Bool} {n : Nat} (h : ∀ i, i < n → (X i).ok) (hf : ∀ i, i < n → (X i).k = 1 → hsB (X i).lo (X i).hi = true) : ∀ i, i ≤ n → ∀ t ∈ (trimS X nd i).1, t.fit
  | 0, _ => by simp [trimS]
  | i + 1, hi => by
    have a := trim_fit (nd := nd) h hf i (by omega)
    have m := mov_fit (pl := (trimS X nd i).2) (h i (by omega)) (hf i (by omega))
    unfold trimS
    split
    · split
      · exact a
      · intro t ht
        rcases List.mem_append.1 ht with q | q
        · exact a t q
        · rw [List.mem_singleton.1 q]; exact m
    · exact a

/-- Where the first of the first j that is the same stands; -1: there is none. -/
def firstI (mv : Opw) (T : List Opw) (j : Nat) : Int := match (T.take j).findIdx? (eqO mv) with
  | some q => (q : Int)
  | none => -1

theorem firstI_step (mv : Opw) (T : List Opw) (j : Nat) (hj : j < T.length) : firstI mv T (j + 1) = if firstI mv T j < 0 then (if eqO mv (T.getD j zeroO) then (j : Int) else -1) else firstI mv T j := by
  have e : T.take (j + 1) = T.take j ++ [T.getD j zeroO] := by
    rw [List.take_add_one, List.getElem?_eq_getElem hj]
    simp [List.getD, List.getElem?_eq_getElem hj]
  unfold firstI
  rw [e, List.findIdx?_append]
  generalize T.getD j zeroO = y
  clear e
  cases h : (T.take j).findIdx? (eqO mv) with
  | some q =>
    have : ¬ ((q : Int) < 0) := by omega
    simp [this]
  | none =>
    cases c : eqO mv y
    · simp [List.findIdx?_cons, c]
    · have lm : min j T.length = j := by omega
      simp [List.findIdx?_cons, c, lm]

theorem firstI_cases (mv : Opw) (T : List Opw) (j : Nat) : firstI mv T j = -1 ∨ ∃ q : Nat, firstI mv T j = (q : Int) := by
  unfold firstI
  cases (T.take j).findIdx? (eqO mv) with
  | some q => exact .inr ⟨q, rfl⟩
  | none => exact .inl rfl

theorem firstI_all (mv : Opw) (T : List Opw) : firstI mv T T.length = match T.findIdx? (eqO mv) with
  | some q => (q : Int)
  | none => -1 := by
  unfold firstI
  rw [List.take_length]

set_option maxHeartbeats 4000000 in
set_option maxRecDepth 100000 in
theorem rtrim_good (v : Int) (A : Option Addr) (n C : Nat) (D : Option Addr) (m E : Nat) (X : Nat → Opw) (Y : Nat → Int) (hn : n ≤ 4000) (hm : m ≤ 400) (nd : Nat → Bool)
    (hy : ∀ k, k < m → 0 ≤ Y k ∧ Y k < (n : Int)) (hx : ∀ i, i < n → ∀ j, j < (X i).ar → 0 ≤ (X i).at j ∧ (X i).at j < (n : Int)) (hl : ∀ i, i < n → (X i).ok) (hk : ∀ i, i < n → rarI (X i).k = arI (X i).k) (hfit : ∀ i, i < n → (X i).k = 1 → hsB (X i).lo (X i).hi = true) (w : World) (VX : Ops w A n X) (VY : Ins w D m Y)
    (cN : ∀ w2, Below w.heap.size w w2 → Calls Try.prog 18 #[tapeV v A n C D m E] w2 fun e w' => ∃ g, w2.heap.size ≤ g ∧ e = .returned (.slice (some ⟨g, 0, none⟩) n n) ∧ Cel w' g n (fun i => .int .i64 (bI (nd i))) ∧ Below w2.heap.size w2 w') :
    Calls Try.prog 9 #[tapeV v A n C D m E] w fun e w' => (∃ S0 S1 vO vN, e = .returned (.agg #[.int .i64 v, vO, vN]) ∧ OwnO S0 w' vO (trimS X nd n).1 ∧ OwnN S1 w' vN (outL (trimS X nd n).2 Y m)) ∧ Below w.heap.size w w' := by
  have HY : Hid (∀ k, k < m → 0 ≤ Y k ∧ Y k < (n : Int)) := hy
  have HX : Hid (∀ i, i < n → ∀ j, j < (X i).ar → 0 ≤ (X i).at j ∧ (X i).at j < (n : Int)) := hx
  have HL : Hid (∀ i, i < n → (X i).ok) := hl
  have HK : Hid (∀ i, i < n → rarI (X i).k = arI (X i).k) := hk
  have HF : Hid (∀ i, i ≤ n → (∀ t ∈ (trimS X nd i).1, t.fit) ∧ (trimS X nd i).1.length ≤ i) := fun i hi => ⟨trim_fit hl hfit i hi, (trim_facts hl i hi).2⟩
  clear hx hy hl hk
  have t := (tap3_new w (.int .i64 v) (.slice A n C) (.slice D m E) 25).alloc (.cells #[.int .i64 0, .slice none 0 0, .slice none 0 0] 25)
  have r := tap3_new (w.alloc (.cells #[.int .i64 v, .slice A n C, .slice D m E] 25)) (.int .i64 0) (.slice none 0 0) (.slice none 0 0) 25
  have HB : Below w.heap.size w ((w.alloc (.cells #[.int .i64 v, .slice A n C, .slice D m E] 25)).alloc (.cells #[.int .i64 0, .slice none 0 0, .slice none 0 0] 25)) := by go_grown
  simp only [World.size_alloc] at r
  unfold tapeV at *
  go_enter Try.func9, Try.ntmps9
  go_wp2_with (first
    | (go_at_call 18; with_reducible refine (cN _ (below_alloc HB _)).mono ?_; rintro _ w2 ⟨g, hg, rfl, N, hb2⟩
       have tr := (tap3_new ((w.alloc (.cells #[.int .i64 v, .slice A n C, .slice D m E] 25)).alloc (.cells #[.int .i64 0, .slice none 0 0, .slice none 0 0] 25)) (.int .i64 v) (.slice none 0 0) (.slice none 0 0) 25).keep hb2
       simp only [World.size_alloc] at tr hg
       replace t := (t.alloc _).keep hb2
       replace r := (r.alloc _).keep hb2
       replace HB := later (below_alloc HB _) hb2
       clear hb2 cN
       obtain ⟨t0, t1, t2, -, -, -, tl⟩ := id t)
    | (at_make; refine wpList_makeN (by rfl) _ _ (by rfl) n (by rfl) (by rfl) (by omega) ?_; intro w3 P hb3 hS3
       have s : StR w w3 (w.heap.size + 1) (w.heap.size + 1 + 1) g w2.heap.size w3.heap.size n (.int .i64 v) (.slice A n C) (.slice D m E) (.slice none 0 0) nd [] (fun _ => 0) :=
         ⟨later HB hb3, t.keep hb3, r.keep hb3, tr.keep hb3, N.keep hb3, P, World.ownsRow_nil _ _ _ _, Nat.le_refl _⟩
       have o3 : g < w2.heap.size := N.1
       have o4 : w2.heap.size < w3.heap.size := hS3
       clear t r tr HB P hb3 hS3 N t0 t1 t2 tl
       obtain ⟨t0, t1, t2, -, -, -, tl⟩ := id s.t))
  clear t0 t1 t2 tl
  obtain ⟨bR, hbR⟩ : ∃ b, b = w.heap.size + 1 := ⟨_, rfl⟩
  obtain ⟨bT, hbT⟩ : ∃ b, b = w.heap.size + 1 + 1 := ⟨_, rfl⟩
  obtain ⟨bP, hbP⟩ : ∃ b, b = w2.heap.size := ⟨_, rfl⟩
  obtain ⟨S0, hS0⟩ : ∃ b, b = w3.heap.size := ⟨_, rfl⟩
  have OO : OrdR w.heap.size bR bT g bP S0 := ⟨by omega, by omega, by omega, by omega, by omega⟩
  rw [← hbT, ← hbR, ← hbP, ← hS0] at s
  rw [← hbT, ← hbR, ← hbP]
  clear hbR hbT hbP hS0 o3 o4 hg
  have HFit : Hid (∀ i, i < n → (X i).k = 1 → hsB (X i).lo (X i).hi = true) := hfit
  clear hfit
  go_loopg [26] n (fun G s26 wx => ∃ (i : Nat) (vO : Value), i + G = n ∧ s26 = .int .i64 (i : Int) ∧ StR w wx bR bT g bP S0 n (.int .i64 v) (.slice A n C) (.slice D m E) vO nd (trimS X nd i).1 (trimS X nd i).2)
  case atStart => exact ⟨0, _, by omega, rfl, s⟩
  case round =>
    clear s
    obtain ⟨i, vO, hi, rfl, s⟩ := hrel
    by_cases ci : i = n
    · subst ci
      obtain ⟨t0, t1, t2, -, -, -, tl⟩ := id s.t
      go_wp2_with fail
      obtain ⟨o0, o1, o2, o3, o5⟩ := OO
      have HO : Hid (w.heap.size < bR ∧ bR < bT ∧ bT < bP ∧ bP < S0) := ⟨o0, o1, by omega, o5⟩
      obtain ⟨T, hT⟩ : ∃ T, T = (trimS X nd i).1 := ⟨_, rfl⟩
      obtain ⟨pl, hpl⟩ : ∃ pl, pl = (trimS X nd i).2 := ⟨_, rfl⟩
      rw [← hT, ← hpl] at s
      have HT : Hid (T = (trimS X nd i).1) := hT
      have HP : Hid (pl = (trimS X nd i).2) := hpl
      clear hT hpl
      obtain ⟨wL, rfl⟩ : ∃ wL, wL = wr := ⟨_, rfl⟩
      have hKO : Hid (∀ k, vO.ownBlock = some k → k < wL.heap.size) := fun k hk => (World.ownsRow.lt s.ow k hk).2
      have hSL := s.sz
      have E1 : OwnN wL.heap.size wL (.slice none 0 0) [] := World.ownsRow_nil _ _ _ _
      go_loopg [93] m (fun G s93 wx => ∃ (k : Nat) (vN : Value), k + G = m ∧ s93 = .int .i64 (k : Int) ∧ Below w.heap.size w wx ∧ Tap3 wx bR (.int .i64 0) (.slice none 0 0) (.slice none 0 0) ∧ Tap3 wx bT (.int .i64 v) vO vN ∧ Cel wx bP i (fun j => .int .i64 (pl j)) ∧ OwnO S0 wx vO T ∧ OwnN wL.heap.size wx vN (outL pl Y k) ∧ wL.heap.size ≤ wx.heap.size)
      case atStart => exact ⟨0, _, by omega, rfl, s.HB, s.r, s.tr, s.pl, s.ow, E1, Nat.le_refl _⟩
      case round =>
        clear s E1 t0 t1 t2 tl
        obtain ⟨k, vN, hk, rfl, HB, r, tr, P, ow, on, hz⟩ := hrel
        by_cases ck : k = m
        · subst ck
          obtain ⟨z0, z1, hz0⟩ := own_form ow
          obtain ⟨z2, z3, hz2⟩ := own_form on
          subst hz0 hz2
          obtain ⟨u0, u1, u2, u3, u4, u5, u6⟩ := id tr
          obtain ⟨y0, y1, y2, y3, y4, y5, y6⟩ := id r
          go_wp2_with fail
          refine bodyPost_ret (v := .agg #[.int .i64 v, .slice z0 T.length z1, .slice z2 (outL pl Y k).length z3]) (by simp [results, Try.results9, go_sem, *]) rfl ⟨⟨S0, wL.heap.size, _, _, rfl, ?_, ?_⟩, ?_⟩
          · rw [← show T = _ from HT]
            exact own_set (B := S0) (own_set (B := S0) (own_set (B := S0) ow (by omega) _) (by omega) _) (by omega) _
          · rw [← show pl = _ from HP]
            exact own_set (B := wL.heap.size) (own_set (B := wL.heap.size) (own_set (B := wL.heap.size) on (by omega) _) (by omega) _) (by omega) _
          · exact Below.setCell (Below.setCell (Below.setCell HB (by show w.heap.size ≤ bR; omega) _) (by show w.heap.size ≤ bR; omega) _) (by show w.heap.size ≤ bR; omega) _
        · have hlt : (k : Int) < (m : Int) := by omega
          obtain ⟨b, o, hA, hb, x0⟩ := (VY.keep HB) k (by omega)
          obtain ⟨h0, h1⟩ := HY k (by omega)
          obtain ⟨p0, -⟩ := P.2 (Y k).toNat (by omega)
          dsimp only at p0
          have p2 := P.1
          have hlen : (outL pl Y k).length ≤ 2000000 := by rw [outL_len]; omega
          obtain ⟨z2, z3, hz2⟩ := own_form on
          rw [outL_len] at hz2
          subst hz2
          obtain ⟨u0, u1, u2, u3, u4, u5, u6⟩ := id tr
          subst hA
          go_wp2_with fail
          have pne : bT ≠ bP := by omega
          have pne2 : bP ≠ bT := by omega
          go_region_law
            ((refine step_pushN (by rfl) _ _ (by rfl) _ (outL pl Y k) (pl (Y k).toNat) (by rfl) (by rfl) (by go_simp) (own_keep on (by go_grown)) hlen (by go_size) ?_; intro q3 q4 w' hown' hB2 hS2; have tr2 := Tap3.keepB (tr.keep (by go_grown)) hB2 (by omega) hS2; have P2 := Cel.keepB (P.keep (by go_grown)) hB2 (by omega) hS2; obtain ⟨v0, v1, v2, v3, v4, v5, v6⟩ := id tr2; obtain ⟨p1, -⟩ := P2.2 (Y k).toNat (by omega); dsimp only at p1))
          all_goals
            go_wp2_with fail
            go_roundg (m - k - 1)
            case measure => omega
            case rel =>
              refine ⟨k + 1, _, by omega, by go_num, ?_, ?_, tr2.set2 _, P2.far pne _, ?_, ?_, ?_⟩
              · exact Below.setCell ((later HB (by go_grown)).trans (hB2.mono (by omega))) (by show w.heap.size ≤ bT; omega) _
              · exact (Tap3.keepB (r.keep (by go_grown)) hB2 (by omega) hS2).far (by omega) _
              · exact own_set (own_keepB (own_keep ow (by go_grown)) hB2 hKO) (by omega) _
              · rw [outL_step]; exact own_set (B := wL.heap.size) (r := bT) (k := 2) hown' (by omega) _
              · simp only [World.size_setCell]; exact Nat.le_trans hz (Nat.le_trans (by go_size) hS2)
    · have hlt : (i : Int) < (n : Int) := by omega
      have hin : i < n := by omega
      obtain ⟨b, o, hA, hb, x0, x1, x2, x3, x4, x5, -, -⟩ := (VX.keep s.HB) i hin
      obtain ⟨c0, -⟩ := s.nd.2 i hin
      dsimp only at c0
      have gl := s.nd.1
      subst hA
      have hcase : nd i = true ∨ nd i = false := by cases nd i <;> simp
      rcases hcase with hq | hq
      · rw [hq, show bI true = 1 from rfl] at c0
        have hFo : Hid ((∀ t ∈ (trimS X nd i).1, t.fit) ∧ (trimS X nd i).1.length ≤ i) := HF i (by omega)
        have hmv : (movO (trimS X nd i).2 (X i)).fit := mov_fit (HL i hin) (HFit i hin)
        have cb := fun w => bare_w (X i) (HK i hin) w
        have hbk : (bareO (X i)).k = (X i).k := rfl
        have hbb : Hid (bareO (X i) = { k := (X i).k, a := if arI (X i).k = 0 then 0 else (X i).a, b := if arI (X i).k = 2 then (X i).b else 0, n := if (X i).k = 2 ∨ (X i).k = 8 then (X i).n else 0, lo := if (X i).k = 1 then (X i).lo else 0, hi := if (X i).k = 1 then (X i).hi else 0 }) := Eq.refl _
        have hop := HX i hin
        have HNew : Hid ((trimS X nd i).1.findIdx? (eqO (movO (trimS X nd i).2 (X i))) = none → trimS X nd (i + 1) = ((trimS X nd i).1 ++ [movO (trimS X nd i).2 (X i)], updI (trimS X nd i).2 i ((trimS X nd i).1.length : Int))) := trimS_new hq
        have HOld : Hid (∀ j : Nat, (trimS X nd i).1.findIdx? (eqO (movO (trimS X nd i).2 (X i))) = some j → trimS X nd (i + 1) = ((trimS X nd i).1, updI (trimS X nd i).2 i (j : Int))) := fun j h => trimS_old hq h
        have HMv : Hid (movO (trimS X nd i).2 (X i) = { k := (X i).k, a := if arI (X i).k = 0 then 0 else (trimS X nd i).2 (X i).a.toNat, b := if arI (X i).k = 2 then (trimS X nd i).2 (X i).b.toNat else 0, n := if (X i).k = 2 ∨ (X i).k = 8 then (X i).n else 0, lo := if (X i).k = 1 then (X i).lo else 0, hi := if (X i).k = 1 then (X i).hi else 0 }) := Eq.refl _
        clear hq
        generalize (trimS X nd i).1 = T at *
        generalize (trimS X nd i).2 = pl at *
        generalize movO pl (X i) = mv at *
        have ca := fun w => args_w (X i).k w
        rw [HK i hin] at ca
        unfold Opw.val at cb
        rw [hbk] at cb
        generalize bareO (X i) = bx at *
        have P0 := has6_new wr (X i)
        have hbo : bP < wr.heap.size := s.pl.1
        have hKO : Hid (∀ q, vO.ownBlock = some q → q < wr.heap.size) := fun q hq => (World.ownsRow.lt s.ow q hq).2
        go_upto_region 10 with (first
          | (go_at_call 19; with_reducible refine (cb _).mono ?_; rintro _ w4 ⟨rfl, hb4⟩
             replace P0 := P0.keep hb4
             have s4 := s.keep (later (below_alloc (Below.refl _ _) _) hb4)
             obtain ⟨p0, p1, p2, p3, p4, p5, f0, f1, f2, f3, f4, f5, p6⟩ := id P0
             clear hb4 cb)
          | (go_at_call 13; with_reducible refine (ca _).mono ?_; rintro _ _ ⟨rfl, rfl⟩))
        clear p0 p1 p2 p3 p4 p5 f0 f1 f2 f3 f4 f5 p6
        have P1 := has6_set P0 bx
        have s5 := (((((s4.setO OO hbo hKO (k := 0) (.int .i64 bx.k)).setO OO hbo hKO (k := 1) (.int .i64 bx.a)).setO OO hbo hKO (k := 2) (.int .i64 bx.b)).setO OO hbo hKO (k := 3) (.int .i64 bx.n)).setO OO hbo hKO (k := 4) (.float .f64 bx.lo)).setO OO hbo hKO (k := 5) (.float .f64 bx.hi)
        rw [hbk] at s5
        have P1' := P1
        rw [hbk] at P1'
        clear P1 P0 s4 c0 x0 x1 x2 x3 x4 x5
        generalize ((((((w4.setCell ⟨wr.heap.size, 0, none⟩ (.int .i64 (X i).k)).setCell ⟨wr.heap.size, 1, none⟩ (.int .i64 bx.a)).setCell ⟨wr.heap.size, 2, none⟩ (.int .i64 bx.b)).setCell ⟨wr.heap.size, 3, none⟩ (.int .i64 bx.n)).setCell ⟨wr.heap.size, 4, none⟩ (.float .f64 bx.lo)).setCell ⟨wr.heap.size, 5, none⟩ (.float .f64 bx.hi)) = w5 at *
        obtain ⟨bo, hbo'⟩ : ∃ bo, bo = wr.heap.size := ⟨_, rfl⟩
        rw [← hbo'] at P1' hbo hKO ⊢
        clear hbo' s gl hb
        go_upto_if 42 with fail
        have nbo : bP ≠ bo := by omega
        have nbo2 : bo ≠ bP := by omega
        go_cut [] from 42 to 48 (fun wx => StR w wx bR bT g bP S0 n (.int .i64 v) (.slice (some ⟨b, o, none⟩) n C) (.slice D m E) vO nd T pl ∧ Has6 wx bo { bx with a := mv.a })
        case first =>
          rcases ar_cases3 (X i) with ⟨a1, a2⟩ | ⟨a1, a2⟩ | ⟨a1, a2⟩
          · have e : { bx with a := mv.a } = bx := by rw [show mv = _ from HMv, show bx = _ from hbb]; simp only [a1, if_true]
            have hp : ¬ (0 : Int) < arI (X i).k := by omega
            clear a1 a2
            go_wp2_with fail
            go_meet
            exact ⟨s5, by rw [e]; exact P1'⟩
          all_goals
            have q := hop 0 (by omega)
            have q0 : 0 ≤ (X i).a := q.1
            have q1 : (X i).a < (n : Int) := q.2
            have ea : bx.a = (X i).a := by rw [show bx = _ from hbb]; show (if arI (X i).k = 0 then 0 else (X i).a) = _; rw [if_neg (by omega)]
            have em : mv.a = pl (X i).a.toNat := by rw [show mv = _ from HMv]; show (if arI (X i).k = 0 then 0 else pl (X i).a.toNat) = _; rw [if_neg (by omega)]
            obtain ⟨d0, -⟩ := s5.pl.2 (X i).a.toNat (by omega)
            dsimp only at d0
            have d1 := s5.pl.1
            obtain ⟨p0, p1, p2, p3, p4, p5, f0, f1, f2, f3, f4, f5, p6⟩ := id P1'
            rw [ea] at p1
            have s6 := s5.setO OO hbo hKO (k := 1) (.int .i64 (pl (X i).a.toNat))
            have P2 : Has6 (w5.setCell ⟨bo, 1, none⟩ (.int .i64 (pl (X i).a.toNat))) bo { bx with a := mv.a } := by rw [em]; exact P1'.setA (pl (X i).a.toNat)
            have hp : (0 : Int) < arI (X i).k := by omega
            clear q ea em a1 a2 hop HMv hbb
            go_wp2_with fail
            go_meet
            exact ⟨s6, P2⟩
        case rest =>
          clear s5 P1'
          obtain ⟨s5, P1⟩ := hcut
          go_upto_if 50 with fail
          go_cut [] from 50 to 56 (fun wx => StR w wx bR bT g bP S0 n (.int .i64 v) (.slice (some ⟨b, o, none⟩) n C) (.slice D m E) vO nd T pl ∧ Has6 wx bo mv)
          case first =>
            have hmk : mv.k = bx.k ∧ mv.n = bx.n ∧ mv.lo = bx.lo ∧ mv.hi = bx.hi := by rw [show mv = _ from HMv, show bx = _ from hbb]; exact ⟨rfl, rfl, rfl, rfl⟩
            rcases ar_cases3 (X i) with ⟨a1, a2⟩ | ⟨a1, a2⟩ | ⟨a1, a2⟩
            case' inr.inr =>
              have q := hop 1 (by omega)
              have q0 : 0 ≤ (X i).b := q.1
              have q1 : (X i).b < (n : Int) := q.2
              have ea : bx.b = (X i).b := by rw [show bx = _ from hbb]; show (if arI (X i).k = 2 then (X i).b else 0) = _; rw [if_pos a1]
              have em : mv.b = pl (X i).b.toNat := by rw [show mv = _ from HMv]; show (if arI (X i).k = 2 then pl (X i).b.toNat else 0) = _; rw [if_pos a1]
              obtain ⟨d0, -⟩ := s5.pl.2 (X i).b.toNat (by omega)
              dsimp only at d0
              have d1 := s5.pl.1
              obtain ⟨p0, p1, p2, p3, p4, p5, f0, f1, f2, f3, f4, f5, p6⟩ := id P1
              dsimp only at p2
              rw [ea] at p2
              have s6 := s5.setO OO hbo hKO (k := 2) (.int .i64 (pl (X i).b.toNat))
              have P2 := P1.setB (pl (X i).b.toNat)
              have P3 : Has6 (wc.setCell ⟨bo, 2, none⟩ (.int .i64 (pl (X i).b.toNat))) bo mv := by
                have e3 : mv = { k := bx.k, a := mv.a, b := pl (X i).b.toNat, n := bx.n, lo := bx.lo, hi := bx.hi } := by rw [← hmk.1, ← hmk.2.1, ← hmk.2.2.1, ← hmk.2.2.2, ← em]
                rw [e3]
                exact P2
              have hp : (1 : Int) < arI (X i).k := by omega
              clear q ea em a1 a2 hop HMv hbb hmk P2
              go_wp2_with fail
              go_meet
              exact ⟨s6, P3⟩
            all_goals
              have eb : mv.b = bx.b := by rw [show mv = _ from HMv, show bx = _ from hbb]; show (if arI (X i).k = 2 then pl (X i).b.toNat else 0) = (if arI (X i).k = 2 then (X i).b else 0); rw [if_neg (by omega), if_neg (by omega)]
              have P3 : Has6 wc bo mv := by
                have e3 : mv = { k := bx.k, a := mv.a, b := bx.b, n := bx.n, lo := bx.lo, hi := bx.hi } := by rw [← hmk.1, ← hmk.2.1, ← hmk.2.2.1, ← hmk.2.2.2, ← eb]
                rw [e3]
                exact P1
              have hp : ¬ (1 : Int) < arI (X i).k := by omega
              clear a1 a2 hmk eb
              go_wp2_with fail
              go_meet
              exact ⟨s5, P3⟩
          case rest =>
            clear s5 P1 hop HMv hbb
            obtain ⟨s5, P1⟩ := hcut
            obtain ⟨hok, hTl⟩ : (∀ t ∈ T, t.fit) ∧ T.length ≤ i := hFo
            have HFt : Hid (∀ t ∈ T, t.fit) := hok
            obtain ⟨OA, OC, hvO, VO⟩ := own_ops s5.ow (fun t ht => (hok t ht).1)
            subst hvO
            obtain ⟨u0, u1, u2, u3, u4, u5, u6⟩ := id s5.tr
            clear hok
            go_wp2_with fail
            obtain ⟨w6, rfl⟩ : ∃ w6, w6 = wc := ⟨_, rfl⟩
            go_loopg [9, 60] T.length (fun G s9 s60 wy => ∃ j : Nat, j + G = T.length ∧ s60 = .int .i64 (j : Int) ∧ s9 = .int .i64 (firstI mv T j) ∧ Below w6.heap.size w6 wy)
            case atStart => exact ⟨0, by omega, rfl, rfl, Below.refl _ _⟩
            case round =>
              clear u0 u1 u2 u3 u4 u5 u6
              obtain ⟨j, hj, rfl, rfl, HQ⟩ := hrel
              by_cases cj : j = T.length
              · have hfa := firstI_all mv T
                rw [cj]
                have s7 := s5.keep HQ
                have P7 := P1.keep HQ
                obtain ⟨d0, d1⟩ := s7.pl.2 i hin
                have d2 := s7.pl.1
                dsimp only at d0
                cases hfi : T.findIdx? (eqO mv) with
                | some q =>
                  rw [hfi] at hfa
                  dsimp only at hfa
                  rw [hfa]
                  have hst : Hid (trimS X nd (i + 1) = (T, updI pl i (q : Int))) := HOld q hfi
                  have hq0 : ¬ (q : Int) < 0 := Int.not_lt.mpr (Int.natCast_nonneg q)
                  clear hfa hfi HNew HOld
                  go_wp2_with fail
                  go_roundg (n - i - 1)
                  case measure => omega
                  case rel => exact ⟨i + 1, _, by omega, by go_num, by rw [show trimS X nd (i + 1) = _ from hst]; exact s7.setP OO hin _⟩
                | none =>
                  rw [hfi] at hfa
                  dsimp only at hfa
                  rw [hfa]
                  have hst : Hid (trimS X nd (i + 1) = (T ++ [mv], updI pl i (T.length : Int))) := HNew hfi
                  clear hfa hfi HNew HOld
                  obtain ⟨p0, p1, p2, p3, p4, p5, -, -, -, -, -, -, p6⟩ := id P7
                  obtain ⟨u0, u1, u2, u3, u4, u5, u6⟩ := id s7.tr
                  have oo := OO
                  obtain ⟨o0, o1, o2, o3, o5⟩ := oo
                  have pne : bT ≠ bP := by omega
                  have pne2 : bP ≠ bT := by omega
                  have hownO := s7.ow
                  have hSS := s7.sz
                  go_wp2_with (at_builtin; refine wpList_pushO (by rfl) _ _ (by rfl) _ T mv (by rfl) (by rfl) hownO (by omega) hSS (Below.refl S0 wr) ?_; intro v' w' hown' hB' hS' hB2 hS2
                               obtain ⟨q3, q4, hv'⟩ := own_form hown'
                               rw [List.length_append, show [mv].length = 1 from rfl] at hv'
                               subst hv'
                               clear u0 u1 u2 u3 u4 u5 u6 d0 d1 d2
                               obtain ⟨u0, u1, u2, u3, u4, u5, u6⟩ := s7.tr.keepB hB2 (by omega) hS2
                               obtain ⟨d0, d1⟩ := (s7.pl.keepB hB2 (by omega) hS2).2 i hin
                               have d2 := (s7.pl.keepB hB2 (by omega) hS2).1)
                  go_roundg (n - i - 1)
                  case measure => omega
                  case rel => exact ⟨i + 1, _, by omega, by go_num, by rw [show trimS X nd (i + 1) = _ from hst]; exact (s7.grow OO hown' hB2).setP OO hin _⟩
              · have hltj : (j : Int) < (T.length : Int) := by omega
                have hjT : j < T.length := by omega
                have hstp := firstI_step mv T j hjT
                obtain ⟨b7, o7, hA7, hb7, y0, y1, y2, y3, y4, y5, -, -⟩ := (VO.keep HQ) j hjT
                dsimp only at y0 y1 y2 y3 y4 y5
                have hfy : (T.getD j zeroO).fit := HFt _ (by simp [List.getD, List.getElem?_eq_getElem hjT])
                have cs := fun w => same_w2 mv (T.getD j zeroO) hmv hfy w
                unfold Opw.val at cs
                obtain ⟨p0, p1, p2, p3, p4, p5, -, -, -, -, -, -, p6⟩ := P1.keep HQ
                subst hA7
                obtain ⟨y, hy⟩ : ∃ y, y = T.getD j zeroO := ⟨_, rfl⟩
                rw [← hy] at y0 y1 y2 y3 y4 y5 hfy cs hstp
                clear hy
                rcases firstI_cases mv T j with hf | ⟨q, hf⟩
                · rw [hf, if_pos (by omega)] at hstp
                  rw [hf]
                  cases he : eqO mv y
                  · rw [he] at cs
                    rw [he, if_neg (by simp)] at hstp
                    have HS : Hid (firstI mv T (j + 1) = -1) := hstp
                    clear hstp hf he
                    go_wp2_with (go_at_call 20; with_reducible refine (cs _).mono ?_; rintro _ w7 ⟨rfl, hb7'⟩; have HQ3 := later (below_alloc HQ _) hb7')
                    go_roundg (T.length - j - 1)
                    case measure => omega
                    case rel => exact ⟨j + 1, by omega, by go_num, by rw [show firstI mv T (j + 1) = -1 from HS], HQ3⟩
                  · rw [he] at cs
                    rw [he, if_pos rfl] at hstp
                    have HS : Hid (firstI mv T (j + 1) = (j : Int)) := hstp
                    clear hstp hf he
                    go_wp2_with (go_at_call 20; with_reducible refine (cs _).mono ?_; rintro _ w7 ⟨rfl, hb7'⟩; have HQ3 := later (below_alloc HQ _) hb7')
                    go_roundg (T.length - j - 1)
                    case measure => omega
                    case rel => exact ⟨j + 1, by omega, by go_num, by rw [show firstI mv T (j + 1) = (j : Int) from HS], HQ3⟩
                · rw [hf, if_neg (by omega)] at hstp
                  rw [hf]
                  have HS : Hid (firstI mv T (j + 1) = (q : Int)) := hstp
                  have hq0 : ¬ (q : Int) < 0 := by omega
                  clear hstp hf cs
                  have HQ3 := below_alloc HQ (.cells #[.int .i64 y.k, .int .i64 y.a, .int .i64 y.b, .int .i64 y.n, .float .f64 y.lo, .float .f64 y.hi] 37)
                  go_wp2_with fail
                  go_roundg (T.length - j - 1)
                  case measure => omega
                  case rel => exact ⟨j + 1, by omega, by go_num, by rw [show firstI mv T (j + 1) = (q : Int) from HS], HQ3⟩
      · have hst : Hid (trimS X nd (i + 1) = trimS X nd i) := trimS_no hq
        rw [hq, show bI false = 0 from rfl] at c0
        clear hq
        go_wp2_with fail
        go_roundg (n - i - 1)
        case measure => omega
        case rel => exact ⟨i + 1, vO, by omega, by go_num, by rw [show trimS X nd (i + 1) = _ from hst]; exact s.keep (below_alloc (Below.refl _ _) _)⟩

end Go.Proofs.Ytfhccdpdjadepaa
