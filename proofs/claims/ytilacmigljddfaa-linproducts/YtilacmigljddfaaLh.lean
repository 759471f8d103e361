/- The program's product of two matrices. -/
import Derived.Test.YtilacmigljddfaaLg
namespace Go.Proofs.Ytilacmigljddfaa
open Go.ChangeShapes Go.WideShapes Go.ChangeAt Go.RowKit

theorem Grd.keep {w w2 : World} {g n m : Nat} {h : Nat → Nat} {F : Nat → Nat → Nat × Nat} (G : Grd w g n m h F) (hb : Below w.heap.size w w2) : Grd w2 g n m h F :=
  ⟨G.out.keep hb, fun r hr => (G.row r hr).keep hb, G.ne, G.inj⟩

theorem Grd.congr {w : World} {g n m : Nat} {h : Nat → Nat} {F E : Nat → Nat → Nat × Nat} (G : Grd w g n m h F) (e : ∀ r, r < n → ∀ c, c < m → F r c = E r c) : Grd w g n m h E :=
  ⟨G.out, fun r hr => (G.row r hr).congr (e r hr), G.ne, G.inj⟩

theorem Grd.set {w : World} {g n m : Nat} {h : Nat → Nat} {F : Nat → Nat → Nat × Nat} (G : Grd w g n m h F) (i j p q : Nat) (hi : i < n) (hj : j < m) :
    Grd ((w.setCell ⟨h i, j * 2, none⟩ (.float .f64 p)).setCell ⟨h i, j * 2 + 1, none⟩ (.float .f64 q)) g n m h (fun r c => if r = i ∧ c = j then (p, q) else F r c) := by
  refine ⟨(G.out.far (G.ne i hi) _).far (G.ne i hi) _, fun r hr => ?_, G.ne, G.inj⟩
  by_cases e : r = i
  · subst e
    exact ((G.row r hr).set j p q hj).congr fun c _ => by simp
  · refine (((G.row r hr).far (G.inj i hi r hr (fun c => e c.symm)) _).far (G.inj i hi r hr (fun c => e c.symm)) _).congr fun c _ => ?_
    simp [e]

/-- The product, place by place. -/
def prodI (X Y : Nat → Nat → Nat × Nat) (M i j : Nat) : Nat × Nat := dotP (X i) (fun s => Y s j) M

theorem rws_words {w : World} {A : Option Addr} {N : Nat} {RA : Nat → Option Addr} {RL RC : Nat → Nat} {X : Nat → Nat → Nat × Nat} (V : Rws w A N RA RL RC X) {r c : Nat} (hr : r < N) (hc : c < RL r) : (X r c).1 < 18446744073709551616 ∧ (X r c).2 < 18446744073709551616 := by
  obtain ⟨b, o, -, -, -, -, I⟩ := V r hr
  exact ivs_words I c hc

set_option maxHeartbeats 4000000 in
theorem prodM_w (A B : Option Addr) (N M L C D : Nat) (RA SA : Nat → Option Addr) (RL RC SL SC : Nat → Nat) (X Y : Nat → Nat → Nat × Nat) (hN : N ≤ 24) (hM : M ≤ 24) (hM0 : 0 < M) (hL : L ≤ 24) (hR : ∀ r, r < N → RL r = M) (hS : ∀ s, s < M → SL s = L) (w : World) (V : Rws w A N RA RL RC X) (U : Rws w B M SA SL SC Y) :
    Calls Try.prog 31 #[.slice A N C, .slice B M D] w fun e w' => ∃ g h, e = .returned (.slice (some ⟨g, 0, none⟩) N N) ∧ Grd w' g N L h (prodI X Y M) ∧ Below w.heap.size w w' := by
  have HR : Hid (∀ r, r < N → RL r = M) := hR
  have HS : Hid (∀ s, s < M → SL s = L) := hS
  have hS0 : (SL 0 : Int) = (L : Int) := by rw [hS 0 hM0]
  have h4 : (0 : Int) < (M : Int) := by omega
  obtain ⟨b, o, hB, hb, x0, -, -⟩ := U 0 hM0
  rw [Nat.add_zero, hS 0 hM0] at x0
  clear hR hS hS0
  have cg := fun w => grid_w N L hN hL w
  subst hB
  go_enter Try.func31, Try.ntmps31
  go_wp2_with (go_at_call 36; refine (cg _).mono ?_; rintro _ w1 ⟨g, h, rfl, G0, hg, hh, HB⟩; have x1 := keepsC HB x0 hb)
  clear x0 cg
  go_loopg [21] L (fun G s21 wx => Below w.heap.size w wx ∧ ∃ j : Nat, j + G = L ∧ s21 = .int .i64 (j : Int) ∧ Grd wx g N L h (fun r c => if c < j then prodI X Y M r c else (0, 0)))
  case atStart => exact ⟨HB, 0, by omega, rfl, G0.congr fun r _ c _ => by simp⟩
  case round =>
    clear HB G0 x1
    obtain ⟨HB, j, hj, rfl, G0⟩ := hrel
    by_cases cj : j = L
    · subst cj
      go_wp2_with fail
      go_ret
      exact ⟨g, h, rfl, G0.congr fun r _ c hc => by simp [hc], HB⟩
    · have hltj : (j : Int) < (L : Int) := by omega
      have cc := column_w (some ⟨b, o, none⟩) M D j SA SL SC Y hM (fun s hs => by have := HS s hs; omega) wr (U.keep HB)
      go_wp2_with (go_at_call 53; refine cc.mono ?_; rintro _ w2 ⟨vb, rfl, hV, hvb, hb1⟩)
      have HV : Hid (∀ r, r < N → h r < vb) := fun r hr => Nat.lt_of_lt_of_le (G0.row r hr).1 hvb
      have hgv : g < vb := Nat.lt_of_lt_of_le G0.out.1 hvb
      replace G0 := G0.keep hb1
      replace HB := later HB hb1
      clear hb1 hvb cc
      go_loopg [29] N (fun G s29 wy => Below w.heap.size w wy ∧ ∃ i : Nat, i + G = N ∧ s29 = .int .i64 (i : Int) ∧ Grd wy g N L h (fun r c => if c < j ∨ (c = j ∧ r < i) then prodI X Y M r c else (0, 0)) ∧ Img wy vb M (fun s => Y s j))
      case atStart => exact ⟨HB, 0, by omega, rfl, G0.congr fun r _ c _ => by simp, hV⟩
      case round =>
        clear HB G0 hV
        obtain ⟨HB, i, hi, rfl, G0, hV⟩ := hrel
        by_cases ci : i = N
        · subst ci
          go_wp2_with fail
          go_roundg (L - j - 1)
          case measure => omega
          case rel =>
            refine ⟨HB, j + 1, by omega, by go_num, G0.congr fun r hr c _ => ?_⟩
            by_cases q : c < j + 1
            · simp [q, show c < j ∨ c = j ∧ r < i by omega]
            · simp [q, show ¬ (c < j ∨ c = j ∧ r < i) by omega]
        · have hlti : (i : Int) < (N : Int) := by omega
          obtain ⟨b', o', hA, hb', y0, l0, I⟩ := (V.keep HB) i (by omega)
          have hw : ∀ s, s < M → (Y s j).1 < 18446744073709551616 ∧ (Y s j).2 < 18446744073709551616 := fun s hs => rws_words U hs (by have := HS s hs; omega)
          have cd : ∀ n : Behind wr, Calls Try.prog 24 #[.slice (RA i) (RL i) (RC i), .slice (some ⟨vb, 0, none⟩) M M] n.W fun e w' => e = .returned (.agg #[.float .f64 (prodI X Y M i j).1, .float .f64 (prodI X Y M i j).2]) ∧ Below n.W.heap.size n.W w' := fun n => by
            have q := dot_w (RA i) (some ⟨vb, 0, none⟩) (RL i) M (RC i) M (X i) (fun s => Y s j) l0 (by omega) (by have := HR i (by omega); omega) n.W (I.keep n.bel) ((hV.ivs hw).keep n.bel)
            have e1 : dotP (X i) (fun s => Y s j) (RL i) = prodI X Y M i j := by rw [HR i (by omega)]; rfl
            rw [e1] at q
            exact q
          obtain ⟨g0, -⟩ := G0.out.2 i (by omega)
          have gl := G0.out.1
          subst hA
          go_upto_region 9 with fail
          have kg0 := fun n : Behind wr => n.cell g0 gl
          refine tail_behind 9 (by kernel_rfl) (by kernel_rfl) ?_
          simp only [List.take_succ_cons, List.take_zero, List.drop_succ_cons, List.drop_zero]
          repeat (go_big_quiet_step (first
            | (go_at_call 24; with_reducible refine Behind.call (cd _))))
          refine wpQuiet_nil ?_
          rintro _ ⟨q, rfl⟩
          obtain ⟨W, hb1⟩ := q
          dsimp only
          clear kg0 g0 gl cd
          replace G0 := G0.keep hb1
          replace hV := hV.keep hb1
          replace HB := later HB hb1
          clear hb1
          obtain ⟨i0, i1, f0, f1⟩ := id ((G0.row i (by omega)).2 j (by omega))
          go_wp2_with fail
          go_roundg (N - i - 1)
          case measure => omega
          case rel =>
            have hne : h i ≠ vb := by have := HV i (by omega); omega
            have hhi := hh i (by omega)
            refine ⟨?_, i + 1, by omega, by go_num, (G0.set i j _ _ (by omega) (by omega)).congr fun r hr c hc => ?_, (hV.far hne _).far hne _⟩
            · repeat' (first | (with_reducible exact HB) | (with_reducible refine Below.setCell ?_ ?_ _) | go_size | omega)
            · by_cases e : r = i ∧ c = j
              · obtain ⟨rfl, rfl⟩ := e
                simp
              · rw [if_neg e]
                by_cases q : c < j ∨ c = j ∧ r < i
                · rw [if_pos q, if_pos (by omega)]
                · rw [if_neg q, if_neg (by omega)]

end Go.Proofs.Ytilacmigljddfaa
