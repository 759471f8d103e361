/- LinProducts of slices as they lie in memory. -/
import Derived.Test.YtilacmigljddfaaLk
namespace Go.Proofs.Ytilacmigljddfaa
open Go.ChangeShapes Go.WideShapes Go.ChangeAt Go.RowKit

theorem Ivs.congr {w : World} {A : Option Addr} {n : Nat} {X Y : Nat → Nat × Nat} (h : Ivs w A n X) (e : ∀ i, i < n → X i = Y i) : Ivs w A n Y := fun i hi => by
  rw [← e i hi]; exact h i hi

theorem image_words {w : World} {A B : Option Addr} {N k : Nat} {RA : Nat → Option Addr} {RL RC : Nat → Nat} {X : Nat → Nat → Nat × Nat} {Y : Nat → Nat × Nat} (V : Rws w A N RA RL RC X) (U : Ivs w B k Y) (hR : ∀ r, r < N → RL r = k) {r : Nat} (hr : r < N) : (dotP (X r) Y k).1 < 18446744073709551616 ∧ (dotP (X r) Y k).2 < 18446744073709551616 :=
  dotP_lt (fun _ hi => rws_words V hr (by rw [hR r hr]; exact hi)) (ivs_words U)

theorem prodI_words {w : World} {A B : Option Addr} {N M L : Nat} {RA SA : Nat → Option Addr} {RL RC SL SC : Nat → Nat} {X Y : Nat → Nat → Nat × Nat} (V : Rws w A N RA RL RC X) (U : Rws w B M SA SL SC Y) (hR : ∀ r, r < N → RL r = M) (hS : ∀ s, s < M → SL s = L) {r c : Nat} (hr : r < N) (hc : c < L) : (prodI X Y M r c).1 < 18446744073709551616 ∧ (prodI X Y M r c).2 < 18446744073709551616 :=
  dotP_lt (fun _ hi => rws_words V hr (by rw [hR r hr]; exact hi)) (fun s hs => rws_words U hs (by rw [hS s hs]; exact hc))

theorem Rowed.rws {B : Nat} {w : World} {X Y : Nat → Nat → Nat × Nat} {M L N : Nat} {v : Value} {vs : List Value} (h : Rowed B w X Y M L N vs) (k : OwnR B w v vs) (hL : L ≤ 9223372036854775807) (hw : ∀ r, r < N → ∀ c, c < L → (prodI X Y M r c).1 < 18446744073709551616 ∧ (prodI X Y M r c).2 < 18446744073709551616) :
    ∃ A C RA RC, v = .slice A N C ∧ Rws w A N RA (fun _ => L) RC (prodI X Y M) := by
  obtain ⟨f, hf⟩ := Classical.axiomOfChoice (fun r => (show ∃ p : Option Addr × Nat, r < N → vs[r]? = some (.slice p.1 L p.2) ∧ OwnI B w (.slice p.1 L p.2) (rowL X Y M r L) by
    by_cases hr : r < N
    · obtain ⟨A, C, a, b⟩ := h.2 r hr
      exact ⟨(A, C), fun _ => ⟨a, b⟩⟩
    · exact ⟨(none, 0), fun q => absurd q hr⟩))
  have k' : w.ownsRow B 23 1 v vs.length vs := k
  rcases k'.2 with ⟨rfl, hn⟩ | ⟨g, cap, cur, rfl, -⟩
  · have e : N = 0 := by rw [← h.1]; exact hn
    subst e
    exact ⟨none, 0, fun _ => none, fun _ => 0, rfl, fun r hr => absurd hr (by omega)⟩
  · rw [h.1] at k' ⊢
    have hl := (World.ownsRow.lt k' g rfl).2
    refine ⟨_, cap, fun r => (f r).1, fun r => (f r).2, rfl, fun r hr => ?_⟩
    obtain ⟨a, b⟩ := hf r hr
    obtain ⟨A', C', e, J⟩ := ownI_ivs b (fun p hp => by
      simp only [rowL, List.mem_map, List.mem_range] at hp
      obtain ⟨t, ht, rfl⟩ := hp
      exact hw r hr t ht)
    rw [rowL_len] at e J
    have e1 : (f r).1 = A' := by injection e
    refine ⟨g, 0, rfl, hl, ?_, hL, ?_⟩
    · rw [Nat.zero_add, World.ownsRow.cellAt k' r (by omega)]
      exact a
    · show Ivs w (f r).1 L (prodI X Y M r)
      rw [e1]
      exact J.congr fun i hi => rowL_at X Y M r L i hi

set_option maxHeartbeats 4000000 in
theorem linProds_of (A B E fA : Option Addr) (N C M D k F fL fC : Nat) (RA SA : Nat → Option Addr) (RL RC SL SC : Nat → Nat) (X Y : Nat → Nat → Nat × Nat) (V fX : Nat → Nat × Nat) (hN : N ≤ 9223372036854775807) (hM : M ≤ 9223372036854775807) (hk : k ≤ 9223372036854775807) (hfL : fL ≤ 9223372036854775807) (w : World)
    (UA : Rws w A N RA RL RC X) (UB : Rws w B M SA SL SC Y) (UE : Ivs w E k V) (UF : Ivs w fA fL fX)
    (cf : ∀ w2, Below w.heap.size w w2 → Calls Try.prog 6 #[.slice A N C] w2 fun e w' => e = .returned (.slice fA fL fC) ∧ w2 = w')
    (hf : 0 < N → fL = RL 0 ∧ ∃ b o, A = some ⟨b, o, none⟩ ∧ b < w.heap.size ∧ w.cell? ⟨b, o, none⟩ = some (.slice fA fL fC)) :
    Calls Try.prog 3 #[.slice A N C, .slice B M D, .slice E k F] w fun e w' => e = .returned (.bool true) ∧ Below w.heap.size w w' := by
  have ne : ∀ a b : Nat, ((a : Int) != (b : Int)) = !decide (a = b) := fun a b => by
    by_cases e : a = b
    · subst e; simp
    · have : ((a : Int) != (b : Int)) = true := by simp; omega
      rw [this, decide_eq_false e]; rfl
  have ok2 : (matB N RL X && vecB k V && decide (fL = k)) = true → 0 < N ∧ N ≤ 24 ∧ k ≤ 24 ∧ ∀ r, r < N → RL r = k := fun h => by
    obtain ⟨p1, p2, p3⟩ := all_parts h
    obtain ⟨a, b, c, -⟩ := matB_parts p1
    have v := vecB_parts p2
    have e : fL = k := of_decide_eq_true p3
    have e2 := (hf a).1
    exact ⟨a, b, v.2, fun r hr => by rw [c r hr]; omega⟩
  have ok3 : (matB N RL X && matB M SL Y && decide (fL = M)) = true → (0 < N ∧ N ≤ 24) ∧ (0 < M ∧ M ≤ 24) ∧ (∀ r, r < N → RL r = M) ∧ (∀ s, s < M → SL s = SL 0) ∧ SL 0 ≤ 24 := fun h => by
    obtain ⟨p1, p2, p3⟩ := all_parts h
    obtain ⟨a, b, c, -⟩ := matB_parts p1
    obtain ⟨a2, b2, c2, d2⟩ := matB_parts p2
    have e : fL = M := of_decide_eq_true p3
    have e2 := (hf a).1
    exact ⟨⟨a, b⟩, ⟨a2, b2⟩, fun r hr => by rw [c r hr]; omega, c2, d2⟩
  have cv := fun w2 (hb : Below w.heap.size w w2) => vecMay_w E k F V hk w2 (UE.keep hb)
  have cF := fun w2 (hb : Below w.heap.size w w2) => vecMay_w fA fL fC fX hfL w2 (UF.keep hb)
  have cma := fun w2 (hb : Below w.heap.size w w2) => matMay_w A N C RA RL RC X hN w2 (UA.keep hb)
  have cmb := fun w2 (hb : Below w.heap.size w w2) => matMay_w B M D SA SL SC Y hM w2 (UB.keep hb)
  refine linProds_core A B E fA N C M D k F fL fC (if vecB k V && vecB fL fX && decide (k = fL) then (dotP V fX k).1 else 0) (if vecB k V && vecB fL fX && decide (k = fL) then (dotP V fX k).2 else 0) (SL 0) (if vecB k V && vecB fL fX && decide (k = fL) then 0 else 1) (vecB k V) (vecB fL fX) (decide (k = fL)) (decide (fL = k)) (decide (fL = M)) (matB N RL X) (matB M SL Y) (fun r => dotP (X r) V k) (prodI X Y M) hN w
    cf (fun w2 hb => ?_) rfl (fun w2 hb => rvec_w E k F V hk w2 (UE.keep hb)) (fun w2 hb => rvec_w fA fL fC fX hfL w2 (UF.keep hb)) (ne k fL) (fun h w2 hb => ?_) (fun h w2 => ?_) (fun w2 hb => rmat_w A N C RA RL RC X hN w2 (UA.keep hb)) (fun h => ?_) (ne fL k) (ne fL M) (fun w2 hb => ?_) (fun h w2 hb => ?_) (fun w2 hb => rmat_w B M D SA SL SC Y hM w2 (UB.keep hb)) (fun w2 hb => ?_) (fun h w2 hb => ?_)
  · exact Dot_core E fA k fL F fC _ _ (vecB k V) (vecB fL fX) (decide (k = fL)) w2 (fun w3 hb3 => cv w3 (later hb hb3)) (fun w3 hb3 => cF w3 (later hb hb3)) (ne k fL) (fun h w3 hb3 => by
      have e : k = fL := of_decide_eq_true (all_parts h).2.2
      exact dot_w E fA k fL F fC V fX hk hfL (by omega) w3 (UE.keep (later hb hb3)) (UF.keep (later hb hb3))) _ _ _ rfl rfl rfl
  · have e : k = fL := of_decide_eq_true (all_parts h).2.2
    rw [if_pos h, if_pos h]
    exact rdot_w E fA k fL F fC V fX hk hfL (by omega) w2 (UE.keep hb) (UF.keep hb)
  · have e : k = fL := of_decide_eq_true (all_parts h).2.2
    have q := dotP_lt (n := k) (ivs_words UE) (fun i hi => ivs_words UF i (by omega))
    rw [if_pos h, if_pos h]
    exact rsame_self _ _ q.1 q.2 w2
  · obtain ⟨a, -⟩ := matB_parts h
    exact ⟨a, (hf a).2⟩
  · cases h : matB N RL X && vecB k V && decide (fL = k)
    · have q := apply_bad A E N C k F RA RL RC X (matB N RL X) (vecB k V) (decide (RL 0 = k)) w2 (UA.keep hb) (fun h => (matB_parts h).1) (ne (RL 0) k) (by
        cases h1 : matB N RL X
        · rfl
        · have e := (hf (matB_parts h1).1).1
          rw [h1, e] at h
          exact h) (fun w3 hb3 => cma w3 (later hb hb3)) (fun w3 hb3 => cv w3 (later hb hb3))
      exact q.mono fun e w' ⟨he, hw⟩ => ⟨none, 0, 0, 1, he, fun c => by simp at c, fun _ => ⟨rfl, rfl⟩, hw⟩
    · obtain ⟨n0, n24, k24, hR⟩ := ok2 h
      obtain ⟨p1, p2, -⟩ := all_parts h
      have q := apply_good A E N C k F RA RL RC X V n24 n0 k24 hR w2 (UA.keep hb) (UE.keep hb) (fun w3 hb3 => by rw [← p1]; exact cma w3 (later hb hb3)) (fun w3 hb3 => by rw [← p2]; exact cv w3 (later hb hb3))
      exact q.mono fun e w' ⟨g, he, hI, hw⟩ => ⟨_, _, _, 0, he, fun _ => ⟨rfl, rfl, hI.ivs fun i hi => image_words UA UE hR hi⟩, fun c => by simp at c, hw⟩
  · obtain ⟨n0, n24, k24, hR⟩ := ok2 h
    have q := rapply_w A E N C k F RA RL RC X V n24 k24 hR w2 (UA.keep hb) (UE.keep hb)
    refine q.mono fun e w' ⟨v, he, hI, hw⟩ => ?_
    obtain ⟨A', C', e1, J⟩ := ownI_ivs hI (fun p hp => by
      simp only [imageP, List.mem_map, List.mem_range] at hp
      obtain ⟨t, ht, rfl⟩ := hp
      exact image_words UA UE hR ht)
    rw [imageP_len] at e1 J
    exact ⟨A', C', by rw [he, e1], J.congr fun i hi => by simp [imageP, List.getD, hi], hw⟩
  · cases h : matB N RL X && matB M SL Y && decide (fL = M)
    · have q := Mul_bad A B N C M D RA RL RC X (matB N RL X) (matB M SL Y) (decide (RL 0 = M)) w2 (UA.keep hb) (fun h => (matB_parts h).1) (ne (RL 0) M) (by
        cases h1 : matB N RL X
        · rfl
        · have e := (hf (matB_parts h1).1).1
          rw [h1, e] at h
          exact h) (fun w3 hb3 => cma w3 (later hb hb3)) (fun w3 hb3 => cmb w3 (later hb hb3))
      exact q.mono fun e w' ⟨he, hw⟩ => ⟨none, 0, 0, 1, he, fun c => by simp at c, fun _ => ⟨rfl, rfl⟩, hw⟩
    · obtain ⟨⟨n0, n24⟩, ⟨m0, m24⟩, hR, hS, l24⟩ := ok3 h
      obtain ⟨p1, p2, -⟩ := all_parts h
      have q := Mul_good A B N M (SL 0) C D RA SA RL RC SL SC X Y n24 n0 m24 m0 l24 hR hS w2 (UA.keep hb) (UB.keep hb) (fun w3 hb3 => by rw [← p1]; exact cma w3 (later hb hb3)) (fun w3 hb3 => by rw [← p2]; exact cmb w3 (later hb hb3))
      exact q.mono fun e w' ⟨g, h, he, G, hw⟩ => ⟨_, _, _, 0, he, fun _ => ⟨rfl, rfl, _, _, G.rws (by omega) fun r hr c hc => prodI_words UA UB hR hS hr hc⟩, fun c => by simp at c, hw⟩
  · obtain ⟨⟨n0, n24⟩, ⟨m0, m24⟩, hR, hS, l24⟩ := ok3 h
    have q := rMulM_w A B N M (SL 0) C D RA SA RL RC SL SC X Y n24 m24 m0 l24 hR hS w2 (UA.keep hb) (UB.keep hb)
    refine q.mono fun e w' ⟨v, vs, he, hO, hRo, hw⟩ => ?_
    obtain ⟨A', C', RA', RC', e1, J⟩ := hRo.rws hO (by omega) fun r hr c hc => prodI_words UA UB hR hS hr hc
    exact ⟨A', C', RA', RC', by rw [he, e1], J, hw⟩

end Go.Proofs.Ytilacmigljddfaa
