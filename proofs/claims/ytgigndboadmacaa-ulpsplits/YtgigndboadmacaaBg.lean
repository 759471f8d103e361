/- The walk of the reference's By. -/
import Derived.Test.YtgigndboadmacaaBf
namespace Go.Proofs.Ytgigndboadmacaa
open Go.ChangeShapes Go.WideShapes Go.ChangeAt Go.RowKit

theorem by_step {os es : List Nat} {R i j c D : Nat} (hij : i + j < os.length) (h : natOf os + 4294967296 ^ (i + j) * c = R + 4294967296 ^ i * D * natOf (es.take j)) {o q : Nat} (ho : o + 4294967296 * q = D * es.getD j 0 + os.getD (i + j) 0 + c) :
    natOf (os.set (i + j) o) + 4294967296 ^ (i + (j + 1)) * q = R + 4294967296 ^ i * D * natOf (es.take (j + 1)) := by
  have hs := natOf_set os (i + j) o hij
  rw [natOf_take_step es, Nat.mul_add]
  have e2 : 4294967296 ^ i * D * (4294967296 ^ j * es.getD j 0) = 4294967296 ^ (i + j) * (D * es.getD j 0) := by
    rw [Nat.pow_add]
    simp only [Nat.mul_assoc]
    rw [Nat.mul_left_comm D]
  rw [e2, show i + (j + 1) = i + j + 1 by omega, Nat.pow_succ, Nat.mul_assoc]
  have := congrArg (4294967296 ^ (i + j) * ·) ho
  simp only [Nat.mul_add] at this
  omega
theorem by_end {os ds es : List Nat} {i c : Nat} (hij : i + es.length < os.length) (hz : os.getD (i + es.length) 0 = 0)
    (h : natOf os + 4294967296 ^ (i + es.length) * c = natOf (ds.take i) * natOf es + 4294967296 ^ i * ds.getD i 0 * natOf (es.take es.length)) :
    natOf (os.set (i + es.length) c) = natOf (ds.take (i + 1)) * natOf es := by
  have hs := natOf_set os (i + es.length) c hij
  rw [hz] at hs
  rw [natOf_take_ge es (Nat.le_refl _)] at h
  rw [natOf_take_step ds, Nat.add_mul]
  omega
theorem by_carry {D E X c o q : Nat} (hD : D < 4294967296) (hE : E < 4294967296) (hX : X < 4294967296) (hc : c < 4294967296) (ho : o + 4294967296 * q = D * E + X + c) : q < 4294967296 := by
  have := Nat.mul_le_mul (show D ≤ 4294967295 by omega) (show E ≤ 4294967295 by omega)
  omega
theorem by_prod {D E : Nat} (hD : D < 4294967296) (hE : E < 4294967296) : D * E ≤ 18446744065119617025 := by
  have := Nat.mul_le_mul (show D ≤ 4294967295 by omega) (show E ≤ 4294967295 by omega)
  omega
theorem getD_set_ne (ds : List Nat) {k t v : Nat} (h : k ≠ t) : (ds.set k v).getD t 0 = ds.getD t 0 := by
  rw [List.getD_eq_getElem?_getD, List.getD_eq_getElem?_getD, List.getElem?_set_ne h]
theorem getD_zeros (n k : Nat) : (List.replicate n 0).getD k 0 = 0 := by
  rw [List.getD_eq_getElem?_getD]
  rcases Nat.lt_or_ge k n with c | c
  · rw [List.getElem?_replicate, if_pos c]; rfl
  · rw [List.getElem?_eq_none (by simpa using c)]; rfl


/-- The product's row: the call's first block, L digits. -/
structure ByS (w : World) (L : Nat) (os : List Nat) (wx : World) : Prop where
  bel : Below w.heap.size w wx
  len : os.length = L
  lt : w.heap.size < wx.heap.size
  own : wx.ownsRow w.heap.size 65 1 (.slice (some ⟨w.heap.size, 0, none⟩) L L) L (u32s os)

theorem ByS.cell {w : World} {L : Nat} {os : List Nat} {wx : World} (h : ByS w L os wx) {k : Nat} (hk : k < L) : wx.cell? ⟨w.heap.size, k, none⟩ = some (.int .u32 (os.getD k 0 : Int)) := by
  have hk2 : k < os.length := by rw [h.len]; exact hk
  rw [World.ownsRow.cellAt h.own k (by omega)]
  unfold u32s
  rw [List.getElem?_map, List.getElem?_eq_getElem hk2, List.getD_eq_getElem?_getD, List.getElem?_eq_getElem hk2]; rfl

theorem ByS.frozen {w : World} {L : Nat} {os : List Nat} {wx : World} (h : ByS w L os wx) (k : Nat) : wx.frozen? ⟨w.heap.size, k, none⟩ = false := World.ownsRow.frozenAt h.own k

theorem ByS.set {w : World} {L : Nat} {os : List Nat} {wx : World} (h : ByS w L os wx) (k v : Nat) : ByS w L (os.set k v) (wx.setCell ⟨w.heap.size, k, none⟩ (.int .u32 (v : Int))) := by
  refine ⟨h.bel.setCell (Nat.le_refl _) _, by rw [List.length_set, h.len], by have := h.lt; simp [World.setCell]; exact this, ?_⟩
  have := (World.ownsRow.stored h.own k (.int .u32 (v : Int))).1
  unfold u32s at *
  rw [List.map_set]
  exact this

theorem ByS.drewN {w : World} {L : Nat} {os : List Nat} {wx : World} (h : ByS w L os wx) (n : Nat) : ByS w L os (wx.drewN n) := by
  have hb : Below wx.heap.size wx (wx.drewN n) := below_drewN (Below.refl _ _) n
  refine ⟨below_drewN h.bel n, h.len, Nat.lt_of_lt_of_le h.lt hb.size, ?_⟩
  refine World.ownsRow.kept h.own (row := none) ⟨hb.os, hb.tape, hb.output, hb.size, fun k hk _ => hb.block k hk⟩ (Or.inr (by simp [Value.ownBlock]))

theorem ByS.row {w : World} {L : Nat} {os : List Nat} {wx : World} (h : ByS w L os wx) : Row wx (.slice (some ⟨w.heap.size, 0, none⟩) L L) os := by
  have : Own w.heap.size wx (.slice (some ⟨w.heap.size, 0, none⟩) L L) os := by unfold Own; rw [h.len]; exact h.own
  exact this.row

set_option maxHeartbeats 1000000 in
theorem by_w (va vb : Value) (m n K : Nat) (hK : K ≤ 1000000) (hm : m < 2 ^ K) (hn : n < 2 ^ K) (w : World) (ha : BigIs w va m) (hb : BigIs w vb n) :
    Calls Try.prog 60 #[va, vb] w fun e w' => (∃ v', e = .returned v' ∧ BigIs w' v' (m * n)) ∧ Below w.heap.size w w' := by
  obtain ⟨ds, d1, d2, rfl, hra⟩ := ha
  obtain ⟨es, e1, e2, rfl, hrb⟩ := hb
  have l1 := d2.len hm
  have l2 := e2.len hn
  clear hm hn d2 e2
  obtain ⟨ao, ca, rfl, hca⟩ := hra.open_
  obtain ⟨bo, cb, rfl, hcb⟩ := hrb.open_
  clear hra hrb
  obtain ⟨L, hL⟩ : ∃ L, L = ds.length + es.length + 1 := ⟨_, rfl⟩
  have hLz : (ds.length : Int) + (es.length : Int) + 1 = (L : Int) := by omega
  have HL : Hid (L = ds.length + es.length + 1) := hL
  clear hL
  go_enter Try.func60, Try.ntmps60
  go_wp2_with (at_make; refine wpList_zeros (by rfl) _ _ (by rfl) L (by rfl) (by rfl) (by omega) ?_; intro w1 hown hB hS)
  clear hLz
  go_loopg [6, 7, 8, 9] ds.length (fun G s6 _ _ _ wx => ∃ (i : Nat) (os : List Nat), s6 = .int .i64 (i : Int) ∧ i + G = ds.length ∧ ByS w L os wx ∧ Digs os ∧ Hid (∀ t, i + es.length ≤ t → os.getD t 0 = 0) ∧ Hid (natOf os = natOf (ds.take i) * natOf es))
  case atStart => exact ⟨0, List.replicate L 0, rfl, by omega, ⟨hB, by simp, hS, by have := hown; unfold Own at this; simpa using this⟩, digs_zeros L, fun t _ => getD_zeros L t, by show _ = _; simp [natOf, natOf_zeros]⟩
  case round =>
    clear hown hB hS
    obtain ⟨i, os, rfl, hiG, hst, hod, hz, hval⟩ := hrel
    by_cases ka : i < ds.length
    · obtain ⟨g, rfl, hg, hca⟩ := hca (by omega)
      have hcD := hca i ka
      have hdl := d1.getD i
      clear hca
      go_wp2_with fail
      go_loopg [7, 8, 9] es.length (fun G s7 s8 _ wx => ∃ (j c : Nat) (ps : List Nat), s7 = .int .u64 (c : Int) ∧ s8 = .int .i64 (j : Int) ∧ j + G = es.length ∧ c < 4294967296 ∧ ByS w L ps wx ∧ Digs ps ∧ Hid (∀ t, i + es.length ≤ t → ps.getD t 0 = 0) ∧
        Hid (natOf ps + 4294967296 ^ (i + j) * c = natOf (ds.take i) * natOf es + 4294967296 ^ i * ds.getD i 0 * natOf (es.take j)))
      case atStart => exact ⟨0, 0, os, rfl, rfl, by omega, by omega, hst, hod, hz, by show _ = _; have := hval.out; simp [natOf]; exact this⟩
      case round =>
        clear hst hod hz hval
        obtain ⟨j, c, ps, rfl, rfl, hjG, hcl, hst, hod, hz, hval⟩ := hrel
        have hl := HL.out
        by_cases kb : j < es.length
        · obtain ⟨f, rfl, hf, hcb⟩ := hcb (by omega)
          have hcE := hcb j kb
          have hel := e1.getD j
          have hX := hod.getD (i + j)
          have c1 := (hst.bel.cell (by exact hg)).trans hcD
          have c2 := (hst.bel.cell (by exact hf)).trans hcE
          have c3 := hst.cell (k := i + j) (by omega)
          have hstep := fun o q => by_step (o := o) (q := q) (by rw [hst.len]; omega) hval.out
          clear hcb hcD hcE
          generalize ds.getD i 0 = D at *
          generalize es.getD j 0 = E at *
          generalize hXe : ps.getD (i + j) 0 = X at *
          clear hXe
          have hP := by_prod hdl hel
          obtain ⟨o, q, ho, hq, hoq⟩ := parts32 (D * E + X + c)
          have hqb := by_carry hdl hel hX hcl hoq.1
          have HST : Hid _ := hstep o q hoq.1
          have HO : Hid _ := hoq
          have hmul : IntKind.u64.wrap ((D : Int) * (E : Int)) = ((D * E : Nat) : Int) := by
            rw [IntKind.wrap_u64, show (D : Int) * (E : Int) = ((D * E : Nat) : Int) by simp]; omega
          generalize hPe : D * E = P at *
          clear hPe hstep hoq hval
          have ho' : IntKind.u32.wrap ((P : Int) + X + c) = (o : Int) := by have := ho; simp only [Int.natCast_add] at this; exact this
          have hq' : ((P : Int) + X + c) / 4294967296 = (q : Int) := by have := hq; simp only [Int.natCast_add] at this; exact this
          have hsz : (i : Int) + j < L := by omega
          have hPz : (P : Int) + X + c < 18446744073709551616 := by omega
          clear ho hq
          go_wp2_with fail
          go_quiet (fail)
          replace hst := hst.drewN nq
          have f3 := hst.frozen (i + j)
          have c3' := hst.cell (k := i + j) (by omega)
          have hst' := hst.set (i + j) o
          clear c1 c2 c3
          generalize wr.drewN nq = wq at *
          go_wp2
          have hoq := HO.out
          go_roundg (gk - 1)
          case measure => omega
          case rel => exact ⟨j + 1, q, _, rfl, by go_num, by omega, by omega, hst', hod.set _ (by omega), fun t ht => by rw [getD_set_ne ps (by omega)]; exact hz.out t ht, HST⟩
        · have hjl : j = es.length := by omega
          subst hjl
          have hend := by_end (by rw [hst.len]; omega) (hz.out _ (Nat.le_refl _)) hval.out
          have HE : Hid _ := hend
          have f3 := hst.frozen (i + es.length)
          have c3 := hst.cell (k := i + es.length) (by omega)
          have hst' := hst.set (i + es.length) c
          have hwr : IntKind.u32.wrap (c : Int) = (c : Int) := by simp only [IntKind.wrap, IntKind.bits, IntKind.signed]; simp; omega
          have hwr2 : (c : Int) % 4294967296 = (c : Int) := by omega
          have hsz : (i : Int) + es.length < L := by omega
          clear hval hend hl hcD
          generalize ps.getD (i + es.length) 0 = X at *
          go_wp2
          go_roundg (ds.length - (i + 1))
          case measure => omega
          case rel => exact ⟨i + 1, _, by go_num, by omega, hst', hod.set _ (by omega), fun t ht => by rw [getD_set_ne ps (by omega)]; exact hz.out t (by omega), HE⟩
    · have hl := HL.out
      have hlen : os.length ≤ 1000000 := by rw [hst.len]; omega
      have hv0 := hval.out
      rw [natOf_take_ge ds (by omega)] at hv0
      have HV : Hid _ := hv0
      clear hv0 hval hl
      go_wp2_with (go_at_call 51; refine (trim_w _ os hod hlen _ hst.row).mono ?_; rintro _ _ ⟨⟨v2, rfl, hv⟩, rfl⟩)
      rw [HV.out] at hv
      go_ret
      exact ⟨⟨_, rfl, hv⟩, hst.bel⟩

end Go.Proofs.Ytgigndboadmacaa
