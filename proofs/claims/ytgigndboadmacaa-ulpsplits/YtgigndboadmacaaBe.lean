/- The walk of the reference's Less. -/
import Derived.Test.YtgigndboadmacaaBd
namespace Go.Proofs.Ytgigndboadmacaa
open Go.ChangeShapes Go.WideShapes Go.ChangeAt Go.RowKit

set_option maxHeartbeats 2000000 in
theorem less_w (va vb : Value) (m n K : Nat) (hK : K ≤ 1000000) (hm : m < 2 ^ K) (hnm : n ≤ m) (w : World) (ha : BigIs w va m) (hb : BigIs w vb n) :
    Calls Try.prog 56 #[va, vb] w fun e w' => (∃ v', e = .returned v' ∧ BigIs w' v' (m - n)) ∧ Below w.heap.size w w' := by
  obtain ⟨ds, d1, d2, rfl, hra⟩ := ha
  obtain ⟨es, e1, e2, rfl, hrb⟩ := hb
  have l1 := d2.len hm
  have l2 := e2.len (Nat.lt_of_le_of_lt hnm hm)
  clear hm d2 e2
  obtain ⟨ao, ca, rfl, hca⟩ := hra.open_
  obtain ⟨bo, cb, rfl, hcb⟩ := hrb.open_
  clear hra hrb
  have HNM : Hid (natOf es ≤ natOf ds) := hnm
  clear hnm
  go_enter Try.func56, Try.ntmps56
  go_wp2
  go_loopg [5, 6, 7, 8] ds.length (fun G s5 s6 s7 _ wx => Below w.heap.size w wx ∧ w.heap.size ≤ wx.heap.size ∧ ∃ (k c : Nat) (os : List Nat), s6 = .int .i64 (c : Int) ∧ s7 = .int .i64 (k : Int) ∧ c ≤ 1 ∧ k + G = ds.length ∧ Hid (os.length = k) ∧ Digs os ∧ Own w.heap.size wx s5 os ∧
    Hid (natOf os + natOf (es.take k) = natOf (ds.take k) + 4294967296 ^ k * c))
  case atStart => exact ⟨by go_grown, by go_size, 0, 0, [], rfl, rfl, by omega, by omega, rfl, Digs.nil, own_empty w, by show _ = _; simp [natOf]⟩
  case round =>
    obtain ⟨hB, hS, k, c, os, rfl, rfl, hc1, hkG, hol, hod, hown, hval⟩ := hrel
    have hdl := d1.getD k
    have hel := e1.getD k
    have hst := fun o q => less_step (o := o) (q := q) hol.out hval.out
    by_cases ka : k < ds.length
    · obtain ⟨g, rfl, hg, hca⟩ := hca (by omega)
      have c1 := (hB.cell (by exact hg)).trans (hca k ka)
      by_cases kb : k < es.length
      · obtain ⟨f, rfl, hf, hcb⟩ := hcb (by omega)
        have c2 := (hB.cell (by exact hf)).trans (hcb k kb)
        clear hca hcb
        generalize ds.getD k 0 = D at *
        generalize es.getD k 0 = E at *
        by_cases hsg : (D : Int) - c - E < 0
        · have hsg : (D : Int) - c - E < 0 := by omega
          obtain ⟨o, ho, hoq⟩ : ∃ o : Nat, (o : Int) = (D : Int) - c - E + 4294967296 ∧ o < 4294967296 := ⟨((D : Int) - c - E + 4294967296).toNat, by omega, by omega⟩
          have ho' : IntKind.u32.wrap ((D : Int) - c - E + 4294967296) = (o : Int) := by rw [← ho]; simp only [IntKind.wrap, IntKind.bits, IntKind.signed]; simp; omega
          have HST : Hid _ := hst o 1 (by omega)
          have holb : os.length ≤ 2000000 := by have := hol.out; omega
          have hcz : (c : Int) ≤ 1 := by omega
          clear hst hval ho
          go_wp2_with (at_builtin; refine wpList_push (by rfl) _ _ (by rfl) _ os o (by rfl) (by rfl) hown holb hS hB ?_; intro v' w' hown' hB' hS')
          go_roundg (gk - 1)
          case measure => omega
          case rel => exact ⟨hB', hS', k + 1, 1, os ++ [o], rfl, by go_num, by omega, by omega, by show _ = _; rw [List.length_append, hol.out]; rfl, hod.append (Digs.one hoq), hown', HST⟩
        · have hsg : ¬ (D : Int) - c - E < 0 := hsg
          obtain ⟨o, ho, hoq⟩ : ∃ o : Nat, (o : Int) = (D : Int) - c - E ∧ o < 4294967296 := ⟨((D : Int) - c - E).toNat, by omega, by omega⟩
          have ho' : IntKind.u32.wrap ((D : Int) - c - E) = (o : Int) := by rw [← ho]; simp only [IntKind.wrap, IntKind.bits, IntKind.signed]; simp; omega
          have HST : Hid _ := hst o 0 (by omega)
          have holb : os.length ≤ 2000000 := by have := hol.out; omega
          have hcz : (c : Int) ≤ 1 := by omega
          clear hst hval ho
          go_wp2_with (at_builtin; refine wpList_push (by rfl) _ _ (by rfl) _ os o (by rfl) (by rfl) hown holb hS hB ?_; intro v' w' hown' hB' hS')
          go_roundg (gk - 1)
          case measure => omega
          case rel => exact ⟨hB', hS', k + 1, 0, os ++ [o], rfl, by go_num, by omega, by omega, by show _ = _; rw [List.length_append, hol.out]; rfl, hod.append (Digs.one hoq), hown', HST⟩
      · have hE := getD_ge es (k := k) (by omega)
        clear hca hcb
        generalize ds.getD k 0 = D at *
        generalize es.getD k 0 = E at *
        subst hE
        by_cases hsg : (D : Int) - c < 0
        · have hsg : (D : Int) - c < 0 := by omega
          obtain ⟨o, ho, hoq⟩ : ∃ o : Nat, (o : Int) = (D : Int) - c + 4294967296 ∧ o < 4294967296 := ⟨((D : Int) - c + 4294967296).toNat, by omega, by omega⟩
          have ho' : IntKind.u32.wrap ((D : Int) - c + 4294967296) = (o : Int) := by rw [← ho]; simp only [IntKind.wrap, IntKind.bits, IntKind.signed]; simp; omega
          have HST : Hid _ := hst o 1 (by omega)
          have holb : os.length ≤ 2000000 := by have := hol.out; omega
          have hcz : (c : Int) ≤ 1 := by omega
          clear hst hval ho
          go_wp2_with (at_builtin; refine wpList_push (by rfl) _ _ (by rfl) _ os o (by rfl) (by rfl) hown holb hS hB ?_; intro v' w' hown' hB' hS')
          go_roundg (gk - 1)
          case measure => omega
          case rel => exact ⟨hB', hS', k + 1, 1, os ++ [o], rfl, by go_num, by omega, by omega, by show _ = _; rw [List.length_append, hol.out]; rfl, hod.append (Digs.one hoq), hown', HST⟩
        · have hsg : ¬ (D : Int) - c < 0 := hsg
          obtain ⟨o, ho, hoq⟩ : ∃ o : Nat, (o : Int) = (D : Int) - c ∧ o < 4294967296 := ⟨((D : Int) - c).toNat, by omega, by omega⟩
          have ho' : IntKind.u32.wrap ((D : Int) - c) = (o : Int) := by rw [← ho]; simp only [IntKind.wrap, IntKind.bits, IntKind.signed]; simp; omega
          have HST : Hid _ := hst o 0 (by omega)
          have holb : os.length ≤ 2000000 := by have := hol.out; omega
          have hcz : (c : Int) ≤ 1 := by omega
          clear hst hval ho
          go_wp2_with (at_builtin; refine wpList_push (by rfl) _ _ (by rfl) _ os o (by rfl) (by rfl) hown holb hS hB ?_; intro v' w' hown' hB' hS')
          go_roundg (gk - 1)
          case measure => omega
          case rel => exact ⟨hB', hS', k + 1, 0, os ++ [o], rfl, by go_num, by omega, by omega, by show _ = _; rw [List.length_append, hol.out]; rfl, hod.append (Digs.one hoq), hown', HST⟩
    · have hend := less_end hod hol.out hval.out (by omega) HNM.out d1 e1
      have hlen : os.length ≤ 1000000 := by have := hol.out; omega
      have HE : Hid _ := hend
      clear hst hval hend hdl hel
      go_wp2_with (go_at_call 51; refine (trim_w _ os hod hlen _ hown.row).mono ?_; rintro _ _ ⟨⟨v2, rfl, hv⟩, rfl⟩)
      rw [HE.out] at hv
      go_ret
      exact ⟨⟨_, rfl, hv⟩, hB⟩

end Go.Proofs.Ytgigndboadmacaa
