/- The walk of the reference's Left. -/
import Derived.Test.YtgigndboadmacaaBe
namespace Go.Proofs.Ytgigndboadmacaa
open Go.ChangeShapes Go.WideShapes Go.ChangeAt Go.RowKit

theorem wpList_zeros {w : World} {ops : Array Oper} {rest : List Oper} {o : Oper} {a : Act} {Q : Exit → Act → World → Prop} (hgd : o.guard = none) (l c : Operand)
    (ho : o.op = .makeSlice 46 l c) (n : Nat) (hl : a.eval l = .int .i64 (n : Int)) (hc : a.eval c = .int .i64 (n : Int)) (hn : n ≤ 3000000)
    (h : ∀ w', Own w.heap.size w' (.slice (some ⟨w.heap.size, 0, none⟩) n n) (List.replicate n 0) → Below w.heap.size w w' → w.heap.size < w'.heap.size → wpList Try.prog ops Q rest (a.put o.dst (.slice (some ⟨w.heap.size, 0, none⟩) n n)) w') : wpList Try.prog ops Q (o :: rest) a w := by
  obtain ⟨i0, hi, hz0, hz1, hz2⟩ := info_parts Try.info32
  refine wpList_make_full w hgd l c 46 ho w.heap.size 65 i0 (.int .u32 0) 1 Try.underlying46 hi hz0 hz1 .i64 .i64 _ _ n hl hc rfl rfl (by rw [hz2]; omega) (by unfold maxLen; omega) (Nat.le_refl _) ?_
  intro w' h1 h2
  refine h w' ?_ ⟨h2.os, h2.tape, h2.output, h2.size, fun k hk => h2.block k hk (by simp)⟩ ?_
  · unfold Own
    rw [List.length_replicate]
    have e : u32s (List.replicate n 0) = (madeCells (Value.int .u32 0).cells (n * 1)).toList := by
      have e1 : (madeCells (Value.int .u32 0).cells (n * 1)).toList = List.replicate n (Value.int .u32 0) := by
        refine List.eq_replicate_iff.2 ⟨by simp [madeCells], fun b hb => ?_⟩
        simp [madeCells, Value.cells] at hb
        obtain ⟨x, -, hx⟩ := hb
        rw [← hx]
        have : x % 1 = 0 := by omega
        simp [this]
      rw [e1]
      simp [u32s]
    rw [e]
    exact h1
  · exact (World.ownsRow.lt h1 _ rfl).2

theorem left_step {os ds : List Nat} {n q r k c : Nat} (hn : n = 32 * q + r) (hl : os.length = q + k) (h : natOf os + 4294967296 ^ (q + k) * c = natOf (ds.take k) * 2 ^ n) {o p : Nat} (ho : o + 4294967296 * p = c + ds.getD k 0 * 2 ^ r) :
    natOf (os ++ [o]) + 4294967296 ^ (q + k + 1) * p = natOf (ds.take (k + 1)) * 2 ^ n := by
  rw [natOf_append, hl, natOf_take_step ds, Nat.pow_succ, Nat.mul_assoc, Nat.add_mul]
  have e : natOf [o] = o := by simp [natOf]
  rw [e, ← h]
  have := congrArg (4294967296 ^ (q + k) * ·) ho
  simp only [Nat.mul_add] at this
  have e2 : 4294967296 ^ k * ds.getD k 0 * 2 ^ n = 4294967296 ^ (q + k) * (ds.getD k 0 * 2 ^ r) := by
    rw [hn, Nat.pow_add, Nat.pow_add, ← pow32 q]
    rw [Nat.mul_comm (4294967296 ^ q) (4294967296 ^ k)]
    simp only [Nat.mul_assoc]
    rw [Nat.mul_left_comm (ds.getD k 0)]
  omega
theorem left_end {os ds : List Nat} {n q k c : Nat} (hl : os.length = q + k) (h : natOf os + 4294967296 ^ (q + k) * c = natOf (ds.take k) * 2 ^ n) (h1 : ds.length ≤ k) : natOf (os ++ [c]) = natOf ds * 2 ^ n := by
  rw [natOf_take_ge ds h1] at h
  rw [natOf_append, hl]
  have e : natOf [c] = c := by simp [natOf]
  rw [e]; exact h
theorem left_carry {c D r p o : Nat} (hc : c < 2 ^ r) (hD : D < 4294967296) (ho : o + 4294967296 * p = c + D * 2 ^ r) : p < 2 ^ r := by
  have h := Nat.mul_le_mul_right (2 ^ r) (show D + 1 ≤ 4294967296 by omega)
  rw [Nat.add_mul] at h
  omega
theorem left_small {D r : Nat} (hr : r < 32) (hD : D < 4294967296) : D * 2 ^ r < 9223372036854775808 ∧ 2 ^ r ≤ 2147483648 := by
  have h := Nat.pow_le_pow_right (show 2 > 0 by omega) (show r ≤ 31 by omega)
  have h2 := Nat.mul_le_mul (show D ≤ 4294967295 by omega) h
  omega

set_option maxHeartbeats 2000000 in
theorem left_w (va : Value) (m n q r K : Nat) (hK : K ≤ 1000000) (hm : m < 2 ^ K) (hn : n ≤ 1000000) (hqr : n = 32 * q + r) (hr : r < 32) (w : World) (ha : BigIs w va m) :
    Calls Try.prog 68 #[va, .int .i64 (n : Int)] w fun e w' => (∃ v', e = .returned v' ∧ BigIs w' v' (m * 2 ^ n)) ∧ Below w.heap.size w w' := by
  obtain ⟨ds, d1, d2, rfl, hra⟩ := ha
  have l1 := d2.len hm
  clear hm
  have HRA := hra
  obtain ⟨ao, ca, rfl, hca⟩ := hra.open_
  rcases Nat.eq_zero_or_pos ds.length with h0 | h0
  · have : ds = [] := List.eq_nil_of_length_eq_zero h0
    subst this
    clear hca hra l1
    go_enter Try.func68, Try.ntmps68
    go_wp2
    go_ret
    exact ⟨⟨_, rfl, [], d1, d2, by simp [natOf], HRA⟩, Below.refl _ _⟩
  · obtain ⟨g, rfl, hg, hc⟩ := hca (by omega)
    clear hca hra HRA
    have hne : ((ds.length : Int) == 0) = false := by rw [beq_eq_false_iff_ne]; omega
    have hq : (n : Int) / 32 = (q : Int) := by omega
    have hr2 : (n : Int) % 32 = (r : Int) := by omega
    have HQR : Hid (n = 32 * q + r) := hqr
    have hqb : q ≤ 1000000 := by omega
    clear hqr
    go_enter Try.func68, Try.ntmps68
    go_wp2_with (at_make; refine wpList_zeros (by rfl) _ _ (by rfl) q (by rfl) (by rfl) (by omega) ?_; intro w1 hown hB hS)
    go_loopg [5, 6, 8, 18] ds.length (fun G s5 s6 _ s7 wx => Below w.heap.size w wx ∧ w.heap.size ≤ wx.heap.size ∧ ∃ (k c : Nat) (os : List Nat), s6 = .int .u64 (c : Int) ∧ s7 = .int .i64 (k : Int) ∧ Hid (c < 2 ^ r) ∧ k + G = ds.length ∧ Hid (os.length = q + k) ∧ Digs os ∧ Own w.heap.size wx s5 os ∧
      Hid (natOf os + 4294967296 ^ (q + k) * c = natOf (ds.take k) * 2 ^ n))
    case atStart => exact ⟨hB, by omega, 0, 0, _, rfl, rfl, Nat.two_pow_pos _, by omega, by show _ = _; simp, digs_zeros q, hown, by show _ = _; simp [natOf, natOf_zeros]⟩
    case round =>
      clear hown hB hS
      obtain ⟨hB, hS, k, c, os, rfl, rfl, hc1, hkG, hol, hod, hown, hval⟩ := hrel
      have hdl := d1.getD k
      have hst := fun o p => left_step (o := o) (p := p) HQR.out hol.out hval.out
      by_cases ka : k < ds.length
      · have c1 := (hB.cell (by exact hg)).trans (hc k ka)
        clear hc
        generalize ds.getD k 0 = D at *
        obtain ⟨b1, b2⟩ := left_small hr hdl
        have hc2 := hc1.out
        obtain ⟨S, hS1⟩ : ∃ S, S = D * 2 ^ r := ⟨_, rfl⟩
        have hsh : IntKind.u64.wrap ((D : Int) * 2 ^ r) = (S : Int) := by
          rw [hS1, IntKind.wrap_u64]
          have : (D : Int) * 2 ^ r = ((D * 2 ^ r : Nat) : Int) := by simp
          rw [this]; omega
        have hor : bits .or .u64 (c : Int) (S : Int) = ((c + S : Nat) : Int) := by
          rw [u64_or_nat c S (by omega) (by omega), Nat.or_comm, nat_join r S c (by rw [hS1]; simp) hc2, Nat.add_comm]
        obtain ⟨o, p, ho, hp, hop⟩ := parts32 (c + S)
        have hpr := left_carry hc2 hdl (p := p) (o := o) (by rw [← hS1]; exact hop.1)
        have HST : Hid _ := hst o p (by rw [← hS1]; exact hop.1)
        have HO : Hid _ := hop
        have HP : Hid _ := hpr
        have holb : os.length ≤ 2000000 := by have := hol.out; omega
        obtain ⟨T, hT⟩ : ∃ T, T = c + S := ⟨_, rfl⟩
        rw [← hT] at ho hp hor
        have ho2 : (T : Int) % 4294967296 = (o : Int) := by have := hop; omega
        have hTl : (T : Int) < 18446744073709551616 := by omega
        clear hst hval hop hT hS1 b1 b2 hc2 hpr hc1
        go_wp2_with (at_builtin; refine wpList_push (by rfl) _ _ (by rfl) _ os o (by rfl) (by rfl) hown holb hS hB ?_; intro v' w' hown' hB' hS')
        go_roundg (gk - 1)
        case measure => omega
        case rel => exact ⟨hB', hS', k + 1, p, os ++ [o], rfl, by go_num, HP, by omega, by show _ = _; rw [List.length_append, hol.out]; rfl, hod.append (Digs.one HO.out.2.1), hown', HST⟩
      · have hend := left_end hol.out hval.out (by omega)
        have hc3 := (left_small hr (D := 0) (by omega)).2
        have hc2 := hc1.out
        have hwr : IntKind.u32.wrap (c : Int) = (c : Int) := by simp only [IntKind.wrap, IntKind.bits, IntKind.signed]; simp; omega
        have hwr2 : (c : Int) % 4294967296 = (c : Int) := by omega
        have holb : os.length ≤ 2000000 := by have := hol.out; omega
        have hdd : Digs (os ++ [c]) := hod.append (Digs.one (by omega))
        have hlen : (os ++ [c]).length ≤ 1000000 := by rw [List.length_append, hol.out]; simp; omega
        have HE : Hid _ := hend
        clear hst hval hend hdl hc2 hc3 hc1
        go_wp2_with (first | (at_builtin; refine wpList_push (by rfl) _ _ (by rfl) _ os c (by rfl) (by rfl) hown holb hS hB ?_; intro v' w' hown' hB' hS') | (go_at_call 51; refine (trim_w _ (os ++ [c]) hdd hlen _ hown'.row).mono ?_; rintro _ _ ⟨⟨v2, rfl, hv⟩, rfl⟩))
        rw [HE.out] at hv
        go_ret
        exact ⟨⟨_, rfl, hv⟩, hB'⟩

end Go.Proofs.Ytgigndboadmacaa
