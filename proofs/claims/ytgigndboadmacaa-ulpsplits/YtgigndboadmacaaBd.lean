/- The reference's Plus and Less: a digit appended; the walks. -/
import Derived.Test.YtgigndboadmacaaBc
namespace Go.Proofs.Ytgigndboadmacaa
open Go.ChangeShapes Go.WideShapes Go.ChangeAt Go.RowKit

/-- The value v is, in w, the digits ds, in a block of the call's own. -/
def Own (B : Nat) (w : World) (v : Value) (ds : List Nat) : Prop := w.ownsRow B 65 1 v ds.length (u32s ds)

theorem Own.row {B : Nat} {w : World} {v : Value} {ds : List Nat} (h : Own B w v ds) : Row w v ds := by
  refine ⟨h.1, ?_⟩
  rcases h.2 with hn | ⟨g, cap, cur, hv, hb2, rest⟩
  · exact .inl hn
  · exact .inr ⟨g, cap, cur, hv, Nat.zero_le _, rest⟩

theorem wpList_push {B : Nat} {w0 wr : World} {ops : Array Oper} {rest : List Oper} {o : Oper} {a : Act} {Q : Exit → Act → World → Prop} (hgd : o.guard = none) (s x : Operand)
    (ho : o.op = .call { callee := .builtin .append, args := #[s, x], argTypes := #[46, 46] }) (v : Value) (os : List Nat) (d : Nat) (hs : a.eval s = v) (hx : a.eval x = .slice (some ⟨wr.heap.size, 0, none⟩) 1 1)
    (hown : Own B wr v os) (hl : os.length ≤ 2000000) (hB : B ≤ wr.heap.size) (hbel : Below B w0 wr)
    (h : ∀ v' w', Own B w' v' (os ++ [d]) → Below B w0 w' → B ≤ w'.heap.size → wpList Try.prog ops Q rest (a.put o.dst v') w') : wpList Try.prog ops Q (o :: rest) a (wr.alloc (.cells #[.int .u32 (d : Int)] 65)) := by
  obtain ⟨i0, hi, hz0, hz1, hz2⟩ := info_parts Try.info32
  refine wpList_append_own _ hgd s x 46 ho B 65 i0 (.int .u32 0) 1 4 Try.underlying46 hi hz0 hz1 hz2 rfl (by decide) v os.length (u32s os) hs (hown.alloc _) ⟨wr.heap.size, 0, none⟩ 1 1 [.int .u32 (d : Int)] hx rfl ?_ ?_ (by unfold maxLen; omega) (by omega) (by simp; omega) ?_
  · intro j u hj
    match j, hj with
    | 0, hj => simp at hj; subst hj; simp [Addr.add]
  · intro u hu; simp at hu; subst hu; rfl
  · intro v' w' h1 h2 _
    refine h v' w' ?_ ((hbel.alloc hB _).grown h2 (by simp; omega) ?_) (by have := h2.size; simp at this; omega)
    · unfold Own
      have e : u32s (os ++ [d]) = u32s os ++ [.int .u32 (d : Int)] := by simp [u32s]
      rw [e, List.length_append]
      exact h1
    · intro k hk
      exact (World.ownsRow.lt hown k hk).1

theorem plus_step {os ds es : List Nat} {k c : Nat} (hl : os.length = k) (h : natOf os + 4294967296 ^ k * c = natOf (ds.take k) + natOf (es.take k)) {o q : Nat} (ho : o + 4294967296 * q = c + ds.getD k 0 + es.getD k 0) :
    natOf (os ++ [o]) + 4294967296 ^ (k + 1) * q = natOf (ds.take (k + 1)) + natOf (es.take (k + 1)) := by
  rw [natOf_append, hl, natOf_take_step ds, natOf_take_step es, Nat.pow_succ, Nat.mul_assoc]
  have e : natOf [o] = o := by simp [natOf]
  rw [e]
  have := congrArg (4294967296 ^ k * ·) ho
  simp only [Nat.mul_add] at this
  omega
theorem plus_end {os ds es : List Nat} {k c : Nat} (hl : os.length = k) (h : natOf os + 4294967296 ^ k * c = natOf (ds.take k) + natOf (es.take k)) (h1 : ds.length ≤ k) (h2 : es.length ≤ k) : natOf (os ++ [c]) = natOf ds + natOf es := by
  rw [natOf_take_ge ds h1, natOf_take_ge es h2] at h
  rw [natOf_append, hl]
  have e : natOf [c] = c := by simp [natOf]
  rw [e]; exact h


theorem parts32 (n : Nat) : ∃ o q : Nat, IntKind.u32.wrap (n : Int) = (o : Int) ∧ (n : Int) / 4294967296 = (q : Int) ∧ o + 4294967296 * q = n ∧ o < 4294967296 ∧ q = n / 4294967296 :=
  ⟨n % 4294967296, n / 4294967296, by simp [IntKind.wrap, IntKind.bits, IntKind.signed], by omega, by omega, by omega, rfl⟩

theorem own_empty (w : World) : Own w.heap.size (w.alloc (.cells #[] 65)) (.slice (some ⟨w.heap.size, 0, none⟩) 0 0) [] := World.ownsRow_made w #[] 0 (Nat.le_refl _) (Nat.zero_le _) rfl

set_option maxHeartbeats 1600000 in
theorem plus_w (va vb : Value) (m n K : Nat) (hK : K ≤ 1000000) (hm : m < 2 ^ K) (hn : n < 2 ^ K) (w : World) (ha : BigIs w va m) (hb : BigIs w vb n) :
    Calls Try.prog 54 #[va, vb] w fun e w' => (∃ v', e = .returned v' ∧ BigIs w' v' (m + n)) ∧ Below w.heap.size w w' := by
  obtain ⟨ds, d1, d2, rfl, hra⟩ := ha
  obtain ⟨es, e1, e2, rfl, hrb⟩ := hb
  have l1 := d2.len hm
  have l2 := e2.len hn
  clear hm hn d2 e2
  obtain ⟨ao, ca, rfl, hca⟩ := hra.open_
  obtain ⟨bo, cb, rfl, hcb⟩ := hrb.open_
  clear hra hrb
  go_enter Try.func54, Try.ntmps54
  go_wp2
  go_loopg [5, 6, 7] (ds.length + es.length) (fun G s5 s6 s7 wx => Below w.heap.size w wx ∧ w.heap.size ≤ wx.heap.size ∧ ∃ (k c : Nat) (os : List Nat), s6 = .int .u64 (c : Int) ∧ s7 = .int .i64 (k : Int) ∧ c ≤ 1 ∧ k + G = ds.length + es.length ∧ Hid (os.length = k) ∧ Digs os ∧ Own w.heap.size wx s5 os ∧
    Hid (natOf os + 4294967296 ^ k * c = natOf (ds.take k) + natOf (es.take k)))
  case atStart => exact ⟨by go_grown, by go_size, 0, 0, [], rfl, rfl, by omega, by omega, rfl, Digs.nil, own_empty w, by show _ = _; simp [natOf]⟩
  case round =>
    obtain ⟨hB, hS, k, c, os, rfl, rfl, hc1, hkG, hol, hod, hown, hval⟩ := hrel
    have hdl := d1.getD k
    have hel := e1.getD k
    have hst := fun o q => plus_step (o := o) (q := q) hol.out hval.out
    by_cases ka : k < ds.length
    · obtain ⟨g, rfl, hg, hca⟩ := hca (by omega)
      have c1 := (hB.cell (by exact hg)).trans (hca k ka)
      by_cases kb : k < es.length
      · obtain ⟨f, rfl, hf, hcb⟩ := hcb (by omega)
        have c2 := (hB.cell (by exact hf)).trans (hcb k kb)
        clear hca hcb
        generalize ds.getD k 0 = D at *
        generalize es.getD k 0 = E at *
        obtain ⟨o, q, ho, hq, hoq⟩ := parts32 (c + D + E)
        have ho' : IntKind.u32.wrap ((c : Int) + D + E) = (o : Int) := by have := ho; simp only [Int.natCast_add] at this; exact this
        have hq' : ((c : Int) + D + E) / 4294967296 = (q : Int) := by have := hq; simp only [Int.natCast_add] at this; exact this
        have HST : Hid _ := hst o q (by have := hoq.1; omega)
        have HO : Hid _ := hoq
        have holb : os.length ≤ 2000000 := by have := hol.out; omega
        have hcz : (c : Int) ≤ 1 := by omega
        clear hst hoq hval ho hq
        go_wp2_with (at_builtin; refine wpList_push (by rfl) _ _ (by rfl) _ os o (by rfl) (by rfl) hown holb hS hB ?_; intro v' w' hown' hB' hS')
        have hoq := HO.out
        go_roundg (gk - 1)
        case measure => omega
        case rel => exact ⟨hB', hS', k + 1, q, os ++ [o], rfl, by go_num, by omega, by omega, by show _ = _; rw [List.length_append, hol.out]; rfl, hod.append (Digs.one hoq.2.1), hown', HST⟩
      · have hE := getD_ge es (k := k) (by omega)
        clear hca hcb
        generalize ds.getD k 0 = D at *
        generalize es.getD k 0 = E at *
        obtain ⟨o, q, ho, hq, hoq⟩ := parts32 (c + D)
        have ho' : IntKind.u32.wrap ((c : Int) + D) = (o : Int) := by have := ho; simp only [Int.natCast_add] at this; exact this
        have hq' : ((c : Int) + D) / 4294967296 = (q : Int) := by have := hq; simp only [Int.natCast_add] at this; exact this
        have HST : Hid _ := hst o q (by have := hoq.1; omega)
        have HO : Hid _ := hoq
        have holb : os.length ≤ 2000000 := by have := hol.out; omega
        have hcz : (c : Int) ≤ 1 := by omega
        clear hst hoq hval ho hq
        go_wp2_with (at_builtin; refine wpList_push (by rfl) _ _ (by rfl) _ os o (by rfl) (by rfl) hown holb hS hB ?_; intro v' w' hown' hB' hS')
        have hoq := HO.out
        go_roundg (gk - 1)
        case measure => omega
        case rel => exact ⟨hB', hS', k + 1, q, os ++ [o], rfl, by go_num, by omega, by omega, by show _ = _; rw [List.length_append, hol.out]; rfl, hod.append (Digs.one hoq.2.1), hown', HST⟩
    · have hD := getD_ge ds (k := k) (by omega)
      by_cases kb : k < es.length
      · obtain ⟨f, rfl, hf, hcb⟩ := hcb (by omega)
        have c2 := (hB.cell (by exact hf)).trans (hcb k kb)
        clear hca hcb
        generalize ds.getD k 0 = D at *
        generalize es.getD k 0 = E at *
        obtain ⟨o, q, ho, hq, hoq⟩ := parts32 (c + E)
        have ho' : IntKind.u32.wrap ((c : Int) + E) = (o : Int) := by have := ho; simp only [Int.natCast_add] at this; exact this
        have hq' : ((c : Int) + E) / 4294967296 = (q : Int) := by have := hq; simp only [Int.natCast_add] at this; exact this
        have HST : Hid _ := hst o q (by have := hoq.1; omega)
        have HO : Hid _ := hoq
        have holb : os.length ≤ 2000000 := by have := hol.out; omega
        have hcz : (c : Int) ≤ 1 := by omega
        clear hst hoq hval ho hq
        go_wp2_with (at_builtin; refine wpList_push (by rfl) _ _ (by rfl) _ os o (by rfl) (by rfl) hown holb hS hB ?_; intro v' w' hown' hB' hS')
        have hoq := HO.out
        go_roundg (gk - 1)
        case measure => omega
        case rel => exact ⟨hB', hS', k + 1, q, os ++ [o], rfl, by go_num, by omega, by omega, by show _ = _; rw [List.length_append, hol.out]; rfl, hod.append (Digs.one hoq.2.1), hown', HST⟩
      · have hend := plus_end hol.out hval.out (by omega) (by omega)
        have hwr : IntKind.u32.wrap (c : Int) = (c : Int) := by simp only [IntKind.wrap, IntKind.bits, IntKind.signed]; simp; omega
        have holb : os.length ≤ 2000000 := by have := hol.out; omega
        have hdd : Digs (os ++ [c]) := hod.append (Digs.one (by omega))
        have hlen : (os ++ [c]).length ≤ 1000000 := by rw [List.length_append, hol.out]; simp; omega
        have HE : Hid _ := hend
        clear hst hval hend hdl hel
        go_wp2_with (first | (at_builtin; refine wpList_push (by rfl) _ _ (by rfl) _ os c (by rfl) (by rfl) hown holb hS hB ?_; intro v' w' hown' hB' hS') | (go_at_call 51; refine (trim_w _ (os ++ [c]) hdd hlen _ hown'.row).mono ?_; rintro _ _ ⟨⟨v2, rfl, hv⟩, rfl⟩))
        rw [HE.out] at hv
        go_ret
        exact ⟨⟨_, rfl, hv⟩, hB'⟩

theorem less_step {os ds es : List Nat} {k c : Nat} (hl : os.length = k) (h : natOf os + natOf (es.take k) = natOf (ds.take k) + 4294967296 ^ k * c) {o q : Nat} (ho : o + es.getD k 0 + c = ds.getD k 0 + 4294967296 * q) :
    natOf (os ++ [o]) + natOf (es.take (k + 1)) = natOf (ds.take (k + 1)) + 4294967296 ^ (k + 1) * q := by
  rw [natOf_append, hl, natOf_take_step ds, natOf_take_step es, Nat.pow_succ, Nat.mul_assoc]
  have e : natOf [o] = o := by simp [natOf]
  rw [e]
  have := congrArg (4294967296 ^ k * ·) ho
  simp only [Nat.mul_add] at this
  omega
theorem less_end {os ds es : List Nat} {k c : Nat} (hod : Digs os) (hl : os.length = k) (h : natOf os + natOf (es.take k) = natOf (ds.take k) + 4294967296 ^ k * c) (h1 : ds.length ≤ k) (hle : natOf es ≤ natOf ds) (hd : Digs ds) (he : Digs es) : natOf os = natOf ds - natOf es := by
  rw [natOf_take_ge ds h1] at h
  have s := natOf_split es k
  have b1 := natOf_lt hod
  rw [hl] at b1
  have b2 := natOf_lt (he.take k)
  have b3 := natOf_lt hd
  have b4 := Nat.pow_le_pow_right (show 4294967296 > 0 by omega) h1
  have b5 := Nat.pow_le_pow_right (show 4294967296 > 0 by omega) (show (es.take k).length ≤ k by rw [List.length_take]; omega)
  have z : natOf (es.drop k) = 0 := by
    rcases Nat.eq_zero_or_pos (natOf (es.drop k)) with z | z
    · exact z
    · have := Nat.mul_le_mul_left (4294967296 ^ k) (show 1 ≤ natOf (es.drop k) from z)
      omega
  rw [z, Nat.mul_zero, Nat.add_zero] at s
  rw [← s] at h b2
  rcases Nat.eq_zero_or_pos c with rfl | hc
  · omega
  · have := Nat.mul_le_mul_left (4294967296 ^ k) (show 1 ≤ c from hc)
    omega

end Go.Proofs.Ytgigndboadmacaa
