/- A region as in the text before, with one more operation at its end that hangs on nothing: it may come up at any time. -/
import Derived.Test.YtimcjmkjichgnaaTl
namespace Go.Proofs.Ytimcjmkjichgnaa
open Go.ChangeShapes Go.WideShapes Go.ChangeAt Go.RowKit

section
variable {P : Program} {ops hd : Array Oper} {C : World → Prop}

theorem any_tail {Q : Exit → Act → World → Prop} {a : Act} {w : World} {l : List Oper} (n : Nat) (hB : tailB l n = true) (hC : C w)
    (h : wpQuiet P (l.take n).toArray C (fun a' => ∀ w', C w' → wpList P l.toArray Q (l.drop n) a' w') (l.take n) a) : wpAny P .any l.toArray Q l.length (Array.replicate l.length false) a w := by
  simp only [tailB, Bool.and_eq_true, decide_eq_true_eq] at hB
  obtain ⟨⟨⟨⟨⟨hlex, hn⟩, hs⟩, hc⟩, hlow⟩, hseq⟩ := hB
  have H := heads_of hn hlow
  simp only [Region.lexB, Bool.and_eq_true] at hlex
  have hl : (l.take n).length = n := by simp; omega
  have q := wpAnyQ_lex (P := P) (C := C) (md := .any) hlex.1 (l.take n) 0 (Array.replicate (l.take n).toArray.size false) a (by simp) (by simpa using hlex.2) h
  have := head_split (P := P) (C := C) (Q := Q) (g := l.length - n) H hs hc (fun listed a' w' inv full hw' hq => by
    have e : listed = (List.replicate n true ++ List.replicate (l.length - n) false).toArray := by
      have sz := inv.size
      refine Array.ext (by simp [sz]; omega) fun i h1 h2 => ?_
      have hi : i < l.length := by rw [sz] at h1; simpa using h1
      rcases Nat.lt_or_ge i n with c | c
      · have := full i c
        simp [h1] at this
        simp [this, c]
      · have := inv.tail i c (by simpa using hi)
        simp [h1] at this
        rw [this]
        simp [c]
    have s := wpAny_of_seq (P := P) (md := .any) (Q' := Q) (l.drop n) n listed a' w' (fun j => by simp [List.getElem?_drop]) (by rw [e, List.length_drop]; exact hseq) (hq w' hw')
    rwa [List.length_drop] at s) (l.take n).length (Array.replicate (l.take n).toArray.size false) (Array.replicate l.length false) a w
    ⟨by simp, fun j oj _ hl => (by rw [getD_replicate_false] at hl; cases hl), fun t _ ht => getD_in (by simpa using ht) (getD_replicate_false _ _)⟩ (by simp; omega) (fun j hj => ?_) hC q
  · rw [hl, show n + (l.length - n) = l.length by omega] at this
    exact this
  · have hj' : j < l.length := by omega
    have hm' : min n l.length = n := by omega
    simp [hm', hj, hj']

theorem head_op {md : Region.Mode} {n j : Nat} {Q : Exit → Act → World → Prop} (H : Heads md ops hd n) (hj : j < n) {K : Act → World → Prop} {a : Act} {w : World} (h : wpOp P hd Q j K a w) : wpOp P ops Q j K a w := by
  have e := H.same j hj
  unfold wpOp at h ⊢
  rw [e] at h
  cases ho : ops[j]? with
  | none => rw [ho] at h; exact h
  | some o =>
    rw [ho] at h
    simp only at h ⊢
    rw [head_wanted H hj ho] at h
    exact h

/-- The last operation has come up: the others are as by themselves. -/
theorem drop_last {md : Region.Mode} {m : Nat} {Q : Exit → Act → World → Prop} (H : Heads md ops hd m) (hsz : ops.size = m + 1) :
    ∀ (f : Nat) (lh listed : Array Bool) (a : Act) (w : World), listed.size = m + 1 → lh.size = m → (∀ j, j < m → lh.getD j true = listed.getD j true) → listed.getD m true = true → wpAny P md hd Q f lh a w → wpAny P md ops Q f listed a w := by
  have up : ∀ (lh listed : Array Bool), listed.size = m + 1 → lh.size = m → (∀ j, j < m → lh.getD j true = listed.getD j true) → listed.getD m true = true → ∀ j, (j ∈ Region.ready md hd lh ↔ j ∈ Region.ready md ops listed) := fun lh listed h1 h2 ag hl j => by
    rcases Nat.lt_trichotomy j m with hj | hj | hj
    · rw [mem_ready, mem_ready, ag j hj, H.same j hj]
      have key : ∀ o, ops[j]? = some o → ∀ e ∈ o.after, Region.binds md e = true → lh.getD e.on false = listed.getD e.on false := fun o ho e he hb => by
        have hlo := H.low j o hj ho e he hb
        rw [getD_any (l := lh) (by omega) false true, getD_any (l := listed) (by omega) false true]
        exact ag e.on (by omega)
      refine and_congr_right fun _ => ⟨fun ⟨o, ho, h⟩ => ⟨o, ho, fun e he hb => ?_⟩, fun ⟨o, ho, h⟩ => ⟨o, ho, fun e he hb => ?_⟩⟩
      · rw [← key o ho e he hb]; exact h e he hb
      · rw [key o ho e he hb]; exact h e he hb
    · subst hj
      refine ⟨fun h => ?_, fun h => ?_⟩
      · obtain ⟨-, o, ho, -⟩ := mem_ready.1 h
        have := (Array.getElem?_eq_some_iff.1 ho).1
        rw [H.size] at this
        omega
      · have := (mem_ready.1 h).1
        rw [hl] at this
        cases this
    · refine ⟨fun h => ?_, fun h => ?_⟩
      · obtain ⟨-, o, ho, -⟩ := mem_ready.1 h
        have := (Array.getElem?_eq_some_iff.1 ho).1
        rw [H.size] at this
        omega
      · obtain ⟨-, o, ho, -⟩ := mem_ready.1 h
        have := (Array.getElem?_eq_some_iff.1 ho).1
        omega
  have nil : ∀ (lh listed : Array Bool), listed.size = m + 1 → lh.size = m → (∀ j, j < m → lh.getD j true = listed.getD j true) → listed.getD m true = true → (Region.ready md ops listed = [] ↔ Region.ready md hd lh = []) := fun lh listed h1 h2 ag hl => by
    have u := up lh listed h1 h2 ag hl
    refine ⟨fun h => List.eq_nil_iff_forall_not_mem.2 fun j hj => ?_, fun h => List.eq_nil_iff_forall_not_mem.2 fun j hj => ?_⟩
    · have := (u j).1 hj
      rw [h] at this
      cases this
    · have := (u j).2 hj
      rw [h] at this
      cases this
  intro f
  induction f with
  | zero =>
    intro lh listed a w h1 h2 ag hl h
    exact ⟨(nil lh listed h1 h2 ag hl).2 h.1, h.2⟩
  | succ f ih =>
    intro lh listed a w h1 h2 ag hl h
    refine ⟨fun h0 => h.1 ((nil lh listed h1 h2 ag hl).1 h0), fun j hj => ?_⟩
    have hj' := (up lh listed h1 h2 ag hl j).2 hj
    have hjm : j < m := by
      obtain ⟨-, o, ho, -⟩ := mem_ready.1 hj'
      have := (Array.getElem?_eq_some_iff.1 ho).1
      rw [H.size] at this
      exact this
    refine wpOp_mono (fun a' w' hK => ih (lh.setIfInBounds j true) (listed.setIfInBounds j true) a' w' (by simp [h1]) (by simp [h2]) (fun k hk => ?_) ?_ hK) (head_op H hjm (h.2 j hj'))
    · by_cases hjk : j = k
      · subst hjk
        simp [h2, hk, h1, show j < m + 1 by omega]
      · rw [getD_set_ne true hjk, getD_set_ne true hjk]
        exact ag k hk
    · rw [getD_set_ne true (by omega)]
      exact hl

/-- The last of the list is free, those before it are as tailB asks. -/
def freeB (l : List Oper) (m : Nat) : Bool := decide (l.length = m + 1) && lowB l m && Region.noSelect l.toArray && Region.free .any l.toArray (Array.replicate (m + 1) false) m && (Region.ready .any l.toArray (Array.replicate (m + 1) false)).contains m

theorem tail_behind_free {id : Nat} {Q : Exit → Act → World → Prop} {a : Act} {w : World} {l : List Oper} (n m : Nat) (o : Oper) (v : Value) (hm : P.follows .mixedOrders = true) (hF : freeB l m = true) (hB : tailB (l.take m) n = true) (ho : l[m]? = some o)
    (hQ : ∀ c a w, Q (.panic c) (a.put o.dst v) w → Q (.panic c) a w) (hy : Yields P l.toArray o v a)
    (h : wpQuiet P ((l.take m).take n).toArray (fun w' => ∃ n : Behind w, w' = n.W) (fun a' => ∀ w', (∃ n : Behind w, w' = n.W) → wpList P (l.take m).toArray Q ((l.take m).drop n) a' w') ((l.take m).take n) (a.put o.dst v)) : (Code.region id l.toArray true).wp P Q a w := by
  simp only [freeB, Bool.and_eq_true, decide_eq_true_eq] at hF
  obtain ⟨⟨⟨⟨hlen, hlow⟩, hs⟩, hf⟩, hr⟩ := hF
  have H := heads_of (l := l) (n := m) (by omega) hlow
  have sz : l.toArray.size = m + 1 := by simpa using hlen
  refine wp_region_any hm ?_
  have t := any_tail (P := P) (C := fun w' => ∃ n : Behind w, w' = n.W) (Q := Q) (w := w.drew) n hB ⟨⟨w.drew, (Below.refl _ _).drew⟩, rfl⟩ h
  have hl : (l.take m).length = m := by simp; omega
  rw [hl] at t
  have e : wpAny P .any l.toArray Q (m + 1) (Array.replicate (m + 1) false) a w.drew := by
    refine wpAny_take (i := m) (v := v) (by simpa using ho) hs hf hr hQ hy ?_
    refine drop_last H sz m (Array.replicate m false) _ _ _ (by simp) (by simp) (fun j hj => ?_) ?_ t
    · rw [getD_set_ne true (by omega)]
      simp [hj, show j < m + 1 by omega]
    · simp
  rw [sz]
  exact e

end
end Go.Proofs.Ytimcjmkjichgnaa
