/- A region that draws its order, of quiet operations and one store into a block that none of them reads, then others behind all of them (return f(x), c): walked once. -/
import Derived.Test.YtnchhfhoaepjnaaGreatTk
namespace Go.Proofs.YtnchhfhoaepjnaaGreat
open Go.ChangeShapes Go.WideShapes Go.ChangeAt Go.RowKit

section
variable {P : Program} {ops hd : Array Oper}

/-- All that is asked of such a region: n operations that draw, the store, then others behind all of them. -/
def storeB (l : List Oper) (n : Nat) : Bool :=
  Region.lexB .any (l.take n).toArray && decide (n + 1 < l.length) && lowB l n && distB (l.take n) && Region.noSelect l.toArray
  && (match l[n]? with | some o => o.guard.isNone && o.dst.isNone && (o.after.all fun e => !Region.binds .any e || decide (e.on < n)) && ((List.range n).all fun j => match l[j]? with | some oj => (match oj.dst with | some d => !(o.looksAt l.toArray).contains d || Region.waitsFor .any l.toArray n j | none => true) | none => true) | none => false)
  && ((List.range l.length).all fun j => decide (j < n + 1) || (List.range (n + 1)).all fun i => reachB l (n + 1) 6 j i)
  && Region.seqB .any l.toArray (l.length - (n + 1)) (n + 1) (List.replicate (n + 1) true ++ List.replicate (l.length - (n + 1)) false).toArray

structure SInv (l : List Oper) (n : Nat) (lh listed : Array Bool) (st : Bool) : Prop where
  s1 : listed.size = l.length
  s2 : lh.size = n
  same : ∀ j, j < n → lh.getD j true = listed.getD j true
  sto : listed.getD n true = st
  tail : ∀ j, n + 1 ≤ j → j < l.length → listed.getD j true = false
  cl : ∀ j oj, l.toArray[j]? = some oj → listed.getD j false = true → ∀ e ∈ oj.after, Region.binds .any e = true → listed.getD e.on false = true

theorem region_store {id : Nat} {Q : Exit → Act → World → Prop} {a : Act} {w : World} {l : List Oper} (n : Nat) (o : Oper) (A : Act) (D Z0 Z1 : World → Prop) (put : World → World) (hm : P.follows .mixedOrders = true) (hB : storeB l n = true) (ho : l[n]? = some o)
    (hst : ∀ W, D W → Z0 W → (execOp A.eval o).run P W = .ok .skip (put W) ∧ Z1 (put W) ∧ D (put W))
    (hD : ∀ (w1 w2 : World), D w1 → Below w1.heap.size w1 w2 → D w2) (hZ0 : ∀ (w1 w2 : World), Z0 w1 → Below w1.heap.size w1 w2 → Z0 w2) (hZ1 : ∀ (w1 w2 : World), Z1 w1 → Below w1.heap.size w1 w2 → Z1 w2) (hd : D w.drew) (hz : Z0 w.drew)
    (h : ∀ W, D W → wpQuiet P (l.take n).toArray (Beh W) (fun a' => a' = A) (l.take n) a)
    (hT : ∀ W, D W → Z1 W → wpList P l.toArray Q (l.drop (n + 1)) A W) : (Code.region id l.toArray true).wp P Q a w := by
  simp only [storeB, Bool.and_eq_true, decide_eq_true_eq] at hB
  obtain ⟨⟨⟨⟨⟨⟨⟨hlex, hn⟩, hlow⟩, hdist⟩, hsel⟩, hop⟩, hwait⟩, hseq⟩ := hB
  rw [ho] at hop
  simp only [Bool.and_eq_true, Option.isNone_iff_eq_none] at hop
  obtain ⟨⟨⟨hg, hd0⟩, haf⟩, hlk⟩ := hop
  have H := heads_of (l := l) (n := n) (by omega) hlow
  have nosel := Region.noSelect_spec hsel
  simp only [Region.lexB, Bool.and_eq_true] at hlex
  have hl : (l.take n).length = n := by simp; omega
  have ho' : l.toArray[n]? = some o := by simpa using ho
  have late : ∀ (listed : Array Bool) (i : Nat), i < n + 1 → listed.getD i true = false → listed.size = l.length → (∀ j oj, l.toArray[j]? = some oj → listed.getD j false = true → ∀ e ∈ oj.after, Region.binds .any e = true → listed.getD e.on false = true) → ∀ j ∈ Region.ready .any l.toArray listed, j < n + 1 := fun listed i hi hli hsz cl j hj => by
    rcases Nat.lt_or_ge j (n + 1) with c | c
    · exact c
    · exfalso
      obtain ⟨-, oj, hoj, hw⟩ := mem_ready.1 hj
      have hjl : j < l.length := by have := (Array.getElem?_eq_some_iff.1 hoj).1; simpa using this
      have h1 := List.all_eq_true.1 hwait j (List.mem_range.2 hjl)
      simp only [Bool.or_eq_true, decide_eq_true_eq] at h1
      rcases h1 with h1 | h1
      · omega
      · have h3 := reach_listed cl hsz 6 j i oj hoj hw (List.all_eq_true.1 h1 i (List.mem_range.2 hi))
        rw [getD_both hli] at h3
        cases h3
  have fin : ∀ (f : Nat) (lh listed : Array Bool) (a : Act) (w' : World), SInv l n lh listed true → D w' → Z1 w' → Region.ready .any (l.take n).toArray lh = [] → a = A → wpAny P .any l.toArray Q (f + (l.length - (n + 1))) listed a w' := fun f lh listed a w' inv hb hz hr ha => by
    subst ha
    have full := all_listed H inv.s2 hr
    have e : listed = (List.replicate (n + 1) true ++ List.replicate (l.length - (n + 1)) false).toArray := by
      refine Array.ext (by simp [inv.s1]; omega) fun i h1 h2 => ?_
      have hi : i < l.length := by rw [inv.s1] at h1; exact h1
      rcases Nat.lt_or_ge i (n + 1) with c | c
      · have t : listed.getD i true = true := by
          rcases Nat.lt_or_ge i n with c2 | c2
          · exact (inv.same i c2).symm.trans (full i c2)
          · rw [show i = n by omega]; exact inv.sto
        simp [h1] at t
        simp [t, c]
      · have t := inv.tail i c hi
        simp [h1] at t
        rw [t]
        simp only [List.getElem_toArray]
        rw [List.getElem_append_right (by simpa using c)]
        simp
    have s := wpAny_of_seq (P := P) (md := .any) (Q' := Q) (l.drop (n + 1)) (n + 1) listed a w' (fun j => by simp [List.getElem?_drop]) (by rw [e, List.length_drop]; exact hseq) (hT w' hb hz)
    rw [List.length_drop] at s
    exact any_more' s f
  have main : ∀ (F f : Nat) (st : Bool) (lh listed : Array Bool) (a : Act) (w' : World), F = f + (if st then 0 else 1) → SInv l n lh listed st → D w' → (st = false → Z0 w') → (st = true → Z1 w') →
      (∀ W, D W → wpAnyQ P .any (l.take n).toArray (Beh W) (fun a' => a' = A) f lh a) → wpAny P .any l.toArray Q (F + (l.length - (n + 1))) listed a w' := by
    intro F
    induction F with
    | zero =>
      intro f st lh listed a w' hF inv hb h0 h1 hR
      cases st
      · simp at hF
      · have f0 : f = 0 := by simp at hF; omega
        subst f0
        have := hR w' hb
        exact fin 0 lh listed a w' inv hb (h1 rfl) this.1 this.2
    | succ F ih =>
      intro f st lh listed a w' hF inv hb h0 h1 hR
      by_cases hr : Region.ready .any (l.take n).toArray lh = [] ∧ st = true
      · obtain ⟨hr, rfl⟩ := hr
        have ha : a = A := by
          have := hR w' hb
          cases f with
          | zero => exact this.2
          | succ f => exact this.1 hr
        exact fin (F + 1) lh listed a w' inv hb (h1 rfl) hr ha
      · have hup : ∀ j, j < n → (j ∈ Region.ready .any (l.take n).toArray lh ↔ j ∈ Region.ready .any l.toArray listed) := fun j hj => by
          rw [mem_ready, mem_ready, inv.same j hj, H.same j hj]
          have key : ∀ oj, l.toArray[j]? = some oj → ∀ e ∈ oj.after, Region.binds .any e = true → lh.getD e.on false = listed.getD e.on false := fun oj hoj e he hb => by
            have hlo := H.low j oj hj hoj e he hb
            rw [getD_any (l := lh) (by rw [inv.s2]; omega) false true, getD_any (l := listed) (by rw [inv.s1]; omega) false true]
            exact inv.same e.on (by omega)
          refine and_congr_right fun _ => ⟨fun ⟨oj, hoj, h⟩ => ⟨oj, hoj, fun e he hb => ?_⟩, fun ⟨oj, hoj, h⟩ => ⟨oj, hoj, fun e he hb => ?_⟩⟩
          · rw [← key oj hoj e he hb]; exact h e he hb
          · rw [key oj hoj e he hb]; exact h e he hb
        obtain ⟨i0, hi0, hl0⟩ : ∃ i, i ∈ Region.ready .any l.toArray listed ∧ i < n + 1 := by
          by_cases h2 : Region.ready .any (l.take n).toArray lh = []
          · have hst' : st = false := by
              cases st
              · rfl
              · exact absurd ⟨h2, rfl⟩ hr
            subst hst'
            have full := all_listed H inv.s2 h2
            refine ⟨n, ?_, by omega⟩
            rw [mem_ready]
            refine ⟨inv.sto, o, ho', fun e he hbn => ?_⟩
            have h3 := Array.all_eq_true_iff_forall_mem.1 haf e he
            rw [hbn] at h3
            have lt : e.on < n := by simpa using h3
            rw [getD_any (l := listed) (by rw [inv.s1]; omega) false true, ← inv.same e.on lt]
            exact full e.on lt
          · obtain ⟨i, hi⟩ := List.exists_mem_of_ne_nil _ h2
            have hin : i < n := by
              obtain ⟨_, oj, hoj, _⟩ := mem_ready.1 hi
              have := (Array.getElem?_eq_some_iff.1 hoj).1
              rw [H.size] at this
              exact this
            exact ⟨i, (hup i hin).1 hi, by omega⟩
        rw [show F + 1 + (l.length - (n + 1)) = (F + (l.length - (n + 1))) + 1 by omega]
        refine ⟨fun h0 => (by rw [h0] at hi0; cases hi0), fun j hj => ?_⟩
        have hjk := late listed i0 hl0 (mem_ready.1 hi0).1 inv.s1 inv.cl j hj
        rcases Nat.lt_or_ge j n with hjn | hjn
        · have hj' := (hup j hjn).2 hj
          have hoj : l.toArray[j]? = some (l.toArray[j]'(by simp; omega)) := by simp
          generalize hoo : l.toArray[j]'(by simp; omega) = oj at hoj
          have hoh : (l.take n).toArray[j]? = some oj := by rw [H.same j hjn]; exact hoj
          cases f with
          | zero =>
            have := (hR w' hb).1
            rw [this] at hj'
            cases hj'
          | succ f =>
            have q := head_q H hjn ((hR w' hb).2 j hj')
            obtain ⟨v, hy, hKv⟩ := yieldsIn_of_qOp hoj q
            refine wpOp_of_qOp (C := Beh w') (K := fun a' => a' = a.put oj.dst v) (beh_of (Below.refl _ _)) (fun a' w'' hw'' ha' => ?_) (hy.qOp hoj rfl)
            subst ha'
            have hbw := hw''.below
            refine ih f st (lh.setIfInBounds j true) (listed.setIfInBounds j true) (a.put oj.dst v) w'' (by cases st <;> simp at hF ⊢ <;> omega) ⟨by simp [inv.s1], by simp [inv.s2], fun i hi => ?_, by rw [getD_set_ne true (by omega)]; exact inv.sto, fun i hi hil => by rw [getD_set_ne true (by omega)]; exact inv.tail i hi hil, listed_cl inv.cl hj⟩ (hD _ _ hb hbw) (fun e => hZ0 _ _ (h0 e) hbw) (fun e => hZ1 _ _ (h1 e) hbw) (fun W hW => ?_)
            · by_cases hij : j = i
              · subst hij
                have h1 : j < lh.size := by rw [inv.s2]; omega
                have h2 : j < listed.size := by rw [inv.s1]; omega
                simp [h1, h2]
              · rw [getD_set_ne true hij, getD_set_ne true hij]
                exact inv.same i hi
            · obtain ⟨v', -, hKv'⟩ := yieldsIn_of_qOp hoh ((hR W hW).2 j hj')
              have hKv2 : wpAnyQ P .any (l.take n).toArray (Beh w') (fun a' => a' = A) f (lh.setIfInBounds j true) (a.put oj.dst v) := hKv
              rw [put_pinned (md := .any) hdist hoh (by rw [inv.s2]; omega) hKv2 hKv']
              exact hKv'
        · -- the store
          have ej : j = n := by omega
          subst ej
          have hst' : st = false := by
            have := (mem_ready.1 hj).1
            rw [inv.sto] at this
            exact this
          subst hst'
          unfold wpOp
          simp only [ho']
          have hw : Region.wanted o (yielded l.toArray a.tmps) = true := by unfold Region.wanted; rw [hg]
          rw [if_pos hw]
          refine .inl ?_
          -- what it looks at is as it will be
          have look : ∀ d, d ∈ o.looksAt l.toArray → A.tmps[d]? = a.tmps[d]? := fun d hd => by
            refine pin d f lh a (hR w' hb) (fun i oi hi hli => ?_)
            intro hdd
            have hi' : i < j := by
              have := (Array.getElem?_eq_some_iff.1 hi).1
              rw [H.size] at this
              exact this
            have hol : l[i]? = some oi := by
              rw [H.same i hi'] at hi
              simpa using hi
            have h2 := List.all_eq_true.1 hlk i (List.mem_range.2 hi')
            rw [hol] at h2
            simp only [hdd, Bool.or_eq_true, Bool.not_eq_true', List.contains_eq_mem, decide_eq_false_iff_not] at h2
            rcases h2 with h2 | h2
            · exact h2 hd
            · obtain ⟨oj, hoj, e, he, hbn, hei⟩ := Region.waitsFor_spec h2
              have : oj = o := Option.some.inj (hoj.symm.trans ho')
              subst this
              obtain ⟨-, o2, ho2, hall⟩ := mem_ready.1 hj
              have : o2 = oj := Option.some.inj (ho2.symm.trans ho')
              subst this
              have h4 := hall e he hbn
              rw [hei] at h4
              rw [inv.same i hi'] at hli
              rw [getD_both hli] at h4
              cases h4
          have hex : execOp a.eval o = execOp A.eval o := by
            refine execOp_congr o (fun cs b => nosel j o cs b ho') fun x hx => ?_
            cases x with
            | tmp d =>
              have hd : d ∈ o.looksAt l.toArray := List.mem_append_left _ (List.mem_filterMap.2 ⟨.tmp d, by simpa using hx, rfl⟩)
              have e := look d hd
              unfold Act.eval
              simp [e]
            | _ => rfl
          obtain ⟨hrun, hz1, hb2⟩ := hst w' hb (h0 rfl)
          unfold Oper.wp
          rw [hex, hrun]
          simp only [Oper.upon]
          rw [hd0]
          have ea : a.put none undef = a := rfl
          rw [ea]
          refine ih f true lh (listed.setIfInBounds j true) a (put w') (by simp at hF ⊢; omega) ⟨by simp [inv.s1], inv.s2, fun i hi => by rw [getD_set_ne true (by omega)]; exact inv.same i hi, ?_, fun i hi hil => by rw [getD_set_ne true (by omega)]; exact inv.tail i hi hil, listed_cl inv.cl hj⟩ hb2 (fun e => by cases e) (fun _ => hz1) hR
          have : j < listed.size := by rw [inv.s1]; omega
          simp [this]
  refine wp_region_any hm ?_
  have R : ∀ W, D W → wpAnyQ P .any (l.take n).toArray (Beh W) (fun a' => a' = A) n (Array.replicate n false) a := fun W hW => by
    have q := wpAnyQ_lex (P := P) (C := Beh W) (md := .any) hlex.1 (l.take n) 0 (Array.replicate (l.take n).toArray.size false) a (by simp) (by simpa using hlex.2) (h W hW)
    rw [hl] at q
    have : (l.take n).toArray.size = n := by simpa using hl
    rw [this] at q
    exact q
  have t := main (n + 1) n false (Array.replicate n false) (Array.replicate l.length false) a w.drew (by simp) ⟨by simp, by simp, fun j hj => by simp [hj, show j < l.length by omega], by simp [show n < l.length by omega], fun j hj hjl => by simp [hjl], fun j oj _ hl => (by rw [getD_replicate_false] at hl; cases hl)⟩ hd (fun _ => hz) (fun e => by cases e) R
  have e : n + 1 + (l.length - (n + 1)) = l.toArray.size := by simp; omega
  rw [e] at t
  have e2 : l.length = l.toArray.size := by simp
  rw [e2] at t
  exact t

end
theorem Has2.keepB {w W : World} {b r : Nat} {x y : Value} (h : Has2 w b x y) (hb : Below r w W) (hlt : b < r) (hs : w.heap.size ≤ W.heap.size) : Has2 W b x y :=
  ⟨(hb.cell (p := ⟨b, 0, none⟩) hlt).trans h.1, (hb.cell (p := ⟨b, 1, none⟩) hlt).trans h.2.1, (hb.frozen (p := ⟨b, 0, none⟩) hlt).trans h.2.2.1, (hb.frozen (p := ⟨b, 1, none⟩) hlt).trans h.2.2.2.1, Nat.lt_of_lt_of_le h.2.2.2.2 hs⟩

/-- The store of an interval among quiet operations, over any class of worlds that calls and the store keep. -/
theorem tail_stored {id : Nat} {Q : Exit → Act → World → Prop} {a : Act} {w : World} {l : List Oper} {o : Oper} {A : Act} (n r : Nat) (z1 z2 v1 v2 : Value) (D : World → Prop) (hm : Tryz.prog.follows .mixedOrders = true) (hB : storeB l n = true) (ho : l[n]? = some o) (hR : Has2 w r z1 z2) (hd : D w.drew)
    (hD : ∀ (w1 w2 : World), D w1 → Below w1.heap.size w1 w2 → D w2) (hDp : ∀ W, D W → Has2 W r z1 z2 → D ((W.setCell ⟨r, 0, none⟩ v1).setCell ⟨r, 1, none⟩ v2))
    (h : ∀ W, D W → wpQuiet Tryz.prog (l.take n).toArray (fun w' => ∃ n : Behind W, w' = n.W) (fun a' => a' = A) (l.take n) a)
    (hst : ∀ W, Has2 W r z1 z2 → (execOp A.eval o).run Tryz.prog W = .ok .skip ((W.setCell ⟨r, 0, none⟩ v1).setCell ⟨r, 1, none⟩ v2))
    (hT : ∀ W, D W → Has2 W r v1 v2 → wpList Tryz.prog l.toArray Q (l.drop (n + 1)) A W) : (Code.region id l.toArray true).wp Tryz.prog Q a w :=
  region_store n o A D (fun W => Has2 W r z1 z2) (fun W => Has2 W r v1 v2) (fun W => (W.setCell ⟨r, 0, none⟩ v1).setCell ⟨r, 1, none⟩ v2) hm hB ho
    (fun W hb z => ⟨hst W z, z.put v1 v2, hDp W hb z⟩) hD (fun _ _ z hb => z.keep hb) (fun _ _ z hb => z.keep hb) hd hR.drew h hT

/-- The same where the block is the last of those that were there. -/
theorem tail_store {id : Nat} {Q : Exit → Act → World → Prop} {a : Act} {w : World} {l : List Oper} {o : Oper} {A : Act} (n r : Nat) (z1 z2 v1 v2 : Value) (hm : Tryz.prog.follows .mixedOrders = true) (hB : storeB l n = true) (ho : l[n]? = some o) (hR : Has2 w r z1 z2)
    (h : ∀ W, Below r w W → w.heap.size ≤ W.heap.size → wpQuiet Tryz.prog (l.take n).toArray (fun w' => ∃ n : Behind W, w' = n.W) (fun a' => a' = A) (l.take n) a)
    (hst : ∀ W, Has2 W r z1 z2 → (execOp A.eval o).run Tryz.prog W = .ok .skip ((W.setCell ⟨r, 0, none⟩ v1).setCell ⟨r, 1, none⟩ v2))
    (hT : ∀ W, Below r w W → w.heap.size ≤ W.heap.size → Has2 W r v1 v2 → wpList Tryz.prog l.toArray Q (l.drop (n + 1)) A W) : (Code.region id l.toArray true).wp Tryz.prog Q a w :=
  tail_stored n r z1 z2 v1 v2 (fun W => Below r w W ∧ w.heap.size ≤ W.heap.size) hm hB ho hR ⟨(Below.refl _ _).drew, Nat.le_refl _⟩
    (fun _ _ d hb => ⟨d.1.trans (hb.mono (Nat.le_trans (Nat.le_of_lt hR.2.2.2.2) d.2)), Nat.le_trans d.2 hb.size⟩)
    (fun W d _ => ⟨(d.1.setCell (p := ⟨r, 0, none⟩) (Nat.le_refl _) _).setCell (p := ⟨r, 1, none⟩) (Nat.le_refl _) _, by simpa only [World.size_setCell] using d.2⟩)
    (fun W d => h W d.1 d.2) hst (fun W d z => hT W d.1 d.2 z)

end Go.Proofs.YtnchhfhoaepjnaaGreat
