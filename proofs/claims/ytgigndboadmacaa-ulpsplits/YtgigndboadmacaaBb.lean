/- The reference's whole numbers of any length: how one lies in memory; the walks of trim and Of. -/
import Derived.Test.YtgigndboadmacaaWg
import Derived.Test.YtgigndboadmacaaBa
import Derived.Deep.LoopGhost
import Derived.Handy
import Derived.BigQuiet
namespace Go.Proofs.Ytgigndboadmacaa
open Go.ChangeShapes Go.WideShapes Go.ChangeAt Go.RowKit

def u32s (ds : List Nat) : List Value := ds.map fun (d : Nat) => Value.int .u32 (d : Int)

/-- The value v is, in w, the digits ds. -/
def Row (w : World) (v : Value) (ds : List Nat) : Prop := w.ownsRow 0 65 1 v ds.length (u32s ds)

/-- The value v is, in w, the whole number n. -/
def BigIs (w : World) (v : Value) (n : Nat) : Prop := ∃ ds, Digs ds ∧ Trimmed ds ∧ natOf ds = n ∧ Row w v ds

theorem Try.info32 : (Try.prog.info? 65).map (fun i => (i.zero, i.size, i.bytes)) = some (some (.int .u32 0), 1, 4) := by kernel_rfl

theorem Row.keep {w w' : World} {v : Value} {ds : List Nat} (h : Row w v ds) (hb : Below w.heap.size w w') : Row w' v ds := by
  refine ⟨h.1, ?_⟩
  rcases h.2 with hn | ⟨g, cap, cur, rfl, hb2, hgg, rest⟩
  · exact .inl hn
  · refine .inr ⟨g, cap, cur, rfl, hb2, ?_, rest⟩
    rw [hb.block g (Array.getElem?_eq_some_iff.1 hgg).1]
    exact hgg

theorem BigIs.keep {w w' : World} {v : Value} {n : Nat} (h : BigIs w v n) (hb : Below w.heap.size w w') : BigIs w' v n := by
  obtain ⟨ds, h1, h2, h3, h4⟩ := h
  exact ⟨ds, h1, h2, h3, h4.keep hb⟩

/-- A row's shape: nil, or the head of a block, with its cells. -/
theorem Row.form {w : World} {v : Value} {ds : List Nat} (h : Row w v ds) :
    (v = .slice none 0 0 ∧ ds = []) ∨ ∃ g cap, v = .slice (some ⟨g, 0, none⟩) ds.length cap ∧ ds.length ≤ cap ∧ cap ≤ maxLen ∧ g < w.heap.size ∧
      ∀ j, j < ds.length → w.cell? ⟨g, j, none⟩ = some (.int .u32 (ds.getD j 0 : Int)) := by
  rcases h.2 with ⟨hv, h0⟩ | ⟨g, cap, cur, hv, hb2, hgg, hc1, hc2, hsz, htk⟩
  · exact .inl ⟨hv, List.eq_nil_of_length_eq_zero h0⟩
  · refine .inr ⟨g, cap, hv, hc1, hc2, (Array.getElem?_eq_some_iff.1 hgg).1, fun j hj => ?_⟩
    have hu : (u32s ds)[j]? = some (.int .u32 (ds.getD j 0 : Int)) := by
      unfold u32s
      rw [List.getElem?_map, List.getElem?_eq_getElem hj, List.getD_eq_getElem?_getD, List.getElem?_eq_getElem hj]; rfl
    have := World.ownsRow.cells h (g := g) (by rw [hv]; rfl) j _ hu
    have hadd : (⟨g, 0, none⟩ : Addr).add j = ⟨g, j, none⟩ := by unfold Addr.add; split <;> simp_all
    rw [hadd] at this
    exact this

/-- The first k digits of a row. -/
theorem Row.cut {w : World} {g cap : Nat} {ds : List Nat} (h : Row w (.slice (some ⟨g, 0, none⟩) ds.length cap) ds) {k : Nat} (hk : k ≤ ds.length) : Row w (.slice (some ⟨g, 0, none⟩) k cap) (ds.take k) := by
  rcases h.2 with ⟨hv, h0⟩ | ⟨g', cap', cur, hv, hb2, hgg, hc1, hc2, hsz, htk⟩
  · cases hv
  · cases hv
    have hl : (ds.take k).length = k := by rw [List.length_take, Nat.min_eq_left hk]
    refine ⟨by simp [u32s], .inr ⟨g, cap, cur, by rw [hl], hb2, hgg, by omega, hc2, hsz, ?_⟩⟩
    rw [hl, Nat.mul_one]
    rw [Nat.mul_one] at htk
    have : cur.toList.take k = (cur.toList.take ds.length).take k := by rw [List.take_take, Nat.min_eq_left hk]
    rw [this, htk]
    simp [u32s, List.map_take]

set_option maxHeartbeats 800000 in
theorem trim_w (v : Value) (ds : List Nat) (hd : Digs ds) (hl : ds.length ≤ 1000000) (w : World) (h : Row w v ds) :
    Calls Try.prog 51 #[v] w fun e w' => (∃ v', e = .returned v' ∧ BigIs w v' (natOf ds)) ∧ w = w' := by
  rcases h.form with ⟨rfl, rfl⟩ | ⟨g, cap, rfl, hc1, hc2, hg, hc⟩
  · go_enter Try.func51, Try.ntmps51
    go_wp2
    refine wp_loop_rounds 1 ?_
    rw [rounds_succ]
    go_wp2
    go_ret
    exact ⟨⟨_, rfl, [], Digs.nil, trimmed_nil, rfl, h⟩, rfl⟩
  · go_enter Try.func51, Try.ntmps51
    go_wp2
    go_loopg [0] ds.length (fun G s wx => w = wx ∧ ∃ k : Nat, k ≤ ds.length ∧ k ≤ G ∧ s = .slice (some ⟨g, 0, none⟩) k cap ∧ natOf (ds.take k) = natOf ds)
    case atStart => exact ⟨rfl, ds.length, Nat.le_refl _, Nat.le_refl _, rfl, natOf_take_ge ds (Nat.le_refl _)⟩
    case round =>
      obtain ⟨rfl, k, hk, hkG, rfl, hn⟩ := hrel
      rcases Nat.eq_zero_or_pos k with rfl | hk0
      · go_wp2
        go_ret
        exact ⟨⟨_, rfl, [], Digs.nil, trimmed_nil, by rw [← hn]; rfl, h.cut hk⟩, rfl⟩
      · obtain ⟨j, rfl⟩ : ∃ j, k = j + 1 := ⟨k - 1, by omega⟩
        have hcell := hc j (by omega)
        have hdl := hd.getD j
        have h1 : ((j : Int) + 1) - 1 = (j : Int) := by omega
        by_cases hz : ds.getD j 0 = 0
        · rw [hz] at hcell
          go_wp2
          go_roundg j
          case measure => omega
          case rel => exact ⟨rfl, j, by omega, Nat.le_refl _, rfl, (trim_step ds (by omega) hz).trans hn⟩
        · have HT := trim_end ds (by omega) hz
          generalize ds.getD j 0 = D at *
          have hz2 : ((D : Int) == 0) = false := by rw [beq_eq_false_iff_ne]; omega
          go_wp2
          go_ret
          exact ⟨⟨_, rfl, _, hd.take _, HT, hn, h.cut hk⟩, rfl⟩

theorem Row.made {w : World} {g cap : Nat} {cur : Array Value} {ds : List Nat} (hgg : w.heap[g]? = some (.cells cur 65 (0, 0))) (hc1 : ds.length ≤ cap) (hc2 : cap ≤ maxLen) (hsz : cur.size = cap) (htk : cur.toList.take ds.length = u32s ds) : Row w (.slice (some ⟨g, 0, none⟩) ds.length cap) ds :=
  ⟨by simp [u32s], .inr ⟨g, cap, cur, rfl, Nat.zero_le _, hgg, hc1, hc2, by omega, by simpa using htk⟩⟩

set_option maxHeartbeats 800000 in
theorem of_w (n : Nat) (hn : n < 18446744073709551616) (w : World) :
    Calls Try.prog 32 #[.int .u64 n] w fun e w' => (∃ v', e = .returned v' ∧ BigIs w' v' n) ∧ Below w.heap.size w w' := by
  have e1 : ∃ a : Nat, IntKind.u32.wrap (n : Int) = (a : Int) ∧ a = n % 4294967296 := ⟨n % 4294967296, by simp [IntKind.wrap, IntKind.bits, IntKind.signed], rfl⟩
  have e2 : ∃ a : Nat, (n : Int) / 4294967296 = (a : Int) ∧ a = n / 4294967296 := ⟨n / 4294967296, by omega, rfl⟩
  obtain ⟨a, e1, ha⟩ := e1
  obtain ⟨b, e2, hb⟩ := e2
  have hab : natOf [a, b] = n := by simp [natOf]; omega
  have hd : Digs [a, b] := fun d hd => by simp at hd; omega
  clear ha hb
  go_enter Try.func32, Try.ntmps32
  have hr : Row (w.alloc (.cells #[.int .u32 a, .int .u32 b] 65)) (.slice (some ⟨w.heap.size, 0, none⟩) 2 2) [a, b] := Row.made (heap_alloc_new w _) (by simp) (by unfold maxLen; simp) (by simp) (by simp [u32s])
  go_wp2_with (go_at_call 51; refine (trim_w _ [a, b] hd (by simp) _ hr).mono ?_; rintro _ _ ⟨⟨v, rfl, hv⟩, rfl⟩)
  rw [hab] at hv
  go_ret
  exact ⟨⟨_, rfl, hv⟩, by go_grown⟩

end Go.Proofs.Ytgigndboadmacaa
