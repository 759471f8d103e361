/- TapeRights: for every tape, nil slices too; no condition. -/
import Derived.Test.YtfhccdpdjadepaaTh
namespace Go.Proofs.Ytfhccdpdjadepaa
open Go.ChangeShapes Go.WideShapes Go.ChangeAt Go.RowKit Go.Deep

theorem tapeRights_core (v : Int) (A : Option Addr) (n C : Nat) (D : Option Addr) (m E : Nat) (b : Bool) (X : Nat → Opw) (Y : Nat → Int) (w : World) (VX : Ops w A n X) (VY : Ins w D m Y)
    (c1 : ∀ w, Ops w A n X → Ins w D m Y → Calls Try.prog 5 #[tapeV v A n C D m E] w fun e w' => e = .returned (.int .i64 (errT b)) ∧ Below w.heap.size w w')
    (c2 : ∀ w, Ops w A n X → Ins w D m Y → Calls Try.prog 6 #[tapeV v A n C D m E] w fun e w' => e = .returned (.bool b) ∧ Below w.heap.size w w') :
    Calls Try.prog 3 #[tapeV v A n C D m E] w fun e w' => e = .returned (.bool true) ∧ Below w.heap.size w w' := by
  unfold tapeV at *
  have e0 : (w.alloc (Obj.cells #[.int .i64 v, .slice A n C, .slice D m E] 25)).cell? ⟨w.heap.size, 0, none⟩ = some (.int .i64 v) := by go_simp
  have e1 : (w.alloc (Obj.cells #[.int .i64 v, .slice A n C, .slice D m E] 25)).cell? ⟨w.heap.size, 1, none⟩ = some (.slice A n C) := by go_simp
  have e2 : (w.alloc (Obj.cells #[.int .i64 v, .slice A n C, .slice D m E] 25)).cell? ⟨w.heap.size, 2, none⟩ = some (.slice D m E) := by go_simp
  have es : w.heap.size < (w.alloc (Obj.cells #[.int .i64 v, .slice A n C, .slice D m E] 25)).heap.size := by go_size
  have eb : Below w.heap.size w (w.alloc (Obj.cells #[.int .i64 v, .slice A n C, .slice D m E] 25)) := by go_grown
  cases b
  case' false => rw [show errT false = 50 from rfl] at c1
  case' true => rw [show errT true = 0 from rfl] at c1
  all_goals
    go_enter Try.func3, Try.ntmps3
    go_wp2_with fail
    replace VX := VX.keep eb
    replace VY := VY.keep eb
    generalize w.alloc (Obj.cells #[.int .i64 v, .slice A n C, .slice D m E] 25) = wc at *
    first
      | (have k0 := fun n : Behind wc => n.cell e0 es
         have k1 := fun n : Behind wc => n.cell e1 es
         have k2 := fun n : Behind wc => n.cell e2 es
         refine region_behind (by kernel_rfl) (by kernel_rfl) ?_
         repeat (go_big_quiet_step (first | (go_at_call 5; with_reducible refine Behind.call (c1 _ (VX.keep (Behind.bel _)) (VY.keep (Behind.bel _)))) | (go_at_call 6; with_reducible refine Behind.call (c2 _ (VX.keep (Behind.bel _)) (VY.keep (Behind.bel _))))))
         refine wpQuiet_nil ?_
         rintro _ ⟨n, rfl⟩
         obtain ⟨W, hb⟩ := n
         go_wp2_with fail
         go_ret
         exact ⟨rfl, later eb hb⟩)
      | trace_state

theorem tapeRights_all (v : Int) (A : Option Addr) (n C : Nat) (D : Option Addr) (m E : Nat) (X : Nat → Opw) (Y : Nat → Int) (hn : n ≤ 9223372036854775807) (hm : m ≤ 9223372036854775807) (w : World) (VX : Ops w A n X) (VY : Ins w D m Y) :
    Calls Try.prog 3 #[tapeV v A n C D m E] w fun e w' => e = .returned (.bool true) ∧ Below w.heap.size w w' :=
  tapeRights_core v A n C D m E _ X Y w VX VY (fun w q r => right_t v A n C D m E X Y hn hm w q r) (fun w q r => rright_t v A n C D m E X Y w q r)

end Go.Proofs.Ytfhccdpdjadepaa

namespace Go.Proofs.Ytfhccdpdjadepaa.tapeRights
open Go.ChangeShapes Go.WideShapes Go.ChangeAt Go.RowKit Go.Deep

theorem own : ownKnob Try.prog.godebug = none := by kernel_rfl

set_option maxRecDepth 100000 in
theorem lifted (os : Os) (started : os.Started) (H : Type) (enc : TypeId × Value → H) :
    ReturnsInHanded {} Try.checked os 3 .any (Rows.tapeRightsSpec.pre6 enc Try.prog Try.f3 Rows.tapeRightsRow.domain false) (Rows.tapeRightsSpec.post enc Try.prog Try.f3 false true false false) := by
  refine returnsInHanded_of_change (C := Try.checked) own started (by kernel_rfl) Try.func3
    (ChangeSpec.witness6 (enc := enc) (C := Try.checked) false ⟨#[], #[.agg #[.int .i64 0, .slice none 0 0, .slice none 0 0]], []⟩ 8 (by kernel_rfl) (by kernel_rfl) (by kernel_rfl) (by kernel_rfl)) ?_
  intro W base args ds gs before hval0 hW hcnd _
  have hval : ∀ (j : Nat) t v, Try.f3.params[j]? = some t → args[j]? = some v → Value.okWide Try.prog W .any base t v := hval0
  have hW' := hW
  obtain ⟨p, q, hA0, hV, rfl, hfz, hnd⟩ := hW
  have hA : DataW.TrodAll enc Try.prog W 0 (fun _ => true) true Try.f3.params.toList args.toList ds p := hA0
  rw [Try.params3] at hA hval
  obtain ⟨v0, vs0, d0, ds0, p0, q0, hargs, rfl, rfl, h0, r0⟩ := trodAll_cons hA
  obtain ⟨rfl, rfl, rfl⟩ := trodAll_nil r0
  obtain rfl : args = #[v0] := by cases args; simp_all
  obtain ⟨rfl, rfl⟩ := trodVars_none hV
  have k0 := h0
  obtain ⟨u, A, n, C, D, m, E, X, Y, e0, hn, hm, VX, VY, -⟩ := open_tape (hval 0 25 v0 rfl rfl) h0
  clear hA0 hval0 hval hA
  rw [e0] at hW' k0 ⊢
  simp only [List.append_nil] at hW'
  have hlt : ∀ x, x ∈ p0 → x.block < W.heap.size := fun x hx => hW'.lt x (by simp [hx])
  refine (tapeRights_all u A n C D m E X Y hn hm W VX VY).mono fun e W' ⟨he, bel⟩ => ?_
  subst he
  have s0 := WideElems.Trod_stays (sp' := fun b => decide (b < W.heap.size)) Try.laidOut (by kernel_rfl) (of_decide_eq_true (by kernel_rfl)) k0 (fun x hx => bel.same (hlt x hx)) (fun x hx => by simpa using hlt x hx)
  exact ⟨_, rfl, _, _, _, [], _, [], hW', trodAll_mk1 (shut_bool Try.underlying4 _), trodAll_cons_mk s0 trodAll_mk0, rfl, bel.frame _, fun h => by cases h⟩

theorem over : Rows.tapeRightsRow.holds Try.pinned (OpenSpec.ofChange Rows.tapeRightsSpec) :=
  OpenClaim.holds_of_wide 3 Try.f3 rfl rfl rfl rfl rfl rfl rfl ⟨rfl, rfl, rfl, rfl, rfl⟩ rfl rfl rfl rfl rfl (by kernel_rfl) Try.func3 (by kernel_rfl)
    (of_decide_eq_true (by kernel_rfl)) (by unfold Func.isWrapper; first | (rw [if_pos (by decide +kernel)]; kernel_rfl) | (rw [if_neg (by decide +kernel)]; exact ⟨rfl, rfl⟩))
    (fun os started H enc _ => lifted os started H enc)

end Go.Proofs.Ytfhccdpdjadepaa.tapeRights

namespace Go.Proofs.Ytfhccdpdjadepaa
/-- THE STATEMENT -/
theorem tapeRights_proved : Rows.TapeRightsSaid := tapeRights.over
#print axioms tapeRights_proved
end Go.Proofs.Ytfhccdpdjadepaa
