/-
  No cell of these rows narrows 'for every input' (looked for: loops, veiled, ifaces, maps, wideKeys, modest, calm, conditions, laid).
  DERIVED. THE GIVEN ROWS OF THIS SEAT. 4 by the template 'for every input the law returns true; each argument reads behind the call as it read before'; 0 by the template 'total and deterministic' (their statements: YtnnfafilgiajoaaGreatTotals.lean).
  GIVEN WITH THE SEED: the statements are not yours to turn. If you find one false, say at which input.
  Laid BY PROGRAM, IN A SANDBOX (cutbox-rows.mjs): the forced cells as the released guide's own fill.sh prints them over the translation 9e61036d89d8973f… (all of the seat's roots in one cut). By AI agents, Wed Nov 11 2026. No macro, syntax, notation, axiom, sorry.
-/
import Derived.Test.YtnnfafilgiajoaaGreatChecked
import GoSem.Claim
import GoSem.ClaimJoined
import GoSem.ClaimMapViews
import Derived.JoinedTies
import Derived.KernelRfl
namespace Go.Proofs.YtnnfafilgiajoaaGreat
/- THE CELL 'sum', in the pinned program and in every row, IS THE sha256 OF THE DUMP (.gsa) THAT YtnnfafilgiajoaaGreatProg.lean LOADS. Nothing in Lean hashes anything: it is a label: what it is worth is what the hold of that sum in a sandbox is worth. -/
noncomputable def Tryz.pinned : Pinned := { name := "ytnnfafilgiajoaagreat", sum := "9e61036d89d8973f2241752ac3bed199bf06a0c31c2feae8d3904722b983af35", checked := Tryz.checked }
namespace Rows
def none {H : Type} : Left H := { results := [], args := [] }

/-- 'orrerylaw08.PicardBounds': WHATEVER THE INPUT: true; the input reads as it did. -/
def picardBoundsSpec : ChangeSpec := { name := "picardBounds", fn := fun _ => fun
  | [d1, d2, d3] => { results := [.lit (.bool true)], args := [d1, d2, d3] }
  | _ => none }
def picardBoundsRow : OpenClaim := { program := "ytnnfafilgiajoaagreat", sum := "9e61036d89d8973f2241752ac3bed199bf06a0c31c2feae8d3904722b983af35", func := "orrery/orrerylaw08.PicardBounds", spec := "picardBounds", inPlace := ["math.Float64frombits", "math.Float64bits"], unfollowed := true, recurses := true, named := ["math/bits.divideError", "math/bits.overflowError"], apart := false }
def PicardBoundsSaid : Prop := picardBoundsRow.holds Tryz.pinned (OpenSpec.ofChange picardBoundsSpec)

/-- ITS FALSE NEIGHBOUR: 'it returns false'. Refute it at one input. -/
def picardBoundsWrong : ChangeSpec := { name := "picardBounds", fn := fun _ => fun
  | [d1, d2, d3] => { results := [.lit (.bool false)], args := [d1, d2, d3] }
  | _ => none }
def PicardBoundsWrongFalsely : Prop := picardBoundsRow.holds Tryz.pinned (OpenSpec.ofChange picardBoundsWrong)

/-- 'orrerylaw08.PicardFinds': WHATEVER THE INPUT: true; the input reads as it did. -/
def picardFindsSpec : ChangeSpec := { name := "picardFinds", fn := fun _ => fun
  | [d1, d2, d3] => { results := [.lit (.bool true)], args := [d1, d2, d3] }
  | _ => none }
def picardFindsRow : OpenClaim := { program := "ytnnfafilgiajoaagreat", sum := "9e61036d89d8973f2241752ac3bed199bf06a0c31c2feae8d3904722b983af35", func := "orrery/orrerylaw08.PicardFinds", spec := "picardFinds", inPlace := ["math.Float64frombits", "math.Float64bits"], unfollowed := true, recurses := true, named := ["math/bits.divideError", "math/bits.overflowError"], apart := false }
def PicardFindsSaid : Prop := picardFindsRow.holds Tryz.pinned (OpenSpec.ofChange picardFindsSpec)

/-- ITS FALSE NEIGHBOUR: 'it returns false'. Refute it at one input. -/
def picardFindsWrong : ChangeSpec := { name := "picardFinds", fn := fun _ => fun
  | [d1, d2, d3] => { results := [.lit (.bool false)], args := [d1, d2, d3] }
  | _ => none }
def PicardFindsWrongFalsely : Prop := picardFindsRow.holds Tryz.pinned (OpenSpec.ofChange picardFindsWrong)

/-- 'orrerylaw08.PicardShorter': WHATEVER THE INPUT: true; the input reads as it did. -/
def picardShorterSpec : ChangeSpec := { name := "picardShorter", fn := fun _ => fun
  | [d1, d2, d3, d4] => { results := [.lit (.bool true)], args := [d1, d2, d3, d4] }
  | _ => none }
def picardShorterRow : OpenClaim := { program := "ytnnfafilgiajoaagreat", sum := "9e61036d89d8973f2241752ac3bed199bf06a0c31c2feae8d3904722b983af35", func := "orrery/orrerylaw08.PicardShorter", spec := "picardShorter", inPlace := ["math.Float64frombits", "math.Float64bits"], unfollowed := true, recurses := true, named := ["math/bits.divideError", "math/bits.overflowError"], apart := false }
def PicardShorterSaid : Prop := picardShorterRow.holds Tryz.pinned (OpenSpec.ofChange picardShorterSpec)

/-- ITS FALSE NEIGHBOUR: 'it returns false'. Refute it at one input. -/
def picardShorterWrong : ChangeSpec := { name := "picardShorter", fn := fun _ => fun
  | [d1, d2, d3, d4] => { results := [.lit (.bool false)], args := [d1, d2, d3, d4] }
  | _ => none }
def PicardShorterWrongFalsely : Prop := picardShorterRow.holds Tryz.pinned (OpenSpec.ofChange picardShorterWrong)

/-- 'orrerylaw08.PicardLines': WHATEVER THE INPUT: true; the input reads as it did. -/
def picardLinesSpec : ChangeSpec := { name := "picardLines", fn := fun _ => fun
  | [d1, d2, d3] => { results := [.lit (.bool true)], args := [d1, d2, d3] }
  | _ => none }
def picardLinesRow : OpenClaim := { program := "ytnnfafilgiajoaagreat", sum := "9e61036d89d8973f2241752ac3bed199bf06a0c31c2feae8d3904722b983af35", func := "orrery/orrerylaw08.PicardLines", spec := "picardLines", inPlace := ["math.Float64frombits", "math.Float64bits"], unfollowed := true, recurses := true, named := ["math/bits.divideError", "math/bits.overflowError"], apart := false }
def PicardLinesSaid : Prop := picardLinesRow.holds Tryz.pinned (OpenSpec.ofChange picardLinesSpec)

/-- ITS FALSE NEIGHBOUR: 'it returns false'. Refute it at one input. -/
def picardLinesWrong : ChangeSpec := { name := "picardLines", fn := fun _ => fun
  | [d1, d2, d3] => { results := [.lit (.bool false)], args := [d1, d2, d3] }
  | _ => none }
def PicardLinesWrongFalsely : Prop := picardLinesRow.holds Tryz.pinned (OpenSpec.ofChange picardLinesWrong)

/- THE SECOND FORM. 'bulk': how many values and letters a reading holds, each counted each time it is reached (what is shared counts as often as it is met; a slice's spare places count too). A statement '..UptoSaid' is the law's where the arguments, and the package variables that the reading takes, are together of bulk at most 1048576: NARROWER than '..Said'. Prove '..Said' where nothing that the law and all that it calls make is longer than what came in: it says more and counts as full. Else prove '..UptoSaid'. A law counts once. -/
mutual
def uptoBulk {H : Type} : DataW H → Nat
  | .lit (.string bytes) => bytes.length + 1
  | .lit _ => 1
  | .nil => 1
  | .ptr d => uptoBulk d + 1
  | .slice elems spare => uptoBulkAll elems + uptoBulkAll spare + 1
  | .agg parts => uptoBulkAll parts + 1
  | .iface _ d => uptoBulk d + 1
  | .map entries => uptoBulkEntries entries + 1
  | .held _ => 1
def uptoBulkAll {H : Type} : List (DataW H) → Nat
  | [] => 0
  | d :: r => uptoBulk d + uptoBulkAll r
def uptoBulkEntries {H : Type} : List (Lit × DataW H) → Nat
  | [] => 0
  | x :: r => uptoBulkEntry x + uptoBulkEntries r
def uptoBulkEntry {H : Type} : Lit × DataW H → Nat
  | (.string bytes, d) => bytes.length + uptoBulk d + 1
  | (_, d) => uptoBulk d + 1
 end
def uptoSmall : (H : Type) → List (DataW H) → Bool := fun _ ds => decide (uptoBulkAll ds ≤ 1048576)
def OpenSpec.upto (s : _root_.Go.ChangeSpec) : _root_.Go.OpenSpec := { _root_.Go.OpenSpec.ofChange s with cond := some uptoSmall }

/-- 'orrerylaw08.PicardBounds', WHERE WHAT IT READS IS OF BULK AT MOST 1048576: true; the input reads as it did. -/
def picardBoundsUptoRow : OpenClaim := { program := "ytnnfafilgiajoaagreat", sum := "9e61036d89d8973f2241752ac3bed199bf06a0c31c2feae8d3904722b983af35", func := "orrery/orrerylaw08.PicardBounds", spec := "picardBounds", inPlace := ["math.Float64frombits", "math.Float64bits"], unfollowed := true, recurses := true, named := ["math/bits.divideError", "math/bits.overflowError"], apart := false, narrowed := true }
def PicardBoundsUptoSaid : Prop := picardBoundsUptoRow.holds Tryz.pinned (OpenSpec.upto picardBoundsSpec)

/-- 'orrerylaw08.PicardFinds', WHERE WHAT IT READS IS OF BULK AT MOST 1048576: true; the input reads as it did. -/
def picardFindsUptoRow : OpenClaim := { program := "ytnnfafilgiajoaagreat", sum := "9e61036d89d8973f2241752ac3bed199bf06a0c31c2feae8d3904722b983af35", func := "orrery/orrerylaw08.PicardFinds", spec := "picardFinds", inPlace := ["math.Float64frombits", "math.Float64bits"], unfollowed := true, recurses := true, named := ["math/bits.divideError", "math/bits.overflowError"], apart := false, narrowed := true }
def PicardFindsUptoSaid : Prop := picardFindsUptoRow.holds Tryz.pinned (OpenSpec.upto picardFindsSpec)

/-- 'orrerylaw08.PicardShorter', WHERE WHAT IT READS IS OF BULK AT MOST 1048576: true; the input reads as it did. -/
def picardShorterUptoRow : OpenClaim := { program := "ytnnfafilgiajoaagreat", sum := "9e61036d89d8973f2241752ac3bed199bf06a0c31c2feae8d3904722b983af35", func := "orrery/orrerylaw08.PicardShorter", spec := "picardShorter", inPlace := ["math.Float64frombits", "math.Float64bits"], unfollowed := true, recurses := true, named := ["math/bits.divideError", "math/bits.overflowError"], apart := false, narrowed := true }
def PicardShorterUptoSaid : Prop := picardShorterUptoRow.holds Tryz.pinned (OpenSpec.upto picardShorterSpec)

/-- 'orrerylaw08.PicardLines', WHERE WHAT IT READS IS OF BULK AT MOST 1048576: true; the input reads as it did. -/
def picardLinesUptoRow : OpenClaim := { program := "ytnnfafilgiajoaagreat", sum := "9e61036d89d8973f2241752ac3bed199bf06a0c31c2feae8d3904722b983af35", func := "orrery/orrerylaw08.PicardLines", spec := "picardLines", inPlace := ["math.Float64frombits", "math.Float64bits"], unfollowed := true, recurses := true, named := ["math/bits.divideError", "math/bits.overflowError"], apart := false, narrowed := true }
def PicardLinesUptoSaid : Prop := picardLinesUptoRow.holds Tryz.pinned (OpenSpec.upto picardLinesSpec)

end Rows
end Go.Proofs.YtnnfafilgiajoaaGreat
