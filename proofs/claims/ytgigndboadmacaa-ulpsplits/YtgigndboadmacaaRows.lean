/-
  No cell of these rows narrows 'for every input' (looked for: loops, veiled, ifaces, maps, wideKeys, modest, calm, conditions, laid).
  DERIVED. THE GIVEN ROWS OF THIS SEAT. 5 by the template 'for every input the law returns true; each argument reads behind the call as it read before'; 0 by the template 'total and deterministic' (their statements: YtgigndboadmacaaTotals.lean).
  GIVEN WITH THE SEED: the statements are not yours to turn. If you find one false, say at which input.
  Laid BY PROGRAM, IN A SANDBOX (cutbox-rows.mjs): the forced cells as the released guide's own fill.sh prints them over the translation 8b79bb09bae64789… (all of the seat's roots in one cut). By AI agents, Wed Nov 11 2026. No macro, syntax, notation, axiom, sorry.
-/
import Derived.Test.YtgigndboadmacaaChecked
import GoSem.Claim
import GoSem.ClaimJoined
import GoSem.ClaimMapViews
import Derived.JoinedTies
import Derived.KernelRfl
namespace Go.Proofs.Ytgigndboadmacaa
/- THE CELL 'sum', in the pinned program and in every row, IS THE sha256 OF THE DUMP (.gsa) THAT YtgigndboadmacaaProg.lean LOADS. Nothing in Lean hashes anything: it is a label: what it is worth is what the hold of that sum in a sandbox is worth. -/
noncomputable def Try.pinned : Pinned := { name := "ytgigndboadmacaa", sum := "8b79bb09bae6478913e3a25469918e68dff02c71bae109cc797c636241914cad", checked := Try.checked }
namespace Rows
def none {H : Type} : Left H := { results := [], args := [] }

/-- 'orrerylaw01.UlpSplits': WHATEVER THE INPUT: true; the input reads as it did. -/
def ulpSplitsSpec : ChangeSpec := { name := "ulpSplits", fn := fun _ => fun
  | [d1, d2, d3] => { results := [.lit (.bool true)], args := [d1, d2, d3] }
  | _ => none }
def ulpSplitsRow : OpenClaim := { program := "ytgigndboadmacaa", sum := "8b79bb09bae6478913e3a25469918e68dff02c71bae109cc797c636241914cad", func := "orrery/orrerylaw01.UlpSplits", spec := "ulpSplits", inPlace := ["math.Float64bits", "math.Float64frombits"], apart := false }
def UlpSplitsSaid : Prop := ulpSplitsRow.holds Try.pinned (OpenSpec.ofChange ulpSplitsSpec)

/-- ITS FALSE NEIGHBOUR: 'it returns false'. Refute it at one input. -/
def ulpSplitsWrong : ChangeSpec := { name := "ulpSplits", fn := fun _ => fun
  | [d1, d2, d3] => { results := [.lit (.bool false)], args := [d1, d2, d3] }
  | _ => none }
def UlpSplitsWrongFalsely : Prop := ulpSplitsRow.holds Try.pinned (OpenSpec.ofChange ulpSplitsWrong)

/-- 'orrerylaw01.UlpSums': WHATEVER THE INPUT: true; the input reads as it did. -/
def ulpSumsSpec : ChangeSpec := { name := "ulpSums", fn := fun _ => fun
  | [d1, d2, d3] => { results := [.lit (.bool true)], args := [d1, d2, d3] }
  | _ => none }
def ulpSumsRow : OpenClaim := { program := "ytgigndboadmacaa", sum := "8b79bb09bae6478913e3a25469918e68dff02c71bae109cc797c636241914cad", func := "orrery/orrerylaw01.UlpSums", spec := "ulpSums", inPlace := ["math.Float64bits", "math.Float64frombits"], apart := false }
def UlpSumsSaid : Prop := ulpSumsRow.holds Try.pinned (OpenSpec.ofChange ulpSumsSpec)

/-- ITS FALSE NEIGHBOUR: 'it returns false'. Refute it at one input. -/
def ulpSumsWrong : ChangeSpec := { name := "ulpSums", fn := fun _ => fun
  | [d1, d2, d3] => { results := [.lit (.bool false)], args := [d1, d2, d3] }
  | _ => none }
def UlpSumsWrongFalsely : Prop := ulpSumsRow.holds Try.pinned (OpenSpec.ofChange ulpSumsWrong)

/-- 'orrerylaw01.UlpProducts': WHATEVER THE INPUT: true; the input reads as it did. -/
def ulpProductsSpec : ChangeSpec := { name := "ulpProducts", fn := fun _ => fun
  | [d1, d2, d3] => { results := [.lit (.bool true)], args := [d1, d2, d3] }
  | _ => none }
def ulpProductsRow : OpenClaim := { program := "ytgigndboadmacaa", sum := "8b79bb09bae6478913e3a25469918e68dff02c71bae109cc797c636241914cad", func := "orrery/orrerylaw01.UlpProducts", spec := "ulpProducts", inPlace := ["math.Float64frombits", "math.Float64bits"], apart := false }
def UlpProductsSaid : Prop := ulpProductsRow.holds Try.pinned (OpenSpec.ofChange ulpProductsSpec)

/-- ITS FALSE NEIGHBOUR: 'it returns false'. Refute it at one input. -/
def ulpProductsWrong : ChangeSpec := { name := "ulpProducts", fn := fun _ => fun
  | [d1, d2, d3] => { results := [.lit (.bool false)], args := [d1, d2, d3] }
  | _ => none }
def UlpProductsWrongFalsely : Prop := ulpProductsRow.holds Try.pinned (OpenSpec.ofChange ulpProductsWrong)

/-- 'orrerylaw01.UlpQuotients': WHATEVER THE INPUT: true; the input reads as it did. -/
def ulpQuotientsSpec : ChangeSpec := { name := "ulpQuotients", fn := fun _ => fun
  | [d1, d2, d3] => { results := [.lit (.bool true)], args := [d1, d2, d3] }
  | _ => none }
def ulpQuotientsRow : OpenClaim := { program := "ytgigndboadmacaa", sum := "8b79bb09bae6478913e3a25469918e68dff02c71bae109cc797c636241914cad", func := "orrery/orrerylaw01.UlpQuotients", spec := "ulpQuotients", inPlace := ["math.Float64frombits", "math.Float64bits"], named := ["math/bits.divideError", "math/bits.overflowError"], apart := false }
def UlpQuotientsSaid : Prop := ulpQuotientsRow.holds Try.pinned (OpenSpec.ofChange ulpQuotientsSpec)

/-- ITS FALSE NEIGHBOUR: 'it returns false'. Refute it at one input. -/
def ulpQuotientsWrong : ChangeSpec := { name := "ulpQuotients", fn := fun _ => fun
  | [d1, d2, d3] => { results := [.lit (.bool false)], args := [d1, d2, d3] }
  | _ => none }
def UlpQuotientsWrongFalsely : Prop := ulpQuotientsRow.holds Try.pinned (OpenSpec.ofChange ulpQuotientsWrong)

/-- 'orrerylaw01.UlpRoots': WHATEVER THE INPUT: true; the input reads as it did. -/
def ulpRootsSpec : ChangeSpec := { name := "ulpRoots", fn := fun _ => fun
  | [d1, d2] => { results := [.lit (.bool true)], args := [d1, d2] }
  | _ => none }
def ulpRootsRow : OpenClaim := { program := "ytgigndboadmacaa", sum := "8b79bb09bae6478913e3a25469918e68dff02c71bae109cc797c636241914cad", func := "orrery/orrerylaw01.UlpRoots", spec := "ulpRoots", inPlace := ["math.Float64frombits", "math.Float64bits"], apart := false }
def UlpRootsSaid : Prop := ulpRootsRow.holds Try.pinned (OpenSpec.ofChange ulpRootsSpec)

/-- ITS FALSE NEIGHBOUR: 'it returns false'. Refute it at one input. -/
def ulpRootsWrong : ChangeSpec := { name := "ulpRoots", fn := fun _ => fun
  | [d1, d2] => { results := [.lit (.bool false)], args := [d1, d2] }
  | _ => none }
def UlpRootsWrongFalsely : Prop := ulpRootsRow.holds Try.pinned (OpenSpec.ofChange ulpRootsWrong)

/- THE SECOND FORM. 'bulk': how many values and letters a reading holds, each counted each time it is reached (what is shared counts as often as it is met; a slice's spare places count too). A statement '..UptoSaid' is the law's where the arguments, and the package variables that the reading takes, are together of bulk at most 1048576: NARROWER than '..Said'. Prove '..Said' where nothing that the law and all that it calls make is longer than what came in: it says more and counts as full. Else prove '..UptoSaid'. A law counts once. -/
mutual
def uptoBulk {H : Type} : DataW H → Nat
  | .lit (.string bytes) => bytes.length + 1
  | .lit _ => 1
  | .nil => 1
  | .ptr d => uptoBulk d + 1
  | .slice elems spare => uptoBulkAll elems + uptoBulkAll spare + 1
  | .agg parts => uptoBulkAll parts + 1
  | .iface _ d => uptoBulk d + 1
  | .map entries => uptoBulkEntries entries + 1
  | .held _ => 1
def uptoBulkAll {H : Type} : List (DataW H) → Nat
  | [] => 0
  | d :: r => uptoBulk d + uptoBulkAll r
def uptoBulkEntries {H : Type} : List (Lit × DataW H) → Nat
  | [] => 0
  | x :: r => uptoBulkEntry x + uptoBulkEntries r
def uptoBulkEntry {H : Type} : Lit × DataW H → Nat
  | (.string bytes, d) => bytes.length + uptoBulk d + 1
  | (_, d) => uptoBulk d + 1
 end
def uptoSmall : (H : Type) → List (DataW H) → Bool := fun _ ds => decide (uptoBulkAll ds ≤ 1048576)
def OpenSpec.upto (s : _root_.Go.ChangeSpec) : _root_.Go.OpenSpec := { _root_.Go.OpenSpec.ofChange s with cond := some uptoSmall }

/-- 'orrerylaw01.UlpSplits', WHERE WHAT IT READS IS OF BULK AT MOST 1048576: true; the input reads as it did. -/
def ulpSplitsUptoRow : OpenClaim := { program := "ytgigndboadmacaa", sum := "8b79bb09bae6478913e3a25469918e68dff02c71bae109cc797c636241914cad", func := "orrery/orrerylaw01.UlpSplits", spec := "ulpSplits", inPlace := ["math.Float64bits", "math.Float64frombits"], apart := false, narrowed := true }
def UlpSplitsUptoSaid : Prop := ulpSplitsUptoRow.holds Try.pinned (OpenSpec.upto ulpSplitsSpec)

/-- 'orrerylaw01.UlpSums', WHERE WHAT IT READS IS OF BULK AT MOST 1048576: true; the input reads as it did. -/
def ulpSumsUptoRow : OpenClaim := { program := "ytgigndboadmacaa", sum := "8b79bb09bae6478913e3a25469918e68dff02c71bae109cc797c636241914cad", func := "orrery/orrerylaw01.UlpSums", spec := "ulpSums", inPlace := ["math.Float64bits", "math.Float64frombits"], apart := false, narrowed := true }
def UlpSumsUptoSaid : Prop := ulpSumsUptoRow.holds Try.pinned (OpenSpec.upto ulpSumsSpec)

/-- 'orrerylaw01.UlpProducts', WHERE WHAT IT READS IS OF BULK AT MOST 1048576: true; the input reads as it did. -/
def ulpProductsUptoRow : OpenClaim := { program := "ytgigndboadmacaa", sum := "8b79bb09bae6478913e3a25469918e68dff02c71bae109cc797c636241914cad", func := "orrery/orrerylaw01.UlpProducts", spec := "ulpProducts", inPlace := ["math.Float64frombits", "math.Float64bits"], apart := false, narrowed := true }
def UlpProductsUptoSaid : Prop := ulpProductsUptoRow.holds Try.pinned (OpenSpec.upto ulpProductsSpec)

/-- 'orrerylaw01.UlpQuotients', WHERE WHAT IT READS IS OF BULK AT MOST 1048576: true; the input reads as it did. -/
def ulpQuotientsUptoRow : OpenClaim := { program := "ytgigndboadmacaa", sum := "8b79bb09bae6478913e3a25469918e68dff02c71bae109cc797c636241914cad", func := "orrery/orrerylaw01.UlpQuotients", spec := "ulpQuotients", inPlace := ["math.Float64frombits", "math.Float64bits"], named := ["math/bits.divideError", "math/bits.overflowError"], apart := false, narrowed := true }
def UlpQuotientsUptoSaid : Prop := ulpQuotientsUptoRow.holds Try.pinned (OpenSpec.upto ulpQuotientsSpec)

/-- 'orrerylaw01.UlpRoots', WHERE WHAT IT READS IS OF BULK AT MOST 1048576: true; the input reads as it did. -/
def ulpRootsUptoRow : OpenClaim := { program := "ytgigndboadmacaa", sum := "8b79bb09bae6478913e3a25469918e68dff02c71bae109cc797c636241914cad", func := "orrery/orrerylaw01.UlpRoots", spec := "ulpRoots", inPlace := ["math.Float64frombits", "math.Float64bits"], apart := false, narrowed := true }
def UlpRootsUptoSaid : Prop := ulpRootsUptoRow.holds Try.pinned (OpenSpec.upto ulpRootsSpec)

end Rows
end Go.Proofs.Ytgigndboadmacaa
