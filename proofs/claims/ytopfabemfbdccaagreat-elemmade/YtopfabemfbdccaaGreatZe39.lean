/- Slopes: each closure that an operation's rule is. Slopes: what answers the closures. -/
import Derived.Test.YtopfabemfbdccaaGreatZe38
import Derived.Test.YtopfabemfbdccaaGreatZe28
namespace Go.Proofs.YtopfabemfbdccaaGreat
open Go.ChangeShapes Go.WideShapes Go.ChangeAt Go.RowKit
def Lit (g:FuncId) (caps:Array Value):Prop :=
 (g=194∧caps=#[])∨(∃x,g=195∧caps=#[x])∨(∃x y,g=197∧caps=#[x,y])∨(∃x y,g=198∧caps=#[x,y])∨(∃x y z u,g=199∧caps=#[x,y,z,u])∨(∃x y z u,g=200∧caps=#[x,y,z,u])∨(∃x,g=201∧caps=#[x])∨(∃x,g=205∧caps=#[x])∨(∃x y,g=242∧caps=#[x,y])∨(∃x y,g=243∧caps=#[x,y])
structure Bex (x:Nat) (w W:World):Prop where
 size:w.heap.size≤W.heap.size
 block:∀b,b<w.heap.size→b≠x→W.heap[b]?=w.heap[b]?
theorem Bex.set {x:Nat} {w W:World} (h:Bex x w W) (o:Nat) (v:Value):Bex x w (W.setCell ⟨x,o,none⟩ v):=⟨by rw [World.size_setCell];exact h.size,fun b hb hne=>by rw [Below.heap_setCell _ _ _ _ hne];exact h.block b hb hne⟩
theorem Bex.cell {x:Nat} {w W:World} (h:Bex x w W) {b o:Nat} {v:Value} (hc:w.cell? ⟨b,o,none⟩=some v) (hl:b<w.heap.size) (hne:b≠x):W.cell? ⟨b,o,none⟩=some v:=(World.cell?_of_block (w:=w) (h.block b hl hne)).trans hc
theorem Bex.frozen {x:Nat} {w W:World} (h:Bex x w W) {b o:Nat} (hc:w.frozen? ⟨b,o,none⟩=false) (hl:b<w.heap.size) (hne:b≠x):W.frozen? ⟨b,o,none⟩=false:=by
 unfold World.frozen? at *
 simp only [h.block b hl hne]
 exact hc
end Go.Proofs.YtopfabemfbdccaaGreat
