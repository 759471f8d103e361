/- The reference's whole numbers of any length: how one lies in memory; the walks of trim and Of. The walks of the reference's Cmp and Bits. The reference's Plus and Less: a digit appended; the walks. The walk of the reference's Less. The walk of the reference's Left. The walk of the reference's By. -/
import Derived.Test.YtopfabemfbdccaaGreatZk03
import Derived.Deep.LoopGhost
import Derived.Handy
import Derived.BigQuiet
namespace Go.Proofs.YtopfabemfbdccaaGreat
open Go.ChangeShapes Go.WideShapes Go.ChangeAt Go.RowKit
theorem getD_set_ne (ds:List Nat) {k t v:Nat} (h:k≠t):(ds.set k v).getD t 0=ds.getD t 0:=by
 rw [List.getD_eq_getElem?_getD,List.getD_eq_getElem?_getD,List.getElem?_set_ne h]
end Go.Proofs.YtopfabemfbdccaaGreat
