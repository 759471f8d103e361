/- The digits of a text as bytes of a block (for rat.Read: []byte(whole + fraction)). -/
import Derived.Test.YtgocelaghggpmaaGreatDoorKo12
import Derived.Lib.ConvBytes
import Derived.Lib.AtoiErrMem
namespace Go.Proofs.YtgocelaghggpmaaGreatDoor
open Go.ChangeShapes Go.WideShapes Go.ChangeAt Go.RowKit
def bytN (s:ByteArray) (j:Nat):Nat:=(s.data.toList.getD j 0).toNat
theorem bytes_new (w:World) (e:TypeId) (s:ByteArray):Byts (Lib.bytesWorld w e s) w.heap.size s.size (bytN s):=by
 refine⟨fun j hj=>Lib.bytesWorld_cell w e s j hj,fun j hj=>?_,by rw [Lib.bytesWorld_size];omega⟩
 have hs:s.size≤(Lib.bytesCells w e s).size:=by
   unfold Lib.bytesCells
   rw [Array.size_append,Array.size_map]
   exact Nat.le_add_right _ _
 simp only [World.frozen?,Lib.bytesWorld_at_new]
 rw [decide_eq_false (by omega)]
 rfl
theorem bytN_dg {s:ByteArray} (h:∀i (h:i<s.size),isDg s[i]=true):DgN (bytN s) s.size:=by
 intro j hj
 have d:=h j hj
 have e:bytN s j=s[j].toNat:=by
   unfold bytN
   simp [List.getD,hj]
   rfl
 unfold isDg at d
 rw [Bool.and_eq_true,decide_eq_true_eq,decide_eq_true_eq] at d
 rw [e]
 omega
end Go.Proofs.YtgocelaghggpmaaGreatDoor
