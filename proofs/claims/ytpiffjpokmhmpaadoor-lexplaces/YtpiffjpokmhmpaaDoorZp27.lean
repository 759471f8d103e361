/- Reading of numbers, by places in the text. -/
import Derived.Test.YtpiffjpokmhmpaaDoorZp26
namespace Go.Proofs.YtpiffjpokmhmpaaDoor
open Go.ChangeShapes Go.WideShapes Go.ChangeAt Go.RowKit
theorem ext_list (s:ByteArray) (k:Nat):(s.extract k s.size).data.toList=s.data.toList.drop k:=by
 simp only [ByteArray.data_extract,Array.toList_extract,List.extract_eq_take_drop]
 exact List.take_of_length_le (by rw [List.length_drop];simp)
theorem ext_ext (s:ByteArray) (k i:Nat):(s.extract k s.size).extract i (s.extract k s.size).size=s.extract (k+i) s.size:=by
 apply ByteArray.ext
 apply Array.toList_inj.1
 rw [ext_list,ext_list,ext_list,List.drop_drop]
end Go.Proofs.YtpiffjpokmhmpaaDoor
