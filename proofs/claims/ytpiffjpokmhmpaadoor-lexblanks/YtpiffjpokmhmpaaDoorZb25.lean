/- Reading of numbers, by places in the text. -/
import Derived.Test.YtpiffjpokmhmpaaDoorZb24
namespace Go.Proofs.YtpiffjpokmhmpaaDoor
open Go.ChangeShapes Go.WideShapes Go.ChangeAt Go.RowKit
theorem ext_list (s:ByteArray) (k:Nat):(s.extract k s.size).data.toList=s.data.toList.drop k:=by
 simp only [ByteArray.data_extract,Array.toList_extract,List.extract_eq_take_drop]
 exact List.take_of_length_le (by rw [List.length_drop];simp)
end Go.Proofs.YtpiffjpokmhmpaaDoor
