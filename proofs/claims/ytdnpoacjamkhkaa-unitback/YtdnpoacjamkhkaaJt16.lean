/- The reference's Right: what is whole of a number by a power of 2; cut, pair. -/
import Derived.Test.YtdnpoacjamkhkaaJt15
namespace Go.Proofs.Ytdnpoacjamkhkaa
open Go.ChangeShapes Go.WideShapes Go.ChangeAt Go.RowKit
theorem natOf_drop_step (ds:List Nat) (k:Nat):natOf (ds.drop k)=ds.getD k 0+4294967296*natOf (ds.drop (k+1)):=by
 rcases Nat.lt_or_ge k ds.length with c | c
 · rw [List.drop_eq_getElem_cons c,List.getD_eq_getElem?_getD,List.getElem?_eq_getElem c]
   rfl
 · rw [List.drop_of_length_le c,List.drop_of_length_le (by omega),List.getD_eq_getElem?_getD,List.getElem?_eq_none c]
   rfl
end Go.Proofs.Ytdnpoacjamkhkaa
