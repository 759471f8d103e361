/- The program's Read, whole, over what strconv.ParseInt answers. -/
import Derived.Test.YtgocelaghggpmaaGreatDoorKo20
namespace Go.Proofs.YtgocelaghggpmaaGreatDoor
open Go.ChangeShapes Go.WideShapes Go.ChangeAt Go.RowKit
theorem frac_facts (s:ByteArray):(fracB s).d.size≤40∧(∀i (h:i<(fracB s).d.size),isDg (fracB s).d[i]=true)∧(fracB s).r.size≤s.size:=by
 unfold fracB
 split
 · refine⟨?_,lead_dg _ _, ?_⟩
   · show (ByteArray.extract _ _ _).size≤40
     rw [lead_size];unfold ldN;omega
   · show (ByteArray.extract _ _ _).size≤_
     rw [ByteArray.size_extract,ByteArray.size_extract];omega
 · exact⟨by show 0≤40;omega,fun i h=>absurd h (Nat.not_lt_zero i),Nat.le_refl _⟩
theorem val_100 {a:ByteArray} (h:a.size≤2) (k:∀i (h:i<a.size),isDg a[i]=true):valN a.data.toList<100:=by
 rw [←vlN_text]
 refine Nat.lt_of_lt_of_le (vlN_lt (bytN_dg k)) ?_
 have:10^a.size≤10^2:=Nat.pow_le_pow_right (by omega) h
 omega
theorem lead_two (v:ByteArray):(v.extract 0 (ldN v 2)).size≤2:=by rw [lead_size];unfold ldN;omega
theorem lead_100 (v:ByteArray):valN (v.extract 0 (ldN v 2)).data.toList<100:=by
 have h1:=lead_two v
 have h2:=lead_dg v 2
 generalize v.extract 0 (ldN v 2)=a at *
 exact val_100 h1 h2
theorem exp_facts (s:ByteArray):(expB s).e≤99∧-99≤(expB s).e:=by
 unfold expB
 split
 · unfold expS
   have:=lead_100 (afterS (s.extract 1 s.size))
   generalize valN ((afterS (s.extract 1 s.size)).extract 0 (ldN (afterS (s.extract 1 s.size)) 2)).data.toList=n at *
   simp only
   split <;> omega
 · exact⟨by show (0:Int)≤99;omega,by show (-99:Int)≤0;omega⟩
end Go.Proofs.YtgocelaghggpmaaGreatDoor
