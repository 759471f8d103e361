/- The reference's numbers M 2^E: the walks of Sign and level. The walk of the reference's Order. The reference's Order: what it answers. -/
import Derived.Test.YtdnpoacjamkhkaaJb12
namespace Go.Proofs.Ytdnpoacjamkhkaa
open Go.ChangeShapes Go.WideShapes Go.ChangeAt Go.RowKit
theorem BigIs.shape {w:World} {v:Value} {n:Nat} (h:BigIs w v n):∃ao l cap,v=.slice ao l cap∧(l=0↔n=0):=by
 obtain⟨ds,d1,d2,rfl,hr⟩:=h
 obtain⟨ao,cap,rfl, -⟩:=hr.open_
 exact⟨ao,ds.length,cap,rfl,d2.zero.symm⟩
def sgnd (g:Bool) (A:Nat):Int:=if g then -(A:Int) else (A:Int)
theorem bitsN_le {m K:Nat} (h:m<2^K):bitsN m≤K:=by
 rcases Nat.eq_zero_or_pos m with c | c
 · subst c;simp [bitsN]
 · obtain⟨b,hb,b1,b2⟩:=bitsN_low (show m≠0 by omega)
   have:=(Nat.pow_lt_pow_iff_right (show 1<2 by omega)).1 (Nat.lt_of_le_of_lt b1 h)
   omega
end Go.Proofs.Ytdnpoacjamkhkaa
