/- Quotients of intervals: what the program's Div answers, word for word, and what the reference's Div, as a function, is: the same. -/
import Derived.Test.YtdnpoacjamkhkaaJb29
namespace Go.Proofs.Ytdnpoacjamkhkaa
open Go.ChangeShapes Go.WideShapes Go.ChangeAt Go.RowKit
theorem mirror_some {lo hi:Nat} (hl:lo<18446744073709551616) (hh:hi<18446744073709551616) (S:Some2 lo hi):Some2 (mirrorP (lo,hi)).1 (mirrorP (lo,hi)).2∧key (mirrorP (lo,hi)).1=- key hi∧key (mirrorP (lo,hi)).2=- key lo∧(mirrorP (lo,hi)).1<18446744073709551616∧(mirrorP (lo,hi)).2<18446744073709551616:=by
 obtain⟨a,X⟩:=held_some hl hh S
 obtain⟨N,k1,k2⟩:=held_neg X
 have w:=mirror_words X
 have e1:(mirrorP (lo,hi)).1=pz (negB hi):=by rw [w]
 have e2:(mirrorP (lo,hi)).2=pz (negB lo):=by rw [w]
 refine⟨⟨N.nl,N.nh,by rw [k1,k2];have:=S.le;omega,by rw [k1];have:=S.gt;omega,by rw [k2];have:=S.lt;omega,by rw [e1];exact pz_ne _,by rw [e2];exact pz_ne _⟩,k1,k2,N.hl,N.hh⟩
end Go.Proofs.Ytdnpoacjamkhkaa
