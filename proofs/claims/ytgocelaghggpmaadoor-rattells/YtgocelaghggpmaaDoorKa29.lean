/- LexPlaces: the law's walk. -/
import Derived.Test.YtgocelaghggpmaaDoorKa25
import Derived.Test.YtgocelaghggpmaaDoorKa28
namespace Go.Proofs.YtgocelaghggpmaaDoor
open Go.ChangeShapes Go.WideShapes Go.ChangeAt Go.RowKit Go.Maps
theorem lex_small {s:ByteArray} (h:(lexV s).e=0):s.size≤20000:=by
 unfold lexV at h
 by_cases c:20000<s.size
 · rw [if_pos c] at h
   exact absurd (show (2:Int)=0 from h) (by decide)
 · omega
theorem lexF_last (s:ByteArray):∀g p T,(lexF s g p T).e=0→∃U,(lexF s g p T).t=U++[endK s.size]
 | 0,p,T,_=>⟨T,rfl⟩
 | g+1,p,T,h=>by
   by_cases c:p<s.size
   · obtain⟨-, -,f3⟩:=lexF_step s g p T c h
     rw [f3] at h ⊢
     exact lexF_last s g _ _ h
   · rw [lexF_end s _ p T c]
     exact⟨T,rfl⟩
theorem lex_last {s:ByteArray} (h:(lexV s).e=0):∃U,(lexV s).t=U++[endK s.size]:=by
 have:=lex_small h
 unfold lexV at h ⊢
 rw [if_neg (by omega)] at h ⊢
 exact lexF_last s _ _ _ h
def noK:Tk:=⟨0,⟨#[]⟩,0,0,0⟩
end Go.Proofs.YtgocelaghggpmaaDoor
