/- LexPlaces, whole. -/
import Derived.Test.YtgocelaghggpmaaDoorKa29
namespace Go.Proofs.YtgocelaghggpmaaDoor
open Go.ChangeShapes Go.WideShapes Go.ChangeAt Go.RowKit Go.Maps
theorem lexF_p (s:ByteArray):∀g p T,(lexF s g p T).e=0→(lexF s g p T).p=0
 | 0,p,T,_=>rfl
 | g+1,p,T,h=>by
   by_cases c:p<s.size
   · obtain⟨-, -,f3⟩:=lexF_step s g p T c h
     rw [f3] at h ⊢
     exact lexF_p s g _ _ h
   · rw [lexF_end s _ p T c]
theorem lex_p {s:ByteArray} (h:(lexV s).e=0):(lexV s).p=0:=by
 have:=lex_small h
 unfold lexV at h ⊢
 rw [if_neg (by omega)] at h ⊢
 exact lexF_p s _ _ _ h
end Go.Proofs.YtgocelaghggpmaaDoor
