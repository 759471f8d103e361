/- LexNumbers: a text that is one number's token is a number; the law's walk. -/
import Derived.Test.YtgocelaghggpmaaDoorKa23
namespace Go.Proofs.YtgocelaghggpmaaDoor
open Go.ChangeShapes Go.WideShapes Go.ChangeAt Go.RowKit Go.Maps
theorem lexF_more (s:ByteArray):∀g p T,(lexF s g p T).e=0→∃U,(lexF s g p T).t=T++U∧1≤U.length
 | 0,p,T,_=>⟨[⟨0,⟨#[]⟩,0,0,s.size⟩],rfl,Nat.le_refl _⟩
 | g+1,p,T,h=>by
   unfold lexF at h ⊢
   by_cases c1:p<s.size
   · rw [if_pos c1] at h ⊢
     by_cases c2:T.length=4000
     · rw [if_pos c2] at h
       exact absurd (show (2:Int)=0 from h) (by decide)
     · rw [if_neg c2] at h ⊢
       by_cases c3:(firstV (s.extract p s.size)).e≠0
       · rw [if_pos c3] at h
         exact absurd h c3
       · rw [if_neg c3] at h ⊢
         obtain⟨U,h1,h2⟩:=lexF_more s g _ _ h
         exact⟨⟨(firstV (s.extract p s.size)).k,(firstV (s.extract p s.size)).S,(firstV (s.extract p s.size)).N,(firstV (s.extract p s.size)).D,p⟩ :: U,by rw [h1,List.append_assoc];rfl,by rw [List.length_cons];omega⟩
   · rw [if_neg c1]
     exact⟨[⟨0,⟨#[]⟩,0,0,s.size⟩],rfl,Nat.le_refl _⟩
end Go.Proofs.YtgocelaghggpmaaDoor
