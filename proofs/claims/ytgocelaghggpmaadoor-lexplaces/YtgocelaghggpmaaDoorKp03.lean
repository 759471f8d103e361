/- lex: what stands behind a token's place (mathematics). -/
import Derived.Test.YtgocelaghggpmaaDoorChecked
import Derived.Lib.Strings
import Derived.Lib.Slices
import Derived.Lib.Small
import Derived.Lib.Walk
import Derived.Lib.BitFns
import Derived.KernelRfl
import Derived.WalkKit
import Derived.Laws.Cover2
import Derived.Laws.FloatArith
import Derived.Laws.BitsAllLaws
import Derived.Test.YtgocelaghggpmaaDoorRows
import Derived.ProofKit
import Derived.OpenShut
import Derived.WalkSpells
import Derived.WalkLawsBesides
import Derived.Laws.Externs
import Derived.Laws.Bits64b
import Derived.Handy
import Derived.Deep.RegionWith
import Derived.Deep.QuietTactic
import Derived.BigQuiet
import Derived.Deep.RegionHeld3
import Derived.Deep.CutRange
import Derived.Deep.LoopGhost
import Derived.Deep.CutBlock
import Derived.WalkSmall
import Derived.Deep.Quiet
import Derived.StillTail
import Derived.Lib.ConvBytes
import Derived.Lib.AtoiErrMem
import Derived.Test.YtgocelaghggpmaaDoorShelf
import Derived.Maps.Own
import Derived.Maps.OwnOps
import Derived.Maps.OwnSet
import Derived.Maps.AppendAt
import Derived.StringKeys
import Derived.Lib.AppendIntMem
import Derived.Laws.AppendOwn
import Derived.Lib.ParseIntBCases
import Derived.Deep.Cut
import Derived.LaidMore
import Derived.Stop.LaidErr
import Derived.Lib.SmallJoins
import Derived.Test.YtgocelaghggpmaaDoorKa01
import Derived.Test.YtgocelaghggpmaaDoorKa02
import Derived.Test.YtgocelaghggpmaaDoorKa03
import Derived.Test.YtgocelaghggpmaaDoorKa04
import Derived.Test.YtgocelaghggpmaaDoorKa05
import Derived.Test.YtgocelaghggpmaaDoorKa06
import Derived.Test.YtgocelaghggpmaaDoorKa07
import Derived.Test.YtgocelaghggpmaaDoorKa08
import Derived.Test.YtgocelaghggpmaaDoorKa09
import Derived.Test.YtgocelaghggpmaaDoorKa10
import Derived.Test.YtgocelaghggpmaaDoorKa11
import Derived.Test.YtgocelaghggpmaaDoorKa12
import Derived.Test.YtgocelaghggpmaaDoorKa13
import Derived.Test.YtgocelaghggpmaaDoorKa14
import Derived.Test.YtgocelaghggpmaaDoorKa15
import Derived.Test.YtgocelaghggpmaaDoorKa16
import Derived.Test.YtgocelaghggpmaaDoorKa17
import Derived.Test.YtgocelaghggpmaaDoorKa18
import Derived.Test.YtgocelaghggpmaaDoorKa19
import Derived.Test.YtgocelaghggpmaaDoorKa20
import Derived.Test.YtgocelaghggpmaaDoorKa21
import Derived.Test.YtgocelaghggpmaaDoorKa22
import Derived.Test.YtgocelaghggpmaaDoorKa23
import Derived.Test.YtgocelaghggpmaaDoorKa24
import Derived.Test.YtgocelaghggpmaaDoorKa25
import Derived.Test.YtgocelaghggpmaaDoorKa26
import Derived.Test.YtgocelaghggpmaaDoorKa27
import Derived.Test.YtgocelaghggpmaaDoorKa28
import Derived.Test.YtgocelaghggpmaaDoorKa29
import Derived.Test.YtgocelaghggpmaaDoorKa30
import Derived.Test.YtgocelaghggpmaaDoorKa31
import Derived.Test.YtgocelaghggpmaaDoorKa32
import Derived.Test.YtgocelaghggpmaaDoorKa33
import Derived.Test.YtgocelaghggpmaaDoorKa34
import Derived.Test.YtgocelaghggpmaaDoorKa35
import Derived.Test.YtgocelaghggpmaaDoorKp02
namespace Go.Proofs.YtgocelaghggpmaaDoor
open Go.ChangeShapes Go.WideShapes Go.ChangeAt Go.RowKit
theorem lexF_fuel (s:ByteArray):∀g g2 p T,s.size<p+g→s.size<p+g2→lexF s g p T=lexF s g2 p T
 | 0,g2,p,T,h1,_=>by rw [lexF_end s 0 p T (by omega),lexF_end s g2 p T (by omega)]
 | g+1,g2,p,T,h1,h2=>by
   by_cases c:p<s.size
   · obtain⟨g3,rfl⟩:∃g3,g2=g3+1:=⟨g2-1,by omega⟩
     rw [lexF,lexF]
     rw [if_pos c,if_pos c]
     by_cases c2:T.length=4000
     · rw [if_pos c2,if_pos c2]
     · rw [if_neg c2,if_neg c2]
       by_cases c3:(firstV (s.extract p s.size)).e≠0
       · rw [if_pos c3,if_pos c3]
       · rw [if_neg c3,if_neg c3]
         have n:=nx_gt s p c (Decidable.not_not.1 c3)
         unfold nxP at n
         exact lexF_fuel s g g3 _ _ (by omega) (by omega)
   · rw [lexF_end s _ p T c,lexF_end s _ p T c]
def shK (q:Nat) (t:Tk):Tk:=⟨t.k,t.s,t.n,t.d,t.a+q⟩
theorem lexF_shift (s:ByteArray) (q:Nat) (hq:q≤s.size):∀g p T T',s.size<q+p+g→(lexF s g (q+p) T).e=0→T'.length≤T.length→T.length≤4000 →
   ∃U,lexF s g (q+p) T=⟨T++U.map (shK q),0,0⟩∧lexF (s.extract q s.size) g p T'=⟨T'++U,0,0⟩∧1≤U.length
 | 0,p,T,T',h1,_,_,_=>by
   have z:(s.extract q s.size).size=s.size-q:=ext_size s q
   refine⟨[endK (s.size-q)], ?_, ?_,Nat.le_refl _⟩
   · rw [lexF_end s 0 _ T (by omega)]
     simp only [List.map_cons,List.map_nil,shK,endK]
     have:((s.size-q:Nat):Int)+(q:Int)=(s.size:Int):=by omega
     rw [this]
   · rw [lexF_end _ 0 _ T' (by omega),z]
 | g+1,p,T,T',h1,he,hT,hL=>by
   have z:(s.extract q s.size).size=s.size-q:=ext_size s q
   by_cases c:q+p<s.size
   · obtain⟨f1,f2,f3⟩:=lexF_step s g (q+p) T c he
     have ee:(s.extract q s.size).extract p (s.extract q s.size).size=s.extract (q+p) s.size:=ext_ext s q p
     have n:=nx_gt s (q+p) c f1
     obtain⟨m,hm⟩:∃m,nxP s (q+p)=q+m:=⟨nxP s (q+p)-q,by omega⟩
     have nx:nxP (s.extract q s.size) p=m:=by
       have hm':=hm
       unfold nxP at hm' ⊢
       rw [ee]
       have fe:fromL (s.extract q s.size) (p+(firstV (s.extract (q+p) s.size)).t.size)=fromL s (q+p+(firstV (s.extract (q+p) s.size)).t.size):=by
         unfold fromL
         rw [ext_list,List.drop_drop,Nat.add_assoc]
       rw [fe]
       omega
     have tk:tkP s (q+p)=shK q (tkP (s.extract q s.size) p):=by
       unfold tkP shK
       rw [ee]
       have:((q+p:Nat):Int)=(p:Int)+(q:Int):=by omega
       rw [this]
     rw [f3,hm] at he ⊢
     obtain⟨U,u1,u2,u3⟩:=lexF_shift s q hq g m (T++[tkP s (q+p)]) (T'++[tkP (s.extract q s.size) p]) (by omega) he (by rw [List.length_append,List.length_append];simp;omega) (by rw [List.length_append];simp;omega)
     refine⟨tkP (s.extract q s.size) p :: U, ?_, ?_,by rw [List.length_cons];omega⟩
     · rw [u1,tk,List.append_assoc];rfl
     · have hT4:T'.length≠4000:=by omega
       rw [lexF_go _ g p T' (by omega) (by rw [ee];exact f1) hT4,nx,u2,List.append_assoc]
       rfl
   · refine⟨[endK (s.size-q)], ?_, ?_,Nat.le_refl _⟩
     · rw [lexF_end s _ _ T c]
       simp only [List.map_cons,List.map_nil,shK,endK]
       have:((s.size-q:Nat):Int)+(q:Int)=(s.size:Int):=by omega
       rw [this]
     · rw [lexF_end _ _ _ T' (by omega),z]
theorem lexF_len (s:ByteArray):∀g p T,(lexF s g p T).e=0→T.length≤4000→(lexF s g p T).t.length≤4001
 | 0,p,T,_,h=>by
   show (T++[_]).length≤4001
   rw [List.length_append];simp;omega
 | g+1,p,T,he,h=>by
   by_cases c:p<s.size
   · obtain⟨-,f2,f3⟩:=lexF_step s g p T c he
     rw [f3] at he ⊢
     exact lexF_len s g _ _ he (by rw [List.length_append];simp;omega)
   · rw [lexF_end s _ p T c]
     show (T++[_]).length≤4001
     rw [List.length_append];simp;omega
structure At (s:ByteArray) (R:LexR) (i:Nat) (t:Tk):Prop where
 run:∃g p,R=lexF s g p (R.t.take i)∧s.size<p+g∧p≤s.size∧t.a=(p:Int)∧gapS false (fromL s p)=0
 up:∀u,0<i→R.t[i-1]?=some u→u.a<t.a
theorem lexF_at (s:ByteArray) (R:LexR) (hR:R.e=0):∀g p T,R=lexF s g p T→s.size<p+g→p≤s.size→gapS false (fromL s p)=0→T.length≤4000→(∀u,T[T.length-1]?=some u→u.a<(p:Int))→∀i t,T.length≤i→R.t[i]?=some t→At s R i t
 | 0,p,T,e,h1,h2,hg,hL,hu,i,t,hi,ht=>by omega
 | g+1,p,T,e,h1,h2,hg,hL,hu,i,t,hi,ht=>by
   obtain⟨U,u1,u2⟩:=lexF_more s (g+1) p T (by rw [←e];exact hR)
   rw [←e] at u1
   by_cases c:p<s.size
   · have he:(lexF s (g+1) p T).e=0:=by rw [←e];exact hR
     obtain⟨f1,f2,f3⟩:=lexF_step s g p T c he
     have n:=nx_gt s p c f1
     by_cases hi2:i=T.length
     · subst hi2
       have ht2:t=tkP s p:=by
         obtain⟨V,v1, -⟩:=lexF_more s g (nxP s p) (T++[tkP s p]) (by rw [←f3];exact he)
         rw [e,f3,v1,List.append_assoc,List.getElem?_append_right (Nat.le_refl _)] at ht
         simpa using ht.symm
       refine⟨⟨g+1,p, ?_,h1,h2,by rw [ht2];rfl,hg⟩, ?_⟩
       · rw [u1,List.take_left]
         exact e
       · intro u h0 hu2
         rw [u1,List.getElem?_append_left (by omega)] at hu2
         rw [ht2]
         exact hu u hu2
     · refine lexF_at s R hR g (nxP s p) (T++[tkP s p]) (e.trans f3) (by omega) n.2 ?_ (by rw [List.length_append];simp;omega) ?_ i t (by rw [List.length_append];simp;omega) ht
       · unfold nxP
         rw [←from_drop s (p+(firstV (s.extract p s.size)).t.size)]
         exact gap_again false _
       · intro u hu2
         rw [List.length_append] at hu2
         have:u=tkP s p:=by simpa using hu2.symm
         rw [this]
         show (p:Int)<_
         omega
   · have ee:=lexF_end s (g+1) p T c
     rw [←e] at ee
     have hU:R.t=T++[endK s.size]:=by rw [ee]
     have hlen:R.t.length=T.length+1:=by rw [hU,List.length_append];rfl
     have hi2:i=T.length:=by
       have:i<R.t.length:=(List.getElem?_eq_some_iff.1 ht).1
       omega
     subst hi2
     have ht2:t=endK s.size:=by
       rw [hU,List.getElem?_append_right (Nat.le_refl _)] at ht
       simpa using ht.symm
     refine⟨⟨g+1,p, ?_,h1,h2, ?_,hg⟩, ?_⟩
     · rw [hU,List.take_left]
       exact e
     · rw [ht2]
       show (s.size:Int)=(p:Int)
       omega
     · intro u h0 hu2
       rw [hU,List.getElem?_append_left (by omega)] at hu2
       rw [ht2]
       have:=hu u hu2
       show u.a<(s.size:Int)
       omega
theorem lex_from {s:ByteArray} {i:Nat} {t:Tk} (hz:s.size≤20000) (he:(lexV s).e=0) (ht:(lexV s).t[i]?=some t) :
   ∃(p:Nat) (U:List Tk),t.a=(p:Int)∧p≤s.size∧(lexV s).t.drop i=U.map (shK p)∧lexV (s.extract p s.size)=⟨U,0,0⟩∧(∀u,0<i→(lexV s).t[i-1]?=some u→u.a<t.a):=by
 have e0:lexV s=lexF s (s.size+1) (gapS false s.data.toList) []:=by unfold lexV;rw [if_neg (by omega)]
 have g0:=gapS_le false s.data.toList
 have zz:s.data.toList.length=s.size:=by simp
 have A:=lexF_at s (lexV s) he (s.size+1) (gapS false s.data.toList) [] e0 (by omega) (by omega) (by exact gap_again false _) (by simp) (fun u hu=>by simp at hu) i t (by simp) ht
 obtain⟨⟨g,p,r1,r2,r3,r4,r5⟩,up⟩:=A
 have hi:i<(lexV s).t.length:=(List.getElem?_eq_some_iff.1 ht).1
 have hl:=lexF_len s (s.size+1) (gapS false s.data.toList) [] (by rw [←e0];exact he) (by simp)
 rw [←e0] at hl
 have hL:((lexV s).t.take i).length≤4000:=by rw [List.length_take];omega
 obtain⟨U,u1,u2, -⟩:=lexF_shift s p r3 g 0 ((lexV s).t.take i) [] (by omega) (by rw [Nat.add_zero,←r1];exact he) (by simp) hL
 refine⟨p,U,r4,r3, ?_, ?_,up⟩
 · rw [Nat.add_zero,←r1] at u1
   have h1:(lexV s).t=(lexV s).t.take i++U.map (shK p):=congrArg LexR.t u1
   have h2:=List.take_append_drop i (lexV s).t
   exact List.append_cancel_left (h2.trans h1)
 · have z:(s.extract p s.size).size=s.size-p:=ext_size s p
   unfold lexV
   rw [if_neg (by omega),ext_from,r5,lexF_fuel _ ((s.extract p s.size).size+1) g 0 [] (by omega) (by omega),u2]
   rfl
end Go.Proofs.YtgocelaghggpmaaDoor
