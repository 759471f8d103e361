/- LexBlanks: what the law builds, step by step (mathematics). -/
import Derived.Test.YtgocelaghggpmaaDoorKa27
import Derived.Test.YtgocelaghggpmaaDoorKa30
namespace Go.Proofs.YtgocelaghggpmaaDoor
open Go.ChangeShapes Go.WideShapes Go.ChangeAt Go.RowKit
def insA:List UInt8:=[32,9,13,10]
def insC:List UInt8:=[32,47,47,32,109,111,100,101,108,32,40,32,49,101,10]
def insD:List UInt8:=[10,47,47,10,47,47,10]
def insV (r:Int):List UInt8:=if r=1 then insA else if r=2 then insC else if r=3 then insD else []
theorem insA_ok:InsB insA:=⟨Or.inr ⟨Or.inr ⟨_,_,rfl,Or.inl rfl⟩,by decide⟩,fun _ b=>by
 cases b <;> repeat' (first | exact GapRun.nil _ | refine GapRun.blk (by decide) ?_ | refine GapRun.cmt (by decide) (by decide) ?_ | refine GapRun.line (by decide) ?_ | refine GapRun.nl (by decide) ?_)⟩
theorem insC_ok:InsB insC:=⟨Or.inr ⟨Or.inr ⟨_,_,rfl,Or.inl rfl⟩,by decide⟩,fun _ b=>by
 cases b <;> repeat' (first | exact GapRun.nil _ | refine GapRun.blk (by decide) ?_ | refine GapRun.cmt (by decide) (by decide) ?_ | refine GapRun.line (by decide) ?_ | refine GapRun.nl (by decide) ?_)⟩
theorem insD_ok:InsB insD:=⟨Or.inr ⟨Or.inr ⟨_,_,rfl,Or.inr rfl⟩,by decide⟩,fun _ b=>by
 cases b <;> repeat' (first | exact GapRun.nil _ | refine GapRun.blk (by decide) ?_ | refine GapRun.cmt (by decide) (by decide) ?_ | refine GapRun.line (by decide) ?_ | refine GapRun.nl (by decide) ?_)⟩
theorem insN_ok:InsB []:=⟨Or.inl rfl,fun h=>absurd rfl h⟩
theorem insV_ok (r:Int):InsB (insV r):=by
 unfold insV
 split
 · exact insA_ok
 · split
   · exact insC_ok
   · split
     · exact insD_ok
     · exact insN_ok
def fullL (s:ByteArray) (x:Nat→List UInt8):List UInt8:=s.data.toList.take (gapS false s.data.toList)++x 0++bld s x (s.size+1) (gapS false s.data.toList) 0
theorem full_lex {s t:ByteArray} {x:Nat→List UInt8} (hx:∀i,InsB (x i)) (he:(lexV s).e=0) (ht:t.data.toList=fullL s x) (hz:t.size≤20000):∃U,lexV t=⟨U,0,0⟩∧U.map noA=(lexV s).t.map noA:=by
 have hs:=lex_small he
 have e0:lexV s=lexF s (s.size+1) (gapS false s.data.toList) []:=by unfold lexV;rw [if_neg (by omega)]
 have g0:=gapS_le false s.data.toList
 have zz:s.data.toList.length=s.size:=by simp
 have zt:t.data.toList.length=t.size:=by simp
 obtain⟨b,r1,r2⟩:=gap_run false s.data.toList
 have ga:gapS false (fromL s (gapS false s.data.toList))=0:=gap_again false _
 rw [e0] at he
 have BG:=bld_gap s x hx (s.size+1) (gapS false s.data.toList) 0 [] he (by omega) ga
 generalize hp:gapS false s.data.toList=p at *
 have hl:(s.data.toList.take p).length=p:=by rw [List.length_take];omega
 have gt:gapS false t.data.toList=p+(x 0).length:=by
   rw [ht]
   unfold fullL
   rw [hp,gap_ins r1 (hx 0) ?_ BG,hl]
   intro hb
   have hr:=congrArg List.length (r2 hb)
   rw [List.length_drop,List.length_nil] at hr
   unfold bld
   rw [if_neg (by omega)]
 have ft:fromL t (p+(x 0).length)=bld s x (s.size+1) p 0:=by
   unfold fromL
   rw [ht]
   unfold fullL
   rw [hp,show p+(x 0).length=(s.data.toList.take p++x 0).length by rw [List.length_append,hl]]
   exact List.drop_left
 have gl:=gapS_le false t.data.toList
 obtain⟨U,U',v1,v2,v3⟩:=bld_lex s t x hx (s.size+1) p 0 [] (p+(x 0).length) (t.size+1) [] he (by omega) (by omega) ga ft (by omega) (by omega) rfl
 refine⟨U', ?_, ?_⟩
 · unfold lexV
   rw [if_neg (by omega),gt,v2]
   rfl
 · rw [v3,e0,v1]
   rfl
def Inv (s:ByteArray) (x:Nat→List UInt8) (i:Nat) (tt:List UInt8) (last:Nat):Prop :=
 (i<(lexV s).t.length→∃g p,lexV s=lexF s g p ((lexV s).t.take i)∧s.size<p+g∧p≤s.size∧last≤p∧fullL s x=tt++(fromL s last).take (p-last)++x i++bld s x g p i) ∧
 (i=(lexV s).t.length→fullL s x=tt++fromL s last)
theorem inv_start {s:ByteArray} (x:Nat→List UInt8) (he:(lexV s).e=0):Inv s x 0 [] 0:=by
 have hs:=lex_small he
 have e0:lexV s=lexF s (s.size+1) (gapS false s.data.toList) []:=by unfold lexV;rw [if_neg (by omega)]
 have g0:=gapS_le false s.data.toList
 have zz:s.data.toList.length=s.size:=by simp
 obtain⟨U,hU⟩:=lex_last he
 refine⟨fun _=>⟨s.size+1,gapS false s.data.toList,e0,by omega,by omega,by omega, ?_⟩,fun h=>?_⟩
 · unfold fullL
   rfl
 · rw [hU,List.length_append] at h
   exact absurd h (by simp)
theorem inv_step {s:ByteArray} {x:Nat→List UInt8} (he:(lexV s).e=0) {i:Nat} {tt:List UInt8} {last:Nat} (hi:i<(lexV s).t.length) (h:Inv s x i tt last) :
   ∃p:Nat,((lexV s).t.getD i noK).a=(p:Int)∧last≤p∧p≤s.size∧Inv s x (i+1) (tt++(fromL s last).take (p-last)++x i) p:=by
 obtain⟨g,p,r1,r2,r3,r4,r5⟩:=h.1 hi
 have hlt:((lexV s).t.take i).length=i:=by rw [List.length_take];omega
 have he':(lexF s g p ((lexV s).t.take i)).e=0:=by rw [←r1];exact he
 obtain⟨g',rfl⟩:∃g',g=g'+1:=⟨g-1,by omega⟩
 by_cases c:p<s.size
 · obtain⟨f1,f2,f3⟩:=lexF_step s g' p _ c he'
   have n:=nx_gt s p c f1
   rw [f3] at he'
   obtain⟨V,v1,v2⟩:=lexF_more s g' (nxP s p) _ he'
   rw [←f3,←r1] at v1
   have ht:(lexV s).t[i]?=some (tkP s p):=by
     rw [v1,List.append_assoc,List.getElem?_append_right (by omega),hlt,Nat.sub_self]
     rfl
   have hlen:(lexV s).t.length=i+1+V.length:=by
     have:=congrArg List.length v1
     rw [List.length_append,List.length_append,hlt] at this
     simpa using this
   have htk:(lexV s).t.take (i+1)=(lexV s).t.take i++[tkP s p]:=by
     rw [List.take_succ_eq_append_getElem hi]
     congr 1
     have:=List.getElem?_eq_some_iff.1 ht
     obtain⟨_,q⟩:=this
     rw [q]
   refine⟨p,by unfold List.getD;rw [ht];rfl,r4,r3,fun _=>⟨g',nxP s p, ?_,by omega,n.2,by omega, ?_⟩,fun h=>by omega⟩
   · rw [htk,←f3]
     exact r1
   · rw [r5]
     have e:bld s x (g'+1) p i=(fromL s p).take (nxP s p-p)++(x (i+1)++bld s x g' (nxP s p) (i+1)):=by
       rw [bld,if_pos c]
     rw [e]
     simp only [List.append_assoc]
 · have hend:=lexF_end s (g'+1) p ((lexV s).t.take i) c
   rw [←r1] at hend
   have v1:(lexV s).t=(lexV s).t.take i++[endK s.size]:=congrArg LexR.t hend
   have hlen:(lexV s).t.length=i+1:=by
     have:=congrArg List.length v1
     rw [List.length_append,hlt] at this
     simpa using this
   have ht:(lexV s).t[i]?=some (endK s.size):=by
     rw [v1,List.getElem?_append_right (by omega),hlt,Nat.sub_self]
     rfl
   refine⟨p, ?_,r4,r3,fun h=>by omega,fun _=>?_⟩
   · unfold List.getD
     rw [ht]
     show (s.size:Int)=(p:Int)
     omega
   · rw [r5,from_end c]
     have e:bld s x (g'+1) p i=[]:=by rw [bld,if_neg c]
     rw [e]
end Go.Proofs.YtgocelaghggpmaaDoor
