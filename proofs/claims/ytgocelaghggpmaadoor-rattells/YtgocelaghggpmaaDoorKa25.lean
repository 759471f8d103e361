/- lex: what stands behind a token's place (mathematics). -/
import Derived.Test.YtgocelaghggpmaaDoorKa24
namespace Go.Proofs.YtgocelaghggpmaaDoor
open Go.ChangeShapes Go.WideShapes Go.ChangeAt Go.RowKit
theorem gap_again:∀(b:Bool) (l:List UInt8),gapS false (l.drop (gapS b l))=0
 | b,[]=>by cases b <;> rfl
 | true,c :: l=>by
   have e:gapS true (c :: l)=if linB c then gapS true l+1 else gapS false l+1:=rfl
   rw [e]
   by_cases h:linB c=true
   · rw [if_pos h,List.drop_succ_cons];exact gap_again true l
   · rw [if_neg h,List.drop_succ_cons];exact gap_again false l
 | false,c :: l=>by
   have e:gapS false (c :: l)=if blkB c then gapS false l+1 else if cmtB (c :: l) then gapS true l+1 else 0:=rfl
   rw [e]
   by_cases h:blkB c=true
   · rw [if_pos h,List.drop_succ_cons];exact gap_again false l
   · rw [if_neg h]
     by_cases k:cmtB (c :: l)=true
     · rw [if_pos k,List.drop_succ_cons];exact gap_again true l
     · rw [if_neg k,List.drop_zero,e,if_neg h,if_neg k]
def nxP (s:ByteArray) (p:Nat):Nat:=p+(firstV (s.extract p s.size)).t.size+gapS false (fromL s (p+(firstV (s.extract p s.size)).t.size))
def tkP (s:ByteArray) (p:Nat):Tk:=⟨(firstV (s.extract p s.size)).k,(firstV (s.extract p s.size)).S,(firstV (s.extract p s.size)).N,(firstV (s.extract p s.size)).D,p⟩
def endK (n:Nat):Tk:=⟨0,⟨#[]⟩,0,0,n⟩
theorem lexF_end (s:ByteArray) (g p:Nat) (T:List Tk) (h:¬p<s.size):lexF s g p T=⟨T++[endK s.size],0,0⟩:=by
 cases g with
 | zero=>rfl
 | succ g=>unfold lexF;rw [if_neg h];rfl
theorem lexF_step (s:ByteArray) (g p:Nat) (T:List Tk) (h:p<s.size) (he:(lexF s (g+1) p T).e=0):(firstV (s.extract p s.size)).e=0∧T.length≠4000∧lexF s (g+1) p T=lexF s g (nxP s p) (T++[tkP s p]):=by
 unfold lexF at he
 rw [if_pos h] at he
 by_cases c2:T.length=4000
 · rw [if_pos c2] at he
   exact absurd (show (2:Int)=0 from he) (by decide)
 · rw [if_neg c2] at he
   by_cases c3:(firstV (s.extract p s.size)).e≠0
   · rw [if_pos c3] at he
     exact absurd he c3
   · refine⟨Decidable.not_not.1 c3,c2, ?_⟩
     rw [lexF,if_pos h,if_neg c2,if_neg c3]
     rfl
theorem lexF_go (s:ByteArray) (g p:Nat) (T:List Tk) (h:p<s.size) (hf:(firstV (s.extract p s.size)).e=0) (hT:T.length≠4000):lexF s (g+1) p T=lexF s g (nxP s p) (T++[tkP s p]):=by
 rw [lexF,if_pos h,if_neg hT,if_neg (by rw [hf];simp)]
 rfl
theorem nx_gt (s:ByteArray) (p:Nat) (h:p<s.size) (he:(firstV (s.extract p s.size)).e=0):p<nxP s p∧nxP s p≤s.size:=by
 have z0:0<(s.extract p s.size).size:=by rw [ext_size];omega
 have f1:=first_ge _ z0 he
 have f2:=first_le _ z0
 rw [ext_size] at f2
 have g:=gapS_le false (fromL s (p+(firstV (s.extract p s.size)).t.size))
 rw [from_len] at g
 unfold nxP
 omega
end Go.Proofs.YtgocelaghggpmaaDoor
