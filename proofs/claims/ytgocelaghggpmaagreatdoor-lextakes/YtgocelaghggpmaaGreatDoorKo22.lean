/- What the texts of models are taken apart into: bytes, spans, gaps. -/
import Derived.Test.YtgocelaghggpmaaGreatDoorKo21
namespace Go.Proofs.YtgocelaghggpmaaGreatDoor
open Go.ChangeShapes Go.WideShapes Go.ChangeAt Go.RowKit
def blkB (c:UInt8):Bool:=c.toNat==32 || c.toNat==9 || c.toNat==10 || c.toNat==13
def letB (c:UInt8):Bool:=(decide (65≤c.toNat)&&decide (c.toNat≤90)) || (decide (97≤c.toNat)&&decide (c.toNat≤122))
def namB (c:UInt8):Bool:=letB c || isDg c || c.toNat==95
def linB (c:UInt8):Bool:=c.toNat != 10
def spanL (p:UInt8→Bool) (l:List UInt8):Nat:=(l.takeWhile p).length
def cmtB (l:List UInt8):Bool:=List.isPrefixOf [47,47] l
def gapS:Bool→List UInt8→Nat
 | _,[]=>0
 | true,c :: l=>if linB c then gapS true l+1 else gapS false l+1
 | false,c :: l=>if blkB c then gapS false l+1 else if cmtB (c :: l) then gapS true l+1 else 0
theorem spanL_le (p:UInt8→Bool) (l:List UInt8):spanL p l≤l.length:=(List.takeWhile_sublist p (l:=l)).length_le
theorem spanL_cons (p:UInt8→Bool) (c:UInt8) (l:List UInt8):spanL p (c :: l)=if p c then spanL p l+1 else 0:=by
 unfold spanL
 rw [List.takeWhile_cons]
 split <;> rfl
theorem gapS_le:∀(b:Bool) (l:List UInt8),gapS b l≤l.length
 | b,[]=>by cases b <;> simp [gapS]
 | true,c :: l=>by
   have h1:=gapS_le true l
   have h2:=gapS_le false l
   unfold gapS
   rw [List.length_cons]
   split <;> omega
 | false,c :: l=>by
   have h1:=gapS_le true l
   have h2:=gapS_le false l
   unfold gapS
   rw [List.length_cons]
   split
   · omega
   · split <;> omega
theorem gap_blank:∀l:List UInt8,gapS false l=spanL blkB l+gapS false (l.drop (spanL blkB l))
 | []=>by simp [spanL]
 | c :: l=>by
   rw [spanL_cons]
   by_cases h:blkB c=true
   · rw [if_pos h,List.drop_succ_cons,gapS,if_pos h,gap_blank l]
     have:=gap_blank l
     omega
   · rw [if_neg h,List.drop_zero]
     omega
theorem gap_line:∀l:List UInt8,gapS true l=spanL linB l+gapS false (l.drop (spanL linB l))
 | []=>by simp [spanL,gapS]
 | c :: l=>by
   rw [spanL_cons]
   by_cases h:linB c=true
   · rw [if_pos h,List.drop_succ_cons,gapS,if_pos h,gap_line l]
     omega
   · have h10:blkB c=true:=by
       unfold linB at h
       unfold blkB
       have:c.toNat=10:=by simpa using h
       rw [this];rfl
     rw [if_neg h,List.drop_zero,gapS,if_neg h,gapS,if_pos h10]
     omega
theorem gap_cmt (l:List UInt8) (h:cmtB l=true):gapS false l=spanL linB l+gapS false (l.drop (spanL linB l)):=by
 match l,h with
 | c :: l,h =>
   have hc:c=47:=by
     unfold cmtB at h
     rw [List.isPrefixOf_cons_cons] at h
     exact (beq_iff_eq.1 (Bool.and_eq_true_iff.1 h).1).symm
   subst hc
   have e:gapS false (47 :: l)=gapS true l+1:=by
     rw [gapS,if_neg (by decide),if_pos h]
   rw [e,gap_line,spanL_cons,if_pos (by decide),List.drop_succ_cons]
   omega
theorem gap_stop (l:List UInt8) (h:spanL blkB l=0) (k:cmtB l=false):gapS false l=0:=by
 match l with
 | []=>rfl
 | c :: l =>
   rw [spanL_cons] at h
   have hb:blkB c=false:=by
     cases hb:blkB c
     · rfl
     · rw [hb] at h;simp at h
   rw [gapS,hb,k]
   rfl
theorem span_stop (p:UInt8→Bool):∀l:List UInt8,spanL p (l.drop (spanL p l))=0
 | []=>by simp [spanL]
 | c :: l=>by
   rw [spanL_cons]
   by_cases h:p c=true
   · rw [if_pos h,List.drop_succ_cons];exact span_stop p l
   · rw [if_neg h,List.drop_zero,spanL_cons,if_neg h]
end Go.Proofs.YtgocelaghggpmaaGreatDoor
