/- The document's way of finding a number's end, by places (mathematics). -/
import Derived.Test.YtgocelaghggpmaaGreatDoorKo34
namespace Go.Proofs.YtgocelaghggpmaaGreatDoor
open Go.ChangeShapes Go.WideShapes Go.ChangeAt Go.RowKit
theorem up_pos {s:ByteArray} {k:Nat} (h:k<s.size) (d:isDg s[k]=true):k<uptoN s k:=by
 rw [upto_step h d]
 have:=upto_ge s (k+1)
 omega
theorem fr_pos {s:ByteArray} {p:Nat} (h:p+1<s.size) (h1:s[p].toNat=46) (d:isDg s[p+1]=true):frL (fromL s p)=uptoN s (p+1)-p :=
 fr_some (by rw [head_ext s p _ (by omega)];exact beq_iff_eq.2 h1) rfl (up_pos h d)
theorem fr_zero {s:ByteArray} {p:Nat} (h:¬∃h:p+1<s.size,s[p].toNat=46∧isDg s[p+1]=true):frL (fromL s p)=0:=by
 cases hd:headB (s.extract p s.size) 46
 · exact fr_none hd
 · have hp:p<s.size:=by
     by_cases c:p<s.size
     · exact c
     · rw [head_out s _ _ c] at hd;exact absurd hd (by decide)
   have e:s[p].toNat=46:=by rw [head_ext s p _ hp] at hd;exact beq_iff_eq.1 hd
   unfold frL
   rw [pre_head]
   show (if headB (s.extract p s.size) 46=true then _ else _)=0
   rw [hd,if_pos rfl,lwd_from]
   have z:uptoN s (p+1)=p+1:=by
     by_cases c:p+1<s.size
     · cases q:isDg s[p+1]
       · exact upto_stop c q
       · exact absurd ⟨c,e,q⟩ h
     · exact upto_end c
   rw [z,if_pos (by omega)]
theorem ex_pos {s:ByteArray} {p c:Nat} (h:p<s.size) (hl:s[p].toNat=101∨s[p].toNat=69) (hc:sgnP s (p+1)=c) (hcs:c<s.size) (d:isDg s[c]=true):exL (fromL s p)=uptoN s c-p:=ex_some h hl hc rfl (up_pos hcs d)
theorem ex_zero {s:ByteArray} {p c:Nat} (h:p<s.size) (hl:s[p].toNat=101∨s[p].toNat=69) (hc:sgnP s (p+1)=c) (hn:¬∃h:c<s.size,isDg s[c]=true):exL (fromL s p)=0:=by
 have z:uptoN s c=c:=by
   by_cases k:c<s.size
   · cases q:isDg s[c]
     · exact upto_stop k q
     · exact absurd ⟨k,q⟩ hn
   · exact upto_end k
 unfold exL
 have e1:(List.isPrefixOf [101] (fromL s p) || List.isPrefixOf [69] (fromL s p))=true:=by
   rw [pre_head,pre_head,head_ext s p _ h,head_ext s p _ h,Bool.or_eq_true,beq_iff_eq,beq_iff_eq]
   exact hl
 rw [e1,if_pos rfl,from_drop,pre_head,pre_head]
 have e2:(headB (s.extract (p+1) s.size) (43:UInt8).toNat || headB (s.extract (p+1) s.size) (45:UInt8).toNat)=(headB (s.extract (p+1) s.size) 45 || headB (s.extract (p+1) s.size) 43):=Bool.or_comm _ _
 rw [e2]
 unfold sgnP at hc
 by_cases k:(headB (s.extract (p+1) s.size) 45 || headB (s.extract (p+1) s.size) 43)=true
 · rw [if_pos k] at hc ⊢
   rw [lwd_from,show p+2=c by omega,z,if_pos (by omega)]
 · rw [if_neg k] at hc ⊢
   rw [lwd_from,hc,z,if_pos (by omega)]
theorem ex_no {s:ByteArray} {p:Nat} (h:¬∃h:p<s.size,s[p].toNat=101∨s[p].toNat=69):exL (fromL s p)=0:=by
 by_cases c:p<s.size
 · have e1:(List.isPrefixOf [101] (fromL s p) || List.isPrefixOf [69] (fromL s p))=false:=by
     rw [pre_head,pre_head,head_ext s p _ c,head_ext s p _ c,Bool.or_eq_false_iff,beq_eq_false_iff_ne,beq_eq_false_iff_ne]
     exact⟨fun q=>h ⟨c,Or.inl q⟩,fun q=>h ⟨c,Or.inr q⟩⟩
   unfold exL
   rw [e1];rfl
 · exact ex_none c
theorem nu_at (s:ByteArray) (p:Nat):p+nuL (fromL s p)=uptoN s p+frL (fromL s (uptoN s p))+exL (fromL s (uptoN s p+frL (fromL s (uptoN s p)))):=by
 unfold nuL
 have g:=upto_ge s p
 rw [span_upto,from_drop,from_drop,show p+(uptoN s p-p)=uptoN s p by omega]
 rw [show p+(uptoN s p-p+frL (fromL s (uptoN s p)))=uptoN s p+frL (fromL s (uptoN s p)) by omega]
 omega
end Go.Proofs.YtgocelaghggpmaaGreatDoor
