/- lex: tokens as they lie in memory; a text that is a number is one token. -/
import Derived.Test.YtgocelaghggpmaaDoorChecked
import Derived.Lib.Strings
import Derived.Lib.Slices
import Derived.Lib.Small
import Derived.Lib.Walk
import Derived.Lib.BitFns
import Derived.KernelRfl
import Derived.WalkKit
import Derived.Laws.Cover2
import Derived.Laws.FloatArith
import Derived.Laws.BitsAllLaws
import Derived.Test.YtgocelaghggpmaaDoorRows
import Derived.ProofKit
import Derived.OpenShut
import Derived.WalkSpells
import Derived.WalkLawsBesides
import Derived.Laws.Externs
import Derived.Laws.Bits64b
import Derived.Handy
import Derived.Deep.RegionWith
import Derived.Deep.QuietTactic
import Derived.BigQuiet
import Derived.Deep.RegionHeld3
import Derived.Deep.CutRange
import Derived.Deep.LoopGhost
import Derived.Deep.CutBlock
import Derived.WalkSmall
import Derived.Deep.Quiet
import Derived.StillTail
import Derived.Lib.ConvBytes
import Derived.Lib.AtoiErrMem
import Derived.Test.YtgocelaghggpmaaDoorShelf
import Derived.Maps.Own
import Derived.Maps.OwnOps
import Derived.Maps.OwnSet
import Derived.Maps.AppendAt
import Derived.StringKeys
import Derived.Lib.AppendIntMem
import Derived.Laws.AppendOwn
import Derived.Lib.ParseIntBCases
import Derived.Deep.Cut
import Derived.LaidMore
import Derived.Stop.LaidErr
import Derived.Lib.SmallJoins
import Derived.Test.YtgocelaghggpmaaDoorKa01
import Derived.Test.YtgocelaghggpmaaDoorKa02
import Derived.Test.YtgocelaghggpmaaDoorKa03
import Derived.Test.YtgocelaghggpmaaDoorKa04
import Derived.Test.YtgocelaghggpmaaDoorKa05
import Derived.Test.YtgocelaghggpmaaDoorKa06
import Derived.Test.YtgocelaghggpmaaDoorKa07
import Derived.Test.YtgocelaghggpmaaDoorKa08
import Derived.Test.YtgocelaghggpmaaDoorKa09
import Derived.Test.YtgocelaghggpmaaDoorKa10
import Derived.Test.YtgocelaghggpmaaDoorKa11
import Derived.Test.YtgocelaghggpmaaDoorKa12
import Derived.Test.YtgocelaghggpmaaDoorKa13
import Derived.Test.YtgocelaghggpmaaDoorKa14
import Derived.Test.YtgocelaghggpmaaDoorKa15
import Derived.Test.YtgocelaghggpmaaDoorKa16
import Derived.Test.YtgocelaghggpmaaDoorKa17
import Derived.Test.YtgocelaghggpmaaDoorKa18
import Derived.Test.YtgocelaghggpmaaDoorKa19
import Derived.Test.YtgocelaghggpmaaDoorKa20
import Derived.Test.YtgocelaghggpmaaDoorKa21
import Derived.Test.YtgocelaghggpmaaDoorKa22
import Derived.Test.YtgocelaghggpmaaDoorKa23
import Derived.Test.YtgocelaghggpmaaDoorKa24
import Derived.Test.YtgocelaghggpmaaDoorKa25
import Derived.Test.YtgocelaghggpmaaDoorKa26
import Derived.Test.YtgocelaghggpmaaDoorKa27
import Derived.Test.YtgocelaghggpmaaDoorKa28
import Derived.Test.YtgocelaghggpmaaDoorKa29
import Derived.Test.YtgocelaghggpmaaDoorKa30
import Derived.Test.YtgocelaghggpmaaDoorKa31
import Derived.Test.YtgocelaghggpmaaDoorKa32
import Derived.Test.YtgocelaghggpmaaDoorKa33
import Derived.Test.YtgocelaghggpmaaDoorKa34
import Derived.Test.YtgocelaghggpmaaDoorKa35
import Derived.Test.YtgocelaghggpmaaDoorKn02
namespace Go.Proofs.YtgocelaghggpmaaDoor
open Go.ChangeShapes Go.WideShapes Go.ChangeAt Go.RowKit Go.Maps
theorem span_upto (s:ByteArray) (k:Nat):spanL isDg (fromL s k)=uptoN s k-k:=by
 unfold spanL fromL uptoN
 omega
theorem pre_head (s:ByteArray) (k:Nat) (c:UInt8):List.isPrefixOf [c] (fromL s k)=headB (s.extract k s.size) c.toNat:=by
 unfold headB
 rw [ext_list]
 show List.isPrefixOf [c] (s.data.toList.drop k)=_
 cases s.data.toList.drop k with
 | nil=>rfl
 | cons a l =>
   simp only [List.isPrefixOf,Bool.and_true]
   rw [Bool.eq_iff_iff,beq_iff_eq,beq_iff_eq]
   constructor
   · rintro rfl;rfl
   · intro h;exact (UInt8.toNat_inj.1 h).symm
theorem lwd_from (s:ByteArray) (k n:Nat):lwdL (fromL s k) n=if uptoN s (k+n)-(k+n)=0 then 0 else n+(uptoN s (k+n)-(k+n)):=by
 unfold lwdL
 rw [from_drop,span_upto]
theorem fr_none {s:ByteArray} {a:Nat} (h:headB (s.extract a s.size) 46=false):frL (fromL s a)=0:=by
 unfold frL
 rw [pre_head]
 show (if headB (s.extract a s.size) 46=true then _ else _)=0
 rw [h];rfl
theorem fr_some {s:ByteArray} {a b:Nat} (h:headB (s.extract a s.size) 46=true) (hb:uptoN s (a+1)=b) (hl:a+1<b):frL (fromL s a)=b-a:=by
 unfold frL
 rw [pre_head]
 show (if headB (s.extract a s.size) 46=true then _ else _)=_
 rw [h,if_pos rfl,lwd_from,hb,if_neg (by omega)]
 omega
theorem ex_none {s:ByteArray} {p:Nat} (h:¬p<s.size):exL (fromL s p)=0:=by
 rw [from_end h]
 rfl
theorem ex_some {s:ByteArray} {p c b:Nat} (h:p<s.size) (hl:s[p].toNat=101∨s[p].toNat=69) (hc:sgnP s (p+1)=c) (hb:uptoN s c=b) (hlt:c<b):exL (fromL s p)=b-p:=by
 unfold exL
 have e1:(List.isPrefixOf [101] (fromL s p) || List.isPrefixOf [69] (fromL s p))=true:=by
   rw [pre_head,pre_head,head_ext s p _ h,head_ext s p _ h,Bool.or_eq_true,beq_iff_eq,beq_iff_eq]
   exact hl
 rw [e1,if_pos rfl,from_drop,pre_head,pre_head]
 have e2:(headB (s.extract (p+1) s.size) (43:UInt8).toNat || headB (s.extract (p+1) s.size) (45:UInt8).toNat)=(headB (s.extract (p+1) s.size) 45 || headB (s.extract (p+1) s.size) 43):=Bool.or_comm _ _
 rw [e2]
 unfold sgnP at hc
 by_cases k:(headB (s.extract (p+1) s.size) 45 || headB (s.extract (p+1) s.size) 43)=true
 · rw [if_pos k] at hc ⊢
   rw [lwd_from,show p+2=c by omega,hb,if_neg (by omega)]
   omega
 · rw [if_neg k] at hc ⊢
   rw [lwd_from,hc,hb,if_neg (by omega)]
   omega
theorem finV_num {s all:ByteArray} {e:Int} {p:Nat} (hp:p≤s.size) (h:(finV s all e p).2.2=0):p+exL (fromL s p)=s.size:=by
 by_cases c0:p<s.size
 · by_cases l:s[p].toNat=101∨s[p].toNat=69
   · by_cases q:uptoN s (sgnP s (p+1))=s.size∧sgnP s (p+1)<uptoN s (sgnP s (p+1))∧uptoN s (sgnP s (p+1))≤sgnP s (p+1)+2
     · rw [ex_some c0 l rfl rfl q.2.1]
       omega
     · rw [fin_F2 s all e p _ _ c0 l rfl rfl q] at h
       exact absurd h (by decide)
   · rw [fin_F1 s all e p c0 (fun q=>l (Or.inl q)) (fun q=>l (Or.inr q))] at h
     exact absurd h (by decide)
 · rw [ex_none c0]
   omega
theorem from_zero (s:ByteArray):fromL s 0=s.data.toList:=rfl
theorem read_num {s:ByteArray} (h:(readV s).2.2=0):0<s.size∧nuL s.data.toList=s.size∧headP isDg s=true:=by
 by_cases r0:uptoN s 0<1∨40<uptoN s 0
 · rw [read_R0 s r0] at h
   exact absurd h (by decide)
 · have ha:=upto_le' s 0 (by omega)
   have sp:spanL isDg s.data.toList=uptoN s 0:=by rw [←from_zero,span_upto];omega
   have h0:0<s.size:=by omega
   have hd0:headP isDg s=true:=by
     obtain⟨hl,d⟩:=upto_dg s 0 0 (by omega)
     rw [headP_is h0]
     exact d
   refine⟨h0, ?_,hd0⟩
   unfold nuL
   rw [sp]
   have fd:∀j,s.data.toList.drop j=fromL s j:=fun j=>rfl
   rw [fd]
   cases hd:headB (s.extract (uptoN s 0) s.size) 46
   · rw [read_R1a s r0 hd] at h
     have:=finV_num ha h
     rw [fr_none hd,Nat.add_zero,fd]
     exact this
   · have hlt:uptoN s 0<s.size:=by
       by_cases c:uptoN s 0<s.size
       · exact c
       · rw [head_out s _ _ c] at hd;exact absurd hd (by decide)
     by_cases rb:uptoN s 0+1<uptoN s (uptoN s 0+1)∧uptoN s (uptoN s 0+1)≤uptoN s 0+1+40
     · rw [read_R1b s _ _ rfl rfl r0 hd rb.1 rb.2] at h
       have hb:=upto_le' s (uptoN s 0+1) (by omega)
       have:=finV_num hb h
       rw [fr_some hd rfl rb.1,fd,show uptoN s 0+(uptoN s (uptoN s 0+1)-uptoN s 0)=uptoN s (uptoN s 0+1) by omega]
       exact this
     · rw [read_R1c s _ _ rfl rfl r0 hd rb] at h
       exact absurd h (by decide)
theorem dg_plain {c:UInt8} (h:isDg c=true):blkB c=false∧letB c=false∧c≠47:=by
 have:=byte_all (p:=fun c=>!isDg c || (!blkB c&&!letB c&&c != 47)) (by decide +kernel) c
 rw [h] at this
 simp only [Bool.not_true,Bool.false_or,Bool.and_eq_true,Bool.not_eq_true',bne_iff_ne] at this
 exact⟨this.1.1,this.1.2,this.2⟩
theorem ext_all (s:ByteArray):s.extract 0 s.size=s:=by
 apply ByteArray.ext
 apply Array.toList_inj.1
 rw [ext_list,List.drop_zero]
theorem gap_dg {s:ByteArray} (h0:0<s.size) (hd:headP isDg s=true):gapS false s.data.toList=0:=by
 rw [headP_is h0] at hd
 have e:=byte_drop (s:=s) (k:=0) h0
 rw [List.drop_zero] at e
 obtain⟨p1, -,p3⟩:=dg_plain hd
 rw [e]
 refine gap_stop _ ?_ ?_
 · rw [spanL_cons,p1];rfl
 · unfold cmtB
   rw [List.isPrefixOf_cons_cons]
   have:((47:UInt8)==s[0])=false:=beq_eq_false_iff_ne.2 (Ne.symm p3)
   rw [this];rfl
theorem lex_num {s:ByteArray} (h:(readV s).2.2=0) (hz:s.size≤20000):lexV s=⟨[⟨3,⟨#[]⟩,(readV s).1,(readV s).2.1,0⟩,⟨0,⟨#[]⟩,0,0,s.size⟩],0,0⟩:=by
 obtain⟨h0,hn,hd⟩:=read_num h
 have hf:firstV s=⟨s,3,⟨#[]⟩,(readV s).1,(readV s).2.1,0⟩:=by
   have hd':=hd
   rw [headP_is h0] at hd'
   obtain⟨-,p2, -⟩:=dg_plain hd'
   unfold firstV
   rw [hd,headP_is (p:=letB) h0,p2,hn,ext_all]
   simp only [Bool.false_eq_true,if_false,if_true]
   unfold numF
   rw [if_pos h]
 unfold lexV
 rw [if_neg (by omega),gap_dg h0 hd]
 unfold lexF
 rw [if_pos h0,ext_all,hf]
 simp only [List.length_nil]
 rw [if_neg (by decide),if_neg (by simp)]
 obtain⟨g,hg⟩:∃g,s.size=g+1:=⟨s.size-1,by omega⟩
 have e:fromL s (0+s.size)=[]:=from_end (by omega)
 rw [e]
 have e2:gapS false []=0:=rfl
 rw [e2]
 generalize hS:s.size=S at *
 rw [hg]
 unfold lexF
 rw [hS,if_neg (by omega)]
 rw [hg]
 rfl
end Go.Proofs.YtgocelaghggpmaaDoor
