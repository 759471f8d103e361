/- Reading of numbers, by places in the text. -/
import Derived.Test.YtgocelaghggpmaaDoorChecked
import Derived.Lib.Strings
import Derived.Lib.Slices
import Derived.Lib.Small
import Derived.Lib.Walk
import Derived.Lib.BitFns
import Derived.KernelRfl
import Derived.WalkKit
import Derived.Laws.Cover2
import Derived.Laws.FloatArith
import Derived.Laws.BitsAllLaws
import Derived.Test.YtgocelaghggpmaaDoorRows
import Derived.ProofKit
import Derived.OpenShut
import Derived.WalkSpells
import Derived.WalkLawsBesides
import Derived.Laws.Externs
import Derived.Laws.Bits64b
import Derived.Handy
import Derived.Deep.RegionWith
import Derived.Deep.QuietTactic
import Derived.BigQuiet
import Derived.Deep.RegionHeld3
import Derived.Deep.CutRange
import Derived.Deep.LoopGhost
import Derived.Deep.CutBlock
import Derived.WalkSmall
import Derived.Deep.Quiet
import Derived.StillTail
import Derived.Lib.ConvBytes
import Derived.Lib.AtoiErrMem
import Derived.Test.YtgocelaghggpmaaDoorShelf
import Derived.Maps.Own
import Derived.Maps.OwnOps
import Derived.Maps.OwnSet
import Derived.Maps.AppendAt
import Derived.StringKeys
import Derived.Lib.AppendIntMem
import Derived.Laws.AppendOwn
import Derived.Lib.ParseIntBCases
import Derived.Deep.Cut
import Derived.LaidMore
import Derived.Stop.LaidErr
import Derived.Lib.SmallJoins
import Derived.Test.YtgocelaghggpmaaDoorKa01
import Derived.Test.YtgocelaghggpmaaDoorKa02
import Derived.Test.YtgocelaghggpmaaDoorKa03
import Derived.Test.YtgocelaghggpmaaDoorKa04
import Derived.Test.YtgocelaghggpmaaDoorKa05
import Derived.Test.YtgocelaghggpmaaDoorKa06
import Derived.Test.YtgocelaghggpmaaDoorKa07
import Derived.Test.YtgocelaghggpmaaDoorKa08
import Derived.Test.YtgocelaghggpmaaDoorKa09
import Derived.Test.YtgocelaghggpmaaDoorKa10
import Derived.Test.YtgocelaghggpmaaDoorKa11
import Derived.Test.YtgocelaghggpmaaDoorKa12
import Derived.Test.YtgocelaghggpmaaDoorKa13
import Derived.Test.YtgocelaghggpmaaDoorKa14
import Derived.Test.YtgocelaghggpmaaDoorKa15
import Derived.Test.YtgocelaghggpmaaDoorKa16
import Derived.Test.YtgocelaghggpmaaDoorKa17
import Derived.Test.YtgocelaghggpmaaDoorKa18
import Derived.Test.YtgocelaghggpmaaDoorKa19
import Derived.Test.YtgocelaghggpmaaDoorKa20
import Derived.Test.YtgocelaghggpmaaDoorKa21
import Derived.Test.YtgocelaghggpmaaDoorKa22
import Derived.Test.YtgocelaghggpmaaDoorKa23
import Derived.Test.YtgocelaghggpmaaDoorKa24
import Derived.Test.YtgocelaghggpmaaDoorKa25
import Derived.Test.YtgocelaghggpmaaDoorKa26
import Derived.Test.YtgocelaghggpmaaDoorKa27
import Derived.Test.YtgocelaghggpmaaDoorKa28
import Derived.Test.YtgocelaghggpmaaDoorKa29
import Derived.Test.YtgocelaghggpmaaDoorKa30
import Derived.Test.YtgocelaghggpmaaDoorKa31
import Derived.Test.YtgocelaghggpmaaDoorKa32
import Derived.Test.YtgocelaghggpmaaDoorKa33
import Derived.Test.YtgocelaghggpmaaDoorKa34
import Derived.Test.YtgocelaghggpmaaDoorKa35
import Derived.Test.YtgocelaghggpmaaDoorKn01
namespace Go.Proofs.YtgocelaghggpmaaDoor
open Go.ChangeShapes Go.WideShapes Go.ChangeAt Go.RowKit
theorem upto_le' (s:ByteArray) (k:Nat) (h:k≤s.size):uptoN s k≤s.size:=by
 unfold uptoN
 have h1:=(List.takeWhile_sublist isDg (l:=s.data.toList.drop k)).length_le
 have e:(s.data.toList.drop k).length=s.size-k:=by rw [List.length_drop];simp
 omega
theorem upto_ext (s:ByteArray) (k:Nat):uptoN (s.extract k s.size) 0=uptoN s k-k:=by
 unfold uptoN
 rw [List.drop_zero,ext_list]
 omega
theorem ext_ext (s:ByteArray) (k i:Nat):(s.extract k s.size).extract i (s.extract k s.size).size=s.extract (k+i) s.size:=by
 apply ByteArray.ext
 apply Array.toList_inj.1
 rw [ext_list,ext_list,ext_list,List.drop_drop]
theorem ext_pre (s:ByteArray) (k n:Nat) (h:k+n≤s.size):(s.extract k s.size).extract 0 n=s.extract k (k+n):=by
 rw [ByteArray.extract_extract,Nat.add_zero,Nat.min_eq_left h]
theorem head_ext (s:ByteArray) (k c:Nat) (h:k<s.size):headB (s.extract k s.size) c=(s[k].toNat==c):=by
 unfold headB
 rw [ext_list,byte_drop h]
theorem head_out (s:ByteArray) (k c:Nat) (h:¬k<s.size):headB (s.extract k s.size) c=false:=by
 refine head_none ?_
 rw [ByteArray.size_extract];omega
theorem upto_dg (s:ByteArray) (k i:Nat) (h:k+i<uptoN s k):∃h:k+i<s.size,isDg s[k+i]=true:=by
 unfold uptoN at h
 have hu:i<((s.data.toList.drop k).takeWhile isDg).length:=by omega
 have ha:=List.all_eq_true.1 (List.all_takeWhile (p:=isDg) (l:=s.data.toList.drop k)) _ (List.getElem_mem hu)
 rw [(List.takeWhile_prefix isDg (l:=s.data.toList.drop k)).getElem hu] at ha
 have hl:=(List.takeWhile_sublist isDg (l:=s.data.toList.drop k)).length_le
 have e:(s.data.toList.drop k).length=s.size-k:=by rw [List.length_drop];simp
 refine⟨by omega, ?_⟩
 rw [List.getElem_drop] at ha
 exact ha
theorem dg_head (s:ByteArray) (k i c:Nat) (h:k+i<uptoN s k) (hc:c<48∨57<c):headB (s.extract (k+i) s.size) c=false:=by
 obtain⟨hl,d⟩:=upto_dg s k i h
 rw [head_ext s _ _ hl]
 unfold isDg at d
 simp only [Bool.and_eq_true,decide_eq_true_eq] at d
 exact beq_eq_false_iff_ne.2 (by omega)
theorem fracB_none {s:ByteArray} (h:headB s 46=false):fracB s=⟨⟨#[]⟩,s,true⟩:=by
 unfold fracB;rw [h];rfl
theorem expB_none {s:ByteArray} (h:headB s 101=false) (k:headB s 69=false):expB s=⟨0,s,true⟩:=by
 unfold expB;rw [h,k];rfl
def finV (s all:ByteArray) (e:Int) (p:Nat):Int×Int×Int :=
 if (expB (s.extract p s.size)).ok=true∧(expB (s.extract p s.size)).r.size=0 then decV (valN all.data.toList) ((expB (s.extract p s.size)).e+e) else (0,0,110)
theorem read_R0 (s:ByteArray) (h:uptoN s 0<1∨40<uptoN s 0):readV s=(0,0,110):=by
 unfold readV
 by_cases c:uptoN s 0<1
 · have z:ldN s 40=0:=by unfold ldN;omega
   rw [if_neg (fun q=>q.1 z)]
 · have z:ldN s 40=40:=by unfold ldN;omega
   have a1:=dg_head s 0 40 46 (by omega) (by omega)
   have a2:=dg_head s 0 40 101 (by omega) (by omega)
   have a3:=dg_head s 0 40 69 (by omega) (by omega)
   obtain⟨hl, -⟩:=upto_dg s 0 40 (by omega)
   rw [Nat.zero_add] at a1 a2 a3
   rw [z,fracB_none a1,expB_none a2 a3,if_neg]
   rintro ⟨-, -, -,q⟩
   have:(s.extract 40 s.size).size=0:=q
   rw [ByteArray.size_extract] at this
   omega
theorem read_R1a (s:ByteArray) (h:¬(uptoN s 0<1∨40<uptoN s 0)) (hd:headB (s.extract (uptoN s 0) s.size) 46=false):readV s=finV s (s.extract 0 (uptoN s 0)) 0 (uptoN s 0):=by
 have z:ldN s 40=uptoN s 0:=by unfold ldN;omega
 unfold readV finV
 rw [z,fracB_none hd]
 have e:s.extract 0 (uptoN s 0)++(⟨#[]⟩:ByteArray)=s.extract 0 (uptoN s 0):=ByteArray.append_empty
 simp only [e]
 have hz:(⟨#[]⟩:ByteArray).size=0:=rfl
 rw [hz]
 by_cases c:(expB (s.extract (uptoN s 0) s.size)).ok=true∧(expB (s.extract (uptoN s 0) s.size)).r.size=0
 · rw [if_pos c,if_pos ⟨by omega,trivial,c⟩];congr 1 <;> omega
 · rw [if_neg c,if_neg (fun q=>c q.2.2)]
theorem read_R1b (s:ByteArray) (a b:Nat) (ha:uptoN s 0=a) (hb:uptoN s (a+1)=b) (h:¬(a<1∨40<a)) (hd:headB (s.extract a s.size) 46=true) (h1:a+1<b) (h2:b≤a+1+40):readV s=finV s (s.extract 0 a++s.extract (a+1) b) ((a:Int)+1-b) b:=by
 have z:ldN s 40=a:=by unfold ldN;omega
 have hl:a<s.size:=by
   by_cases c:a<s.size
   · exact c
   · rw [head_out s _ _ c] at hd;exact absurd hd (by decide)
 have hb2:=upto_le' s (a+1) (by omega)
 have z2:ldN (s.extract (a+1) s.size) 40=b-(a+1):=by unfold ldN;rw [upto_ext,hb];omega
 have e:fracB (s.extract a s.size)=⟨s.extract (a+1) b,s.extract b s.size,true⟩:=by
   unfold fracB
   rw [hd,if_pos rfl,ext_ext,z2,ext_pre _ _ _ (by omega),ext_ext,show a+1+(b-(a+1))=b by omega,decide_eq_true (by omega)]
 unfold readV finV
 rw [z,e]
 have hz:(s.extract (a+1) b).size=b-(a+1):=by rw [ByteArray.size_extract];omega
 simp only [hz]
 by_cases c:(expB (s.extract b s.size)).ok=true∧(expB (s.extract b s.size)).r.size=0
 · rw [if_pos c,if_pos ⟨by omega,trivial,c⟩];congr 1 <;> omega
 · rw [if_neg c,if_neg (fun q=>c q.2.2)]
theorem read_R1c (s:ByteArray) (a b:Nat) (ha:uptoN s 0=a) (hb:uptoN s (a+1)=b) (h:¬(a<1∨40<a)) (hd:headB (s.extract a s.size) 46=true) (h1:¬(a+1<b∧b≤a+1+40)):readV s=(0,0,110):=by
 have z:ldN s 40=a:=by unfold ldN;omega
 have g:=upto_ge s (a+1)
 unfold readV
 rw [z]
 by_cases c:b=a+1
 · have z2:ldN (s.extract (a+1) s.size) 40=0:=by unfold ldN;rw [upto_ext,hb];omega
   rw [if_neg]
   rintro ⟨-,q, -⟩
   unfold fracB at q
   rw [hd,if_pos rfl,ext_ext,z2] at q
   have q':decide ((0:Nat)≠0)=true:=q
   exact absurd q' (by decide)
 · have z2:ldN (s.extract (a+1) s.size) 40=40:=by unfold ldN;rw [upto_ext,hb];omega
   have e:(fracB (s.extract a s.size)).r=s.extract (a+1+40) s.size:=by
     unfold fracB
     rw [hd,if_pos rfl,ext_ext,z2,ext_ext]
   have a2:=dg_head s (a+1) 40 101 (by omega) (by omega)
   have a3:=dg_head s (a+1) 40 69 (by omega) (by omega)
   obtain⟨hl, -⟩:=upto_dg s (a+1) 40 (by omega)
   rw [e,expB_none a2 a3,if_neg]
   rintro ⟨-, -, -,q⟩
   have:(s.extract (a+1+40) s.size).size=0:=q
   rw [ByteArray.size_extract] at this
   omega
theorem fin_F1 (s all:ByteArray) (e:Int) (p:Nat) (h:p<s.size) (h1:¬s[p].toNat=101) (h2:¬s[p].toNat=69):finV s all e p=(0,0,110):=by
 unfold finV
 rw [expB_none (by rw [head_ext s _ _ h];exact beq_eq_false_iff_ne.2 h1) (by rw [head_ext s _ _ h];exact beq_eq_false_iff_ne.2 h2),if_neg]
 rintro ⟨-,q⟩
 have:(s.extract p s.size).size=0:=q
 rw [ByteArray.size_extract] at this
 omega
def sgnP (s:ByteArray) (p:Nat):Nat:=if headB (s.extract p s.size) 45 || headB (s.extract p s.size) 43 then p+1 else p
theorem after_is (s:ByteArray) (p:Nat):afterS (s.extract p s.size)=s.extract (sgnP s p) s.size:=by
 unfold afterS sgnP
 split
 · rw [ext_ext]
 · rfl
theorem sgnP_le (s:ByteArray) (p:Nat) (h:p≤s.size):sgnP s p≤s.size:=by
 unfold sgnP
 by_cases c:p<s.size
 · split <;> omega
 · rw [head_out s _ _ c,head_out s _ _ c];simpa using h
theorem fin_some (s:ByteArray) (p:Nat) (h:p<s.size) (h1:s[p].toNat=101∨s[p].toNat=69):expB (s.extract p s.size)=expS (s.extract (p+1) s.size) (s.extract (sgnP s (p+1)) s.size):=by
 unfold expB
 rw [ext_ext,after_is,head_ext s _ _ h,head_ext s _ _ h]
 rcases h1 with q | q <;> rw [q] <;> rfl
theorem fin_F2 (s all:ByteArray) (e:Int) (p c b:Nat) (h:p<s.size) (h1:s[p].toNat=101∨s[p].toNat=69) (hc:sgnP s (p+1)=c) (hb:uptoN s c=b) (hn:¬(b=s.size∧c<b∧b≤c+2)):finV s all e p=(0,0,110):=by
 have cl:=sgnP_le s (p+1) (by omega)
 rw [hc] at cl
 have bl:=upto_le' s c cl
 rw [hb] at bl
 have g:=upto_ge s c
 unfold finV
 rw [fin_some s p h h1,hc]
 unfold expS
 have z:ldN (s.extract c s.size) 2=min 2 (b-c):=by unfold ldN;rw [upto_ext,hb]
 rw [if_neg]
 rintro ⟨q1,q2⟩
 have q3:=of_decide_eq_true q1
 have q4:((s.extract c s.size).extract (ldN (s.extract c s.size) 2) (s.extract c s.size).size).size=0:=q2
 rw [ext_ext,ByteArray.size_extract,z] at q4
 rw [z] at q3
 omega
end Go.Proofs.YtgocelaghggpmaaDoor
