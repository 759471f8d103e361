/- Reading of numbers, by places in the text. strconv.ParseInt and Atoi of digits, by the library's laid contracts; the program's Read, whole. The reference's numbers of stage 11: powers of amounts. -/
import Derived.Test.YtgocelaghggpmaaDoorChecked
import Derived.Lib.Strings
import Derived.Lib.Slices
import Derived.Lib.Small
import Derived.Lib.Walk
import Derived.Lib.BitFns
import Derived.KernelRfl
import Derived.WalkKit
import Derived.Laws.Cover2
import Derived.Laws.FloatArith
import Derived.Laws.BitsAllLaws
import Derived.Test.YtgocelaghggpmaaDoorRows
import Derived.ProofKit
import Derived.OpenShut
import Derived.WalkSpells
import Derived.WalkLawsBesides
import Derived.Laws.Externs
import Derived.Laws.Bits64b
import Derived.Handy
import Derived.Deep.RegionWith
import Derived.Deep.QuietTactic
import Derived.BigQuiet
import Derived.Deep.RegionHeld3
import Derived.Deep.CutRange
import Derived.Deep.LoopGhost
import Derived.Deep.CutBlock
import Derived.WalkSmall
import Derived.Deep.Quiet
import Derived.StillTail
import Derived.Lib.ConvBytes
import Derived.Lib.AtoiErrMem
import Derived.Test.YtgocelaghggpmaaDoorShelf
import Derived.Lib.ParseIntBCases
import Derived.Deep.Cut
import Derived.LaidMore
import Derived.Stop.LaidErr
import Derived.Lib.SmallJoins
import Derived.Test.YtgocelaghggpmaaDoorKa01
import Derived.Test.YtgocelaghggpmaaDoorKa02
import Derived.Test.YtgocelaghggpmaaDoorKa03
import Derived.Test.YtgocelaghggpmaaDoorKa04
import Derived.Test.YtgocelaghggpmaaDoorKa05
import Derived.Test.YtgocelaghggpmaaDoorKa06
import Derived.Test.YtgocelaghggpmaaDoorKa07
import Derived.Test.YtgocelaghggpmaaDoorKa08
import Derived.Test.YtgocelaghggpmaaDoorKa09
import Derived.Test.YtgocelaghggpmaaDoorKa10
import Derived.Test.YtgocelaghggpmaaDoorKa11
import Derived.Test.YtgocelaghggpmaaDoorKa12
import Derived.Test.YtgocelaghggpmaaDoorKa13
import Derived.Test.YtgocelaghggpmaaDoorKa14
import Derived.Test.YtgocelaghggpmaaDoorKa15
import Derived.Test.YtgocelaghggpmaaDoorKa16
import Derived.Test.YtgocelaghggpmaaDoorKa17
import Derived.Test.YtgocelaghggpmaaDoorKa18
import Derived.Test.YtgocelaghggpmaaDoorKa19
import Derived.Test.YtgocelaghggpmaaDoorKa20
import Derived.Test.YtgocelaghggpmaaDoorKa21
import Derived.Test.YtgocelaghggpmaaDoorKa22
import Derived.Test.YtgocelaghggpmaaDoorKa23
import Derived.Test.YtgocelaghggpmaaDoorKa24
import Derived.Test.YtgocelaghggpmaaDoorKa25
import Derived.Test.YtgocelaghggpmaaDoorKa26
import Derived.Test.YtgocelaghggpmaaDoorKa27
import Derived.Test.YtgocelaghggpmaaDoorKa28
import Derived.Test.YtgocelaghggpmaaDoorKa29
import Derived.Test.YtgocelaghggpmaaDoorKa30
import Derived.Test.YtgocelaghggpmaaDoorKa31
import Derived.Test.YtgocelaghggpmaaDoorKa32
import Derived.Test.YtgocelaghggpmaaDoorKa33
import Derived.Test.YtgocelaghggpmaaDoorKa34
import Derived.Test.YtgocelaghggpmaaDoorKa35
import Derived.Test.YtgocelaghggpmaaDoorKr04
namespace Go.Proofs.YtgocelaghggpmaaDoor
open Go.ChangeShapes Go.WideShapes Go.ChangeAt Go.RowKit
theorem upto_le' (s:ByteArray) (k:Nat) (h:k≤s.size):uptoN s k≤s.size:=by
 unfold uptoN
 have h1:=(List.takeWhile_sublist isDg (l:=s.data.toList.drop k)).length_le
 have e:(s.data.toList.drop k).length=s.size-k:=by rw [List.length_drop];simp
 omega
theorem upto_ext (s:ByteArray) (k:Nat):uptoN (s.extract k s.size) 0=uptoN s k-k:=by
 unfold uptoN
 rw [List.drop_zero,ext_list]
 omega
theorem ext_ext (s:ByteArray) (k i:Nat):(s.extract k s.size).extract i (s.extract k s.size).size=s.extract (k+i) s.size:=by
 apply ByteArray.ext
 apply Array.toList_inj.1
 rw [ext_list,ext_list,ext_list,List.drop_drop]
theorem ext_pre (s:ByteArray) (k n:Nat) (h:k+n≤s.size):(s.extract k s.size).extract 0 n=s.extract k (k+n):=by
 rw [ByteArray.extract_extract,Nat.add_zero,Nat.min_eq_left h]
theorem head_ext (s:ByteArray) (k c:Nat) (h:k<s.size):headB (s.extract k s.size) c=(s[k].toNat==c):=by
 unfold headB
 rw [ext_list,byte_drop h]
theorem head_out (s:ByteArray) (k c:Nat) (h:¬k<s.size):headB (s.extract k s.size) c=false:=by
 refine head_none ?_
 rw [ByteArray.size_extract];omega
theorem upto_dg (s:ByteArray) (k i:Nat) (h:k+i<uptoN s k):∃h:k+i<s.size,isDg s[k+i]=true:=by
 unfold uptoN at h
 have hu:i<((s.data.toList.drop k).takeWhile isDg).length:=by omega
 have ha:=List.all_eq_true.1 (List.all_takeWhile (p:=isDg) (l:=s.data.toList.drop k)) _ (List.getElem_mem hu)
 rw [(List.takeWhile_prefix isDg (l:=s.data.toList.drop k)).getElem hu] at ha
 have hl:=(List.takeWhile_sublist isDg (l:=s.data.toList.drop k)).length_le
 have e:(s.data.toList.drop k).length=s.size-k:=by rw [List.length_drop];simp
 refine⟨by omega, ?_⟩
 rw [List.getElem_drop] at ha
 exact ha
theorem dg_head (s:ByteArray) (k i c:Nat) (h:k+i<uptoN s k) (hc:c<48∨57<c):headB (s.extract (k+i) s.size) c=false:=by
 obtain⟨hl,d⟩:=upto_dg s k i h
 rw [head_ext s _ _ hl]
 unfold isDg at d
 simp only [Bool.and_eq_true,decide_eq_true_eq] at d
 exact beq_eq_false_iff_ne.2 (by omega)
theorem fracB_none {s:ByteArray} (h:headB s 46=false):fracB s=⟨⟨#[]⟩,s,true⟩:=by
 unfold fracB;rw [h];rfl
theorem expB_none {s:ByteArray} (h:headB s 101=false) (k:headB s 69=false):expB s=⟨0,s,true⟩:=by
 unfold expB;rw [h,k];rfl
def finV (s all:ByteArray) (e:Int) (p:Nat):Int×Int×Int :=
 if (expB (s.extract p s.size)).ok=true∧(expB (s.extract p s.size)).r.size=0 then decV (valN all.data.toList) ((expB (s.extract p s.size)).e+e) else (0,0,110)
theorem read_R0 (s:ByteArray) (h:uptoN s 0<1∨40<uptoN s 0):readV s=(0,0,110):=by
 unfold readV
 by_cases c:uptoN s 0<1
 · have z:ldN s 40=0:=by unfold ldN;omega
   rw [if_neg (fun q=>q.1 z)]
 · have z:ldN s 40=40:=by unfold ldN;omega
   have a1:=dg_head s 0 40 46 (by omega) (by omega)
   have a2:=dg_head s 0 40 101 (by omega) (by omega)
   have a3:=dg_head s 0 40 69 (by omega) (by omega)
   obtain⟨hl, -⟩:=upto_dg s 0 40 (by omega)
   rw [Nat.zero_add] at a1 a2 a3
   rw [z,fracB_none a1,expB_none a2 a3,if_neg]
   rintro ⟨-, -, -,q⟩
   have:(s.extract 40 s.size).size=0:=q
   rw [ByteArray.size_extract] at this
   omega
theorem read_R1a (s:ByteArray) (h:¬(uptoN s 0<1∨40<uptoN s 0)) (hd:headB (s.extract (uptoN s 0) s.size) 46=false):readV s=finV s (s.extract 0 (uptoN s 0)) 0 (uptoN s 0):=by
 have z:ldN s 40=uptoN s 0:=by unfold ldN;omega
 unfold readV finV
 rw [z,fracB_none hd]
 have e:s.extract 0 (uptoN s 0)++(⟨#[]⟩:ByteArray)=s.extract 0 (uptoN s 0):=ByteArray.append_empty
 simp only [e]
 have hz:(⟨#[]⟩:ByteArray).size=0:=rfl
 rw [hz]
 by_cases c:(expB (s.extract (uptoN s 0) s.size)).ok=true∧(expB (s.extract (uptoN s 0) s.size)).r.size=0
 · rw [if_pos c,if_pos ⟨by omega,trivial,c⟩];congr 1 <;> omega
 · rw [if_neg c,if_neg (fun q=>c q.2.2)]
theorem read_R1b (s:ByteArray) (a b:Nat) (ha:uptoN s 0=a) (hb:uptoN s (a+1)=b) (h:¬(a<1∨40<a)) (hd:headB (s.extract a s.size) 46=true) (h1:a+1<b) (h2:b≤a+1+40):readV s=finV s (s.extract 0 a++s.extract (a+1) b) ((a:Int)+1-b) b:=by
 have z:ldN s 40=a:=by unfold ldN;omega
 have hl:a<s.size:=by
   by_cases c:a<s.size
   · exact c
   · rw [head_out s _ _ c] at hd;exact absurd hd (by decide)
 have hb2:=upto_le' s (a+1) (by omega)
 have z2:ldN (s.extract (a+1) s.size) 40=b-(a+1):=by unfold ldN;rw [upto_ext,hb];omega
 have e:fracB (s.extract a s.size)=⟨s.extract (a+1) b,s.extract b s.size,true⟩:=by
   unfold fracB
   rw [hd,if_pos rfl,ext_ext,z2,ext_pre _ _ _ (by omega),ext_ext,show a+1+(b-(a+1))=b by omega,decide_eq_true (by omega)]
 unfold readV finV
 rw [z,e]
 have hz:(s.extract (a+1) b).size=b-(a+1):=by rw [ByteArray.size_extract];omega
 simp only [hz]
 by_cases c:(expB (s.extract b s.size)).ok=true∧(expB (s.extract b s.size)).r.size=0
 · rw [if_pos c,if_pos ⟨by omega,trivial,c⟩];congr 1 <;> omega
 · rw [if_neg c,if_neg (fun q=>c q.2.2)]
theorem read_R1c (s:ByteArray) (a b:Nat) (ha:uptoN s 0=a) (hb:uptoN s (a+1)=b) (h:¬(a<1∨40<a)) (hd:headB (s.extract a s.size) 46=true) (h1:¬(a+1<b∧b≤a+1+40)):readV s=(0,0,110):=by
 have z:ldN s 40=a:=by unfold ldN;omega
 have g:=upto_ge s (a+1)
 unfold readV
 rw [z]
 by_cases c:b=a+1
 · have z2:ldN (s.extract (a+1) s.size) 40=0:=by unfold ldN;rw [upto_ext,hb];omega
   rw [if_neg]
   rintro ⟨-,q, -⟩
   unfold fracB at q
   rw [hd,if_pos rfl,ext_ext,z2] at q
   have q':decide ((0:Nat)≠0)=true:=q
   exact absurd q' (by decide)
 · have z2:ldN (s.extract (a+1) s.size) 40=40:=by unfold ldN;rw [upto_ext,hb];omega
   have e:(fracB (s.extract a s.size)).r=s.extract (a+1+40) s.size:=by
     unfold fracB
     rw [hd,if_pos rfl,ext_ext,z2,ext_ext]
   have a2:=dg_head s (a+1) 40 101 (by omega) (by omega)
   have a3:=dg_head s (a+1) 40 69 (by omega) (by omega)
   obtain⟨hl, -⟩:=upto_dg s (a+1) 40 (by omega)
   rw [e,expB_none a2 a3,if_neg]
   rintro ⟨-, -, -,q⟩
   have:(s.extract (a+1+40) s.size).size=0:=q
   rw [ByteArray.size_extract] at this
   omega
theorem fin_F0 (s all:ByteArray) (e:Int) (p:Nat) (h:¬p<s.size):finV s all e p=decV (valN all.data.toList) e:=by
 unfold finV
 rw [expB_none (head_out s _ _ h) (head_out s _ _ h),if_pos ⟨rfl,by show (s.extract p s.size).size=0;rw [ByteArray.size_extract];omega⟩,Int.zero_add]
theorem fin_F1 (s all:ByteArray) (e:Int) (p:Nat) (h:p<s.size) (h1:¬s[p].toNat=101) (h2:¬s[p].toNat=69):finV s all e p=(0,0,110):=by
 unfold finV
 rw [expB_none (by rw [head_ext s _ _ h];exact beq_eq_false_iff_ne.2 h1) (by rw [head_ext s _ _ h];exact beq_eq_false_iff_ne.2 h2),if_neg]
 rintro ⟨-,q⟩
 have:(s.extract p s.size).size=0:=q
 rw [ByteArray.size_extract] at this
 omega
def sgnP (s:ByteArray) (p:Nat):Nat:=if headB (s.extract p s.size) 45 || headB (s.extract p s.size) 43 then p+1 else p
theorem after_is (s:ByteArray) (p:Nat):afterS (s.extract p s.size)=s.extract (sgnP s p) s.size:=by
 unfold afterS sgnP
 split
 · rw [ext_ext]
 · rfl
theorem sgnP_le (s:ByteArray) (p:Nat) (h:p≤s.size):sgnP s p≤s.size:=by
 unfold sgnP
 by_cases c:p<s.size
 · split <;> omega
 · rw [head_out s _ _ c,head_out s _ _ c];simpa using h
theorem fin_some (s:ByteArray) (p:Nat) (h:p<s.size) (h1:s[p].toNat=101∨s[p].toNat=69):expB (s.extract p s.size)=expS (s.extract (p+1) s.size) (s.extract (sgnP s (p+1)) s.size):=by
 unfold expB
 rw [ext_ext,after_is,head_ext s _ _ h,head_ext s _ _ h]
 rcases h1 with q | q <;> rw [q] <;> rfl
theorem fin_F2 (s all:ByteArray) (e:Int) (p c b:Nat) (h:p<s.size) (h1:s[p].toNat=101∨s[p].toNat=69) (hc:sgnP s (p+1)=c) (hb:uptoN s c=b) (hn:¬(b=s.size∧c<b∧b≤c+2)):finV s all e p=(0,0,110):=by
 have cl:=sgnP_le s (p+1) (by omega)
 rw [hc] at cl
 have bl:=upto_le' s c cl
 rw [hb] at bl
 have g:=upto_ge s c
 unfold finV
 rw [fin_some s p h h1,hc]
 unfold expS
 have z:ldN (s.extract c s.size) 2=min 2 (b-c):=by unfold ldN;rw [upto_ext,hb]
 rw [if_neg]
 rintro ⟨q1,q2⟩
 have q3:=of_decide_eq_true q1
 have q4:((s.extract c s.size).extract (ldN (s.extract c s.size) 2) (s.extract c s.size).size).size=0:=q2
 rw [ext_ext,ByteArray.size_extract,z] at q4
 rw [z] at q3
 omega
theorem fin_F3 (s all:ByteArray) (e:Int) (p c b:Nat) (h:p<s.size) (h1:s[p].toNat=101∨s[p].toNat=69) (hc:sgnP s (p+1)=c) (hb:uptoN s c=b) (hn:b=s.size∧c<b∧b≤c+2):finV s all e p=decV (valN all.data.toList) (e+(if headB (s.extract (p+1) s.size) 45 then -((valN (s.extract c b).data.toList:Nat):Int) else ((valN (s.extract c b).data.toList:Nat):Int))):=by
 unfold finV
 rw [fin_some s p h h1,hc]
 unfold expS
 have z:ldN (s.extract c s.size) 2=b-c:=by unfold ldN;rw [upto_ext,hb];omega
 rw [if_pos ⟨by rw [z];exact decide_eq_true (by omega),by show ((s.extract c s.size).extract (ldN (s.extract c s.size) 2) (s.extract c s.size).size).size=0;rw [ext_ext,ByteArray.size_extract,z];omega⟩]
 simp only
 rw [z,ext_pre _ _ _ (by omega),show c+(b-c)=b by omega,Int.add_comm]
theorem dec_fold:∀(l:List UInt8) (acc:Nat),(∀c∈l,48≤c.toNat∧c.toNat≤57)→Lib.decFrom acc l=some (l.foldl (fun n c=>n*10+(c.toNat-48)) acc)
 | [],_,_=>rfl
 | c :: l,acc,hd=>by
   have d:=hd c (List.mem_cons_self ..)
   unfold Lib.decFrom Lib.digitVal
   rw [if_pos d]
   exact dec_fold l _ fun x hx=>hd x (List.mem_cons_of_mem _ hx)
theorem atoi_dg (l:List UInt8) (hl:l≠[]) (hd:∀c∈l,48≤c.toNat∧c.toNat≤57):Lib.atoi l=some ((valN l:Nat):Int):=by
 obtain⟨c,r,rfl⟩:=List.exists_cons_of_ne_nil hl
 have d:=hd c (List.mem_cons_self ..)
 have n1:(c==45)=false:=by
   rw [beq_eq_false_iff_ne];rintro rfl;exact absurd d (by decide)
 have n2:(c==43)=false:=by
   rw [beq_eq_false_iff_ne];rintro rfl;exact absurd d (by decide)
 show (if (c==45)=true then (Lib.decNat r).map fun (m:Nat)=>-(m:Int) else if (c==43)=true then (Lib.decNat r).map fun (m:Nat)=>(m:Int) else (Lib.decNat (c :: r)).map fun (m:Nat)=>(m:Int))=_
 rw [n1,n2,if_neg (by decide),if_neg (by decide)]
 have e:Lib.decNat (c :: r)=some (valN (c :: r)):=dec_fold (c :: r) 0 hd
 rw [e]
 rfl
theorem atoi_w (s:ByteArray) (h:s.size≤2) (h0:s.size≠0) (hd:∀i (h:i<s.size),isDg s[i]=true) (w:World) :
   Calls Tryd.prog 24 #[.string s] w fun e w'=>e=.returned (.tuple #[.int .i64 ((valN s.data.toList:Nat):Int),.nilIface])∧Below w.heap.size w w':=by
 have hne:s.data.toList≠[]:=by
   intro q
   have:s.data.toList.length=0:=by rw [q];rfl
   rw [Array.length_toList] at this
   exact h0 this
 have hl:∀c∈s.data.toList,48≤c.toNat∧c.toNat≤57:=by
   intro c hc
   obtain⟨j,hj,e⟩:=List.getElem_of_mem hc
   have hj':j<s.size:=by rw [Array.length_toList] at hj;exact hj
   have d:=hd j hj'
   have e2:s[j]=c:=e
   rw [e2] at d
   unfold isDg at d
   simp only [Bool.and_eq_true,decide_eq_true_eq] at d
   omega
 refine (Tryd.strconv_Atoi s _ (by omega) (atoi_dg _ hne hl) w).mono ?_
 rintro e w' ⟨he,t,rfl⟩
 exact⟨he,Lib.bytesWorld_below w _ t⟩
theorem pow_room {a K i:Nat} (ha:a<2^K):a^i<2^(K*i+1):=by
 have h:a^i≤(2^K)^i:=Nat.pow_le_pow_left (Nat.le_of_lt ha) i
 rw [←Nat.pow_mul] at h
 exact Nat.lt_of_le_of_lt h (Nat.pow_lt_pow_right (by omega) (by omega))
set_option maxHeartbeats 4000000 in
theorem power_w11 {ao:Option Addr} {l ca:Nat} (a n K:Nat) (hK:K≤100) (hn:n≤200) (ha:a<2^K) (w:World) (A:BigIs w (.slice ao l ca) a) :
   Calls Tryd.prog 29 #[.slice ao l ca,.int .i64 (n:Int)] w fun r w'=>(∃v,r=.returned v∧BigIs w' v (a^n))∧Below w.heap.size w w':=by
 have c1:=one_w
 have HK:Hid (a<2^K):=ha
 clear ha
 have hni:(n:Int)≤200:=by omega
 go_enter Tryd.func29,Tryd.ntmps29
 go_upto_region 3 with (go_at_call 30;(with_reducible refine (c1 _).mono ?_);rintro _ V1 ⟨⟨v1,rfl,O⟩,HB⟩)
 clear c1
 go_loopg [5,6] n (fun G s5 s6 wx=>∃i:Nat,s6=.int .i64 (i:Int)∧i+G=n∧Below w.heap.size w wx∧BigIs wx s5 (a^i))
 case atStart=>exact⟨0,rfl,by omega,HB,O⟩
 case round =>
   clear HB O
   obtain⟨i,rfl,hi,HB,P⟩:=hrel
   obtain⟨o5,k5,u5,rfl, -⟩:=P.shape
   by_cases ci:i=n
   · subst ci
     have c2:¬(i:Int)<(i:Int):=by omega
     clear HK
     go_wp2_with fail
     go_ret
     exact⟨⟨_,rfl,P⟩,HB⟩
   · have hlt:(i:Int)<(n:Int):=by omega
     have hq:K*i+1≤100*200+1:=Nat.add_le_add_right (Nat.mul_le_mul hK (by omega)) 1
     have cb:=fun W v (p:BigIs W v (a^i)) (q:BigIs W (.slice ao l ca) a)=>by_w v (.slice ao l ca) (a^i) a (K*i+1+K) (by omega) (pow_up (pow_room HK.out)) (Nat.lt_of_lt_of_le HK.out (Nat.pow_le_pow_right (by omega) (by omega))) W p q
     have AA:=A.keep HB
     have E1:Hid (a^i*a=a^(i+1)):=(Nat.pow_succ ..).symm
     clear HK hq
     generalize a^i=pi at *
     go_wp2_with (go_at_call 28;(with_reducible refine (cb _ _ P AA).mono ?_);rintro _ W1 ⟨⟨v2,rfl,Q⟩,hb1⟩;replace HB:=later HB hb1;clear hb1)
     rw [E1.out] at Q
     (go_roundg (n-i-1)
      case measure=>omega
      case rel=>exact⟨i+1,by go_num,by omega,HB,Q⟩)
end Go.Proofs.YtgocelaghggpmaaDoor
