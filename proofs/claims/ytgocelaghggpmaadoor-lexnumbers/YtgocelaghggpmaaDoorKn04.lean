/- LexNumbers: a text that is one number's token is a number; the law's walk. -/
import Derived.Test.YtgocelaghggpmaaDoorChecked
import Derived.Lib.Strings
import Derived.Lib.Slices
import Derived.Lib.Small
import Derived.Lib.Walk
import Derived.Lib.BitFns
import Derived.KernelRfl
import Derived.WalkKit
import Derived.Laws.Cover2
import Derived.Laws.FloatArith
import Derived.Laws.BitsAllLaws
import Derived.Test.YtgocelaghggpmaaDoorRows
import Derived.ProofKit
import Derived.OpenShut
import Derived.WalkSpells
import Derived.WalkLawsBesides
import Derived.Laws.Externs
import Derived.Laws.Bits64b
import Derived.Handy
import Derived.Deep.RegionWith
import Derived.Deep.QuietTactic
import Derived.BigQuiet
import Derived.Deep.RegionHeld3
import Derived.Deep.CutRange
import Derived.Deep.LoopGhost
import Derived.Deep.CutBlock
import Derived.WalkSmall
import Derived.Deep.Quiet
import Derived.StillTail
import Derived.Lib.ConvBytes
import Derived.Lib.AtoiErrMem
import Derived.Test.YtgocelaghggpmaaDoorShelf
import Derived.Maps.Own
import Derived.Maps.OwnOps
import Derived.Maps.OwnSet
import Derived.Maps.AppendAt
import Derived.StringKeys
import Derived.Lib.AppendIntMem
import Derived.Laws.AppendOwn
import Derived.Lib.ParseIntBCases
import Derived.Deep.Cut
import Derived.LaidMore
import Derived.Stop.LaidErr
import Derived.Lib.SmallJoins
import Derived.Test.YtgocelaghggpmaaDoorKa01
import Derived.Test.YtgocelaghggpmaaDoorKa02
import Derived.Test.YtgocelaghggpmaaDoorKa03
import Derived.Test.YtgocelaghggpmaaDoorKa04
import Derived.Test.YtgocelaghggpmaaDoorKa05
import Derived.Test.YtgocelaghggpmaaDoorKa06
import Derived.Test.YtgocelaghggpmaaDoorKa07
import Derived.Test.YtgocelaghggpmaaDoorKa08
import Derived.Test.YtgocelaghggpmaaDoorKa09
import Derived.Test.YtgocelaghggpmaaDoorKa10
import Derived.Test.YtgocelaghggpmaaDoorKa11
import Derived.Test.YtgocelaghggpmaaDoorKa12
import Derived.Test.YtgocelaghggpmaaDoorKa13
import Derived.Test.YtgocelaghggpmaaDoorKa14
import Derived.Test.YtgocelaghggpmaaDoorKa15
import Derived.Test.YtgocelaghggpmaaDoorKa16
import Derived.Test.YtgocelaghggpmaaDoorKa17
import Derived.Test.YtgocelaghggpmaaDoorKa18
import Derived.Test.YtgocelaghggpmaaDoorKa19
import Derived.Test.YtgocelaghggpmaaDoorKa20
import Derived.Test.YtgocelaghggpmaaDoorKa21
import Derived.Test.YtgocelaghggpmaaDoorKa22
import Derived.Test.YtgocelaghggpmaaDoorKa23
import Derived.Test.YtgocelaghggpmaaDoorKa24
import Derived.Test.YtgocelaghggpmaaDoorKa25
import Derived.Test.YtgocelaghggpmaaDoorKa26
import Derived.Test.YtgocelaghggpmaaDoorKa27
import Derived.Test.YtgocelaghggpmaaDoorKa28
import Derived.Test.YtgocelaghggpmaaDoorKa29
import Derived.Test.YtgocelaghggpmaaDoorKa30
import Derived.Test.YtgocelaghggpmaaDoorKa31
import Derived.Test.YtgocelaghggpmaaDoorKa32
import Derived.Test.YtgocelaghggpmaaDoorKa33
import Derived.Test.YtgocelaghggpmaaDoorKa34
import Derived.Test.YtgocelaghggpmaaDoorKa35
import Derived.Test.YtgocelaghggpmaaDoorKn03
namespace Go.Proofs.YtgocelaghggpmaaDoor
open Go.ChangeShapes Go.WideShapes Go.ChangeAt Go.RowKit Go.Maps
def bksB (c:UInt8):Bool:=c.toNat==32 || c.toNat==9 || c.toNat==10 || c.toNat==13 || c.toNat==47
theorem bks_no {c:UInt8} (h:bksB c=false):blkB c=false∧c≠47:=by
 unfold bksB at h
 simp only [Bool.or_eq_false_iff,beq_eq_false_iff_ne] at h
 obtain⟨⟨⟨⟨h1,h2⟩,h3⟩,h4⟩,h5⟩:=h
 refine⟨?_,fun q=>h5 (by rw [q];rfl)⟩
 unfold blkB
 simp only [Bool.or_eq_false_iff,beq_eq_false_iff_ne]
 exact⟨⟨⟨h1,h2⟩,h3⟩,h4⟩
theorem gap_no {l:List UInt8} (h:l.any bksB=false):gapS false l=0:=by
 cases l with
 | nil=>rfl
 | cons c l =>
   rw [List.any_cons,Bool.or_eq_false_iff] at h
   obtain⟨p1,p2⟩:=bks_no h.1
   refine gap_stop _ ?_ ?_
   · rw [spanL_cons,p1];rfl
   · unfold cmtB
     rw [List.isPrefixOf_cons_cons]
     have:((47:UInt8)==c)=false:=beq_eq_false_iff_ne.2 (Ne.symm p2)
     rw [this];rfl
theorem any_drop {l:List UInt8} {p:UInt8→Bool} (h:l.any p=false) (j:Nat):(l.drop j).any p=false:=by
 rw [List.any_eq_false] at h ⊢
 exact fun x hx=>h x (List.mem_of_mem_drop hx)
theorem firstV_num {s:ByteArray} (h0:0<s.size) (hk:(firstV s).k=3):(firstV s).t=s.extract 0 (nuL s.data.toList)∧(readV (s.extract 0 (nuL s.data.toList))).2.2=0:=by
 unfold firstV at hk ⊢
 rw [headP_is h0,headP_is h0,headP_is h0] at hk ⊢
 cases p0:letB s[0]
 · rw [p0] at hk
   cases p1:isDg s[0]
   · rw [p1] at hk
     cases p2:sgnB s[0]
     · rw [p2] at hk
       simp only [Bool.false_eq_true,if_false] at hk
       exact absurd hk (by decide)
     · rw [p2] at hk
       simp only [Bool.false_eq_true,if_false,if_true] at hk
       exact absurd (show (4:Int)=3 from hk) (by decide)
   · rw [p1] at hk
     simp only [Bool.false_eq_true,if_false,if_true] at hk ⊢
     unfold numF at hk ⊢
     by_cases c:(readV (s.extract 0 (nuL s.data.toList))).2.2=0
     · rw [if_pos c]
       exact⟨rfl,c⟩
     · rw [if_neg c] at hk
       exact absurd (show (0:Int)=3 from hk) (by decide)
 · rw [p0,if_pos rfl] at hk
   have hk':namK (s.extract 0 (spanL namB s.data.toList))=3:=hk
   unfold namK at hk'
   split at hk'
   · exact absurd hk' (by decide)
   · split at hk' <;> exact absurd hk' (by decide)
theorem lex_one {s:ByteArray} (hz:s.size≤20000) (d:Tk) (he:(lexV s).e=0) (hl:(lexV s).t.length=2) (hk:((lexV s).t.getD 0 d).k=3) (hb:s.data.toList.any bksB=false):(readV s).2.2=0:=by
 unfold lexV at he hl hk
 rw [if_neg (by omega),gap_no hb] at he hl hk
 unfold lexF at he hl hk
 by_cases c1:0<s.size
 · rw [if_pos c1,ext_all] at he hl hk
   simp only [List.length_nil] at he hl hk
   rw [if_neg (by decide)] at he hl hk
   by_cases c3:(firstV s).e≠0
   · rw [if_pos c3] at he
     exact absurd he c3
   · rw [if_neg c3] at he hl hk
     have e:fromL s (0+(firstV s).t.size)=s.data.toList.drop (0+(firstV s).t.size):=rfl
     rw [e,gap_no (any_drop hb _)] at he hl hk
     obtain⟨U,h1,h2⟩:=lexF_more s _ _ _ he
     have k3:(firstV s).k=3:=by
       rw [h1] at hk
       exact hk
     obtain⟨t1,t2⟩:=firstV_num c1 k3
     by_cases c4:nuL s.data.toList=s.size
     · rw [c4,ext_all] at t2
       exact t2
     · have nl:=nu_le s.data.toList
       have zz:s.data.toList.length=s.size:=by simp
       have hlt:0+(firstV s).t.size+0<s.size:=by
         rw [t1,ByteArray.size_extract]
         omega
       obtain⟨g,hg⟩:∃g,s.size=g+1:=⟨s.size-1,by omega⟩
       have key:∀g p T,p<s.size→T.length=1→(lexF s (g+1) p T).e=0→3≤(lexF s (g+1) p T).t.length:=by
         intro g p T hp hT hE
         unfold lexF at hE ⊢
         rw [if_pos hp,if_neg (by omega)] at hE ⊢
         by_cases c5:(firstV (s.extract p s.size)).e≠0
         · rw [if_pos c5] at hE
           exact absurd hE c5
         · rw [if_neg c5] at hE ⊢
           obtain⟨U,q1,q2⟩:=lexF_more s g _ _ hE
           rw [q1,List.length_append,List.length_append]
           simp only [List.length_cons,List.length_nil]
           omega
       have:=key g (0+(firstV s).t.size+0) [⟨(firstV s).k,(firstV s).S,(firstV s).N,(firstV s).D,((0:Nat):Int)⟩] hlt rfl
       rw [←hg] at this
       have q:=this he
       have hl':(lexF s s.size (0+(firstV s).t.size+0) [⟨(firstV s).k,(firstV s).S,(firstV s).N,(firstV s).D,((0:Nat):Int)⟩]).t.length=2:=hl
       omega
 · rw [if_neg c1] at hl
   exact absurd hl (by simp)
set_option maxHeartbeats 1000000 in
theorem blank_w (s:ByteArray) (hs:(s.size:Int)≤9223372036854775807) (w:World) :
   Calls Tryd.prog 16 #[.string s] w fun e w'=>e=.returned (.bool (s.data.toList.any bksB))∧w=w':=by
 obtain⟨u,hU⟩:∃u,Hid (s.data.toList.any bksB=u):=⟨_,rfl⟩
 rw [hU.out]
 go_enter Tryd.func16,Tryd.ntmps16
 go_upto_region 2 with fail
 go_loopg [3] s.size (fun G s3 wx=>∃i:Nat,s3=.int .i64 (i:Int)∧i≤s.size∧i+G=s.size∧w=wx∧Hid ((fromL s i).any bksB=u))
 case atStart=>exact⟨0,rfl,by omega,by omega,rfl,hU⟩
 case round =>
   clear hU
   obtain⟨i,rfl,hi,hG,rfl,H⟩:=hrel
   by_cases c:i<s.size
   · have ci:(i:Int)<(s.size:Int):=by omega
     have H1:=H.out
     rw [from_cons c,List.any_cons] at H1
     have key:(((s[i].toNat:Int)==32)=true∨(((s[i].toNat:Int)==32)=false∧((s[i].toNat:Int)==9)=true)∨(((s[i].toNat:Int)==32)=false∧((s[i].toNat:Int)==9)=false∧((s[i].toNat:Int)==10)=true)∨(((s[i].toNat:Int)==32)=false∧((s[i].toNat:Int)==9)=false∧((s[i].toNat:Int)==10)=false∧((s[i].toNat:Int)==13)=true)∨(((s[i].toNat:Int)==32)=false∧((s[i].toNat:Int)==9)=false∧((s[i].toNat:Int)==10)=false∧((s[i].toNat:Int)==13)=false∧((s[i].toNat:Int)==47)=true))∧bksB s[i]=true ∨
         (((s[i].toNat:Int)==32)=false∧((s[i].toNat:Int)==9)=false∧((s[i].toNat:Int)==10)=false∧((s[i].toNat:Int)==13)=false∧((s[i].toNat:Int)==47)=false)∧bksB s[i]=false:=by
       unfold bksB
       simp only [beq_iff_eq,beq_eq_false_iff_ne,Bool.or_eq_true,Bool.or_eq_false_iff]
       generalize s[i].toNat=b
       omega
     clear H
     rcases key with ⟨key,hb⟩ | ⟨⟨k1,k2,k3,k4,k5⟩,hb⟩
     · rw [hb,Bool.true_or] at H1
       subst H1
       clear hb
       rcases key with k1 | ⟨k1,k2⟩ | ⟨k1,k2,k3⟩ | ⟨k1,k2,k3,k4⟩ | ⟨k1,k2,k3,k4,k5⟩
       all_goals
         go_wp2_with fail
         go_ret
         exact⟨rfl,rfl⟩
     · rw [hb,Bool.false_or] at H1
       have H2:Hid ((fromL s (i+1)).any bksB=u):=H1
       clear hb H1
       go_wp2_with fail
       (go_roundg (s.size-i-1)
        case measure=>omega
        case rel=>exact⟨i+1,by go_num,by omega,by omega,rfl,H2⟩)
   · have ci:¬(i:Int)<(s.size:Int):=by omega
     have H1:=H.out
     rw [from_end c] at H1
     have e:u=false:=by rw [←H1];rfl
     subst e
     clear H H1
     go_wp2_with fail
     go_ret
     exact⟨rfl,rfl⟩
end Go.Proofs.YtgocelaghggpmaaDoor
