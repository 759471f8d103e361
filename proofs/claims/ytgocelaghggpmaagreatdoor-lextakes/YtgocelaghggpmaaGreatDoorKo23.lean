/- The document's Lex: kinds of bytes, gaps, digits. -/
import Derived.Test.YtgocelaghggpmaaGreatDoorKo22
namespace Go.Proofs.YtgocelaghggpmaaGreatDoor
open Go.ChangeShapes Go.WideShapes Go.ChangeAt Go.RowKit
theorem drop_end {s:ByteArray} {i:Nat} (h:¬i<s.size):s.data.toList.drop i=[]:=List.drop_of_length_le (by simp;omega)
theorem rDigit_w (c:UInt8) (w:World):Calls Tryz.prog 14 #[.int .u8 (c.toNat:Int)] w fun e w'=>e=.returned (.bool (isDg c))∧w=w':=by
 unfold isDg
 generalize (c.toNat:Int)=n
 by_cases h1:48≤n
 · by_cases h2:n≤57
   · rw [decide_eq_true h1,decide_eq_true h2]
     go_enter Tryz.func14,Tryz.ntmps14
     go_wp2_with fail
     go_ret
     exact⟨rfl,rfl⟩
   · rw [decide_eq_true h1,decide_eq_false h2]
     go_enter Tryz.func14,Tryz.ntmps14
     go_wp2_with fail
     go_ret
     exact⟨rfl,rfl⟩
 · rw [decide_eq_false h1]
   go_enter Tryz.func14,Tryz.ntmps14
   go_wp2_with fail
   go_ret
   exact⟨rfl,rfl⟩
theorem rLetter_w (c:UInt8) (w:World):Calls Tryz.prog 13 #[.int .u8 (c.toNat:Int)] w fun e w'=>e=.returned (.bool (letB c))∧w=w':=by
 have E:letB c=((decide (97≤(c.toNat:Int))&&decide ((c.toNat:Int)≤122)) || (decide (65≤(c.toNat:Int))&&decide ((c.toNat:Int)≤90))):=by
   unfold letB
   rw [Bool.eq_iff_iff]
   simp only [Bool.or_eq_true,Bool.and_eq_true,decide_eq_true_eq]
   omega
 rw [E]
 clear E
 generalize (c.toNat:Int)=n
 by_cases h1:97≤n
 · by_cases h2:n≤122
   · rw [decide_eq_true h1,decide_eq_true h2]
     go_enter Tryz.func13,Tryz.ntmps13
     go_wp2_with fail
     go_ret
     exact⟨rfl,rfl⟩
   · have h3:65≤n:=by omega
     have h4:¬n≤90:=by omega
     rw [decide_eq_true h1,decide_eq_false h2,decide_eq_true h3,decide_eq_false h4]
     go_enter Tryz.func13,Tryz.ntmps13
     go_wp2_with fail
     go_ret
     exact⟨rfl,rfl⟩
 · by_cases h3:65≤n
   · by_cases h4:n≤90
     · rw [decide_eq_false h1,decide_eq_true h3,decide_eq_true h4]
       go_enter Tryz.func13,Tryz.ntmps13
       go_wp2_with fail
       go_ret
       exact⟨rfl,rfl⟩
     · rw [decide_eq_false h1,decide_eq_true h3,decide_eq_false h4]
       go_enter Tryz.func13,Tryz.ntmps13
       go_wp2_with fail
       go_ret
       exact⟨rfl,rfl⟩
   · rw [decide_eq_false h1,decide_eq_false h3]
     go_enter Tryz.func13,Tryz.ntmps13
     go_wp2_with fail
     go_ret
     exact⟨rfl,rfl⟩
set_option maxHeartbeats 1000000 in
theorem rDigits_w (s:ByteArray) (k:Nat) (hk:k≤s.size) (hs:(s.size:Int)≤9223372036854775807) (w:World) :
   Calls Tryz.prog 32 #[.string s,.int .i64 (k:Int)] w fun e w'=>e=.returned (.int .i64 (uptoN s k:Int))∧w=w':=by
 obtain⟨u,hU⟩:∃u,Hid (uptoN s k=u):=⟨_,rfl⟩
 rw [hU.out]
 have cd:=rDigit_w
 go_enter Tryz.func32,Tryz.ntmps32
 go_upto_region 1 with fail
 go_loopg [1] (s.size-k) (fun G s1 wx=>∃i:Nat,s1=.int .i64 (i:Int)∧i≤s.size∧i+G=s.size∧w=wx∧Hid (uptoN s i=u))
 case atStart=>exact⟨k,rfl,hk,by omega,rfl,hU⟩
 case round =>
   clear hU
   obtain⟨i,rfl,hi,hG,rfl,H⟩:=hrel
   by_cases c:i<s.size
   · have ci:(i:Int)<(s.size:Int):=by omega
     have cd1:=fun W=>cd s[i] W
     cases d:isDg s[i]
     · have e:i=u:=by rw [←H.out,upto_stop c d]
       subst e
       rw [d] at cd1
       clear H d cd
       go_wp2_with (go_at_call 14;(with_reducible refine (cd1 _).mono ?_);rintro _ W1 ⟨rfl,rfl⟩)
       go_ret
       exact⟨rfl,rfl⟩
     · have H2:Hid (uptoN s (i+1)=u):=by
         show _=_
         rw [←upto_step c d]
         exact H.out
       rw [d] at cd1
       clear H d cd
       go_wp2_with (go_at_call 14;(with_reducible refine (cd1 _).mono ?_);rintro _ W1 ⟨rfl,rfl⟩)
       (go_roundg (s.size-i-1)
        case measure=>omega
        case rel=>exact⟨i+1,by go_num,by omega,by omega,rfl,H2⟩)
   · have e:i=u:=by rw [←H.out,upto_end c]
     subst e
     have ci:¬(i:Int)<(s.size:Int):=by omega
     clear H cd
     go_wp2_with fail
     go_ret
     exact⟨rfl,rfl⟩
set_option maxHeartbeats 2000000 in
theorem rBlanks_w (s:ByteArray) (k:Nat) (hk:k≤s.size) (hs:(s.size:Int)≤1000000) (w:World) :
   Calls Tryz.prog 12 #[.string s,.int .i64 (k:Int)] w fun e w'=>e=.returned (.int .i64 ((k+gapS false (s.data.toList.drop k):Nat):Int))∧w=w':=by
 obtain⟨u,hU⟩:∃u,Hid (k+gapS false (s.data.toList.drop k)=u):=⟨_,rfl⟩
 rw [hU.out]
 go_enter Tryz.func12,Tryz.ntmps12
 go_upto_region 1 with fail
 go_loopg [1] (s.size-k) (fun G s1 wx=>∃i:Nat,s1=.int .i64 (i:Int)∧i≤s.size∧i+G=s.size∧w=wx∧Hid (i+gapS false (s.data.toList.drop i)=u))
 case atStart=>exact⟨k,rfl,hk,by omega,rfl,hU⟩
 case round =>
   clear hU
   obtain⟨i,rfl,hi,hG,rfl,H⟩:=hrel
   by_cases c:i<s.size
   · have ci:(i:Int)<(s.size:Int):=by omega
     have H1:=H.out
     have bd:=byte_drop c
     have eg:gapS false (s.data.toList.drop i)=if blkB s[i] then gapS false (s.data.toList.drop (i+1))+1 else if cmtB (s.data.toList.drop i) then gapS true (s.data.toList.drop (i+1))+1 else 0:=by rw [bd];rfl
     have key:(((s[i].toNat:Int)==32)=true∨(((s[i].toNat:Int)==32)=false∧((s[i].toNat:Int)==9)=true)∨(((s[i].toNat:Int)==32)=false∧((s[i].toNat:Int)==9)=false∧((s[i].toNat:Int)==10)=true)∨(((s[i].toNat:Int)==32)=false∧((s[i].toNat:Int)==9)=false∧((s[i].toNat:Int)==10)=false∧((s[i].toNat:Int)==13)=true))∧blkB s[i]=true ∨
         (((s[i].toNat:Int)==32)=false∧((s[i].toNat:Int)==9)=false∧((s[i].toNat:Int)==10)=false∧((s[i].toNat:Int)==13)=false)∧blkB s[i]=false:=by
       unfold blkB
       simp only [beq_iff_eq,beq_eq_false_iff_ne,Bool.or_eq_true,Bool.or_eq_false_iff]
       generalize s[i].toNat=b
       omega
     clear H
     rcases key with ⟨key,hb⟩ | ⟨⟨k1,k2,k3,k4⟩,hb⟩
     · rw [hb,if_pos rfl] at eg
       have H2:Hid (i+1+gapS false (s.data.toList.drop (i+1))=u):=by show _=_;omega
       clear hb H1 eg bd
       rcases key with k1 | ⟨k1,k2⟩ | ⟨k1,k2,k3⟩ | ⟨k1,k2,k3,k4⟩
       all_goals
         go_wp2_with fail
         (go_roundg (s.size-i-1)
          case measure=>omega
          case rel=>exact⟨i+1,by go_num,by omega,by omega,rfl,H2⟩)
     · rw [hb,if_neg (by decide)] at eg
       have cmt:cmtB (s.data.toList.drop i)=true↔∃h:i+1<s.size,s[i].toNat=47∧s[i+1].toNat=47:=by
         rw [bd]
         unfold cmtB
         rw [List.isPrefixOf_cons_cons,Bool.and_eq_true,beq_iff_eq]
         by_cases c1:i+1<s.size
         · rw [byte_drop c1]
           simp only [List.isPrefixOf,Bool.and_true,beq_iff_eq]
           constructor
           · rintro ⟨q1,q2⟩
             exact⟨c1,by rw [←q1];rfl,by rw [←q2];rfl⟩
           · rintro ⟨_,q1,q2⟩
             exact⟨(UInt8.toNat_inj.1 q1).symm,(UInt8.toNat_inj.1 q2).symm⟩
         · rw [drop_end c1]
           constructor
           · rintro ⟨-,q⟩;exact absurd q (by simp [List.isPrefixOf])
           · rintro ⟨q, -⟩;exact absurd q c1
       by_cases hc:cmtB (s.data.toList.drop i)=true
       · obtain⟨c1,m1,m2⟩:=cmt.1 hc
         have c1i:¬(s.size:Int)≤(i:Int)+1:=by omega
         have c1j:(i:Int)+1<(s.size:Int):=by omega
         have n1:((s[i].toNat:Int) != 47)=false:=by rw [bne_eq_false_iff_eq];omega
         have n2:((s[i+1].toNat:Int) != 47)=false:=by rw [bne_eq_false_iff_eq];omega
         have gc:=gap_cmt _ hc
         rw [List.drop_drop] at gc
         obtain⟨v,hv⟩:∃v,Hid (i+spanL linB (s.data.toList.drop i)=v):=⟨_,rfl⟩
         have H2:Hid (v+gapS false (s.data.toList.drop v)=u):=by
           show _=_
           rw [←hv.out]
           omega
         have vlt:i<v:=by
           rw [←hv.out,bd,spanL_cons,if_pos (by unfold linB;rw [m1];rfl)]
           omega
         have vle:v≤s.size:=by
           rw [←hv.out]
           have:=spanL_le linB (s.data.toList.drop i)
           rw [List.length_drop] at this
           have zz:s.data.toList.length=s.size:=by simp
           omega
         clear eg gc cmt hc H1 bd hb
         go_upto_region 7 with fail
         clear n1 n2 k1 k2 k3 k4 m1 m2 c1i c1j c1 ci c
         go_loopg [1] (s.size-i) (fun G s1 wx=>∃j:Nat,s1=.int .i64 (j:Int)∧j≤s.size∧j+G=s.size∧w=wx∧Hid (j+spanL linB (s.data.toList.drop j)=v))
         case atStart=>exact⟨i,rfl,hi,by omega,rfl,hv⟩
         case round =>
           clear hv
           obtain⟨j,rfl,hj,hG2,rfl,H3⟩:=hrel
           by_cases c:j<s.size
           · have ci:(j:Int)<(s.size:Int):=by omega
             have H4:=H3.out
             rw [byte_drop c,spanL_cons] at H4
             by_cases b:s[j].toNat=10
             · have g1:((s[j].toNat:Int) != 10)=false:=by rw [bne_eq_false_iff_eq];omega
               rw [if_neg (by unfold linB;rw [b];decide)] at H4
               obtain rfl:j=v:=by omega
               clear H3 H4
               go_wp2_with fail
               (go_roundg (s.size-j)
                case measure=>omega
                case rel=>exact⟨j,rfl,by omega,by omega,rfl,H2⟩)
             · have g1:((s[j].toNat:Int) != 10)=true:=by rw [bne_iff_ne];omega
               rw [if_pos (by unfold linB;exact bne_iff_ne.2 b)] at H4
               have H5:Hid (j+1+spanL linB (s.data.toList.drop (j+1))=v):=by show _=_;omega
               clear H3 H4
               go_wp2_with fail
               (go_roundg (s.size-j-1)
                case measure=>omega
                case rel=>exact⟨j+1,by go_num,by omega,by omega,rfl,H5⟩)
           · have ci:¬(j:Int)<(s.size:Int):=by omega
             have H4:=H3.out
             rw [drop_end c] at H4
             obtain rfl:j=v:=by rw [←H4];rfl
             clear H3 H4
             go_wp2_with fail
             (go_roundg (s.size-j)
              case measure=>omega
              case rel=>exact⟨j,rfl,by omega,by omega,rfl,H2⟩)
       · rw [if_neg hc] at eg
         obtain rfl:i=u:=by omega
         have key2:((s[i].toNat:Int) != 47)=true∨(((s[i].toNat:Int) != 47)=false∧(s.size:Int)≤(i:Int)+1)∨(∃c1:i+1<s.size,((s[i].toNat:Int) != 47)=false∧((s[i+1].toNat:Int) != 47)=true):=by
           by_cases m1:s[i].toNat=47
           · have n1:((s[i].toNat:Int) != 47)=false:=by rw [bne_eq_false_iff_eq];omega
             by_cases c1:i+1<s.size
             · exact Or.inr (Or.inr ⟨c1,n1,by rw [bne_iff_ne];intro q;exact hc (cmt.2 ⟨c1,m1,by omega⟩)⟩)
             · exact Or.inr (Or.inl ⟨n1,by omega⟩)
           · exact Or.inl (by rw [bne_iff_ne];omega)
         clear eg cmt hc H1 bd hb
         rcases key2 with n1 | ⟨n1,n2⟩ | ⟨c1,n1,n2⟩
         · go_wp2_with fail
           go_ret
           exact⟨rfl,rfl⟩
         · go_wp2_with fail
           go_ret
           exact⟨rfl,rfl⟩
         · have c1i:¬(s.size:Int)≤(i:Int)+1:=by omega
           have c1j:(i:Int)+1<(s.size:Int):=by omega
           go_wp2_with fail
           go_ret
           exact⟨rfl,rfl⟩
   · have ci:¬(i:Int)<(s.size:Int):=by omega
     have e:i=u:=by
       have H1:=H.out
       rw [drop_end c] at H1
       rw [←H1]
       rfl
     subst e
     clear H
     go_wp2_with fail
     go_ret
     exact⟨rfl,rfl⟩
end Go.Proofs.YtgocelaghggpmaaGreatDoor
