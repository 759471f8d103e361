/- The document's Lex: signs, words. -/
import Derived.Test.YtgocelaghggpmaaGreatDoorKo23
import Derived.Test.YtgocelaghggpmaaGreatDoorKo25
import Derived.Test.YtgocelaghggpmaaGreatDoorKo37
import Derived.Lib.SmallJoins
import Derived.Deep.Cut
import Derived.Deep.CutRange
namespace Go.Proofs.YtgocelaghggpmaaGreatDoor
open Go.ChangeShapes Go.WideShapes Go.ChangeAt Go.RowKit
def sgsL:List UInt8:=[40,41,91,93,44,59,58,46,61,43,45,42,47,94]
theorem sgn_is (c:UInt8):sgnB c=sgsL.contains c:=by
 have:=byte_all (p:=fun c=>sgnB c==sgsL.contains c) (by decide +kernel) c
 exact beq_iff_eq.1 this
set_option maxHeartbeats 2000000 in
set_option maxRecDepth 20000 in
theorem rSign_w (s:ByteArray) (k:Nat) (hk:k<s.size) (hs:(s.size:Int)≤1000000) (w:World) :
   Calls Tryz.prog 17 #[.string s,.int .i64 (k:Int)] w fun e w'=>e=.returned (.int .i64 ((k+(if sgnB s[k] then sigL (fromL s k) else 0):Nat):Int))∧Below w.heap.size w w':=by
 have ki:(k:Int)<(s.size:Int):=by omega
 have kl:(k:Int)≤(s.size:Int):=by omega
 have pc:k+1<s.size→((s.extract k (k+2)).toList==[46,46])=List.isPrefixOf [46,46] (fromL s k):=by
   intro c1
   have e:(s.extract k (k+2)).toList=(fromL s k).take 2:=by
     rw [ByteArray.toList_eq]
     unfold fromL
     simp only [ByteArray.data_extract,Array.toList_extract,List.extract_eq_take_drop]
     congr 1
     omega
   rw [e,from_cons hk,from_cons c1]
   simp only [List.take_succ_cons,List.take_zero,List.isPrefixOf,Bool.and_true]
   rw [Bool.eq_iff_iff]
   simp only [beq_iff_eq,Bool.and_eq_true,List.cons.injEq,and_true]
   constructor
   · rintro ⟨h1,h2⟩;exact⟨h1.symm,h2.symm⟩
   · rintro ⟨h1,h2⟩;exact⟨h1.symm,h2.symm⟩
 have pn:¬k+1<s.size→List.isPrefixOf [46,46] (fromL s k)=false:=by
   intro c1
   rw [from_cons hk,from_end c1]
   simp [List.isPrefixOf]
 have p46:List.isPrefixOf [46,46] (fromL s k)=true→sgnB s[k]=true:=by
   intro h
   rw [from_cons hk,List.isPrefixOf_cons_cons,Bool.and_eq_true,beq_iff_eq] at h
   rw [←h.1]
   decide
 have sg:=sgn_is s[k]
 unfold sigL
 generalize hpb:List.isPrefixOf [46,46] (fromL s k)=pb at *
 generalize hsb:sgnB s[k]=sb at *
 have PC:Hid _:=pc
 have PN:Hid _:=pn
 have SG:Hid _:=sg
 clear pc pn sg hpb hsb
 go_enter Tryz.func17,Tryz.ntmps17
 go_upto_region 1 with fail
 go_cut [19] from 7 to 18 (fun s19 wx=>s19=.bool pb∧w=wx)
 case first =>
   by_cases c1:k+1<s.size
   · have c1i:(k:Int)+1<(s.size:Int):=by omega
     have c2i:(k:Int)+2≤(s.size:Int):=by omega
     have e:=PC.out c1
     have EH:Hid _:=e
     clear PC PN SG e p46
     go_wp2_with fail
     go_meet
     case rel=>exact⟨congrArg Value.bool EH.out,rfl⟩
   · have c1i:¬(k:Int)+1<(s.size:Int):=by omega
     have e:=PN.out c1
     subst e
     clear PC PN SG p46
     go_wp2_with fail
     go_meet
     case rel=>exact⟨rfl,rfl⟩
 case rest =>
   obtain⟨rfl,rfl⟩:=hcut
   cases pb
   · clear PC PN p46
     have hcv:=Lib.run_convert_bytes_const (P:=Tryz.prog) w 61 5 #[.int .u8 40,.int .u8 41,.int .u8 91,.int .u8 93,.int .u8 44,.int .u8 59,.int .u8 58,.int .u8 46,.int .u8 61,.int .u8 43,.int .u8 45,.int .u8 42,.int .u8 47,.int .u8 94] 14 14 Tryz.underlying61 Tryz.underlying5
     have HB:Below w.heap.size w (w.alloc (.cells #[.int .u8 40,.int .u8 41,.int .u8 91,.int .u8 93,.int .u8 44,.int .u8 59,.int .u8 58,.int .u8 46,.int .u8 61,.int .u8 43,.int .u8 45,.int .u8 42,.int .u8 47,.int .u8 94] 5 ((#[.int .u8 40,.int .u8 41,.int .u8 91,.int .u8 93,.int .u8 44,.int .u8 59,.int .u8 58,.int .u8 46,.int .u8 61,.int .u8 43,.int .u8 45,.int .u8 42,.int .u8 47,.int .u8 94]:Array Value).size,(#[.int .u8 40,.int .u8 41,.int .u8 91,.int .u8 93,.int .u8 44,.int .u8 59,.int .u8 58,.int .u8 46,.int .u8 61,.int .u8 43,.int .u8 45,.int .u8 42,.int .u8 47,.int .u8 94]:Array Value).size+1))):=(Below.refl _ _).alloc (Nat.le_refl _) _
     have cl:∀j,j<14→(w.alloc (.cells #[.int .u8 40,.int .u8 41,.int .u8 91,.int .u8 93,.int .u8 44,.int .u8 59,.int .u8 58,.int .u8 46,.int .u8 61,.int .u8 43,.int .u8 45,.int .u8 42,.int .u8 47,.int .u8 94] 5 ((#[.int .u8 40,.int .u8 41,.int .u8 91,.int .u8 93,.int .u8 44,.int .u8 59,.int .u8 58,.int .u8 46,.int .u8 61,.int .u8 43,.int .u8 45,.int .u8 42,.int .u8 47,.int .u8 94]:Array Value).size,(#[.int .u8 40,.int .u8 41,.int .u8 91,.int .u8 93,.int .u8 44,.int .u8 59,.int .u8 58,.int .u8 46,.int .u8 61,.int .u8 43,.int .u8 45,.int .u8 42,.int .u8 47,.int .u8 94]:Array Value).size+1))).cell? ⟨w.heap.size,j,none⟩=some (.int .u8 ((sgsL.getD j 0).toNat:Int)):=by
       intro j hj
       rw [World.cell?_alloc_mark]
       match j,hj with
       | 0,_=>rfl
       | 1,_=>rfl
       | 2,_=>rfl
       | 3,_=>rfl
       | 4,_=>rfl
       | 5,_=>rfl
       | 6,_=>rfl
       | 7,_=>rfl
       | 8,_=>rfl
       | 9,_=>rfl
       | 10,_=>rfl
       | 11,_=>rfl
       | 12,_=>rfl
       | 13,_=>rfl
     go_upto_region 4 with fail
     have CL:Hid _:=cl
     clear cl hcv
     generalize w.alloc (.cells #[.int .u8 40,.int .u8 41,.int .u8 91,.int .u8 93,.int .u8 44,.int .u8 59,.int .u8 58,.int .u8 46,.int .u8 61,.int .u8 43,.int .u8 45,.int .u8 42,.int .u8 47,.int .u8 94] 5 ((#[.int .u8 40,.int .u8 41,.int .u8 91,.int .u8 93,.int .u8 44,.int .u8 59,.int .u8 58,.int .u8 46,.int .u8 61,.int .u8 43,.int .u8 45,.int .u8 42,.int .u8 47,.int .u8 94]:Array Value).size,(#[.int .u8 40,.int .u8 41,.int .u8 91,.int .u8 93,.int .u8 44,.int .u8 59,.int .u8 58,.int .u8 46,.int .u8 61,.int .u8 43,.int .u8 45,.int .u8 42,.int .u8 47,.int .u8 94]:Array Value).size+1))=V at *
     go_loopg [25] 14 (fun G s25 wx=>∃j:Nat,s25=.int .i64 (j:Int)∧j≤14∧j+G=14∧V=wx∧Hid (∀i,i<j→sgsL.getD i 0≠s[k]))
     case atStart=>exact⟨0,rfl,by omega,by omega,rfl,fun i hi=>by omega⟩
     case round =>
       obtain⟨j,rfl,hj,hG,rfl,H⟩:=hrel
       by_cases c:j<14
       · have ci:(j:Int)<14:=by omega
         have cj:=CL.out j c
         by_cases e:sgsL.getD j 0=s[k]
         · have g1:(((sgsL.getD j 0).toNat:Int)==(s[k].toNat:Int))=true:=by rw [e];exact beq_self_eq_true _
           obtain rfl:sb=true:=by
             rw [SG.out]
             have:s[k]∈sgsL:=by
               rw [←e]
               have hl:j<sgsL.length:=c
               have e2:sgsL.getD j 0=sgsL[j]:=by simp [List.getD,hl]
               rw [e2]
               exact List.getElem_mem hl
             simpa using this
           clear SG H CL e
           generalize ((sgsL.getD j 0).toNat:Int)=gj at *
           go_wp2_with fail
           go_ret
           exact⟨rfl,HB⟩
         · have g1:(((sgsL.getD j 0).toNat:Int)==(s[k].toNat:Int))=false:=by
             rw [beq_eq_false_iff_ne]
             intro q
             exact e (UInt8.toNat_inj.1 (by omega))
           have H2:Hid (∀i,i<j+1→sgsL.getD i 0≠s[k]):=by
             show ∀i,_→_
             intro i hi
             by_cases q:i=j
             · rw [q];exact e
             · exact H.out i (by omega)
           clear SG H CL e
           generalize ((sgsL.getD j 0).toNat:Int)=gj at *
           go_wp2_with fail
           (go_roundg (14-j-1)
            case measure=>omega
            case rel=>exact⟨j+1,by go_num,by omega,by omega,rfl,H2⟩)
       · have ci:¬(j:Int)<14:=by omega
         obtain rfl:sb=false:=by
           rw [SG.out]
           cases hq:sgsL.contains s[k]
           · rfl
           · have hm:s[k]∈sgsL:=by simpa using hq
             obtain⟨i,hi,e⟩:=List.getElem_of_mem hm
             have hl:i<14:=hi
             exact absurd (show sgsL.getD i 0=s[k] by rw [←e];simp [List.getD,hi]) (H.out i (by omega))
         clear SG H CL
         go_wp2_with fail
         go_ret
         exact⟨rfl,HB⟩
   · have e:=p46 rfl
     subst e
     clear PC PN SG p46
     go_wp2_with fail
     go_ret
     exact⟨rfl,Below.refl _ _⟩
set_option maxHeartbeats 2000000 in
set_option maxRecDepth 20000 in
theorem rWord_w (s:ByteArray) (hs:(s.size:Int)≤4611686018427387904) (w:World) :
   Calls Tryz.prog 8 #[.string s] w fun e w'=>e=.returned (.bool (wordB s.data.toList))∧w=w':=by
 have zz:s.data.toList.length=s.size:=by simp
 obtain⟨r,hr⟩:∃r,Hid (wordB s.data.toList=r):=⟨_,rfl⟩
 rw [hr.out]
 go_enter Tryz.func8,Tryz.ntmps8
 go_upto_region 2 with fail
 go_loopg [3] s.size (fun G s3 wx=>∃i:Nat,s3=.int .i64 (i:Int)∧i≤s.size∧i+G=s.size∧w=wx∧Hid (∀x∈s.data.toList.take i,x≠32))
 case atStart=>exact⟨0,rfl,by omega,by omega,rfl,fun x hx=>by simp at hx⟩
 case round =>
   obtain⟨i,rfl,hi,hG,rfl,H⟩:=hrel
   by_cases c:i<s.size
   · have ci:(i:Int)<(s.size:Int):=by omega
     by_cases b:s[i].toNat=32
     · have g1:((s[i].toNat:Int)==32)=true:=by rw [beq_iff_eq];omega
       have hw:wordB s.data.toList=false:=by
         refine word_blank ?_
         have:s[i]=32:=UInt8.toNat_inj.1 b
         rw [←this]
         exact List.getElem_mem (by simpa using c)
       obtain rfl:r=false:=by rw [←hr.out,hw]
       clear H hw hr
       go_wp2_with fail
       go_ret
       exact⟨rfl,rfl⟩
     · have g1:((s[i].toNat:Int)==32)=false:=by rw [beq_eq_false_iff_ne];omega
       have H2:Hid (∀x∈s.data.toList.take (i+1),x≠32):=by
         show ∀x∈_,_
         intro x hx
         rw [List.take_succ_eq_append_getElem (by simpa using c),List.mem_append] at hx
         rcases hx with hx | hx
         · exact H.out x hx
         · rw [List.mem_singleton] at hx
           rw [hx]
           intro q
           exact b (by have:s[i]=32:=q;rw [this];rfl)
       clear H
       go_wp2_with fail
       (go_roundg (s.size-i-1)
        case measure=>omega
        case rel=>exact⟨i+1,by go_num,by omega,by omega,rfl,H2⟩)
   · have ci:¬(i:Int)<(s.size:Int):=by omega
     have ns:Hid (∀x∈s.data.toList,x≠32):=by
       have:=H.out
       rwa [List.take_of_length_le (by omega)] at this
     clear H
     have ov1:¬9223372036854775807<(⟨#[32]⟩:ByteArray).size+s.size:=by have:(⟨#[32]⟩:ByteArray).size=1:=rfl;omega
     have ov2:¬9223372036854775807<((⟨#[32]⟩:ByteArray)++s).size+(⟨#[32]⟩:ByteArray).size:=by rw [ByteArray.size_append];have:(⟨#[32]⟩:ByteArray).size=1:=rfl;omega
     have wz:((⟨#[32]⟩:ByteArray)++s++(⟨#[32]⟩:ByteArray)).size=s.size+2:=by rw [ByteArray.size_append,ByteArray.size_append];have:(⟨#[32]⟩:ByteArray).size=1:=rfl;omega
     have wl:((⟨#[32]⟩:ByteArray)++s++(⟨#[32]⟩:ByteArray)).toList=32 :: (s.data.toList++[32]):=by
       rw [ByteArray.toList_eq]
       simp
     have WL:Hid _:=wl
     clear wl
     go_upto_region 8 with fail
     generalize (⟨#[32]⟩:ByteArray)++s++(⟨#[32]⟩:ByteArray)=wt at *
     clear ov1 ov2
     have wzi:(wt.size:Int)=(s.size:Int)+2:=by omega
     go_loopg [5] 106 (fun G s5 wx=>∃i:Nat,s5=.int .i64 (i:Int)∧i≤106∧i+G=106∧w=wx∧Hid (∀j,j<i→s.data.toList≠[]→¬wAt s.data.toList j))
     case atStart=>exact⟨0,rfl,by omega,by omega,rfl,fun j hj=>by omega⟩
     case round =>
       obtain⟨i,rfl,hi,hG,rfl,H⟩:=hrel
       by_cases c:(i:Int)+(wt.size:Int)≤105
       · have iz:(i:Int)≤105:=by omega
         go_upto_region 10 with fail
         go_cut [37] from 24 to 36 (fun s37 wx=>∃q:Bool,s37=.bool q∧w=wx∧Hid (q=true↔(s.data.toList≠[]∧wAt s.data.toList i)))
         case first =>
           by_cases z:s.size=0
           · have he:s.toList.isEmpty=true:=by rw [empty_is,decide_eq_true z]
             have hn:s.data.toList=[]:=List.eq_nil_of_length_eq_zero (by omega)
             clear H hr ns WL
             go_wp2_with fail
             go_meet
             case rel=>exact⟨_,rfl,rfl,⟨fun h=>absurd h (by decide),fun h=>absurd hn h.1⟩⟩
           · have he:s.toList.isEmpty=false:=by rw [empty_is,decide_eq_false z]
             have hn:s.data.toList≠[]:=fun q=>by rw [q] at zz;exact z (by simpa using zz.symm)
             have b1:(0:Int)≤(i:Int):=by omega
             have b2:(i:Int)≤(i:Int)+((s.size:Int)+2):=by omega
             clear H hr ns
             go_wp2_with fail
             go_meet
             case rel =>
               refine⟨_,rfl,rfl, ?_⟩
               show (((⟨wordsA.toArray⟩:ByteArray).extract i (i+(s.size+2))).toList==wt.toList)=true↔_
               rw [ByteArray.toList_eq,WL.out,beq_iff_eq]
               have e:((⟨wordsA.toArray⟩:ByteArray).extract i (i+(s.size+2))).data.toList=(wordsA.drop i).take (s.data.toList.length+2):=by
                 simp only [ByteArray.data_extract,Array.toList_extract,List.extract_eq_take_drop]
                 rw [zz]
                 congr 1
                 omega
               rw [e]
               constructor
               · intro h
                 exact⟨hn,by rw [wordsA_len];omega,h⟩
               · intro h
                 exact h.2.2
         case rest =>
           obtain⟨q,rfl,rfl,hq⟩:=hcut
           cases q
           · have H2:Hid (∀j,j<i+1→s.data.toList≠[]→¬wAt s.data.toList j):=by
               show ∀j,_→_→_
               intro j hj h0 h1
               by_cases e:j=i
               · rw [e] at h1;exact absurd (hq.out.2 ⟨h0,h1⟩) (by decide)
               · exact H.out j (by omega) h0 h1
             clear H hq hr ns WL
             go_wp2_with fail
             (go_roundg (106-i-1)
              case measure=>omega
              case rel=>exact⟨i+1,by go_num,by omega,by omega,rfl,H2⟩)
           · obtain⟨h0,h1⟩:=hq.out.1 rfl
             obtain rfl:r=true:=by rw [←hr.out];exact word_at h0 ns.out h1
             clear H hq hr ns WL
             go_wp2_with fail
             go_ret
             exact⟨rfl,rfl⟩
       · obtain rfl:r=false:=by
           rw [←hr.out]
           cases hw:wordB s.data.toList
           · rfl
           · have h0:s.data.toList≠[]:=fun q=>by rw [q,word_none] at hw;exact absurd hw (by decide)
             obtain⟨j,hj⟩:=word_find hw
             have:=hj.1
             rw [wordsA_len] at this
             exact absurd hj (H.out j (by omega) h0)
         have c':¬(i:Int)+((s.size:Int)+2)≤105:=by omega
         clear H hr ns WL c
         go_wp2_with fail
         go_ret
         exact⟨rfl,rfl⟩
end Go.Proofs.YtgocelaghggpmaaGreatDoor
