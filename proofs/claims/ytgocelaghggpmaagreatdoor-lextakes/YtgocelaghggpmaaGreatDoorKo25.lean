/- lex: how long gaps, names, signs and numbers are. -/
import Derived.Test.YtgocelaghggpmaaGreatDoorKo24
namespace Go.Proofs.YtgocelaghggpmaaGreatDoor
open Go.ChangeShapes Go.WideShapes Go.ChangeAt Go.RowKit
theorem ext_from (s:ByteArray) (k:Nat):(s.extract k s.size).data.toList=fromL s k:=ext_list s k
theorem from_len (s:ByteArray) (k:Nat):(fromL s k).length=s.size-k:=by unfold fromL;rw [List.length_drop];simp
theorem from_drop (s:ByteArray) (k j:Nat):(fromL s k).drop j=fromL s (k+j):=by unfold fromL;rw [List.drop_drop]
theorem cmt_two {l:List UInt8} (h:cmtB l=true):1≤spanL linB l:=by
 match l,h with
 | c :: l,h =>
   have hc:c=47:=by
     unfold cmtB at h
     rw [List.isPrefixOf_cons_cons] at h
     exact (beq_iff_eq.1 (Bool.and_eq_true_iff.1 h).1).symm
   rw [hc,spanL_cons,if_pos (by decide)]
   omega
set_option maxHeartbeats 1000000 in
theorem gap_w (s:ByteArray) (hs:(s.size:Int)≤9223372036854775807) (w:World) :
   Calls Tryz.prog 10 #[.string s] w fun e w'=>e=.returned (.int .i64 (gapS false s.data.toList:Int))∧w=w':=by
 obtain⟨u,hU⟩:∃u,Hid (gapS false s.data.toList=u):=⟨_,rfl⟩
 rw [hU.out]
 have sz:∀k,((s.extract k s.size).size:Int)≤9223372036854775807:=fun k=>by rw [ByteArray.size_extract];omega
 have cB:∀k W,Calls Tryz.prog 28 #[.string (s.extract k s.size),.func (.func 29) #[] #[]] W fun e w'=>e=.returned (.int .i64 (spanL blkB (fromL s k):Int))∧W=w':=fun k W=>by
   have:=spanBlank_w (s.extract k s.size) (sz k) W
   rwa [ext_from] at this
 have cL:∀k W,Calls Tryz.prog 28 #[.string (s.extract k s.size),.func (.func 31) #[] #[]] W fun e w'=>e=.returned (.int .i64 (spanL linB (fromL s k):Int))∧W=w':=fun k W=>by
   have:=spanLine_w (s.extract k s.size) (sz k) W
   rwa [ext_from] at this
 have cP:∀k W,Calls Tryz.prog 30 #[.string (s.extract k s.size),.string ⟨#[47,47]⟩] W fun e w'=>e=.returned (.bool (cmtB (fromL s k)))∧w'=W:=fun k W=>by
   have:=Tryz.strings_HasPrefix (s.extract k s.size) ⟨#[47,47]⟩ W
   rwa [ext_from] at this
 have c0:∀W,Calls Tryz.prog 28 #[.string s,.func (.func 29) #[] #[]] W fun e w'=>e=.returned (.int .i64 (spanL blkB s.data.toList:Int))∧W=w':=fun W=>spanBlank_w s hs W
 have hb0:=gap_blank s.data.toList
 have hl0:=spanL_le blkB s.data.toList
 have hs0:=span_stop blkB s.data.toList
 have hsz:s.data.toList.length=s.size:=by simp
 generalize spanL blkB s.data.toList=n0 at *
 have H0:Hid (n0+gapS false (fromL s n0)=u):=by show _=_;rw [←hU.out];exact hb0.symm
 have S0:Hid (spanL blkB (fromL s n0)=0):=hs0
 clear hb0 hs0 hU sz
 go_enter Tryz.func10,Tryz.ntmps10
 go_upto_region 2 with (go_at_call 28;(with_reducible refine (c0 _).mono ?_);rintro _ W1 ⟨rfl,rfl⟩)
 clear c0
 go_loopg [3] (s.size-n0) (fun G s3 wx=>∃n:Nat,s3=.int .i64 (n:Int)∧n≤s.size∧n+G=s.size∧w=wx∧Hid (n+gapS false (fromL s n)=u)∧Hid (spanL blkB (fromL s n)=0))
 case atStart=>exact⟨n0,rfl,by omega,by omega,rfl,H0,S0⟩
 case round =>
   clear H0 S0 hl0
   obtain⟨n,rfl,hn,hG,rfl,H,S⟩:=hrel
   have hni:(n:Int)≤(s.size:Int):=by omega
   have cP1:=cP n
   clear cP
   cases hc:cmtB (fromL s n)
   · rw [hc] at cP1
     have e:n=u:=by
       have:=H.out
       rw [gap_stop _ S.out hc] at this
       omega
     subst e
     clear H S hc cB cL
     go_wp2_with (go_at_call 30;(with_reducible refine (cP1 _).mono ?_);rintro _ W1 ⟨rfl,rfl⟩)
     go_ret
     exact⟨rfl,rfl⟩
   · rw [hc] at cP1
     have g1:=gap_cmt _ hc
     have g2:=cmt_two hc
     have g3:=spanL_le linB (fromL s n)
     rw [from_drop] at g1
     rw [from_len] at g3
     have cL1:=cL n
     generalize spanL linB (fromL s n)=m at *
     have g4:=gap_blank (fromL s (n+m))
     have g5:=spanL_le blkB (fromL s (n+m))
     have g6:=span_stop blkB (fromL s (n+m))
     rw [from_drop] at g4 g6
     rw [from_len] at g5
     have cB1:∀W,Calls Tryz.prog 28 #[.string (s.extract (n+m) s.size),.func (.func 29) #[] #[]] W fun e w'=>e=.returned (.int .i64 (spanL blkB (fromL s (n+m)):Int))∧W=w':=cB (n+m)
     generalize spanL blkB (fromL s (n+m))=k at *
     have H2:Hid (n+m+k+gapS false (fromL s (n+m+k))=u):=by
       show _=_
       have:=H.out
       omega
     have S2:Hid (spanL blkB (fromL s (n+m+k))=0):=g6
     have nm:(n:Int)+(m:Int)≤(s.size:Int):=by omega
     clear H S hc cB cL g1 g4 g6
     go_wp2_with (first
       | (go_at_call 30;(with_reducible refine (cP1 _).mono ?_);rintro _ W1 ⟨rfl,rfl⟩)
       | (go_at_call 28;(first | (with_reducible refine (cL1 _).mono ?_) | (with_reducible refine (cB1 _).mono ?_));rintro _ W1 ⟨rfl,rfl⟩))
     (go_roundg (s.size-(n+m+k))
      case measure=>omega
      case rel=>exact⟨n+m+k,by go_num,by omega,by omega,rfl,H2,S2⟩)
theorem nameLength_w (s:ByteArray) (hs:(s.size:Int)≤9223372036854775807) (w:World) :
   Calls Tryz.prog 21 #[.string s] w fun e w'=>e=.returned (.int .i64 (spanL namB s.data.toList:Int))∧w=w':=by
 have c0:=fun W=>spanName_w s hs W
 go_enter Tryz.func21,Tryz.ntmps21
 go_wp2_with (go_at_call 28;(with_reducible refine (c0 _).mono ?_);rintro _ W1 ⟨rfl,rfl⟩)
 go_ret
 exact⟨rfl,rfl⟩
def sigL (l:List UInt8):Nat:=if List.isPrefixOf [46,46] l then 2 else 1
theorem signLength_w (s:ByteArray) (w:World) :
   Calls Tryz.prog 26 #[.string s] w fun e w'=>e=.returned (.int .i64 (sigL s.data.toList:Int))∧w=w':=by
 have cP:∀W,Calls Tryz.prog 30 #[.string s,.string ⟨#[46,46]⟩] W fun e w'=>e=.returned (.bool (List.isPrefixOf [46,46] s.data.toList))∧w'=W:=fun W=>Tryz.strings_HasPrefix s ⟨#[46,46]⟩ W
 unfold sigL
 generalize List.isPrefixOf [46,46] s.data.toList=b at *
 cases b
 · go_enter Tryz.func26,Tryz.ntmps26
   go_wp2_with (go_at_call 30;(with_reducible refine (cP _).mono ?_);rintro _ W1 ⟨rfl,rfl⟩)
   go_ret
   exact⟨rfl,rfl⟩
 · go_enter Tryz.func26,Tryz.ntmps26
   go_wp2_with (go_at_call 30;(with_reducible refine (cP _).mono ?_);rintro _ W1 ⟨rfl,rfl⟩)
   go_ret
   exact⟨rfl,rfl⟩
def lwdL (l:List UInt8) (n:Nat):Nat:=if spanL isDg (l.drop n)=0 then 0 else n+spanL isDg (l.drop n)
theorem lwd_w (s:ByteArray) (n:Nat) (hn:n≤s.size) (hs:(s.size:Int)≤9223372036854775807) (w:World) :
   Calls Tryz.prog 58 #[.string s,.int .i64 (n:Int)] w fun e w'=>e=.returned (.int .i64 (lwdL s.data.toList n:Int))∧w=w':=by
 have c0:∀W,Calls Tryz.prog 28 #[.string (s.extract n s.size),.func (.func 22) #[] #[]] W fun e w'=>e=.returned (.int .i64 (spanL isDg (fromL s n):Int))∧W=w':=fun W=>by
   have:=spanDigit_w (s.extract n s.size) (by rw [ByteArray.size_extract];omega) W
   rwa [ext_from] at this
 have g:=spanL_le isDg (fromL s n)
 rw [from_len] at g
 have e:lwdL s.data.toList n=if spanL isDg (fromL s n)=0 then 0 else n+spanL isDg (fromL s n):=rfl
 rw [e]
 generalize spanL isDg (fromL s n)=d at *
 have hni:(n:Int)≤(s.size:Int):=by omega
 clear e
 by_cases h:d=0
 · subst h
   rw [if_pos rfl]
   go_enter Tryz.func58,Tryz.ntmps58
   go_wp2_with (go_at_call 28;(with_reducible refine (c0 _).mono ?_);rintro _ W1 ⟨rfl,rfl⟩)
   go_ret
   exact⟨rfl,rfl⟩
 · rw [if_neg h]
   have h0:((d:Int)==0)=false:=by rw [beq_eq_false_iff_ne];omega
   go_enter Tryz.func58,Tryz.ntmps58
   go_wp2_with (go_at_call 28;(with_reducible refine (c0 _).mono ?_);rintro _ W1 ⟨rfl,rfl⟩)
   go_ret
   exact⟨by go_num,rfl⟩
def frL (l:List UInt8):Nat:=if List.isPrefixOf [46] l then lwdL l 1 else 0
def exL (l:List UInt8):Nat:=if List.isPrefixOf [101] l || List.isPrefixOf [69] l then (if List.isPrefixOf [43] (l.drop 1) || List.isPrefixOf [45] (l.drop 1) then lwdL l 2 else lwdL l 1) else 0
def nuL (l:List UInt8):Nat:=spanL isDg l+frL (l.drop (spanL isDg l))+exL (l.drop (spanL isDg l+frL (l.drop (spanL isDg l))))
theorem pre_size {c:UInt8} {l:List UInt8} (h:List.isPrefixOf [c] l=true):1≤l.length:=by
 cases l with
 | nil=>exact absurd h (by simp [List.isPrefixOf])
 | cons a l=>rw [List.length_cons];omega
theorem lwd_le {l:List UInt8} {n:Nat}:lwdL l n≤l.length:=by
 have:=spanL_le isDg (l.drop n)
 rw [List.length_drop] at this
 unfold lwdL
 split <;> omega
theorem fr_le (l:List UInt8):frL l≤l.length:=by
 unfold frL
 split
 · exact lwd_le
 · omega
theorem ex_le (l:List UInt8):exL l≤l.length:=by
 unfold exL
 split
 · split <;> exact lwd_le
 · omega
theorem nu_le (l:List UInt8):nuL l≤l.length:=by
 have h1:=spanL_le isDg l
 have h2:=fr_le (l.drop (spanL isDg l))
 have h3:=ex_le (l.drop (spanL isDg l+frL (l.drop (spanL isDg l))))
 rw [List.length_drop] at h2 h3
 unfold nuL
 omega
theorem fraction_w (s:ByteArray) (hs:(s.size:Int)≤9223372036854775807) (w:World) :
   Calls Tryz.prog 44 #[.string s] w fun e w'=>e=.returned (.int .i64 (frL s.data.toList:Int))∧w=w':=by
 have cP:∀W,Calls Tryz.prog 30 #[.string s,.string ⟨#[46]⟩] W fun e w'=>e=.returned (.bool (List.isPrefixOf [46] s.data.toList))∧w'=W:=fun W=>Tryz.strings_HasPrefix s ⟨#[46]⟩ W
 unfold frL
 cases hb:List.isPrefixOf [46] s.data.toList
 · rw [hb] at cP
   clear hb
   go_enter Tryz.func44,Tryz.ntmps44
   go_wp2_with (go_at_call 30;(with_reducible refine (cP _).mono ?_);rintro _ W1 ⟨rfl,rfl⟩)
   go_ret
   exact⟨rfl,rfl⟩
 · have z:=pre_size hb
   have zz:s.data.toList.length=s.size:=by simp
   have cl:∀W,Calls Tryz.prog 58 #[.string s,.int .i64 1] W fun e w'=>e=.returned (.int .i64 (lwdL s.data.toList 1:Int))∧W=w':=fun W=>lwd_w s 1 (by omega) hs W
   rw [hb] at cP
   rw [if_pos rfl]
   clear hb z zz
   go_enter Tryz.func44,Tryz.ntmps44
   go_wp2_with (first | (go_at_call 30;(with_reducible refine (cP _).mono ?_);rintro _ W1 ⟨rfl,rfl⟩) | (go_at_call 58;(with_reducible refine (cl _).mono ?_);rintro _ W1 ⟨rfl,rfl⟩))
   go_ret
   exact⟨rfl,rfl⟩
set_option maxHeartbeats 1000000 in
theorem exponent_w (s:ByteArray) (hs:(s.size:Int)≤9223372036854775807) (w:World) :
   Calls Tryz.prog 45 #[.string s] w fun e w'=>e=.returned (.int .i64 (exL s.data.toList:Int))∧w=w':=by
 have c1:∀W,Calls Tryz.prog 30 #[.string s,.string ⟨#[101]⟩] W fun e w'=>e=.returned (.bool (List.isPrefixOf [101] s.data.toList))∧w'=W:=fun W=>Tryz.strings_HasPrefix s ⟨#[101]⟩ W
 have c2:∀W,Calls Tryz.prog 30 #[.string s,.string ⟨#[69]⟩] W fun e w'=>e=.returned (.bool (List.isPrefixOf [69] s.data.toList))∧w'=W:=fun W=>Tryz.strings_HasPrefix s ⟨#[69]⟩ W
 have c3:∀W,Calls Tryz.prog 30 #[.string (s.extract 1 s.size),.string ⟨#[43]⟩] W fun e w'=>e=.returned (.bool (List.isPrefixOf [43] (s.data.toList.drop 1)))∧w'=W:=fun W=>by
   have:=Tryz.strings_HasPrefix (s.extract 1 s.size) ⟨#[43]⟩ W
   rwa [ext_from] at this
 have c4:∀W,Calls Tryz.prog 30 #[.string (s.extract 1 s.size),.string ⟨#[45]⟩] W fun e w'=>e=.returned (.bool (List.isPrefixOf [45] (s.data.toList.drop 1)))∧w'=W:=fun W=>by
   have:=Tryz.strings_HasPrefix (s.extract 1 s.size) ⟨#[45]⟩ W
   rwa [ext_from] at this
 have zz:s.data.toList.length=s.size:=by simp
 have z1:(List.isPrefixOf [101] s.data.toList || List.isPrefixOf [69] s.data.toList)=true→1≤s.size:=fun h=>by
   rcases Bool.or_eq_true_iff.1 h with h | h <;> (have:=pre_size h;omega)
 have z2:(List.isPrefixOf [43] (s.data.toList.drop 1) || List.isPrefixOf [45] (s.data.toList.drop 1))=true→2≤s.size:=fun h=>by
   rcases Bool.or_eq_true_iff.1 h with h | h <;> (have:=pre_size h;rw [List.length_drop] at this;omega)
 have l1:1≤s.size→∀W,Calls Tryz.prog 58 #[.string s,.int .i64 1] W fun e w'=>e=.returned (.int .i64 (lwdL s.data.toList 1:Int))∧W=w':=fun h W=>lwd_w s 1 h hs W
 have l2:2≤s.size→∀W,Calls Tryz.prog 58 #[.string s,.int .i64 2] W fun e w'=>e=.returned (.int .i64 (lwdL s.data.toList 2:Int))∧W=w':=fun h W=>lwd_w s 2 h hs W
 unfold exL
 generalize List.isPrefixOf [101] s.data.toList=b1 at *
 generalize List.isPrefixOf [69] s.data.toList=b2 at *
 generalize List.isPrefixOf [43] (s.data.toList.drop 1)=b3 at *
 generalize List.isPrefixOf [45] (s.data.toList.drop 1)=b4 at *
 generalize lwdL s.data.toList 1=n1 at *
 generalize lwdL s.data.toList 2=n2 at *
 clear zz
 have key:((b1 || b2)=false)∨((b1 || b2)=true∧(b3 || b4)=false)∨((b1 || b2)=true∧(b3 || b4)=true):=by
   cases b1 <;> cases b2 <;> cases b3 <;> cases b4 <;> simp
 rcases key with k1 | ⟨k1,k2⟩ | ⟨k1,k2⟩
 · rw [k1]
   cases b1
   · cases b2
     · clear l1 l2 z1 z2 k1
       go_enter Tryz.func45,Tryz.ntmps45
       go_wp2_with (go_at_call 30;(first | (with_reducible refine (c1 _).mono ?_) | (with_reducible refine (c2 _).mono ?_));rintro _ W1 ⟨rfl,rfl⟩)
       go_ret
       exact⟨rfl,rfl⟩
     · exact absurd k1 (by decide)
   · exact absurd k1 (by simp)
 · have y1:=z1 k1
   have y2:(1:Int)≤(s.size:Int):=by omega
   have l1:=l1 y1
   rw [k1,k2,if_pos rfl,if_neg (by decide)]
   cases b3
   · cases b4
     · clear l2 z1 z2 k2
       cases b1
       · cases b2
         · exact absurd k1 (by decide)
         · clear k1
           go_enter Tryz.func45,Tryz.ntmps45
           go_wp2_with (first | (go_at_call 30;(first | (with_reducible refine (c1 _).mono ?_) | (with_reducible refine (c2 _).mono ?_) | (with_reducible refine (c3 _).mono ?_) | (with_reducible refine (c4 _).mono ?_));rintro _ W1 ⟨rfl,rfl⟩) | (go_at_call 58;(with_reducible refine (l1 _).mono ?_);rintro _ W1 ⟨rfl,rfl⟩))
           go_ret
           exact⟨rfl,rfl⟩
       · clear k1
         go_enter Tryz.func45,Tryz.ntmps45
         go_wp2_with (first | (go_at_call 30;(first | (with_reducible refine (c1 _).mono ?_) | (with_reducible refine (c2 _).mono ?_) | (with_reducible refine (c3 _).mono ?_) | (with_reducible refine (c4 _).mono ?_));rintro _ W1 ⟨rfl,rfl⟩) | (go_at_call 58;(with_reducible refine (l1 _).mono ?_);rintro _ W1 ⟨rfl,rfl⟩))
         go_ret
         exact⟨rfl,rfl⟩
     · exact absurd k2 (by decide)
   · exact absurd k2 (by simp)
 · have y1:=z2 k2
   have y2:(1:Int)≤(s.size:Int):=by omega
   have l2:=l2 y1
   rw [k1,k2,if_pos rfl,if_pos rfl]
   have kk:(b3=true)∨(b3=false∧b4=true):=by cases b3 <;> cases b4 <;> simp at k2 ⊢
   have kj:(b1=true)∨(b1=false∧b2=true):=by cases b1 <;> cases b2 <;> simp at k1 ⊢
   clear l1 z1 z2 k1 k2
   rcases kk with rfl | ⟨rfl,rfl⟩ <;> rcases kj with rfl | ⟨rfl,rfl⟩
   all_goals
     go_enter Tryz.func45,Tryz.ntmps45
     go_wp2_with (first | (go_at_call 30;(first | (with_reducible refine (c1 _).mono ?_) | (with_reducible refine (c2 _).mono ?_) | (with_reducible refine (c3 _).mono ?_) | (with_reducible refine (c4 _).mono ?_));rintro _ W1 ⟨rfl,rfl⟩) | (go_at_call 58;(with_reducible refine (l2 _).mono ?_);rintro _ W1 ⟨rfl,rfl⟩))
     go_ret
     exact⟨rfl,rfl⟩
theorem numberLength_w (s:ByteArray) (hs:(s.size:Int)≤9223372036854775807) (w:World) :
   Calls Tryz.prog 23 #[.string s] w fun e w'=>e=.returned (.int .i64 (nuL s.data.toList:Int))∧w=w':=by
 have c0:=fun W=>spanDigit_w s hs W
 have h1:=spanL_le isDg s.data.toList
 have h2:=fr_le (s.data.toList.drop (spanL isDg s.data.toList))
 have h3:=ex_le (s.data.toList.drop (spanL isDg s.data.toList+frL (s.data.toList.drop (spanL isDg s.data.toList))))
 rw [List.length_drop] at h2 h3
 have zz:s.data.toList.length=s.size:=by simp
 rw [zz] at h1 h2 h3
 unfold nuL
 generalize spanL isDg s.data.toList=n at *
 have c1:∀W,Calls Tryz.prog 44 #[.string (s.extract n s.size)] W fun e w'=>e=.returned (.int .i64 (frL (s.data.toList.drop n):Int))∧W=w':=fun W=>by
   have:=fraction_w (s.extract n s.size) (by rw [ByteArray.size_extract];omega) W
   rwa [ext_from] at this
 generalize frL (s.data.toList.drop n)=m at *
 have c2:∀W,Calls Tryz.prog 45 #[.string (s.extract (n+m) s.size)] W fun e w'=>e=.returned (.int .i64 (exL (s.data.toList.drop (n+m)):Int))∧W=w':=fun W=>by
   have:=exponent_w (s.extract (n+m) s.size) (by rw [ByteArray.size_extract];omega) W
   rwa [ext_from] at this
 generalize exL (s.data.toList.drop (n+m))=k at *
 have y1:(n:Int)≤(s.size:Int):=by omega
 have y2:(n:Int)+(m:Int)≤(s.size:Int):=by omega
 clear zz
 go_enter Tryz.func23,Tryz.ntmps23
 go_wp2_with (first | (go_at_call 28;(with_reducible refine (c0 _).mono ?_);rintro _ W1 ⟨rfl,rfl⟩) | (go_at_call 44;(with_reducible refine (c1 _).mono ?_);rintro _ W1 ⟨rfl,rfl⟩) | (go_at_call 45;(with_reducible refine (c2 _).mono ?_);rintro _ W1 ⟨rfl,rfl⟩))
 go_ret
 exact⟨by go_num,rfl⟩
end Go.Proofs.YtgocelaghggpmaaGreatDoor
