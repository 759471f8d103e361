/- lex: how long gaps, names, signs and numbers are. lex: the words of the language: a set that is laid out once, and asked. -/
import Derived.Test.YtgocelaghggpmaaDoorKa15
import Derived.Maps.Own
import Derived.Maps.OwnOps
import Derived.Maps.OwnSet
import Derived.Maps.AppendAt
import Derived.WalkKit
import Derived.StringKeys
import Derived.Lib.AppendIntMem
import Derived.Laws.AppendOwn
namespace Go.Proofs.YtgocelaghggpmaaDoor
open Go.ChangeShapes Go.WideShapes Go.ChangeAt Go.RowKit
theorem ext_from (s:ByteArray) (k:Nat):(s.extract k s.size).data.toList=fromL s k:=ext_list s k
theorem from_len (s:ByteArray) (k:Nat):(fromL s k).length=s.size-k:=by unfold fromL;rw [List.length_drop];simp
theorem from_drop (s:ByteArray) (k j:Nat):(fromL s k).drop j=fromL s (k+j):=by unfold fromL;rw [List.drop_drop]
theorem cmt_two {l:List UInt8} (h:cmtB l=true):1≤spanL linB l:=by
 match l,h with
 | c :: l,h =>
   have hc:c=47:=by
     unfold cmtB at h
     rw [List.isPrefixOf_cons_cons] at h
     exact (beq_iff_eq.1 (Bool.and_eq_true_iff.1 h).1).symm
   rw [hc,spanL_cons,if_pos (by decide)]
   omega
set_option maxHeartbeats 1000000 in
theorem gap_w (s:ByteArray) (hs:(s.size:Int)≤9223372036854775807) (w:World) :
   Calls Tryd.prog 45 #[.string s] w fun e w'=>e=.returned (.int .i64 (gapS false s.data.toList:Int))∧w=w':=by
 obtain⟨u,hU⟩:∃u,Hid (gapS false s.data.toList=u):=⟨_,rfl⟩
 rw [hU.out]
 have sz:∀k,((s.extract k s.size).size:Int)≤9223372036854775807:=fun k=>by rw [ByteArray.size_extract];omega
 have cB:∀k W,Calls Tryd.prog 96 #[.string (s.extract k s.size),.func (.func 97) #[] #[]] W fun e w'=>e=.returned (.int .i64 (spanL blkB (fromL s k):Int))∧W=w':=fun k W=>by
   have:=spanBlank_w (s.extract k s.size) (sz k) W
   rwa [ext_from] at this
 have cL:∀k W,Calls Tryd.prog 96 #[.string (s.extract k s.size),.func (.func 99) #[] #[]] W fun e w'=>e=.returned (.int .i64 (spanL linB (fromL s k):Int))∧W=w':=fun k W=>by
   have:=spanLine_w (s.extract k s.size) (sz k) W
   rwa [ext_from] at this
 have cP:∀k W,Calls Tryd.prog 98 #[.string (s.extract k s.size),.string ⟨#[47,47]⟩] W fun e w'=>e=.returned (.bool (cmtB (fromL s k)))∧w'=W:=fun k W=>by
   have:=Tryd.strings_HasPrefix (s.extract k s.size) ⟨#[47,47]⟩ W
   rwa [ext_from] at this
 have c0:∀W,Calls Tryd.prog 96 #[.string s,.func (.func 97) #[] #[]] W fun e w'=>e=.returned (.int .i64 (spanL blkB s.data.toList:Int))∧W=w':=fun W=>spanBlank_w s hs W
 have hb0:=gap_blank s.data.toList
 have hl0:=spanL_le blkB s.data.toList
 have hs0:=span_stop blkB s.data.toList
 have hsz:s.data.toList.length=s.size:=by simp
 generalize spanL blkB s.data.toList=n0 at *
 have H0:Hid (n0+gapS false (fromL s n0)=u):=by show _=_;rw [←hU.out];exact hb0.symm
 have S0:Hid (spanL blkB (fromL s n0)=0):=hs0
 clear hb0 hs0 hU sz
 go_enter Tryd.func45,Tryd.ntmps45
 go_upto_region 2 with (go_at_call 96;(with_reducible refine (c0 _).mono ?_);rintro _ W1 ⟨rfl,rfl⟩)
 clear c0
 go_loopg [3] (s.size-n0) (fun G s3 wx=>∃n:Nat,s3=.int .i64 (n:Int)∧n≤s.size∧n+G=s.size∧w=wx∧Hid (n+gapS false (fromL s n)=u)∧Hid (spanL blkB (fromL s n)=0))
 case atStart=>exact⟨n0,rfl,by omega,by omega,rfl,H0,S0⟩
 case round =>
   clear H0 S0 hl0
   obtain⟨n,rfl,hn,hG,rfl,H,S⟩:=hrel
   have hni:(n:Int)≤(s.size:Int):=by omega
   have cP1:=cP n
   clear cP
   cases hc:cmtB (fromL s n)
   · rw [hc] at cP1
     have e:n=u:=by
       have:=H.out
       rw [gap_stop _ S.out hc] at this
       omega
     subst e
     clear H S hc cB cL
     go_wp2_with (go_at_call 98;(with_reducible refine (cP1 _).mono ?_);rintro _ W1 ⟨rfl,rfl⟩)
     go_ret
     exact⟨rfl,rfl⟩
   · rw [hc] at cP1
     have g1:=gap_cmt _ hc
     have g2:=cmt_two hc
     have g3:=spanL_le linB (fromL s n)
     rw [from_drop] at g1
     rw [from_len] at g3
     have cL1:=cL n
     generalize spanL linB (fromL s n)=m at *
     have g4:=gap_blank (fromL s (n+m))
     have g5:=spanL_le blkB (fromL s (n+m))
     have g6:=span_stop blkB (fromL s (n+m))
     rw [from_drop] at g4 g6
     rw [from_len] at g5
     have cB1:∀W,Calls Tryd.prog 96 #[.string (s.extract (n+m) s.size),.func (.func 97) #[] #[]] W fun e w'=>e=.returned (.int .i64 (spanL blkB (fromL s (n+m)):Int))∧W=w':=cB (n+m)
     generalize spanL blkB (fromL s (n+m))=k at *
     have H2:Hid (n+m+k+gapS false (fromL s (n+m+k))=u):=by
       show _=_
       have:=H.out
       omega
     have S2:Hid (spanL blkB (fromL s (n+m+k))=0):=g6
     have nm:(n:Int)+(m:Int)≤(s.size:Int):=by omega
     clear H S hc cB cL g1 g4 g6
     go_wp2_with (first
       | (go_at_call 98;(with_reducible refine (cP1 _).mono ?_);rintro _ W1 ⟨rfl,rfl⟩)
       | (go_at_call 96;(first | (with_reducible refine (cL1 _).mono ?_) | (with_reducible refine (cB1 _).mono ?_));rintro _ W1 ⟨rfl,rfl⟩))
     (go_roundg (s.size-(n+m+k))
      case measure=>omega
      case rel=>exact⟨n+m+k,by go_num,by omega,by omega,rfl,H2,S2⟩)
theorem nameLength_w (s:ByteArray) (hs:(s.size:Int)≤9223372036854775807) (w:World) :
   Calls Tryd.prog 89 #[.string s] w fun e w'=>e=.returned (.int .i64 (spanL namB s.data.toList:Int))∧w=w':=by
 have c0:=fun W=>spanName_w s hs W
 go_enter Tryd.func89,Tryd.ntmps89
 go_wp2_with (go_at_call 96;(with_reducible refine (c0 _).mono ?_);rintro _ W1 ⟨rfl,rfl⟩)
 go_ret
 exact⟨rfl,rfl⟩
def sigL (l:List UInt8):Nat:=if List.isPrefixOf [46,46] l then 2 else 1
theorem signLength_w (s:ByteArray) (w:World) :
   Calls Tryd.prog 94 #[.string s] w fun e w'=>e=.returned (.int .i64 (sigL s.data.toList:Int))∧w=w':=by
 have cP:∀W,Calls Tryd.prog 98 #[.string s,.string ⟨#[46,46]⟩] W fun e w'=>e=.returned (.bool (List.isPrefixOf [46,46] s.data.toList))∧w'=W:=fun W=>Tryd.strings_HasPrefix s ⟨#[46,46]⟩ W
 unfold sigL
 generalize List.isPrefixOf [46,46] s.data.toList=b at *
 cases b
 · go_enter Tryd.func94,Tryd.ntmps94
   go_wp2_with (go_at_call 98;(with_reducible refine (cP _).mono ?_);rintro _ W1 ⟨rfl,rfl⟩)
   go_ret
   exact⟨rfl,rfl⟩
 · go_enter Tryd.func94,Tryd.ntmps94
   go_wp2_with (go_at_call 98;(with_reducible refine (cP _).mono ?_);rintro _ W1 ⟨rfl,rfl⟩)
   go_ret
   exact⟨rfl,rfl⟩
def lwdL (l:List UInt8) (n:Nat):Nat:=if spanL isDg (l.drop n)=0 then 0 else n+spanL isDg (l.drop n)
theorem lwd_w (s:ByteArray) (n:Nat) (hn:n≤s.size) (hs:(s.size:Int)≤9223372036854775807) (w:World) :
   Calls Tryd.prog 148 #[.string s,.int .i64 (n:Int)] w fun e w'=>e=.returned (.int .i64 (lwdL s.data.toList n:Int))∧w=w':=by
 have c0:∀W,Calls Tryd.prog 96 #[.string (s.extract n s.size),.func (.func 90) #[] #[]] W fun e w'=>e=.returned (.int .i64 (spanL isDg (fromL s n):Int))∧W=w':=fun W=>by
   have:=spanDigit_w (s.extract n s.size) (by rw [ByteArray.size_extract];omega) W
   rwa [ext_from] at this
 have g:=spanL_le isDg (fromL s n)
 rw [from_len] at g
 have e:lwdL s.data.toList n=if spanL isDg (fromL s n)=0 then 0 else n+spanL isDg (fromL s n):=rfl
 rw [e]
 generalize spanL isDg (fromL s n)=d at *
 have hni:(n:Int)≤(s.size:Int):=by omega
 clear e
 by_cases h:d=0
 · subst h
   rw [if_pos rfl]
   go_enter Tryd.func148,Tryd.ntmps148
   go_wp2_with (go_at_call 96;(with_reducible refine (c0 _).mono ?_);rintro _ W1 ⟨rfl,rfl⟩)
   go_ret
   exact⟨rfl,rfl⟩
 · rw [if_neg h]
   have h0:((d:Int)==0)=false:=by rw [beq_eq_false_iff_ne];omega
   go_enter Tryd.func148,Tryd.ntmps148
   go_wp2_with (go_at_call 96;(with_reducible refine (c0 _).mono ?_);rintro _ W1 ⟨rfl,rfl⟩)
   go_ret
   exact⟨by go_num,rfl⟩
def frL (l:List UInt8):Nat:=if List.isPrefixOf [46] l then lwdL l 1 else 0
def exL (l:List UInt8):Nat:=if List.isPrefixOf [101] l || List.isPrefixOf [69] l then (if List.isPrefixOf [43] (l.drop 1) || List.isPrefixOf [45] (l.drop 1) then lwdL l 2 else lwdL l 1) else 0
def nuL (l:List UInt8):Nat:=spanL isDg l+frL (l.drop (spanL isDg l))+exL (l.drop (spanL isDg l+frL (l.drop (spanL isDg l))))
theorem pre_size {c:UInt8} {l:List UInt8} (h:List.isPrefixOf [c] l=true):1≤l.length:=by
 cases l with
 | nil=>exact absurd h (by simp [List.isPrefixOf])
 | cons a l=>rw [List.length_cons];omega
theorem lwd_le {l:List UInt8} {n:Nat}:lwdL l n≤l.length:=by
 have:=spanL_le isDg (l.drop n)
 rw [List.length_drop] at this
 unfold lwdL
 split <;> omega
theorem fr_le (l:List UInt8):frL l≤l.length:=by
 unfold frL
 split
 · exact lwd_le
 · omega
theorem ex_le (l:List UInt8):exL l≤l.length:=by
 unfold exL
 split
 · split <;> exact lwd_le
 · omega
theorem nu_le (l:List UInt8):nuL l≤l.length:=by
 have h1:=spanL_le isDg l
 have h2:=fr_le (l.drop (spanL isDg l))
 have h3:=ex_le (l.drop (spanL isDg l+frL (l.drop (spanL isDg l))))
 rw [List.length_drop] at h2 h3
 unfold nuL
 omega
theorem fraction_w (s:ByteArray) (hs:(s.size:Int)≤9223372036854775807) (w:World) :
   Calls Tryd.prog 131 #[.string s] w fun e w'=>e=.returned (.int .i64 (frL s.data.toList:Int))∧w=w':=by
 have cP:∀W,Calls Tryd.prog 98 #[.string s,.string ⟨#[46]⟩] W fun e w'=>e=.returned (.bool (List.isPrefixOf [46] s.data.toList))∧w'=W:=fun W=>Tryd.strings_HasPrefix s ⟨#[46]⟩ W
 unfold frL
 cases hb:List.isPrefixOf [46] s.data.toList
 · rw [hb] at cP
   clear hb
   go_enter Tryd.func131,Tryd.ntmps131
   go_wp2_with (go_at_call 98;(with_reducible refine (cP _).mono ?_);rintro _ W1 ⟨rfl,rfl⟩)
   go_ret
   exact⟨rfl,rfl⟩
 · have z:=pre_size hb
   have zz:s.data.toList.length=s.size:=by simp
   have cl:∀W,Calls Tryd.prog 148 #[.string s,.int .i64 1] W fun e w'=>e=.returned (.int .i64 (lwdL s.data.toList 1:Int))∧W=w':=fun W=>lwd_w s 1 (by omega) hs W
   rw [hb] at cP
   rw [if_pos rfl]
   clear hb z zz
   go_enter Tryd.func131,Tryd.ntmps131
   go_wp2_with (first | (go_at_call 98;(with_reducible refine (cP _).mono ?_);rintro _ W1 ⟨rfl,rfl⟩) | (go_at_call 148;(with_reducible refine (cl _).mono ?_);rintro _ W1 ⟨rfl,rfl⟩))
   go_ret
   exact⟨rfl,rfl⟩
set_option maxHeartbeats 1000000 in
theorem exponent_w (s:ByteArray) (hs:(s.size:Int)≤9223372036854775807) (w:World) :
   Calls Tryd.prog 132 #[.string s] w fun e w'=>e=.returned (.int .i64 (exL s.data.toList:Int))∧w=w':=by
 have c1:∀W,Calls Tryd.prog 98 #[.string s,.string ⟨#[101]⟩] W fun e w'=>e=.returned (.bool (List.isPrefixOf [101] s.data.toList))∧w'=W:=fun W=>Tryd.strings_HasPrefix s ⟨#[101]⟩ W
 have c2:∀W,Calls Tryd.prog 98 #[.string s,.string ⟨#[69]⟩] W fun e w'=>e=.returned (.bool (List.isPrefixOf [69] s.data.toList))∧w'=W:=fun W=>Tryd.strings_HasPrefix s ⟨#[69]⟩ W
 have c3:∀W,Calls Tryd.prog 98 #[.string (s.extract 1 s.size),.string ⟨#[43]⟩] W fun e w'=>e=.returned (.bool (List.isPrefixOf [43] (s.data.toList.drop 1)))∧w'=W:=fun W=>by
   have:=Tryd.strings_HasPrefix (s.extract 1 s.size) ⟨#[43]⟩ W
   rwa [ext_from] at this
 have c4:∀W,Calls Tryd.prog 98 #[.string (s.extract 1 s.size),.string ⟨#[45]⟩] W fun e w'=>e=.returned (.bool (List.isPrefixOf [45] (s.data.toList.drop 1)))∧w'=W:=fun W=>by
   have:=Tryd.strings_HasPrefix (s.extract 1 s.size) ⟨#[45]⟩ W
   rwa [ext_from] at this
 have zz:s.data.toList.length=s.size:=by simp
 have z1:(List.isPrefixOf [101] s.data.toList || List.isPrefixOf [69] s.data.toList)=true→1≤s.size:=fun h=>by
   rcases Bool.or_eq_true_iff.1 h with h | h <;> (have:=pre_size h;omega)
 have z2:(List.isPrefixOf [43] (s.data.toList.drop 1) || List.isPrefixOf [45] (s.data.toList.drop 1))=true→2≤s.size:=fun h=>by
   rcases Bool.or_eq_true_iff.1 h with h | h <;> (have:=pre_size h;rw [List.length_drop] at this;omega)
 have l1:1≤s.size→∀W,Calls Tryd.prog 148 #[.string s,.int .i64 1] W fun e w'=>e=.returned (.int .i64 (lwdL s.data.toList 1:Int))∧W=w':=fun h W=>lwd_w s 1 h hs W
 have l2:2≤s.size→∀W,Calls Tryd.prog 148 #[.string s,.int .i64 2] W fun e w'=>e=.returned (.int .i64 (lwdL s.data.toList 2:Int))∧W=w':=fun h W=>lwd_w s 2 h hs W
 unfold exL
 generalize List.isPrefixOf [101] s.data.toList=b1 at *
 generalize List.isPrefixOf [69] s.data.toList=b2 at *
 generalize List.isPrefixOf [43] (s.data.toList.drop 1)=b3 at *
 generalize List.isPrefixOf [45] (s.data.toList.drop 1)=b4 at *
 generalize lwdL s.data.toList 1=n1 at *
 generalize lwdL s.data.toList 2=n2 at *
 clear zz
 have key:((b1 || b2)=false)∨((b1 || b2)=true∧(b3 || b4)=false)∨((b1 || b2)=true∧(b3 || b4)=true):=by
   cases b1 <;> cases b2 <;> cases b3 <;> cases b4 <;> simp
 rcases key with k1 | ⟨k1,k2⟩ | ⟨k1,k2⟩
 · rw [k1]
   cases b1
   · cases b2
     · clear l1 l2 z1 z2 k1
       go_enter Tryd.func132,Tryd.ntmps132
       go_wp2_with (go_at_call 98;(first | (with_reducible refine (c1 _).mono ?_) | (with_reducible refine (c2 _).mono ?_));rintro _ W1 ⟨rfl,rfl⟩)
       go_ret
       exact⟨rfl,rfl⟩
     · exact absurd k1 (by decide)
   · exact absurd k1 (by simp)
 · have y1:=z1 k1
   have y2:(1:Int)≤(s.size:Int):=by omega
   have l1:=l1 y1
   rw [k1,k2,if_pos rfl,if_neg (by decide)]
   cases b3
   · cases b4
     · clear l2 z1 z2 k2
       cases b1
       · cases b2
         · exact absurd k1 (by decide)
         · clear k1
           go_enter Tryd.func132,Tryd.ntmps132
           go_wp2_with (first | (go_at_call 98;(first | (with_reducible refine (c1 _).mono ?_) | (with_reducible refine (c2 _).mono ?_) | (with_reducible refine (c3 _).mono ?_) | (with_reducible refine (c4 _).mono ?_));rintro _ W1 ⟨rfl,rfl⟩) | (go_at_call 148;(with_reducible refine (l1 _).mono ?_);rintro _ W1 ⟨rfl,rfl⟩))
           go_ret
           exact⟨rfl,rfl⟩
       · clear k1
         go_enter Tryd.func132,Tryd.ntmps132
         go_wp2_with (first | (go_at_call 98;(first | (with_reducible refine (c1 _).mono ?_) | (with_reducible refine (c2 _).mono ?_) | (with_reducible refine (c3 _).mono ?_) | (with_reducible refine (c4 _).mono ?_));rintro _ W1 ⟨rfl,rfl⟩) | (go_at_call 148;(with_reducible refine (l1 _).mono ?_);rintro _ W1 ⟨rfl,rfl⟩))
         go_ret
         exact⟨rfl,rfl⟩
     · exact absurd k2 (by decide)
   · exact absurd k2 (by simp)
 · have y1:=z2 k2
   have y2:(1:Int)≤(s.size:Int):=by omega
   have l2:=l2 y1
   rw [k1,k2,if_pos rfl,if_pos rfl]
   have kk:(b3=true)∨(b3=false∧b4=true):=by cases b3 <;> cases b4 <;> simp at k2 ⊢
   have kj:(b1=true)∨(b1=false∧b2=true):=by cases b1 <;> cases b2 <;> simp at k1 ⊢
   clear l1 z1 z2 k1 k2
   rcases kk with rfl | ⟨rfl,rfl⟩ <;> rcases kj with rfl | ⟨rfl,rfl⟩
   all_goals
     go_enter Tryd.func132,Tryd.ntmps132
     go_wp2_with (first | (go_at_call 98;(first | (with_reducible refine (c1 _).mono ?_) | (with_reducible refine (c2 _).mono ?_) | (with_reducible refine (c3 _).mono ?_) | (with_reducible refine (c4 _).mono ?_));rintro _ W1 ⟨rfl,rfl⟩) | (go_at_call 148;(with_reducible refine (l2 _).mono ?_);rintro _ W1 ⟨rfl,rfl⟩))
     go_ret
     exact⟨rfl,rfl⟩
theorem numberLength_w (s:ByteArray) (hs:(s.size:Int)≤9223372036854775807) (w:World) :
   Calls Tryd.prog 91 #[.string s] w fun e w'=>e=.returned (.int .i64 (nuL s.data.toList:Int))∧w=w':=by
 have c0:=fun W=>spanDigit_w s hs W
 have h1:=spanL_le isDg s.data.toList
 have h2:=fr_le (s.data.toList.drop (spanL isDg s.data.toList))
 have h3:=ex_le (s.data.toList.drop (spanL isDg s.data.toList+frL (s.data.toList.drop (spanL isDg s.data.toList))))
 rw [List.length_drop] at h2 h3
 have zz:s.data.toList.length=s.size:=by simp
 rw [zz] at h1 h2 h3
 unfold nuL
 generalize spanL isDg s.data.toList=n at *
 have c1:∀W,Calls Tryd.prog 131 #[.string (s.extract n s.size)] W fun e w'=>e=.returned (.int .i64 (frL (s.data.toList.drop n):Int))∧W=w':=fun W=>by
   have:=fraction_w (s.extract n s.size) (by rw [ByteArray.size_extract];omega) W
   rwa [ext_from] at this
 generalize frL (s.data.toList.drop n)=m at *
 have c2:∀W,Calls Tryd.prog 132 #[.string (s.extract (n+m) s.size)] W fun e w'=>e=.returned (.int .i64 (exL (s.data.toList.drop (n+m)):Int))∧W=w':=fun W=>by
   have:=exponent_w (s.extract (n+m) s.size) (by rw [ByteArray.size_extract];omega) W
   rwa [ext_from] at this
 generalize exL (s.data.toList.drop (n+m))=k at *
 have y1:(n:Int)≤(s.size:Int):=by omega
 have y2:(n:Int)+(m:Int)≤(s.size:Int):=by omega
 clear zz
 go_enter Tryd.func91,Tryd.ntmps91
 go_wp2_with (first | (go_at_call 96;(with_reducible refine (c0 _).mono ?_);rintro _ W1 ⟨rfl,rfl⟩) | (go_at_call 131;(with_reducible refine (c1 _).mono ?_);rintro _ W1 ⟨rfl,rfl⟩) | (go_at_call 132;(with_reducible refine (c2 _).mono ?_);rintro _ W1 ⟨rfl,rfl⟩))
 go_ret
 exact⟨by go_num,rfl⟩
end Go.Proofs.YtgocelaghggpmaaDoor
namespace Go.Proofs.YtgocelaghggpmaaDoor
open Go.ChangeShapes Go.WideShapes Go.ChangeAt Go.RowKit Go.Maps
def wordsT:List UInt8:=[97,116,97,110,32,99,111,110,110,101,99,116,32,99,111,110,110,101,99,116,111,114,32,99,111,115,32,100,101,114,32,100,111,32,101,110,100,32,101,120,112,32,102,108,111,119,32,102,111,114,32,105,110,32,108,111,103,32,109,111,100,101,108,32,112,97,114,97,109,32,112,97,114,116,32,115,105,110,32,115,113,114,116,32,115,116,97,114,116,32,116,105,109,101,32,117,110,105,116,32,118,97,114]
def wordsL:List (List UInt8):=[[97,116,97,110],[99,111,110,110,101,99,116],[99,111,110,110,101,99,116,111,114],[99,111,115],[100,101,114],[100,111],[101,110,100],[101,120,112],[102,108,111,119],[102,111,114],[105,110],[108,111,103],[109,111,100,101,108],[112,97,114,97,109],[112,97,114,116],[115,105,110],[115,113,114,116],[115,116,97,114,116],[116,105,109,101],[117,110,105,116],[118,97,114]]
def wordB (l:List UInt8):Bool:=wordsL.contains l
theorem words_fields:Lib.fields wordsT=wordsL:=by decide +kernel
theorem words_ascii:∀(j:Nat) b,wordsT[j]?=some b→b.toNat<128:=by
 intro j b h
 have hm:b∈wordsT:=List.mem_of_getElem? h
 have:wordsT.all (fun b=>decide (b.toNat<128))=true:=by decide +kernel
 exact of_decide_eq_true (List.all_eq_true.1 this b hm)
def SpT (w:World):Prop:=Lib.TabBelow Tryd.prog w.heap.size w "strings.asciiSpace" .u8 Lib.asciiSpaceTab
theorem SpT.on {w W:World} (h:SpT w) (hb:Below w.heap.size w W):SpT W:=fun W' h'=>h W' (later hb h')
theorem fields_w (w:World) (T:SpT w):Calls Tryd.prog 128 #[.string ⟨wordsT.toArray⟩] w fun e w'=>e=.returned (.slice (some ⟨w.heap.size,0,none⟩) 21 21)∧w'=w.alloc (.cells (wordsL.map fun l=>Value.string ⟨l.toArray⟩).toArray 9):=by
 have h:=Tryd.strings_Fields ⟨wordsT.toArray⟩ w (by decide +kernel) words_ascii (T w (Below.refl _ _))
 have e:Lib.fields (⟨wordsT.toArray⟩:ByteArray).data.toList=wordsL:=words_fields
 rw [e] at h
 exact h
theorem lawS:Keyed Tryd.prog 9:=string_keyed Tryd.underlying9
theorem zeroU (w:World):(zeroValue 152).run Tryd.prog w=.ok (.agg #[]) w:=by kernel_rfl
def setW {H:Type}:Nat→DataW H
 | 0=>.map []
 | k+1=>(setW k).put (.string (wordsL.getD k [])) (.agg [])
theorem setW_map {H:Type}:∀k,IsMap (setW (H:=H) k)
 | 0=>⟨[],rfl⟩
 | k+1=>by
   obtain⟨es,h⟩:=setW_map (H:=H) k
   unfold setW
   rw [h]
   exact⟨_,rfl⟩
theorem setW_has {H:Type} (l:List UInt8):∀k,k≤21→Maps.has (setW (H:=H) k) (.string l)=(wordsL.take k).contains l
 | 0,_=>rfl
 | k+1,hk=>by
   have ih:=setW_has (H:=H) l k (by omega)
   have hl:k<wordsL.length:=by have:wordsL.length=21:=rfl;omega
   have e:wordsL.getD k []=wordsL[k]:=by simp [List.getD,hl]
   unfold setW
   rw [List.take_succ_eq_append_getElem hl,List.contains_append,←ih,e]
   by_cases c:l=wordsL[k]
   · rw [c,has_put_same (setW_map k) (by trivial)]
     simp
   · rw [has_put_other (by intro q;exact c (by injection q))]
     have:([wordsL[k]]:List (List UInt8)).contains l=false:=by
       simp only [List.contains_cons,List.contains_nil,Bool.or_false]
       exact beq_eq_false_iff_ne.2 c
     rw [this,Bool.or_false]
theorem setW_all {H:Type} (l:List UInt8):Maps.has (setW (H:=H) 21) (.string l)=wordB l:=by
 rw [setW_has l 21 (by omega)]
 rfl
def WordsAt (W:World) (B:Nat):Prop:=∃A n,W.cell? ⟨B,0,none⟩=some (.map (some A))∧W.ownsMap Tryd.prog 9 (unitElem (H:=Unit)) A n (setW 21)∧B<W.heap.size∧A<W.heap.size
theorem ownsMap_keep {H:Type} {P:Program} {k:TypeId} {R:Value→Option (DataW H×List MemPlace)} {w W:World} {A n:Nat} {D:DataW H} (h:w.ownsMap P k R A n D) (hb:Below w.heap.size w W) (hA:A<w.heap.size):W.ownsMap P k R A n D:=by
 obtain⟨es,c,h1,h2⟩:=h
 exact⟨es,c,(hb.block A hA).trans h1,h2⟩
theorem WordsAt.keep {w W:World} {B:Nat} (h:WordsAt w B) (hb:Below w.heap.size w W):WordsAt W B:=by
 obtain⟨A,n,h1,h2,h3,h4⟩:=h
 have:=hb.size
 exact⟨A,n,keepsC hb h1 h3,ownsMap_keep h2 hb h4,by omega,by omega⟩
set_option maxHeartbeats 1000000 in
theorem isWord_w (s:ByteArray) (hs:s.size≤maxLen) (B:Nat) (w:World) (h:WordsAt w B) :
   Calls Tryd.prog 129 #[.string s,.pointer (some ⟨B,0,none⟩)] w fun e w'=>e=.returned (.bool (wordB s.data.toList))∧Below w.heap.size w w':=by
 obtain⟨A,n,h1,hown,h3,h4⟩:=h
 have hkey:keyOf Tryd.prog 9 (.string s)=some (.string s.data.toList):=WideMaps.keyOf_string_mk Tryd.underlying9 hs
 have ha:=setW_all (H:=Unit) s.data.toList
 go_enter Tryd.func129,Tryd.ntmps129
 go_wp2_with (at_lookup;refine wpList_lookup_own_unit _ rfl _ _ 149 rfl 9 152 lawS Tryd.underlying149 (zeroU _) A n _ rfl hown _ _ rfl hkey ?_;rw [ha])
 go_ret
 exact⟨rfl,by go_grown⟩
theorem words_cell (k:Nat) (hk:k<21):(wordsL.map fun l=>Value.string ⟨l.toArray⟩).toArray[k]?=some (.string ⟨(wordsL.getD k []).toArray⟩):=by
 have hl:k<wordsL.length:=hk
 rw [List.getElem?_toArray,List.getElem?_map]
 simp [List.getD,hl]
theorem words_size (k:Nat):(⟨(wordsL.getD k []).toArray⟩:ByteArray).size≤maxLen:=by
 have h:∀l∈wordsL,l.length≤100:=by decide +kernel
 have:(wordsL.getD k []).length≤100:=by
   by_cases hk:k<wordsL.length
   · have e:wordsL.getD k []=wordsL[k]:=by simp [List.getD,hk]
     rw [e]
     exact h _ (List.getElem_mem hk)
   · have e:wordsL.getD k []=[]:=by simp [List.getD,hk]
     rw [e]
     exact Nat.zero_le _
 show (wordsL.getD k []).toArray.size≤maxLen
 rw [List.size_toArray]
 unfold maxLen
 omega
set_option maxHeartbeats 2000000 in
set_option maxRecDepth 20000 in
theorem teller_w (w:World) (T:SpT w) :
   Calls Tryd.prog 86 #[] w fun e w'=>∃B,e=.returned (.func (.func 129) #[] #[.pointer (some ⟨B,0,none⟩)])∧WordsAt w' B∧Below w.heap.size w w':=by
 have hmm:=@run_makeMap Tryd.prog
 have HB0:Below w.heap.size w ((w.alloc (.map #[] 0)).alloc (.cells #[.map (some w.heap.size)] 149)):=((Below.refl _ _).alloc (Nat.le_refl _) _).alloc (by simp) _
 have own0:((w.alloc (.map #[] 0)).alloc (.cells #[.map (some w.heap.size)] 149)).ownsMap Tryd.prog 9 (unitElem (H:=Unit)) w.heap.size 0 (setW 0):=(World.ownsMap_made w _ _ _).alloc _
 have cell0:((w.alloc (.map #[] 0)).alloc (.cells #[.map (some w.heap.size)] 149)).cell? ⟨w.heap.size+1,0,none⟩=some (.map (some w.heap.size)):=by
   have:=(MapKept.heap_alloc (w.alloc (.map #[] 0)) (.cells #[.map (some w.heap.size)] 149)).1
   have hz:(w.alloc (.map #[] 0)).heap.size=w.heap.size+1:=by simp
   rw [hz] at this
   simp only [World.cell?,this]
   rfl
 have z0:((w.alloc (.map #[] 0)).alloc (.cells #[.map (some w.heap.size)] 149)).heap.size=w.heap.size+2:=by simp
 have cf:∀W,Below w.heap.size w W→Calls Tryd.prog 128 #[.string ⟨wordsT.toArray⟩] W fun e w'=>e=.returned (.slice (some ⟨W.heap.size,0,none⟩) 21 21)∧w'=W.alloc (.cells (wordsL.map fun l=>Value.string ⟨l.toArray⟩).toArray 9):=fun W hb=>fields_w W (T.on hb)
 clear T
 go_enter Tryd.func86,Tryd.ntmps86
 go_upto_region 2 with fail
 generalize (w.alloc (.map #[] 0)).alloc (.cells #[.map (some w.heap.size)] 149)=V at *
 have cf1:=cf V HB0
 have HB1:=HB0.alloc (by omega) (.cells (wordsL.map fun l=>Value.string ⟨l.toArray⟩).toArray 9)
 have own1:=own0.alloc (.cells (wordsL.map fun l=>Value.string ⟨l.toArray⟩).toArray 9)
 have cell1:(V.alloc (.cells (wordsL.map fun l=>Value.string ⟨l.toArray⟩).toArray 9)).cell? ⟨w.heap.size+1,0,none⟩=some (.map (some w.heap.size)):=by
   rw [World.cell?_alloc_old _ _ _ (by show w.heap.size+1≠V.heap.size;omega)]
   exact cell0
 have wc1:Hid (∀k,k<21→(V.alloc (.cells (wordsL.map fun l=>Value.string ⟨l.toArray⟩).toArray 9)).cell? ⟨w.heap.size+2,k,none⟩=some (.string ⟨(wordsL.getD k []).toArray⟩)):=by
   show ∀k,_
   intro k hk
   have h:=words_cell k hk
   have hh:=(MapKept.heap_alloc V (.cells (wordsL.map fun l=>Value.string ⟨l.toArray⟩).toArray 9)).1
   rw [z0] at hh
   simp only [World.cell?,hh]
   exact h
 have z1:(V.alloc (.cells (wordsL.map fun l=>Value.string ⟨l.toArray⟩).toArray 9)).heap.size=w.heap.size+3:=by simp [z0]
 rw [z0] at cf1
 clear cf own0 cell0 HB0 z0
 generalize V.alloc (.cells (wordsL.map fun l=>Value.string ⟨l.toArray⟩).toArray 9)=V1 at *
 go_upto_region 3 with (go_at_call 128;refine cf1.mono ?_;rintro _ W1 ⟨rfl,rfl⟩)
 go_loopg [7] 21 (fun G s7 wx=>∃k:Nat,s7=.int .i64 (k:Int)∧k≤21∧k+G=21∧Below w.heap.size w wx∧wx.ownsMap Tryd.prog 9 (unitElem (H:=Unit)) w.heap.size k (setW k)∧wx.cell? ⟨w.heap.size+1,0,none⟩=some (.map (some w.heap.size))∧Hid (∀k,k<21→wx.cell? ⟨w.heap.size+2,k,none⟩=some (.string ⟨(wordsL.getD k []).toArray⟩))∧w.heap.size+3≤wx.heap.size)
 case atStart=>exact⟨0,rfl,by omega,by omega,HB1,own1,cell1,wc1,by omega⟩
 case round =>
   clear HB1 own1 cell1 wc1 z1 cf1
   obtain⟨k,rfl,hk,hG,HB,own,cell,wc,hz⟩:=hrel
   by_cases c:k<21
   · have ci:(k:Int)<21:=by omega
     have ck:=wc.out k c
     obtain⟨wd,hwd⟩:∃wd:ByteArray,Hid (wd=⟨(wordsL.getD k []).toArray⟩):=⟨_,rfl⟩
     rw [←hwd.out] at ck
     have hkey:keyOf Tryd.prog 9 (.string wd)=some (.string wd.data.toList):=WideMaps.keyOf_string_mk Tryd.underlying9 (by rw [hwd.out];exact words_size k)
     go_wp2_with (at_mapUpdate;refine wpList_mapUpdate_own _ rfl _ _ _ 149 rfl 9 152 lawS Tryd.underlying149 (unitElem (H:=Unit)) w.heap.size k _ rfl own (by unfold maxLen;omega) _ _ _ rfl rfl hkey _ [] unitElem_mk ?_;intro w1 own1 hg1)
     have own2:w1.ownsMap Tryd.prog 9 (unitElem (H:=Unit)) w.heap.size (k+1) (setW (k+1)):=by
       have e:wd.data.toList=wordsL.getD k []:=by rw [hwd.out]
       rw [e] at own1
       exact own1
     have HB2:Below w.heap.size w w1:=HB.grown hg1 HB.size (fun j hj=>by cases hj;exact Nat.le_refl _)
     have cell2:=hg1.cell cell (by simp)
     have wc2:Hid (∀k,k<21→w1.cell? ⟨w.heap.size+2,k,none⟩=some (.string ⟨(wordsL.getD k []).toArray⟩)):=fun j hj=>hg1.cell (wc.out j hj) (by simp)
     have z2:=hg1.size
     (go_roundg (21-k-1)
      case measure=>omega
      case rel=>exact⟨k+1,by go_num,by omega,by omega,HB2,own2,cell2,wc2,by omega⟩)
   · have ci:¬(k:Int)<21:=by omega
     obtain rfl:k=21:=by omega
     clear wc
     go_wp2_with fail
     go_ret
     exact⟨w.heap.size+1,rfl,⟨w.heap.size,21,cell,own,by omega,by omega⟩,HB⟩
end Go.Proofs.YtgocelaghggpmaaDoor
