/- lex: kinds of bytes, and how many of a kind a text begins with. -/
import Derived.Test.YtgocelaghggpmaaGreatDoorKo22
import Derived.Test.YtgocelaghggpmaaGreatDoorShelf
namespace Go.Proofs.YtgocelaghggpmaaGreatDoor
open Go.ChangeShapes Go.WideShapes Go.ChangeAt Go.RowKit
theorem byte_all {p:UInt8→Bool} (h:∀n,n<256→p (UInt8.ofNat n)=true) (c:UInt8):p c=true:=by
 have:=h c.toNat c.toNat_lt
 rwa [UInt8.ofNat_toNat] at this
theorem blk_index (c:UInt8):decide (0≤Lib.indexByte [32,9,10,13] c)=blkB c:=by
 have:=byte_all (p:=fun c=>decide (0≤Lib.indexByte [32,9,10,13] c)==blkB c) (by decide +kernel) c
 exact beq_iff_eq.1 this
def sgnB (c:UInt8):Bool:=decide (0≤Lib.indexByte [40,41,91,93,44,59,58,46,61,43,45,42,47,94] c)
theorem byte_back (c:UInt8):((c.toNat:Int)).toNat.toUInt8=c:=by
 rw [Int.toNat_natCast]
 exact UInt8.ofNat_toNat
set_option maxRecDepth 20000 in
theorem isBlank_w (c:UInt8) (w:World):Calls Tryz.prog 29 #[.int .u8 (c.toNat:Int)] w fun e w'=>e=.returned (.bool (blkB c))∧w=w':=by
 have ci:∀W,Calls Tryz.prog 47 #[.string ⟨#[32,9,10,13]⟩,.int .u8 (c.toNat:Int)] W fun e w'=>e=.returned (.int .i64 (Lib.indexByte [32,9,10,13] c))∧w'=W:=fun W=>by
   have:=Tryz.strings_IndexByte ⟨#[32,9,10,13]⟩ (c.toNat:Int) W
   rwa [byte_back] at this
 have hb:=blk_index c
 generalize Lib.indexByte [32,9,10,13] c=k at *
 rw [←hb]
 clear hb
 go_enter Tryz.func29,Tryz.ntmps29
 go_wp2_with (go_at_call 47;(with_reducible refine (ci _).mono ?_);rintro _ W1 ⟨rfl,rfl⟩)
 go_ret
 exact⟨rfl,rfl⟩
set_option maxRecDepth 20000 in
theorem isSign_w (c:UInt8) (w:World):Calls Tryz.prog 25 #[.int .u8 (c.toNat:Int)] w fun e w'=>e=.returned (.bool (sgnB c))∧w=w':=by
 have ci:∀W,Calls Tryz.prog 47 #[.string ⟨#[40,41,91,93,44,59,58,46,61,43,45,42,47,94]⟩,.int .u8 (c.toNat:Int)] W fun e w'=>e=.returned (.int .i64 (Lib.indexByte [40,41,91,93,44,59,58,46,61,43,45,42,47,94] c))∧w'=W:=fun W=>by
   have:=Tryz.strings_IndexByte ⟨#[40,41,91,93,44,59,58,46,61,43,45,42,47,94]⟩ (c.toNat:Int) W
   rwa [byte_back] at this
 unfold sgnB
 generalize Lib.indexByte [40,41,91,93,44,59,58,46,61,43,45,42,47,94] c=k at *
 go_enter Tryz.func25,Tryz.ntmps25
 go_wp2_with (go_at_call 47;(with_reducible refine (ci _).mono ?_);rintro _ W1 ⟨rfl,rfl⟩)
 go_ret
 exact⟨rfl,rfl⟩
theorem isDigit_w (c:UInt8) (w:World):Calls Tryz.prog 22 #[.int .u8 (c.toNat:Int)] w fun e w'=>e=.returned (.bool (isDg c))∧w=w':=by
 unfold isDg
 by_cases h1:48≤(c.toNat:Int)
 · by_cases h2:(c.toNat:Int)≤57
   · rw [decide_eq_true h1,decide_eq_true h2]
     go_enter Tryz.func22,Tryz.ntmps22
     go_wp2_with fail
     go_ret
     exact⟨rfl,rfl⟩
   · rw [decide_eq_true h1,decide_eq_false h2]
     go_enter Tryz.func22,Tryz.ntmps22
     go_wp2_with fail
     go_ret
     exact⟨rfl,rfl⟩
 · rw [decide_eq_false h1]
   go_enter Tryz.func22,Tryz.ntmps22
   go_wp2_with fail
   go_ret
   exact⟨rfl,rfl⟩
theorem isLetter_w (c:UInt8) (w:World):Calls Tryz.prog 20 #[.int .u8 (c.toNat:Int)] w fun e w'=>e=.returned (.bool (letB c))∧w=w':=by
 have E:letB c=((decide (65≤(c.toNat:Int))&&decide ((c.toNat:Int)≤90)) || (decide (97≤(c.toNat:Int))&&decide ((c.toNat:Int)≤122))):=by
   unfold letB
   rw [Bool.eq_iff_iff]
   simp only [Bool.or_eq_true,Bool.and_eq_true,decide_eq_true_eq]
   omega
 rw [E]
 clear E
 generalize (c.toNat:Int)=n
 by_cases h1:65≤n
 · by_cases h2:n≤90
   · rw [decide_eq_true h1,decide_eq_true h2]
     go_enter Tryz.func20,Tryz.ntmps20
     go_wp2_with fail
     go_ret
     exact⟨rfl,rfl⟩
   · by_cases h3:97≤n
     · by_cases h4:n≤122
       · rw [decide_eq_true h1,decide_eq_false h2,decide_eq_true h3,decide_eq_true h4]
         go_enter Tryz.func20,Tryz.ntmps20
         go_wp2_with fail
         go_ret
         exact⟨rfl,rfl⟩
       · rw [decide_eq_true h1,decide_eq_false h2,decide_eq_true h3,decide_eq_false h4]
         go_enter Tryz.func20,Tryz.ntmps20
         go_wp2_with fail
         go_ret
         exact⟨rfl,rfl⟩
     · rw [decide_eq_true h1,decide_eq_false h2,decide_eq_false h3]
       go_enter Tryz.func20,Tryz.ntmps20
       go_wp2_with fail
       go_ret
       exact⟨rfl,rfl⟩
 · have h3:¬97≤n:=by omega
   rw [decide_eq_false h1,decide_eq_false h3]
   go_enter Tryz.func20,Tryz.ntmps20
   go_wp2_with fail
   go_ret
   exact⟨rfl,rfl⟩
theorem inName_w (c:UInt8) (w:World):Calls Tryz.prog 43 #[.int .u8 (c.toNat:Int)] w fun e w'=>e=.returned (.bool (namB c))∧w=w':=by
 have c1:=fun W=>isLetter_w c W
 have c2:=fun W=>isDigit_w c W
 have E:namB c=(letB c || isDg c || ((c.toNat:Int)==95)):=by
   unfold namB
   have:(c.toNat==95)=((c.toNat:Int)==95):=by
     rw [Bool.eq_iff_iff,beq_iff_eq,beq_iff_eq];omega
   rw [this]
 rw [E]
 clear E
 cases h1:letB c
 · cases h2:isDg c
   · rw [h1] at c1
     rw [h2] at c2
     clear h1 h2
     generalize (c.toNat:Int)=n at *
     go_enter Tryz.func43,Tryz.ntmps43
     go_wp2_with (first | (go_at_call 20;(with_reducible refine (c1 _).mono ?_);rintro _ W1 ⟨rfl,rfl⟩) | (go_at_call 22;(with_reducible refine (c2 _).mono ?_);rintro _ W1 ⟨rfl,rfl⟩))
     go_ret
     exact⟨by simp,rfl⟩
   · rw [h1] at c1
     rw [h2] at c2
     clear h1 h2
     generalize (c.toNat:Int)=n at *
     go_enter Tryz.func43,Tryz.ntmps43
     go_wp2_with (first | (go_at_call 20;(with_reducible refine (c1 _).mono ?_);rintro _ W1 ⟨rfl,rfl⟩) | (go_at_call 22;(with_reducible refine (c2 _).mono ?_);rintro _ W1 ⟨rfl,rfl⟩))
     go_ret
     exact⟨rfl,rfl⟩
 · rw [h1] at c1
   clear h1 c2
   generalize (c.toNat:Int)=n at *
   go_enter Tryz.func43,Tryz.ntmps43
   go_wp2_with (go_at_call 20;(with_reducible refine (c1 _).mono ?_);rintro _ W1 ⟨rfl,rfl⟩)
   go_ret
   exact⟨rfl,rfl⟩
theorem inLine_w (c:UInt8) (w:World):Calls Tryz.prog 31 #[.int .u8 (c.toNat:Int)] w fun e w'=>e=.returned (.bool (linB c))∧w=w':=by
 have E:linB c=((c.toNat:Int) != 10):=by
   unfold linB
   rw [Bool.eq_iff_iff,bne_iff_ne,bne_iff_ne];omega
 rw [E]
 clear E
 generalize (c.toNat:Int)=n
 go_enter Tryz.func31,Tryz.ntmps31
 go_wp2_with fail
 go_ret
 exact⟨rfl,rfl⟩
def fromL (s:ByteArray) (i:Nat):List UInt8:=s.data.toList.drop i
theorem from_end {s:ByteArray} {i:Nat} (h:¬i<s.size):fromL s i=[]:=List.drop_of_length_le (by simp;omega)
theorem from_cons {s:ByteArray} {i:Nat} (h:i<s.size):fromL s i=s[i] :: fromL s (i+1):=byte_drop h
set_option maxHeartbeats 1000000 in
theorem spanBlank_w (s:ByteArray) (hs:(s.size:Int)≤9223372036854775807) (w:World) :
   Calls Tryz.prog 28 #[.string s,.func (.func 29) #[] #[]] w fun e w'=>e=.returned (.int .i64 (spanL blkB s.data.toList:Int))∧w=w':=by
 have hU:∃u,Hid (spanL blkB s.data.toList=u):=⟨_,rfl⟩
 obtain⟨u,hU⟩:=hU
 rw [hU.out]
 have cb:=isBlank_w
 go_enter Tryz.func28,Tryz.ntmps28
 go_upto_region 2 with fail
 go_loopg [5] s.size (fun G s5 wx=>∃i:Nat,s5=.int .i64 (i:Int)∧i≤s.size∧i+G=s.size∧w=wx∧Hid (i+spanL blkB (fromL s i)=u))
 case atStart=>exact⟨0,rfl,by omega,by omega,rfl,by show _=_;rw [Nat.zero_add];exact hU.out⟩
 case round =>
   clear hU
   obtain⟨i,rfl,hi,hG,rfl,H⟩:=hrel
   by_cases c:i<s.size
   · have ci:(i:Int)<(s.size:Int):=by omega
     have H1:=H.out
     rw [from_cons c,spanL_cons] at H1
     have cb1:=fun W=>cb s[i] W
     clear H cb
     cases hp:blkB s[i]
     · rw [hp] at H1 cb1
       have e:i=u:=by rw [←H1];rfl
       subst e
       clear H1 hp
       go_wp2_with (go_at_call 29;(with_reducible refine (cb1 _).mono ?_);rintro _ W1 ⟨rfl,rfl⟩)
       go_ret
       exact⟨rfl,rfl⟩
     · rw [hp] at H1 cb1
       have H2:Hid (i+1+spanL blkB (fromL s (i+1))=u):=by
         show _=_
         rw [if_pos rfl] at H1
         omega
       clear H1 hp
       go_wp2_with (go_at_call 29;(with_reducible refine (cb1 _).mono ?_);rintro _ W1 ⟨rfl,rfl⟩)
       (go_roundg (s.size-i-1)
        case measure=>omega
        case rel=>exact⟨i+1,by go_num,by omega,by omega,rfl,H2⟩)
   · have ci:¬(i:Int)<(s.size:Int):=by omega
     have e:i=u:=by
       have H1:=H.out
       rw [from_end c] at H1
       rw [←H1]
       rfl
     subst e
     clear H cb
     go_wp2_with fail
     go_ret
     exact⟨rfl,rfl⟩
set_option maxHeartbeats 1000000 in
theorem spanLine_w (s:ByteArray) (hs:(s.size:Int)≤9223372036854775807) (w:World) :
   Calls Tryz.prog 28 #[.string s,.func (.func 31) #[] #[]] w fun e w'=>e=.returned (.int .i64 (spanL linB s.data.toList:Int))∧w=w':=by
 have hU:∃u,Hid (spanL linB s.data.toList=u):=⟨_,rfl⟩
 obtain⟨u,hU⟩:=hU
 rw [hU.out]
 have cb:=inLine_w
 go_enter Tryz.func28,Tryz.ntmps28
 go_upto_region 2 with fail
 go_loopg [5] s.size (fun G s5 wx=>∃i:Nat,s5=.int .i64 (i:Int)∧i≤s.size∧i+G=s.size∧w=wx∧Hid (i+spanL linB (fromL s i)=u))
 case atStart=>exact⟨0,rfl,by omega,by omega,rfl,by show _=_;rw [Nat.zero_add];exact hU.out⟩
 case round =>
   clear hU
   obtain⟨i,rfl,hi,hG,rfl,H⟩:=hrel
   by_cases c:i<s.size
   · have ci:(i:Int)<(s.size:Int):=by omega
     have H1:=H.out
     rw [from_cons c,spanL_cons] at H1
     have cb1:=fun W=>cb s[i] W
     clear H cb
     cases hp:linB s[i]
     · rw [hp] at H1 cb1
       have e:i=u:=by rw [←H1];rfl
       subst e
       clear H1 hp
       go_wp2_with (go_at_call 31;(with_reducible refine (cb1 _).mono ?_);rintro _ W1 ⟨rfl,rfl⟩)
       go_ret
       exact⟨rfl,rfl⟩
     · rw [hp] at H1 cb1
       have H2:Hid (i+1+spanL linB (fromL s (i+1))=u):=by
         show _=_
         rw [if_pos rfl] at H1
         omega
       clear H1 hp
       go_wp2_with (go_at_call 31;(with_reducible refine (cb1 _).mono ?_);rintro _ W1 ⟨rfl,rfl⟩)
       (go_roundg (s.size-i-1)
        case measure=>omega
        case rel=>exact⟨i+1,by go_num,by omega,by omega,rfl,H2⟩)
   · have ci:¬(i:Int)<(s.size:Int):=by omega
     have e:i=u:=by
       have H1:=H.out
       rw [from_end c] at H1
       rw [←H1]
       rfl
     subst e
     clear H cb
     go_wp2_with fail
     go_ret
     exact⟨rfl,rfl⟩
set_option maxHeartbeats 1000000 in
theorem spanName_w (s:ByteArray) (hs:(s.size:Int)≤9223372036854775807) (w:World) :
   Calls Tryz.prog 28 #[.string s,.func (.func 43) #[] #[]] w fun e w'=>e=.returned (.int .i64 (spanL namB s.data.toList:Int))∧w=w':=by
 have hU:∃u,Hid (spanL namB s.data.toList=u):=⟨_,rfl⟩
 obtain⟨u,hU⟩:=hU
 rw [hU.out]
 have cb:=inName_w
 go_enter Tryz.func28,Tryz.ntmps28
 go_upto_region 2 with fail
 go_loopg [5] s.size (fun G s5 wx=>∃i:Nat,s5=.int .i64 (i:Int)∧i≤s.size∧i+G=s.size∧w=wx∧Hid (i+spanL namB (fromL s i)=u))
 case atStart=>exact⟨0,rfl,by omega,by omega,rfl,by show _=_;rw [Nat.zero_add];exact hU.out⟩
 case round =>
   clear hU
   obtain⟨i,rfl,hi,hG,rfl,H⟩:=hrel
   by_cases c:i<s.size
   · have ci:(i:Int)<(s.size:Int):=by omega
     have H1:=H.out
     rw [from_cons c,spanL_cons] at H1
     have cb1:=fun W=>cb s[i] W
     clear H cb
     cases hp:namB s[i]
     · rw [hp] at H1 cb1
       have e:i=u:=by rw [←H1];rfl
       subst e
       clear H1 hp
       go_wp2_with (go_at_call 43;(with_reducible refine (cb1 _).mono ?_);rintro _ W1 ⟨rfl,rfl⟩)
       go_ret
       exact⟨rfl,rfl⟩
     · rw [hp] at H1 cb1
       have H2:Hid (i+1+spanL namB (fromL s (i+1))=u):=by
         show _=_
         rw [if_pos rfl] at H1
         omega
       clear H1 hp
       go_wp2_with (go_at_call 43;(with_reducible refine (cb1 _).mono ?_);rintro _ W1 ⟨rfl,rfl⟩)
       (go_roundg (s.size-i-1)
        case measure=>omega
        case rel=>exact⟨i+1,by go_num,by omega,by omega,rfl,H2⟩)
   · have ci:¬(i:Int)<(s.size:Int):=by omega
     have e:i=u:=by
       have H1:=H.out
       rw [from_end c] at H1
       rw [←H1]
       rfl
     subst e
     clear H cb
     go_wp2_with fail
     go_ret
     exact⟨rfl,rfl⟩
set_option maxHeartbeats 1000000 in
theorem spanDigit_w (s:ByteArray) (hs:(s.size:Int)≤9223372036854775807) (w:World) :
   Calls Tryz.prog 28 #[.string s,.func (.func 22) #[] #[]] w fun e w'=>e=.returned (.int .i64 (spanL isDg s.data.toList:Int))∧w=w':=by
 have hU:∃u,Hid (spanL isDg s.data.toList=u):=⟨_,rfl⟩
 obtain⟨u,hU⟩:=hU
 rw [hU.out]
 have cb:=isDigit_w
 go_enter Tryz.func28,Tryz.ntmps28
 go_upto_region 2 with fail
 go_loopg [5] s.size (fun G s5 wx=>∃i:Nat,s5=.int .i64 (i:Int)∧i≤s.size∧i+G=s.size∧w=wx∧Hid (i+spanL isDg (fromL s i)=u))
 case atStart=>exact⟨0,rfl,by omega,by omega,rfl,by show _=_;rw [Nat.zero_add];exact hU.out⟩
 case round =>
   clear hU
   obtain⟨i,rfl,hi,hG,rfl,H⟩:=hrel
   by_cases c:i<s.size
   · have ci:(i:Int)<(s.size:Int):=by omega
     have H1:=H.out
     rw [from_cons c,spanL_cons] at H1
     have cb1:=fun W=>cb s[i] W
     clear H cb
     cases hp:isDg s[i]
     · rw [hp] at H1 cb1
       have e:i=u:=by rw [←H1];rfl
       subst e
       clear H1 hp
       go_wp2_with (go_at_call 22;(with_reducible refine (cb1 _).mono ?_);rintro _ W1 ⟨rfl,rfl⟩)
       go_ret
       exact⟨rfl,rfl⟩
     · rw [hp] at H1 cb1
       have H2:Hid (i+1+spanL isDg (fromL s (i+1))=u):=by
         show _=_
         rw [if_pos rfl] at H1
         omega
       clear H1 hp
       go_wp2_with (go_at_call 22;(with_reducible refine (cb1 _).mono ?_);rintro _ W1 ⟨rfl,rfl⟩)
       (go_roundg (s.size-i-1)
        case measure=>omega
        case rel=>exact⟨i+1,by go_num,by omega,by omega,rfl,H2⟩)
   · have ci:¬(i:Int)<(s.size:Int):=by omega
     have e:i=u:=by
       have H1:=H.out
       rw [from_end c] at H1
       rw [←H1]
       rfl
     subst e
     clear H cb
     go_wp2_with fail
     go_ret
     exact⟨rfl,rfl⟩
end Go.Proofs.YtgocelaghggpmaaGreatDoor
