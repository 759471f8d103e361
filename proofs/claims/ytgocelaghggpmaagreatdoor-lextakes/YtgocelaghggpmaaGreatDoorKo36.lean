/- The document's Lex: the end of a number. -/
import Derived.Test.YtgocelaghggpmaaGreatDoorKo23
import Derived.Test.YtgocelaghggpmaaGreatDoorKo35
import Derived.Deep.Cut
import Derived.Deep.CutRange
namespace Go.Proofs.YtgocelaghggpmaaGreatDoor
open Go.ChangeShapes Go.WideShapes Go.ChangeAt Go.RowKit
set_option maxHeartbeats 4000000 in
set_option maxRecDepth 20000 in
theorem rNumber_w (s:ByteArray) (k:Nat) (hk:k≤s.size) (hs:(s.size:Int)≤1000000) (w:World) :
   Calls Tryz.prog 15 #[.string s,.int .i64 (k:Int)] w fun e w'=>e=.returned (.int .i64 ((k+nuL (fromL s k):Nat):Int))∧w=w':=by
 rw [nu_at]
 have ga:=upto_ge s k
 have la:=upto_le' s k hk
 have cu:∀(j:Nat) (W:World),j≤s.size→Calls Tryz.prog 32 #[.string s,.int .i64 (j:Int)] W fun e w'=>e=.returned (.int .i64 (uptoN s j:Int))∧W=w':=fun j W h=>rDigits_w s j h (by omega) W
 have cd:=rDigit_w
 have c0:=fun W=>cu k W hk
 generalize uptoN s k=a at *
 have frp:=fun h1 h2 h3=>fr_pos (s:=s) (p:=a) h1 h2 h3
 have frz:=fun h=>fr_zero (s:=s) (p:=a) h
 have frl:=fr_le (fromL s a)
 rw [from_len] at frl
 obtain⟨fr,hfr⟩:∃fr,Hid (frL (fromL s a)=fr):=⟨_,rfl⟩
 rw [hfr.out] at frp frz frl ⊢
 have FRP:Hid _:=frp
 have FRZ:Hid _:=frz
 have exp':=fun c h1 h2 h3 h4 h5=>ex_pos (s:=s) (p:=a+fr) (c:=c) h1 h2 h3 h4 h5
 have exz:=fun c h1 h2 h3 h4=>ex_zero (s:=s) (p:=a+fr) (c:=c) h1 h2 h3 h4
 have exn:=fun h=>ex_no (s:=s) (p:=a+fr) h
 have exl:=ex_le (fromL s (a+fr))
 rw [from_len] at exl
 obtain⟨ex,hex⟩:∃ex,Hid (exL (fromL s (a+fr))=ex):=⟨_,rfl⟩
 rw [hex.out] at exp' exz exn exl ⊢
 have EXP:Hid _:=exp'
 have EXZ:Hid _:=exz
 have EXN:Hid _:=exn
 obtain⟨R,hR⟩:∃R,Hid (a+fr+ex=R):=⟨_,rfl⟩
 rw [hR.out]
 clear hfr hex frp frz exp' exz exn
 have ai:(a:Int)≤(s.size:Int):=by omega
 go_enter Tryz.func15,Tryz.ntmps15
 go_upto_region 2 with (go_at_call 32;(with_reducible refine (c0 _).mono ?_);rintro _ W1 ⟨rfl,rfl⟩)
 clear c0
 go_cut [27] from 10 to 26 (fun s27 wx=>∃q:Bool,s27=.bool q∧w=wx∧Hid (q=true↔∃h:a+1<s.size,s[a].toNat=46∧isDg s[a+1]=true))
 case first =>
   clear FRP FRZ EXP EXZ EXN cu
   by_cases d0:a+1<s.size
   · have k4:(a:Int)+1<(s.size:Int):=by omega
     have k5:(a:Int)<(s.size:Int):=by omega
     by_cases d1:s[a].toNat=46
     · have g1:((s[a].toNat:Int)==46)=true:=by rw [beq_iff_eq];omega
       have cd1:=fun W=>cd s[a+1] W
       go_wp2_with (go_at_call 14;(with_reducible refine (cd1 _).mono ?_);rintro _ W1 ⟨rfl,rfl⟩)
       go_meet
       case rel=>exact⟨_,rfl,rfl,⟨fun h=>⟨d0,d1,h⟩,fun ⟨_,_,h⟩=>h⟩⟩
     · have g1:((s[a].toNat:Int)==46)=false:=by rw [beq_eq_false_iff_ne];omega
       go_wp2_with fail
       go_meet
       case rel=>exact⟨_,rfl,rfl,⟨fun h=>absurd h (by decide),fun ⟨_,h,_⟩=>absurd h d1⟩⟩
   · have k4:¬(a:Int)+1<(s.size:Int):=by omega
     go_wp2_with fail
     go_meet
     case rel=>exact⟨_,rfl,rfl,⟨fun h=>absurd h (by decide),fun ⟨h,_⟩=>absurd h d0⟩⟩
 case rest =>
   obtain⟨q,rfl,rfl,hq⟩:=hcut
   go_upto_if 27 with fail
   go_cut [5] from 27 to 31 (fun s5 wx=>s5=.int .i64 ((a+fr:Nat):Int)∧w=wx)
   case first =>
     clear EXP EXZ EXN cd
     cases q
     · have z:fr=0:=FRZ.out fun h=>absurd (hq.out.2 h) (by decide)
       subst z
       clear FRP FRZ hq cu
       go_wp2_with fail
       go_meet
       case rel=>exact⟨rfl,rfl⟩
     · obtain⟨d0,d1,d2⟩:=hq.out.1 rfl
       have z:fr=uptoN s (a+1)-a:=FRP.out d0 d1 d2
       have up:=up_pos d0 d2
       have c1:∀W,Calls Tryz.prog 32 #[.string s,.int .i64 ((a:Int)+1)] W fun e w'=>e=.returned (.int .i64 ((a+fr:Nat):Int))∧W=w':=fun W=>by
         have:=cu (a+1) W (by omega)
         rw [show uptoN s (a+1)=a+fr by omega] at this
         exact this
       clear FRP FRZ hq cu z up
       go_wp2_with (go_at_call 32;(with_reducible refine (c1 _).mono ?_);rintro _ W1 ⟨rfl,rfl⟩)
       go_meet
       case rel=>exact⟨rfl,rfl⟩
   case rest =>
     obtain⟨rfl,rfl⟩:=hcut
     clear FRP FRZ hq
     have pl:a+fr≤s.size:=by omega
     generalize a+fr=p at *
     have pi:(p:Int)≤(s.size:Int):=by omega
     go_upto_region 4 with fail
     go_cut [47] from 32 to 46 (fun s47 wx=>∃q:Bool,s47=.bool q∧w=wx∧Hid (q=true↔∃h:p<s.size,s[p].toNat=101∨s[p].toNat=69))
     case first =>
       clear EXP EXZ EXN cu cd
       by_cases d0:p<s.size
       · have k4:(p:Int)<(s.size:Int):=by omega
         by_cases d1:s[p].toNat=101
         · have g1:((s[p].toNat:Int)==101)=true:=by rw [beq_iff_eq];omega
           go_wp2_with fail
           go_meet
           case rel=>exact⟨_,rfl,rfl,⟨fun _=>⟨d0,Or.inl d1⟩,fun _=>rfl⟩⟩
         · have g1:((s[p].toNat:Int)==101)=false:=by rw [beq_eq_false_iff_ne];omega
           go_wp2_with fail
           go_meet
           case rel=>exact⟨_,rfl,rfl,⟨fun h=>⟨d0,Or.inr (by rw [beq_iff_eq] at h;omega)⟩,fun ⟨_,h⟩=>by rw [beq_iff_eq];rcases h with h | h <;> omega⟩⟩
       · have k4:¬(p:Int)<(s.size:Int):=by omega
         go_wp2_with fail
         go_meet
         case rel=>exact⟨_,rfl,rfl,⟨fun h=>absurd h (by decide),fun ⟨h,_⟩=>absurd h d0⟩⟩
     case rest =>
       obtain⟨q,rfl,rfl,hq⟩:=hcut
       cases q
       · have z:ex=0:=EXN.out fun h=>absurd (hq.out.2 h) (by decide)
         subst z
         clear EXP EXZ EXN hq cu cd
         have eR:(R:Int)=(p:Int):=by have:=hR.out;omega
         clear hR
         go_wp2_with fail
         go_ret
         first | exact⟨rfl,rfl⟩ | exact⟨congrArg (fun x=>Ending.returned (Value.int .i64 x)) eR.symm,rfl⟩
       · obtain⟨d0,d1⟩:=hq.out.1 rfl
         clear EXN hq
         go_upto_region 6 with fail
         go_cut [65] from 50 to 64 (fun s65 wx=>s65=.bool (headB (s.extract (p+1) s.size) 45 || headB (s.extract (p+1) s.size) 43)∧w=wx)
         case first =>
           clear EXP EXZ cu cd d1
           by_cases c1:p+1<s.size
           · have k5:(p:Int)+1<(s.size:Int):=by omega
             have E1:headB (s.extract (p+1) s.size) 45=((s[p+1].toNat:Int)==45):=by
               rw [head_ext s (p+1) 45 c1,Bool.eq_iff_iff,beq_iff_eq,beq_iff_eq];omega
             have E2:headB (s.extract (p+1) s.size) 43=((s[p+1].toNat:Int)==43):=by
               rw [head_ext s (p+1) 43 c1,Bool.eq_iff_iff,beq_iff_eq,beq_iff_eq];omega
             have EH:Hid _:=And.intro E1 E2
             clear E1 E2
             by_cases l1:(s[p+1].toNat:Int)=43
             · have g1:((s[p+1].toNat:Int)==43)=true:=by rw [beq_iff_eq];omega
               go_wp2_with fail
               go_meet
               case rel=>exact⟨by rw [EH.out.2,g1,Bool.or_true],rfl⟩
             · have g1:((s[p+1].toNat:Int)==43)=false:=by rw [beq_eq_false_iff_ne];omega
               go_wp2_with fail
               go_meet
               case rel=>exact⟨by rw [EH.out.2,EH.out.1,g1,Bool.or_false],rfl⟩
           · have k5:¬(p:Int)+1<(s.size:Int):=by omega
             go_wp2_with fail
             go_meet
             case rel=>exact⟨by rw [head_out s (p+1) 45 c1,head_out s (p+1) 43 c1];rfl,rfl⟩
         case rest =>
           obtain⟨rfl,rfl⟩:=hcut
           go_upto_if 65 with fail
           go_cut [6] from 65 to 67 (fun s6 wx=>s6=.int .i64 (sgnP s (p+1):Int)∧w=wx)
           case first =>
             clear EXP EXZ cu cd
             cases hsb:(headB (s.extract (p+1) s.size) 45 || headB (s.extract (p+1) s.size) 43)
             · go_wp2_with fail
               go_meet
               case rel=>exact⟨by unfold sgnP;rw [hsb];rfl,rfl⟩
             · go_wp2_with fail
               go_meet
               case rel=>exact⟨by unfold sgnP;rw [hsb];rfl,rfl⟩
           case rest =>
             obtain⟨rfl,rfl⟩:=hcut
             have cl:=sgnP_le s (p+1) (by omega)
             have cg:p+1≤sgnP s (p+1):=by unfold sgnP;split <;> omega
             have ep:=EXP.out (sgnP s (p+1)) d0 d1 rfl
             have ez:=EXZ.out (sgnP s (p+1)) d0 d1 rfl
             generalize sgnP s (p+1)=c at *
             have ci:(c:Int)≤(s.size:Int):=by omega
             by_cases k1:c<s.size
             · have k1i:(c:Int)<(s.size:Int):=by omega
               have cd1:=fun W=>cd s[c] W
               cases hd:isDg s[c]
               · have z:ex=0:=ez fun ⟨_,h⟩=>by rw [hd] at h;exact absurd h (by decide)
                 subst z
                 rw [hd] at cd1
                 have eR:(R:Int)=(p:Int):=by have:=hR.out;omega
                 clear EXP EXZ ep ez cu cd hd hR
                 go_wp2_with (go_at_call 14;(with_reducible refine (cd1 _).mono ?_);rintro _ W1 ⟨rfl,rfl⟩)
                 go_ret
                 first | exact⟨rfl,rfl⟩ | exact⟨congrArg (fun x=>Ending.returned (Value.int .i64 x)) eR.symm,rfl⟩
               · have z:=ep k1 hd
                 have up:=up_pos k1 hd
                 have up2:=upto_le' s c cl
                 have pc:p<c:=by omega
                 have c2:∀W,Calls Tryz.prog 32 #[.string s,.int .i64 (c:Int)] W fun e w'=>e=.returned (.int .i64 (R:Int))∧W=w':=fun W=>by
                   have:=cu c W cl
                   rw [show uptoN s c=R by have:=hR.out;omega] at this
                   exact this
                 rw [hd] at cd1
                 clear EXP EXZ ep ez cu cd hd z up up2 hR
                 go_wp2_with (first | (go_at_call 14;(with_reducible refine (cd1 _).mono ?_);rintro _ W1 ⟨rfl,rfl⟩) | (go_at_call 32;(with_reducible refine (c2 _).mono ?_);rintro _ W1 ⟨rfl,rfl⟩))
                 go_ret
                 exact⟨rfl,rfl⟩
             · have k1i:¬(c:Int)<(s.size:Int):=by omega
               have z:ex=0:=ez fun ⟨h,_⟩=>absurd h k1
               subst z
               have eR:(R:Int)=(p:Int):=by have:=hR.out;omega
               clear EXP EXZ ep ez cu cd hR
               go_wp2_with fail
               go_ret
               first | exact⟨rfl,rfl⟩ | exact⟨congrArg (fun x=>Ending.returned (Value.int .i64 x)) eR.symm,rfl⟩
end Go.Proofs.YtgocelaghggpmaaGreatDoor
