/- lex: Lex, whole. -/
import Derived.Test.YtgocelaghggpmaaGreatDoorKo32
namespace Go.Proofs.YtgocelaghggpmaaGreatDoor
open Go.ChangeShapes Go.WideShapes Go.ChangeAt Go.RowKit Go.Maps
theorem OwnK.base {B B':Nat} {w:World} {v:Value} {T:List Tk} (h:OwnK B w v T) (hb:B'≤B):OwnK B' w v T:=by
 refine⟨h.1, ?_⟩
 rcases h.2 with hn | ⟨g,cap,cur,hv,hb2,rest⟩
 · exact .inl hn
 · exact .inr ⟨g,cap,cur,hv,Nat.le_trans hb hb2,rest⟩
theorem ext_size (s:ByteArray) (p:Nat):(s.extract p s.size).size=s.size-p:=by rw [ByteArray.size_extract];omega
theorem first_le (s:ByteArray) (h0:0<s.size):(firstV s).t.size≤s.size:=by
 have zz:s.data.toList.length=s.size:=by simp
 unfold firstV
 split
 · show (s.extract 0 _).size≤_
   rw [ByteArray.size_extract];omega
 · split
   · have e:(numF (s.extract 0 (nuL s.data.toList))).t=s.extract 0 (nuL s.data.toList):=by unfold numF;split <;> rfl
     rw [e,ByteArray.size_extract];omega
   · split
     · show (s.extract 0 _).size≤_
       rw [ByteArray.size_extract];omega
     · exact Nat.zero_le _
theorem first_ge (s:ByteArray) (h0:0<s.size) (he:(firstV s).e=0):1≤(firstV s).t.size:=by
 have zz:s.data.toList.length=s.size:=by simp
 have hc:s.data.toList=s[0] :: s.data.toList.drop 1:=by
   have e:=byte_drop (s:=s) (k:=0) h0
   rwa [List.drop_zero] at e
 unfold firstV at he ⊢
 rw [headP_is h0,headP_is h0,headP_is h0] at he ⊢
 cases p0:letB s[0]
 · rw [p0] at he
   cases p1:isDg s[0]
   · rw [p1] at he
     cases p2:sgnB s[0]
     · rw [p2] at he
       simp only [Bool.false_eq_true,if_false] at he
       exact absurd he (by decide)
     · simp only [Bool.false_eq_true,if_false,if_true]
       show 1≤(s.extract 0 (sigL s.data.toList)).size
       rw [ByteArray.size_extract]
       unfold sigL
       split <;> omega
   · simp only [Bool.false_eq_true,if_false,if_true]
     have e:(numF (s.extract 0 (nuL s.data.toList))).t=s.extract 0 (nuL s.data.toList):=by unfold numF;split <;> rfl
     have k:1≤nuL s.data.toList:=by
       unfold nuL
       have:1≤spanL isDg s.data.toList:=by
         rw [hc,spanL_cons,p1,if_pos rfl]
         omega
       omega
     rw [e,ByteArray.size_extract]
     omega
 · simp only [if_true]
   show 1≤(s.extract 0 (spanL namB s.data.toList)).size
   have k:1≤spanL namB s.data.toList:=by
     rw [hc,spanL_cons]
     have:namB s[0]=true:=by unfold namB;rw [p0];rfl
     rw [this,if_pos rfl]
     omega
   rw [ByteArray.size_extract]
   omega
set_option maxHeartbeats 4000000 in
set_option maxRecDepth 20000 in
theorem lex_w (s:ByteArray) (hs:(s.size:Int)≤9223372036854775807) (w:World) (T1:SpT w) (T2:ErrR w) :
   Calls Tryz.prog 4 #[.string s] w fun r w'=>∃v,r=.returned (.tuple #[v,.int .i64 (lexV s).e,.int .i64 ((lexV s).p:Int)])∧OwnK w.heap.size w' v (lexV s).t∧Below w.heap.size w w':=by
 obtain⟨R,hR⟩:∃R,Hid (lexV s=R):=⟨_,rfl⟩
 rw [hR.out]
 by_cases c:20000<s.size
 · have k1:20000<(s.size:Int):=by omega
   have e:R=⟨[],2,0⟩:=by rw [←hR.out];unfold lexV;rw [if_pos c]
   subst e
   clear hR
   go_enter Tryz.func4,Tryz.ntmps4
   go_wp2_with fail
   refine bodyPost_ret (v:=.tuple #[.slice none 0 0,.int .i64 2,.int .i64 0]) (by simp [results,Tryz.results4,go_sem]) rfl ?_
   exact⟨_,rfl,World.ownsRow_nil _ _ _ _,Below.refl _ _⟩
 · have k1:¬20000<(s.size:Int):=by omega
   have hF:Hid (lexF s (s.size+1) (gapS false s.data.toList) []=R):=by
     show _=_
     rw [←hR.out];unfold lexV;rw [if_neg c]
   have zz:s.data.toList.length=s.size:=by simp
   have g0:=gapS_le false s.data.toList
   rw [zz] at g0
   have cs:=sorts_w w T1
   have cg0:=fun W=>gap_w s hs W
   have cg:∀k W,Calls Tryz.prog 10 #[.string (s.extract k s.size)] W fun e w'=>e=.returned (.int .i64 (gapS false (fromL s k):Int))∧W=w':=fun k W=>by
     have:=gap_w (s.extract k s.size) (by rw [ext_size];omega) W
     rwa [ext_from] at this
   have cf:∀k D C W,k<s.size→SortsAt W D C→Below w.heap.size w W→Calls Tryz.prog 11 #[.slice (some ⟨D,0,none⟩) 3 3,.string (s.extract k s.size)] W fun r w'=>r=.returned (.tuple #[.string (firstV (s.extract k s.size)).t,.agg #[.int .i64 (firstV (s.extract k s.size)).k,.string (firstV (s.extract k s.size)).S,.int .i64 (firstV (s.extract k s.size)).N,.int .i64 (firstV (s.extract k s.size)).D,.int .i64 0],.int .i64 (firstV (s.extract k s.size)).e])∧Below W.heap.size W w':=fun k D C W hk A hb=>first_w _ (by rw [ext_size];omega) (by rw [ext_size];omega) D C W A (T2.on hb)
   generalize gapS false s.data.toList=p0 at *
   clear hR T1 T2 zz
   go_enter Tryz.func4,Tryz.ntmps4
   go_upto_region 6 with (first
     | (go_at_call 9;(with_reducible refine cs.mono ?_);rintro _ W1 ⟨D,C,rfl,A,HB⟩)
     | (go_at_call 10;(with_reducible refine (cg0 _).mono ?_);rintro _ W2 ⟨rfl,rfl⟩))
   clear cs cg0
   go_loopg [6,7] (s.size+1) (fun G s6 s7 wx=>∃(p:Nat) (T:List Tk),s7=.int .i64 (p:Int)∧p≤s.size∧s.size<p+G∧Hid (lexF s G p T=R)∧OwnK W1.heap.size wx s6 T∧T.length≤4000∧Below W1.heap.size W1 wx)
   case atStart=>exact⟨p0,[],rfl,g0,by omega,hF,World.ownsRow_nil _ _ _ _,by simp,Below.refl _ _⟩
   case round =>
     clear hF g0
     obtain⟨p,T,rfl,hp,hG,HF,own,hT,HB1⟩:=hrel
     obtain⟨G',hG'⟩:∃G',Hid (gk=G'+1):=⟨gk-1,by show _=_;omega⟩
     have HF1:=HF.out
     rw [hG'.out] at HF1
     unfold lexF at HF1
     obtain⟨av,ac,rfl⟩:=own.form
     by_cases c1:p<s.size
     · have ci:(p:Int)<(s.size:Int):=by omega
       have cpi:(p:Int)≤(s.size:Int):=by omega
       rw [if_pos c1] at HF1
       by_cases c2:T.length=4000
       · rw [if_pos c2] at HF1
         subst HF1
         rw [c2]
         clear HF cg cf
         go_wp2_with fail
         refine bodyPost_ret (v:=.tuple #[.slice none 0 0,.int .i64 2,.int .i64 (p:Int)]) (by simp [results,Tryz.results4,go_sem]) rfl ?_
         exact⟨_,rfl,World.ownsRow_nil _ _ _ _,later HB HB1⟩
       · rw [if_neg c2] at HF1
         have c2i:((T.length:Int)==4000)=false:=by rw [beq_eq_false_iff_ne];omega
         have cf1:=cf p D C wr c1 (A.keep HB1) (later HB HB1)
         have z0:0<(s.extract p s.size).size:=by rw [ext_size];omega
         have fl:=first_le (s.extract p s.size) z0
         have fg:=first_ge (s.extract p s.size) z0
         rw [ext_size] at fl
         generalize firstV (s.extract p s.size)=f at *
         obtain⟨ft,fk,fS,fN,fD,fe⟩:=f
         dsimp only at *
         by_cases c3:fe=0
         · subst c3
           rw [if_neg (by simp)] at HF1
           have fg1:=fg rfl
           have gl:=gapS_le false (fromL s (p+ft.size))
           rw [from_len] at gl
           have cg1:∀W,Calls Tryz.prog 10 #[.string (s.extract (p+ft.size) s.size)] W fun e w'=>e=.returned (.int .i64 (gapS false (fromL s (p+ft.size)):Int))∧W=w':=cg (p+ft.size)
           generalize gapS false (fromL s (p+ft.size))=gn at *
           have HF2:Hid (lexF s G' (p+ft.size+gn) (T++[⟨fk,fS,fN,fD,(p:Int)⟩])=R):=HF1
           have y1:(p:Int)+(ft.size:Int)≤(s.size:Int):=by omega
           clear HF HF1 cg cf fg
           go_upto_region 13 with (go_at_call 11;(with_reducible refine cf1.mono ?_);rintro _ W3 ⟨rfl,hb1⟩)
           have h2:=grewW W3 (.cells #[.int .i64 fk,.string fS,.int .i64 fN,.int .i64 fD,.int .i64 (p:Int)] 35)
           have X:=hasK5_new W3 (.int .i64 fk) (.string fS) (.int .i64 fN) (.int .i64 fD) (.int .i64 (p:Int)) 35
           replace own:=(own.keep hb1).keep h2
           replace HB1:=later (later HB1 hb1) h2
           clear hb1 h2 cf1
           generalize W3.alloc (.cells #[.int .i64 fk,.string fS,.int .i64 fN,.int .i64 fD,.int .i64 (p:Int)] 35)=V3 at *
           generalize W3.heap.size=bt at *
           obtain⟨x0,x1,x2,x3,x4,f0,f1,f2,f3,f4,xl⟩:=id X
           go_upto_region 14 with (at_builtin;refine wpList_pushK (by rfl) _ _ (by rfl) _ T ⟨fk,fS,fN,fD,(p:Int)⟩ (by rfl) (by rfl) own (by omega) HB1.size HB1 ?_;intro v' w' own' HB2 hz2 _ _ _)
           clear x0 x1 x2 x3 x4 f0 f1 f2 f3 f4 xl X own HB1
           go_wp2_with (go_at_call 10;(with_reducible refine (cg1 _).mono ?_);rintro _ W4 ⟨rfl,rfl⟩)
           (go_roundg G'
            case measure=>have:=hG'.out;omega
            case rel=>exact⟨p+ft.size+gn,_,by go_num,by omega,by have:=hG'.out;omega,HF2,own',by rw [List.length_append];simp;omega,HB2⟩)
         · rw [if_pos c3] at HF1
           subst HF1
           have c3':(fe != 0)=true:=by rw [bne_iff_ne];exact c3
           clear HF cg cf fg
           go_wp2_with (go_at_call 11;(with_reducible refine cf1.mono ?_);rintro _ W3 ⟨rfl,hb1⟩;replace HB1:=later (later HB1 hb1) (grewW W3 (.cells #[.int .i64 fk,.string fS,.int .i64 fN,.int .i64 fD,.int .i64 0] 35));clear hb1)
           refine bodyPost_ret (v:=.tuple #[.slice none 0 0,.int .i64 fe,.int .i64 (p:Int)]) (by simp [results,Tryz.results4,go_sem]) rfl ?_
           exact⟨_,rfl,World.ownsRow_nil _ _ _ _,later HB HB1⟩
     · have ci:¬(p:Int)<(s.size:Int):=by omega
       rw [if_neg c1] at HF1
       subst HF1
       clear HF cg cf
       go_wp2_with (at_builtin;refine wpList_pushK (by rfl) _ _ (by rfl) _ T ⟨0,⟨#[]⟩,0,0,(s.size:Int)⟩ (by rfl) (by rfl) own (by omega) HB1.size HB1 ?_;intro v' w' own' HB2 hz2 _ _ _)
       refine bodyPost_ret (v:=.tuple #[v',.int .i64 0,.int .i64 0]) (by simp [results,Tryz.results4,go_sem]) rfl ?_
       exact⟨_,rfl,own'.base HB.size,later HB HB2⟩
end Go.Proofs.YtgocelaghggpmaaGreatDoor
