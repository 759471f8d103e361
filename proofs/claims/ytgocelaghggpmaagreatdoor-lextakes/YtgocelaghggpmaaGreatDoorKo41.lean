/- The document's Lex, whole: it answers what the program's answers. -/
import Derived.Test.YtgocelaghggpmaaGreatDoorKo36
import Derived.Test.YtgocelaghggpmaaGreatDoorKo38
import Derived.Test.YtgocelaghggpmaaGreatDoorKo40
namespace Go.Proofs.YtgocelaghggpmaaGreatDoor
open Go.ChangeShapes Go.WideShapes Go.ChangeAt Go.RowKit Go.Maps
theorem headP_ext {q:UInt8→Bool} {s:ByteArray} {p:Nat} (h:p<s.size):headP q (s.extract p s.size)=q s[p]:=by
 unfold headP
 rw [ext_list,byte_drop h]
theorem f_name {s:ByteArray} {p:Nat} (h:p<s.size) (hl:letB s[p]=true):firstV (s.extract p s.size)=nameF (s.extract p (p+spanL namB (fromL s p))):=by
 have k:=spanL_le namB (fromL s p)
 rw [from_len] at k
 unfold firstV
 rw [headP_ext h,hl,if_pos rfl,ext_from,ext_pre _ _ _ (by omega)]
theorem f_num {s:ByteArray} {p:Nat} (h:p<s.size) (hl:letB s[p]=false) (hd:isDg s[p]=true):firstV (s.extract p s.size)=numF (s.extract p (p+nuL (fromL s p))):=by
 have k:=nu_le (fromL s p)
 rw [from_len] at k
 unfold firstV
 rw [headP_ext h,headP_ext h,hl,hd,if_neg (by decide),if_pos rfl,ext_from,ext_pre _ _ _ (by omega)]
theorem f_sign {s:ByteArray} {p:Nat} (h:p<s.size) (hl:letB s[p]=false) (hd:isDg s[p]=false) (hg:sgnB s[p]=true):firstV (s.extract p s.size)=signF (s.extract p (p+sigL (fromL s p))):=by
 have k:=sig_le (l:=fromL s p) (by rw [from_len];omega)
 rw [from_len] at k
 unfold firstV
 rw [headP_ext h,headP_ext h,headP_ext h,hl,hd,hg,if_neg (by decide),if_neg (by decide),if_pos rfl,ext_from,ext_pre _ _ _ (by omega)]
theorem f_none {s:ByteArray} {p:Nat} (h:p<s.size) (hl:letB s[p]=false) (hd:isDg s[p]=false) (hg:sgnB s[p]=false):firstV (s.extract p s.size)=⟨⟨#[]⟩,0,⟨#[]⟩,0,0,120⟩:=by
 unfold firstV
 rw [headP_ext h,headP_ext h,headP_ext h,hl,hd,hg,if_neg (by decide),if_neg (by decide),if_neg (by decide)]
theorem ownK_empty (w:World):OwnK w.heap.size (w.alloc (.cells #[] 35)) (.slice (some ⟨w.heap.size,0,none⟩) 0 0) []:=World.ownsRow_made w #[] 0 (Nat.le_refl _) (Nat.zero_le _) rfl
theorem cell_setK {W:World} {b o:Nat} {u v:Value} (h:W.cell? ⟨b,o,none⟩=some u):(W.setCell ⟨b,o,none⟩ v).cell? ⟨b,o,none⟩=some v:=by go_simp
def Brn (wr:World) (bt p:Nat) (f:Fst) (s7:Value) (wx:World):Prop:=f.e=0∧s7=.int .i64 ((p+f.t.size:Nat):Int)∧HasK5 wx bt (.int .i64 f.k) (.string f.S) (.int .i64 f.N) (.int .i64 f.D) (.int .i64 (p:Int))∧Below wr.heap.size wr wx
set_option maxHeartbeats 8000000 in
set_option maxRecDepth 20000 in
theorem rLex_w (s:ByteArray) (hs:(s.size:Int)≤9223372036854775807) (w:World) :
   Calls Tryz.prog 5 #[.string s] w fun r w'=>∃v,r=.returned (.tuple #[v,.int .i64 (lexV s).e,.int .i64 ((lexV s).p:Int)])∧OwnK w.heap.size w' v (lexV s).t∧Below w.heap.size w w':=by
 obtain⟨R,hR⟩:∃R,Hid (lexV s=R):=⟨_,rfl⟩
 rw [hR.out]
 by_cases c:20000<s.size
 · have k1:20000<(s.size:Int):=by omega
   have e:R=⟨[],2,0⟩:=by rw [←hR.out];unfold lexV;rw [if_pos c]
   subst e
   clear hR
   go_enter Tryz.func5,Tryz.ntmps5
   go_wp2_with fail
   refine bodyPost_ret (v:=.tuple #[.slice none 0 0,.int .i64 2,.int .i64 0]) (by simp [results,Tryz.results5,go_sem]) rfl ?_
   exact⟨_,rfl,World.ownsRow_nil _ _ _ _,Below.refl _ _⟩
 · have k1:¬20000<(s.size:Int):=by omega
   have zi:(s.size:Int)≤20000:=by omega
   have hF:Hid (lexF s (s.size+1) (gapS false s.data.toList) []=R):=by
     show _=_
     rw [←hR.out];unfold lexV;rw [if_neg c]
   have zz:s.data.toList.length=s.size:=by simp
   have g0:=gapS_le false s.data.toList
   rw [zz] at g0
   have cb0:∀W,Calls Tryz.prog 12 #[.string s,.int .i64 0] W fun e w'=>e=.returned (.int .i64 (gapS false s.data.toList:Int))∧W=w':=fun W=>by
     have:=rBlanks_w s 0 (by omega) (by omega) W
     rw [List.drop_zero,Nat.zero_add] at this
     exact this
   have cb:=fun (k:Nat) (W:World) (hk:k≤s.size)=>rBlanks_w s k hk (by omega) W
   have HB0:Below w.heap.size w (w.alloc (.cells #[] 35)):=by go_grown
   have own0:=ownK_empty w
   generalize gapS false s.data.toList=p0 at *
   clear hR zz
   go_enter Tryz.func5,Tryz.ntmps5
   go_upto_region 5 with (go_at_call 12;(with_reducible refine (cb0 _).mono ?_);rintro _ W2 ⟨rfl,rfl⟩)
   clear cb0
   generalize w.alloc (.cells #[] 35)=V0 at *
   go_loopg [5,6] (s.size+1) (fun G s5 s6 wx=>∃(p:Nat) (T:List Tk),s6=.int .i64 (p:Int)∧p≤s.size∧s.size<p+G∧Hid (lexF s G p T=R)∧OwnK w.heap.size wx s5 T∧T.length≤4000∧Below w.heap.size w wx)
   case atStart=>exact⟨p0,[],rfl,g0,by omega,hF,own0,by simp,HB0⟩
   case round =>
     clear hF g0 own0 HB0
     obtain⟨p,T,rfl,hp,hG,HF,own,hT,HB⟩:=hrel
     obtain⟨G',hG'⟩:∃G',Hid (gk=G'+1):=⟨gk-1,by show _=_;omega⟩
     have HF1:=HF.out
     rw [hG'.out] at HF1
     unfold lexF at HF1
     obtain⟨av,ac,rfl⟩:=own.form
     by_cases c1:p<s.size
     · have ci:(p:Int)<(s.size:Int):=by omega
       rw [if_pos c1] at HF1
       by_cases c2:T.length=4000
       · rw [if_pos c2] at HF1
         subst HF1
         have c2i:(4000:Int)≤(T.length:Int):=by omega
         clear HF cb
         go_wp2_with fail
         refine bodyPost_ret (v:=.tuple #[.slice none 0 0,.int .i64 2,.int .i64 (p:Int)]) (by simp [results,Tryz.results5,go_sem]) rfl ?_
         exact⟨_,rfl,World.ownsRow_nil _ _ _ _,HB⟩
       · rw [if_neg c2] at HF1
         have c2i:¬(4000:Int)≤(T.length:Int):=by omega
         have HFF:Hid _:=HF1
         clear HF HF1
         go_upto_region 10 with fail
         have X:=hasK5_new wr (.int .i64 0) (.string ⟨#[]⟩) (.int .i64 0) (.int .i64 0) (.int .i64 (p:Int)) 35
         have HBr:=grewW wr (.cells #[.int .i64 0,.string ⟨#[]⟩,.int .i64 0,.int .i64 0,.int .i64 (p:Int)] 35)
         have bte:Hid (wr.heap.size=wr.heap.size):=rfl
         generalize wr.alloc (.cells #[.int .i64 0,.string ⟨#[]⟩,.int .i64 0,.int .i64 0,.int .i64 (p:Int)] 35)=V at *
         have cL:=fun W=>rLetter_w s[p] W
         have pi:(p:Int)≤(s.size:Int):=by omega
         go_upto_if 31 with (go_at_call 13;(with_reducible refine (cL _).mono ?_);rintro _ W3 ⟨rfl,rfl⟩)
         go_cut [7] from 28 to 105 (fun s7 wx=>Brn wr wr.heap.size p (firstV (s.extract p s.size)) s7 wx)
         case first =>
           clear cb bte
           cases hl:letB s[p]
           · have cD:=fun W=>rDigit_w s[p] W
             cases hd:isDg s[p]
             · rw [hd] at cD
               have cS:=fun W=>rSign_w s p c1 (by omega) W
               cases hg:sgnB s[p]
               · have fN:=f_none c1 hl hd hg
                 rw [hg] at cS
                 have cS1:∀W,Calls Tryz.prog 17 #[.string s,.int .i64 (p:Int)] W fun e w'=>e=.returned (.int .i64 (p:Int))∧Below W.heap.size W w':=cS
                 have eR:=HFF.out
                 rw [fN,if_pos (by decide)] at eR
                 subst eR
                 clear HFF cS fN X
                 go_wp2_with (first | (go_at_call 14;(with_reducible refine (cD _).mono ?_);rintro _ W3 ⟨rfl,rfl⟩) | (go_at_call 17;(with_reducible refine (cS1 _).mono ?_);rintro _ W4 ⟨rfl,hb1⟩;replace HBr:=later HBr hb1;clear hb1))
                 refine bodyPost_ret (v:=.tuple #[.slice none 0 0,.int .i64 120,.int .i64 (p:Int)]) (by simp [results,Tryz.results5,go_sem]) rfl ?_
                 exact⟨_,rfl,World.ownsRow_nil _ _ _ _,later HB HBr⟩
               · have fN:=f_sign c1 hl hd hg
                 rw [hg] at cS
                 have sl:=sig_le (l:=fromL s p) (by rw [from_len];omega)
                 rw [from_len] at sl
                 have s1:1≤sigL (fromL s p):=by unfold sigL;split <;> omega
                 have cS1:∀W,Calls Tryz.prog 17 #[.string s,.int .i64 (p:Int)] W fun e w'=>e=.returned (.int .i64 ((p+sigL (fromL s p):Nat):Int))∧Below W.heap.size W w':=cS
                 generalize sigL (fromL s p)=m at *
                 have tz:(s.extract p (p+m)).size=m:=by rw [ByteArray.size_extract];omega
                 have fN2:Hid (firstV (s.extract p s.size)=⟨s.extract p (p+m),4,s.extract p (p+m),0,0,0⟩):=fN
                 have tz2:Hid _:=tz
                 have ne1:(((p+m:Nat):Int)==(p:Int))=false:=by rw [beq_eq_false_iff_ne];omega
                 have le1:(p:Int)≤((p+m:Nat):Int):=by omega
                 have le2:((p+m:Nat):Int)≤(s.size:Int):=by omega
                 have eT:((p+m:Nat):Int).toNat=p+m:=by omega
                 clear HFF cS fN tz
                 generalize hto:p+m=te at *
                 go_wp2_with (first | (go_at_call 14;(with_reducible refine (cD _).mono ?_);rintro _ W3 ⟨rfl,rfl⟩) | (go_at_call 17;(with_reducible refine (cS1 _).mono ?_);rintro _ W4 ⟨rfl,hb1⟩;replace X:=X.keep hb1;replace HBr:=later HBr hb1;clear hb1;obtain⟨x0,x1,x2,x3,x4,f0,f1,f2,f3,f4,xl⟩:=id X))
                 go_meet
                 case rel =>
                   show Brn _ _ _ _ _ _
                   rw [fN2.out]
                   refine⟨rfl, ?_,⟨by go_simp,by go_simp,by go_simp,by go_simp,by go_simp,by go_simp,by go_simp,by go_simp,by go_simp,by go_simp,by go_size⟩, ?_⟩
                   · show _=Value.int .i64 ((p+(s.extract p te).size:Nat):Int)
                     rw [tz2.out,hto]
                   · repeat' (first | (with_reducible exact HBr) | (with_reducible refine Below.setCell ?_ ?_ _) | go_size)
             · rw [hd] at cD
               have fN:=f_num c1 hl hd
               have nl:=nu_le (fromL s p)
               rw [from_len] at nl
               have cN:=fun W=>rNumber_w s p hp (by omega) W
               generalize nuL (fromL s p)=m at *
               have tz:(s.extract p (p+m)).size=m:=by rw [ByteArray.size_extract];omega
               have cR:=fun W=>rread_w (s.extract p (p+m)) (by omega) W
               have le1:(p:Int)≤((p+m:Nat):Int):=by omega
               have le2:((p+m:Nat):Int)≤(s.size:Int):=by omega
               generalize hto:p+m=te at *
               have fN1:firstV (s.extract p s.size)=if (readV (s.extract p te)).2.2=0 then ⟨s.extract p te,3,⟨#[]⟩,(readV (s.extract p te)).1,(readV (s.extract p te)).2.1,0⟩ else ⟨s.extract p te,0,⟨#[]⟩,0,0,(readV (s.extract p te)).2.2⟩:=fN
               generalize readV (s.extract p te)=q at *
               obtain⟨N,D,e⟩:=q
               dsimp only at *
               have tz2:Hid _:=tz
               clear fN tz
               by_cases e0:e=0
               · subst e0
                 rw [if_pos rfl] at fN1
                 have fN2:Hid _:=fN1
                 clear fN1 HFF
                 go_upto_region 22 with (first | (go_at_call 14;(with_reducible refine (cD _).mono ?_);rintro _ W3 ⟨rfl,rfl⟩) | (go_at_call 15;(with_reducible refine (cN _).mono ?_);rintro _ W4 ⟨rfl,rfl⟩) | (go_at_call 16;(with_reducible refine (cR _).mono ?_);rintro _ W5 ⟨rfl,hb1⟩;replace X:=X.keep hb1;replace HBr:=later HBr hb1;clear hb1))
                 have Y:Has2 (W5.alloc (.cells #[.int .i64 N,.int .i64 D] 33)) W5.heap.size (.int .i64 N) (.int .i64 D):=⟨by go_simp,by go_simp,by go_simp,by go_simp,by go_size⟩
                 have nbt:wr.heap.size≠W5.heap.size:=Nat.ne_of_lt X.2.2.2.2.2.2.2.2.2.2
                 have nbt':W5.heap.size≠wr.heap.size:=Ne.symm nbt
                 replace X:=X.keep (grewW W5 (.cells #[.int .i64 N,.int .i64 D] 33))
                 replace HBr:=later HBr (grewW W5 (.cells #[.int .i64 N,.int .i64 D] 33))
                 generalize W5.alloc (.cells #[.int .i64 N,.int .i64 D] 33)=V5 at *
                 generalize W5.heap.size=bq at *
                 obtain⟨x0,x1,x2,x3,x4,f0,f1,f2,f3,f4,xl⟩:=id X
                 obtain⟨y0,y1,y2,y3,y4⟩:=id Y
                 go_wp2_with fail
                 go_meet
                 case rel =>
                   show Brn _ _ _ _ _ _
                   rw [fN2.out]
                   refine⟨rfl, ?_,⟨by go_simp,by go_simp,by go_simp,by go_simp,by go_simp,by go_simp,by go_simp,by go_simp,by go_simp,by go_simp,by go_size⟩, ?_⟩
                   · show _=Value.int .i64 ((p+(s.extract p te).size:Nat):Int)
                     rw [tz2.out,hto]
                   · repeat' (first | (with_reducible exact HBr) | (with_reducible refine Below.setCell ?_ ?_ _) | go_size)
               · rw [if_neg e0] at fN1
                 have eR:=HFF.out
                 rw [fN1,if_pos e0] at eR
                 subst eR
                 have e0':(e != 0)=true:=by rw [bne_iff_ne];exact e0
                 clear fN1 HFF X
                 go_wp2_with (first | (go_at_call 14;(with_reducible refine (cD _).mono ?_);rintro _ W3 ⟨rfl,rfl⟩) | (go_at_call 15;(with_reducible refine (cN _).mono ?_);rintro _ W4 ⟨rfl,rfl⟩) | (go_at_call 16;(with_reducible refine (cR _).mono ?_);rintro _ W5 ⟨rfl,hb1⟩;replace HBr:=later (later HBr hb1) (grewW W5 (.cells #[.int .i64 N,.int .i64 D] 33));clear hb1))
                 refine bodyPost_ret (v:=.tuple #[.slice none 0 0,.int .i64 e,.int .i64 (p:Int)]) (by simp [results,Tryz.results5,go_sem]) rfl ?_
                 exact⟨_,rfl,World.ownsRow_nil _ _ _ _,later HB HBr⟩
           · have fN:=f_name c1 hl
             have ml:=spanL_le namB (fromL s p)
             rw [from_len] at ml
             obtain⟨m,hm⟩:∃m,Hid (spanL namB (fromL s p)=m):=⟨_,rfl⟩
             rw [hm.out] at fN ml
             have tz:(s.extract p (p+m)).size=m:=by rw [ByteArray.size_extract];omega
             have cw:=fun W=>rWord_w (s.extract p (p+m)) (by omega) W
             have mi:(p:Int)+(m:Int)≤(s.size:Int):=by omega
             have H0:Hid (p+spanL namB (fromL s p)=p+m):=by show _=_;rw [hm.out]
             have cLl:=rLetter_w
             have cDl:=rDigit_w
             clear hm
             go_upto_region 11 with fail
             go_loopg [7] (s.size-p) (fun G s7 wx=>∃j:Nat,s7=.int .i64 (j:Int)∧j≤s.size∧j+G=s.size∧V=wx∧Hid (j+spanL namB (fromL s j)=p+m))
             case atStart=>exact⟨p,rfl,hp,by omega,rfl,H0⟩
             case round =>
               clear H0
               obtain⟨j,rfl,hj,hGj,rfl,H⟩:=hrel
               by_cases cj:j<s.size
               · have cji:(j:Int)<(s.size:Int):=by omega
                 have H1:=H.out
                 rw [from_cons cj,spanL_cons] at H1
                 have cL1:=fun W=>cLl s[j] W
                 have cD1:=fun W=>cDl s[j] W
                 have key:(letB s[j]=true∨(letB s[j]=false∧isDg s[j]=true)∨(letB s[j]=false∧isDg s[j]=false∧((s[j].toNat:Int)==95)=true))∧namB s[j]=true∨(letB s[j]=false∧isDg s[j]=false∧((s[j].toNat:Int)==95)=false)∧namB s[j]=false:=by
                   unfold namB
                   have e95:(s[j].toNat==95)=((s[j].toNat:Int)==95):=by rw [Bool.eq_iff_iff,beq_iff_eq,beq_iff_eq];omega
                   rw [e95]
                   cases letB s[j] <;> cases isDg s[j] <;> cases ((s[j].toNat:Int)==95) <;> simp
                 rcases key with ⟨key,hn⟩ | ⟨⟨q1,q2,q3⟩,hn⟩
                 · rw [hn,if_pos rfl] at H1
                   have H2:Hid (j+1+spanL namB (fromL s (j+1))=p+m):=by show _=_;omega
                   clear H H1 hn fN HFF cw X
                   rcases key with q1 | ⟨q1,q2⟩ | ⟨q1,q2,q3⟩
                   all_goals
                     rw [q1] at cL1
                     (try rw [q2] at cD1)
                     go_wp2_with (first | (go_at_call 13;(with_reducible refine (cL1 _).mono ?_);rintro _ W3 ⟨rfl,rfl⟩) | (go_at_call 14;(with_reducible refine (cD1 _).mono ?_);rintro _ W3 ⟨rfl,rfl⟩))
                     (go_roundg (s.size-j-1)
                      case measure=>omega
                      case rel=>exact⟨j+1,by go_num,by omega,by omega,rfl,H2⟩)
                 · rw [hn,if_neg (by decide)] at H1
                   obtain rfl:j=p+m:=by omega
                   rw [q1] at cL1
                   rw [q2] at cD1
                   clear H H1 hn q1 q2
                   go_upto_region 13 with (first | (go_at_call 13;(with_reducible refine (cL1 _).mono ?_);rintro _ W3 ⟨rfl,rfl⟩) | (go_at_call 14;(with_reducible refine (cD1 _).mono ?_);rintro _ W3 ⟨rfl,rfl⟩))
                   by_cases m24:24<m
                   · have m24i:24<(p:Int)+(m:Int)-(p:Int):=by omega
                     have eR:=HFF.out
                     rw [fN] at eR
                     have nE:namE (s.extract p (p+m))=2:=by unfold namE;rw [tz,if_pos m24]
                     have eR2:(⟨[],2,p⟩:LexR)=R:=by
                       rw [←eR]
                       show _=if namE (s.extract p (p+m))≠0 then _ else _
                       rw [nE,if_pos (by decide)]
                       show _=(⟨[],namE (s.extract p (p+m)),p⟩:LexR)
                       rw [nE]
                     subst eR2
                     clear HFF fN eR nE cw X
                     go_wp2_with fail
                     refine bodyPost_ret (v:=.tuple #[.slice none 0 0,.int .i64 2,.int .i64 (p:Int)]) (by simp [results,Tryz.results5,go_sem]) rfl ?_
                     exact⟨_,rfl,World.ownsRow_nil _ _ _ _,later HB HBr⟩
                   · have m24i:¬24<(p:Int)+(m:Int)-(p:Int):=by omega
                     obtain⟨x0,x1,x2,x3,x4,f0,f1,f2,f3,f4,xl⟩:=id X
                     have nE:namE (s.extract p (p+m))=0:=by unfold namE;rw [tz,if_neg m24]
                     have nS:namS (s.extract p (p+m))=s.extract p (p+m):=by unfold namS;rw [tz,if_neg m24]
                     have nK:namK (s.extract p (p+m))=if wordB (s.extract p (p+m)).data.toList then 2 else 1:=by unfold namK;rw [tz,if_neg m24]
                     have fN2:Hid (firstV (s.extract p s.size)=⟨s.extract p (p+m),if wordB (s.extract p (p+m)).data.toList then 2 else 1,s.extract p (p+m),0,0,0⟩):=by
                       show _=_
                       rw [fN]
                       unfold nameF
                       rw [nE,nS,nK]
                     have tz2:Hid ((s.extract p (p+m)).size=m):=tz
                     clear HFF fN nE nS nK tz X
                     generalize wordB (s.extract p (p+m)).data.toList=wb at *
                     cases wb
                     · go_wp2_with (go_at_call 8;(with_reducible refine (cw _).mono ?_);rintro _ W3 ⟨rfl,rfl⟩)
                       go_meet
                       case rel =>
                         show Brn _ _ _ _ _ _
                         rw [fN2.out]
                         refine⟨rfl, ?_,⟨by go_simp,by go_simp,by go_simp,by go_simp,by go_simp,by go_simp,by go_simp,by go_simp,by go_simp,by go_simp,by go_size⟩, ?_⟩
                         · show _=Value.int .i64 ((p+(s.extract p (p+m)).size:Nat):Int)
                           rw [tz2.out]
                           first | rfl | go_num
                         · repeat' (first | (with_reducible exact HBr) | (with_reducible refine Below.setCell ?_ ?_ _) | go_size)
                     · go_wp2_with (go_at_call 8;(with_reducible refine (cw _).mono ?_);rintro _ W3 ⟨rfl,rfl⟩)
                       go_meet
                       case rel =>
                         show Brn _ _ _ _ _ _
                         rw [fN2.out]
                         refine⟨rfl, ?_,⟨cell_setK (u:=.int .i64 1) (by go_simp),by go_simp,by go_simp,by go_simp,by go_simp,by go_simp,by go_simp,by go_simp,by go_simp,by go_simp,by go_size⟩, ?_⟩
                         · show _=Value.int .i64 ((p+(s.extract p (p+m)).size:Nat):Int)
                           rw [tz2.out]
                           first | rfl | go_num
                         · repeat' (first | (with_reducible exact HBr) | (with_reducible refine Below.setCell ?_ ?_ _) | go_size)
               · have cji:¬(j:Int)<(s.size:Int):=by omega
                 have H1:=H.out
                 rw [from_end cj] at H1
                 obtain rfl:j=p+m:=by rw [←H1];rfl
                 clear H H1
                 go_upto_region 13 with fail
                 by_cases m24:24<m
                 · have m24i:24<(p:Int)+(m:Int)-(p:Int):=by omega
                   have eR:=HFF.out
                   rw [fN] at eR
                   have nE:namE (s.extract p (p+m))=2:=by unfold namE;rw [tz,if_pos m24]
                   have eR2:(⟨[],2,p⟩:LexR)=R:=by
                     rw [←eR]
                     show _=if namE (s.extract p (p+m))≠0 then _ else _
                     rw [nE,if_pos (by decide)]
                     show _=(⟨[],namE (s.extract p (p+m)),p⟩:LexR)
                     rw [nE]
                   subst eR2
                   clear HFF fN eR nE cw X
                   go_wp2_with fail
                   refine bodyPost_ret (v:=.tuple #[.slice none 0 0,.int .i64 2,.int .i64 (p:Int)]) (by simp [results,Tryz.results5,go_sem]) rfl ?_
                   exact⟨_,rfl,World.ownsRow_nil _ _ _ _,later HB HBr⟩
                 · have m24i:¬24<(p:Int)+(m:Int)-(p:Int):=by omega
                   obtain⟨x0,x1,x2,x3,x4,f0,f1,f2,f3,f4,xl⟩:=id X
                   have nE:namE (s.extract p (p+m))=0:=by unfold namE;rw [tz,if_neg m24]
                   have nS:namS (s.extract p (p+m))=s.extract p (p+m):=by unfold namS;rw [tz,if_neg m24]
                   have nK:namK (s.extract p (p+m))=if wordB (s.extract p (p+m)).data.toList then 2 else 1:=by unfold namK;rw [tz,if_neg m24]
                   have fN2:Hid (firstV (s.extract p s.size)=⟨s.extract p (p+m),if wordB (s.extract p (p+m)).data.toList then 2 else 1,s.extract p (p+m),0,0,0⟩):=by
                     show _=_
                     rw [fN]
                     unfold nameF
                     rw [nE,nS,nK]
                   have tz2:Hid ((s.extract p (p+m)).size=m):=tz
                   clear HFF fN nE nS nK tz X
                   generalize wordB (s.extract p (p+m)).data.toList=wb at *
                   cases wb
                   · go_wp2_with (go_at_call 8;(with_reducible refine (cw _).mono ?_);rintro _ W3 ⟨rfl,rfl⟩)
                     go_meet
                     case rel =>
                       show Brn _ _ _ _ _ _
                       rw [fN2.out]
                       refine⟨rfl, ?_,⟨by go_simp,by go_simp,by go_simp,by go_simp,by go_simp,by go_simp,by go_simp,by go_simp,by go_simp,by go_simp,by go_size⟩, ?_⟩
                       · show _=Value.int .i64 ((p+(s.extract p (p+m)).size:Nat):Int)
                         rw [tz2.out]
                         first | rfl | go_num
                       · repeat' (first | (with_reducible exact HBr) | (with_reducible refine Below.setCell ?_ ?_ _) | go_size)
                   · go_wp2_with (go_at_call 8;(with_reducible refine (cw _).mono ?_);rintro _ W3 ⟨rfl,rfl⟩)
                     go_meet
                     case rel =>
                       show Brn _ _ _ _ _ _
                       rw [fN2.out]
                       refine⟨rfl, ?_,⟨cell_setK (u:=.int .i64 1) (by go_simp),by go_simp,by go_simp,by go_simp,by go_simp,by go_simp,by go_simp,by go_simp,by go_simp,by go_simp,by go_size⟩, ?_⟩
                       · show _=Value.int .i64 ((p+(s.extract p (p+m)).size:Nat):Int)
                         rw [tz2.out]
                         first | rfl | go_num
                       · repeat' (first | (with_reducible exact HBr) | (with_reducible refine Below.setCell ?_ ?_ _) | go_size)
         case rest =>
           have X0:=X
           clear X
           obtain⟨fe,rfl,X,HBr2⟩:=hcut
           have z0:0<(s.extract p s.size).size:=by rw [ext_size];omega
           have fl:=first_le (s.extract p s.size) z0
           have fg:=first_ge (s.extract p s.size) z0 fe
           rw [ext_size] at fl
           have eR:=HFF.out
           rw [if_neg (by rw [fe];simp)] at eR
           generalize firstV (s.extract p s.size)=f at *
           obtain⟨ft,fk,fS,fN,fD,fE⟩:=f
           dsimp only at *
           have gl:=gapS_le false (fromL s (p+ft.size))
           rw [from_len] at gl
           have cb1:∀W,Calls Tryz.prog 12 #[.string s,.int .i64 ((p+ft.size:Nat):Int)] W fun e w'=>e=.returned (.int .i64 ((p+ft.size+gapS false (fromL s (p+ft.size)):Nat):Int))∧W=w':=fun W=>cb (p+ft.size) W (by omega)
           generalize gapS false (fromL s (p+ft.size))=gn at *
           have HF2:Hid (lexF s G' (p+ft.size+gn) (T++[⟨fk,fS,fN,fD,(p:Int)⟩])=R):=eR
           replace own:=own.keep HBr2
           replace HB:=later HB HBr2
           clear HFF eR cb bte X0
           generalize hte:p+ft.size=te at *
           generalize hgn:te+gn=tg at *
           obtain⟨x0,x1,x2,x3,x4,f0,f1,f2,f3,f4,xl⟩:=id X
           go_upto_region 32 with (at_builtin;refine wpList_pushK (by rfl) _ _ (by rfl) _ T ⟨fk,fS,fN,fD,(p:Int)⟩ (by rfl) (by rfl) own (by omega) HB.size HB ?_;intro v' w' own' HB2 hz2 _ _ _)
           clear x0 x1 x2 x3 x4 f0 f1 f2 f3 f4 xl X own HB
           go_wp2_with (go_at_call 12;(with_reducible refine (cb1 _).mono ?_);rintro _ W4 ⟨rfl,rfl⟩)
           (go_roundg G'
            case measure=>have:=hG'.out;omega
            case rel=>exact⟨tg,_,rfl,by omega,by have:=hG'.out;omega,HF2,own',by rw [List.length_append];simp;omega,HB2⟩)
     · have ci:¬(p:Int)<(s.size:Int):=by omega
       rw [if_neg c1] at HF1
       subst HF1
       clear HF cb
       go_wp2_with (at_builtin;refine wpList_pushK (by rfl) _ _ (by rfl) _ T ⟨0,⟨#[]⟩,0,0,(s.size:Int)⟩ (by rfl) (by rfl) own (by omega) HB.size HB ?_;intro v' w' own' HB2 hz2 _ _ _)
       refine bodyPost_ret (v:=.tuple #[v',.int .i64 0,.int .i64 0]) (by simp [results,Tryz.results5,go_sem]) rfl ?_
       exact⟨_,rfl,own',HB2⟩
end Go.Proofs.YtgocelaghggpmaaGreatDoor
