/- LexBlanks: the law's walk. -/
import Derived.Test.YtgocelaghggpmaaDoorKa31
namespace Go.Proofs.YtgocelaghggpmaaDoor
open Go.ChangeShapes Go.WideShapes Go.ChangeAt Go.RowKit Go.Maps
def Ints (w:World) (A:Option Addr) (n:Nat) (X:Nat→Int):Prop :=
 ∀i,i<n→∃b o,A=some ⟨b,o,none⟩∧b<w.heap.size∧w.cell? ⟨b,o+i,none⟩=some (.int .i64 (X i))
theorem Ints.keep {w w2:World} {A:Option Addr} {n:Nat} {X:Nat→Int} (h:Ints w A n X) (hb:Below w.heap.size w w2):Ints w2 A n X:=fun i hi=>by
 obtain⟨b,o,e,l,c⟩:=h i hi
 exact⟨b,o,e,Nat.lt_of_lt_of_le l hb.size,keepsC hb c l⟩
theorem aliveX_w (w:World):Calls Tryd.prog 18 #[] w fun e w'=>e=.returned (.bool true)∧w=w':=by
 have cn:∀W,Calls Tryd.prog 47 #[.float .f64 4607182418800017408] W fun e w'=>e=.returned (.float .f64 4607182418800017409)∧W=w':=fun W=>by
   have:=next_w 4607182418800017408 (by omega) W
   rw [nextB_pos (by decide) (by omega) (by omega)] at this
   exact this
 have ho:(FloatKind.f64.format.order 4607182418800017409 4607182418800017408==some .gt)=true:=by
   rw [o_gt (by omega) (by omega)]
   decide
 go_enter Tryd.func18,Tryd.ntmps18
 go_wp2_with (go_at_call 47;(with_reducible refine (cn _).mono ?_);rintro _ W1 ⟨rfl,rfl⟩)
 go_ret
 exact⟨rfl,rfl⟩
set_option maxHeartbeats 1000000 in
theorem lexBlanks_skip (s:ByteArray) (B:Option Addr) (m C:Nat) (E:Int) (P:Nat) (T:List Tk) (h:E≠0∨300<T.length) (w:World)
   (cl0:Calls Tryd.prog 15 #[.string s] w fun r w'=>∃v,r=.returned (.tuple #[v,.int .i64 E,.int .i64 (P:Int)])∧OwnK w.heap.size w' v T∧Below w.heap.size w w') :
   Calls Tryd.prog 7 #[.string s,.slice B m C] w fun e w'=>e=.returned (.bool true)∧Below w.heap.size w w':=by
 have ca:=aliveX_w
 by_cases hE:E=0
 · subst hE
   have h3:300<(T.length:Int):=by omega
   go_enter Tryd.func7,Tryd.ntmps7
   go_wp2_with (first
     | (go_at_call 18;(with_reducible refine (ca _).mono ?_);rintro _ W0 ⟨rfl,rfl⟩)
     | (go_at_call 15;(with_reducible refine cl0.mono ?_);rintro _ W1 ⟨v,rfl,own,HB0⟩;obtain⟨A,C',rfl⟩:=own.form))
   go_ret
   exact⟨rfl,HB0⟩
 · have hE':(E != 0)=true:=by rw [bne_iff_ne];exact hE
   clear h
   go_enter Tryd.func7,Tryd.ntmps7
   go_wp2_with (first
     | (go_at_call 18;(with_reducible refine (ca _).mono ?_);rintro _ W0 ⟨rfl,rfl⟩)
     | (go_at_call 15;(with_reducible refine cl0.mono ?_);rintro _ W1 ⟨v,rfl,own,HB0⟩;obtain⟨A,C',rfl⟩:=own.form))
   go_ret
   exact⟨rfl,HB0⟩
theorem app_list (a b:ByteArray):(a++b).data.toList=a.data.toList++b.data.toList:=by simp
theorem cut_list (s:ByteArray) (i j:Nat):(s.extract i j).data.toList=(fromL s i).take (j-i):=by
 unfold fromL
 simp only [ByteArray.data_extract,Array.toList_extract,List.extract_eq_take_drop]
def insX (X:Nat→Int) (m i:Nat):List UInt8:=if i<m then insV ((X i).tmod 4) else []
theorem insX_ok (X:Nat→Int) (m i:Nat):InsB (insX X m i):=by
 unfold insX
 split
 · exact insV_ok _
 · exact insN_ok
set_option maxHeartbeats 8000000 in
set_option maxRecDepth 20000 in
theorem lexBlanks_good (s:ByteArray) (B:Option Addr) (m C:Nat) (X:Nat→Int) (hm:m≤9223372036854775807) (he:(lexV s).e=0) (n:Nat) (hn:(lexV s).t.length=n) (h3:n≤300) (w:World) (hX:Ints w B m X)
   (cl0:Calls Tryd.prog 15 #[.string s] w fun r w'=>∃v,r=.returned (.tuple #[v,.int .i64 0,.int .i64 0])∧OwnK w.heap.size w' v (lexV s).t∧Below w.heap.size w w')
   (cl:∀t U W,lexV t=⟨U,0,0⟩→t.size≤20000→Below w.heap.size w W→Calls Tryd.prog 15 #[.string t] W fun r w'=>∃v,r=.returned (.tuple #[v,.int .i64 0,.int .i64 0])∧OwnK W.heap.size w' v U∧Below W.heap.size W w') :
   Calls Tryd.prog 7 #[.string s,.slice B m C] w fun e w'=>e=.returned (.bool true)∧Below w.heap.size w w':=by
 have ca:=aliveX_w
 have hs:=lex_small he
 have zi:(s.size:Int)≤20000:=by omega
 have ni:(n:Int)≤300:=by omega
 have mi:(m:Int)≤9223372036854775807:=by omega
 have HE:Hid _:=he
 have HN:Hid _:=hn
 have HX:Hid _:=hX
 clear hX
 go_enter Tryd.func7,Tryd.ntmps7
 go_upto_region 4 with (first
   | (go_at_call 18;(with_reducible refine (ca _).mono ?_);rintro _ W0 ⟨rfl,rfl⟩)
   | (go_at_call 15;(with_reducible refine cl0.mono ?_);rintro _ W1 ⟨v,rfl,own,HB0⟩;obtain⟨A,D,rfl,tk⟩:=ownK_tks own noK))
 rw [hn] at tk
 have TK:Hid _:=tk
 have n3:¬300<(n:Int):=by omega
 clear own tk cl0 hn he ca
 go_upto_region 8 with fail
 go_loopg [8,9,32] n (fun G s8 s9 s32 wx=>∃(i:Nat) (tt:ByteArray) (last:Nat),s32=.int .i64 (i:Int)∧s8=.string tt∧s9=.int .i64 (last:Int)∧i≤n∧i+G=n∧last≤s.size∧tt.size≤last+16*i∧Hid (Inv s (insX X m) i tt.data.toList last)∧Below W1.heap.size W1 wx)
 case atStart=>exact⟨0,⟨#[]⟩,0,rfl,rfl,rfl,by omega,by omega,by omega,Nat.zero_le _,inv_start _ HE.out,Below.refl _ _⟩
 case round =>
   obtain⟨i,tt,last,rfl,rfl,rfl,hi,hG,hl,hz,HI,HB⟩:=hrel
   by_cases c:i<n
   · have ci:(i:Int)<(n:Int):=by omega
     obtain⟨p,pa,lp,ps,HI2⟩:=inv_step HE.out (by rw [HN.out];exact c) HI.out
     obtain⟨b,o,eA,hb,a0,a1,a2,a3,a4⟩:=Tks.keep TK.out HB i c
     subst eA
     dsimp only at a0 a1 a2 a3 a4
     rw [pa] at a4
     clear pa
     generalize ((lexV s).t.getD i noK).k=zk at *
     generalize ((lexV s).t.getD i noK).s=zs at *
     generalize ((lexV s).t.getD i noK).n=zn at *
     generalize ((lexV s).t.getD i noK).d=zd at *
     have lpi:(last:Int)≤(p:Int):=by omega
     have psi:(p:Int)≤(s.size:Int):=by omega
     have ez:(s.extract last p).size=p-last:=by rw [ByteArray.size_extract];omega
     have hov:¬9223372036854775807<tt.size+(s.extract last p).size:=by omega
     have cutl:=cut_list s last p
     have HI3:Hid (Inv s (insX X m) (i+1) ((tt++s.extract last p).data.toList++insX X m i) p):=by
       show Inv _ _ _ _ _
       rw [app_list,cutl]
       exact HI2
     have sz3:(tt++s.extract last p).size≤p+16*i:=by rw [ByteArray.size_append,ez];omega
     clear HI HI2 cutl ez
     go_upto_region 12 with fail
     replace HB:=later HB (grewW wr (.cells #[.int .i64 zk,.string zs,.int .i64 zn,.int .i64 zd,.int .i64 (p:Int)] 39))
     clear a0 a1 a2 a3 a4 hb hov
     generalize wr.alloc (.cells #[.int .i64 zk,.string zs,.int .i64 zn,.int .i64 zd,.int .i64 (p:Int)] 39)=V at *
     generalize tt++s.extract last p=t3 at *
     by_cases cm:i<m
     · have cmi:(i:Int)<(m:Int):=by omega
       obtain⟨b2,o2,eB,hb2,x0⟩:=Ints.keep (Ints.keep HX.out HB0) HB i cm
       subst eB
       have eX:insX X m i=insV ((X i).tmod 4):=by unfold insX;rw [if_pos cm]
       rw [eX] at HI3
       clear eX TK HN HE cl
       generalize X i=xi at *
       go_upto_region 14 with fail
       generalize xi.tmod 4=r at *
       have fin:∀q:List UInt8,insV r=q→Hid (Inv s (insX X m) (i+1) ((t3++(⟨q.toArray⟩:ByteArray)).data.toList) p):=by
         intro q hq
         show Inv _ _ _ _ _
         rw [app_list,←hq]
         exact HI3.out
       have hov:∀q:ByteArray,q.size≤16→¬9223372036854775807<t3.size+q.size:=fun q hq=>by omega
       clear HX
       by_cases r1:r=1
       · subst r1
         have F1:=fin insA (by unfold insV;rw [if_pos rfl])
         have ov:=hov ⟨insA.toArray⟩ (by decide)
         have szA:(t3++(⟨insA.toArray⟩:ByteArray)).size≤p+16*(i+1):=by rw [ByteArray.size_append];have:(⟨insA.toArray⟩:ByteArray).size=4:=rfl;omega
         clear fin hov HI3
         unfold insA at F1 ov szA
         go_wp2_with fail
         (go_roundg (n-i-1)
          case measure=>omega
          case rel=>exact⟨i+1,_,p,by go_num,rfl,rfl,by omega,by omega,ps,szA,F1,HB⟩)
       · by_cases r2:r=2
         · subst r2
           have F1:=fin insC (by unfold insV;rw [if_neg (by decide),if_pos rfl])
           have ov:=hov ⟨insC.toArray⟩ (by decide)
           have szA:(t3++(⟨insC.toArray⟩:ByteArray)).size≤p+16*(i+1):=by rw [ByteArray.size_append];have:(⟨insC.toArray⟩:ByteArray).size=15:=rfl;omega
           clear fin hov HI3
           unfold insC at F1 ov szA
           go_wp2_with fail
           (go_roundg (n-i-1)
            case measure=>omega
            case rel=>exact⟨i+1,_,p,by go_num,rfl,rfl,by omega,by omega,ps,szA,F1,HB⟩)
         · by_cases r3:r=3
           · subst r3
             have F1:=fin insD (by unfold insV;rw [if_neg (by decide),if_neg (by decide),if_pos rfl])
             have ov:=hov ⟨insD.toArray⟩ (by decide)
             have szA:(t3++(⟨insD.toArray⟩:ByteArray)).size≤p+16*(i+1):=by rw [ByteArray.size_append];have:(⟨insD.toArray⟩:ByteArray).size=7:=rfl;omega
             clear fin hov HI3
             unfold insD at F1 ov szA
             go_wp2_with fail
             (go_roundg (n-i-1)
              case measure=>omega
              case rel=>exact⟨i+1,_,p,by go_num,rfl,rfl,by omega,by omega,ps,szA,F1,HB⟩)
           · have q1:(r==1)=false:=beq_eq_false_iff_ne.2 r1
             have q2:(r==2)=false:=beq_eq_false_iff_ne.2 r2
             have q3:(r==3)=false:=beq_eq_false_iff_ne.2 r3
             have e0:insV r=[]:=by unfold insV;rw [if_neg r1,if_neg r2,if_neg r3]
             rw [e0,List.append_nil] at HI3
             clear fin hov e0
             go_wp2_with fail
             (go_roundg (n-i-1)
              case measure=>omega
              case rel=>exact⟨i+1,t3,p,by go_num,rfl,rfl,by omega,by omega,ps,by omega,HI3,HB⟩)
     · have cmi:¬(i:Int)<(m:Int):=by omega
       have eX:insX X m i=[]:=by unfold insX;rw [if_neg cm]
       rw [eX,List.append_nil] at HI3
       clear eX TK HN HE HX cl
       go_wp2_with fail
       (go_roundg (n-i-1)
        case measure=>omega
        case rel=>exact⟨i+1,t3,p,by go_num,rfl,rfl,by omega,by omega,ps,by omega,HI3,HB⟩)
   · have ci:¬(i:Int)<(n:Int):=by omega
     obtain rfl:i=n:=by omega
     have ft:=HI.out.2 HN.out.symm
     have li:(last:Int)≤(s.size:Int):=by omega
     have ez:(s.extract last s.size).size=s.size-last:=by rw [ByteArray.size_extract];omega
     have hov:¬9223372036854775807<tt.size+(s.extract last s.size).size:=by omega
     have ft2:(tt++s.extract last s.size).data.toList=fullL s (insX X m):=by rw [app_list,ext_from,ft]
     have FT:Hid _:=ft2
     clear HI ft ft2 HX
     go_upto_region 22 with fail
     generalize tt++s.extract last s.size=t3 at *
     by_cases c2:20000<(t3.size:Int)
     · clear TK HN HE cl FT
       go_wp2_with fail
       go_ret
       exact⟨rfl,later HB0 HB⟩
     · obtain⟨U,u1,u2⟩:=full_lex (insX_ok X m) HE.out FT.out (by omega)
       have cl1:=cl t3 U wr u1 (by omega) (later HB0 HB)
       have lU:U.length=i:=by
         have:=congrArg List.length u2
         rw [List.length_map,List.length_map,HN.out] at this
         exact this
       have same:∀j,j<i→((lexV s).t.getD j noK).k=(U.getD j noK).k∧((lexV s).t.getD j noK).s=(U.getD j noK).s∧((lexV s).t.getD j noK).n=(U.getD j noK).n∧((lexV s).t.getD j noK).d=(U.getD j noK).d:=by
         intro j hj
         have e1:=congrArg (fun l=>l[j]?) u2
         simp only [List.getElem?_map] at e1
         have k1:U[j]?=some (U.getD j noK):=by simp [List.getD,show j<U.length by omega]
         have k2:(lexV s).t[j]?=some ((lexV s).t.getD j noK):=by simp [List.getD,show j<(lexV s).t.length by have:=HN.out;omega]
         rw [k1,k2] at e1
         simp only [Option.map_some,Option.some.injEq] at e1
         unfold noA at e1
         injection e1 with q1 q2 q3 q4 q5
         exact⟨q1.symm,q2.symm,q3.symm,q4.symm⟩
       have SM:Hid _:=same
       clear same u1 u2 cl FT HE HN
       go_upto_region 25 with (go_at_call 15;(with_reducible refine cl1.mono ?_);rintro _ W3 ⟨v,rfl,own,hb1⟩;obtain⟨A2,C2,rfl,tk2⟩:=ownK_tks own noK)
       rw [lU] at tk2
       have cL:=like_f A A2 i D C2 (by omega) _ _ SM.out W3 (Tks.keep (Tks.keep TK.out HB) hb1) tk2
       replace HB:=later HB hb1
       clear cl1 own hb1 tk2 SM TK
       go_wp2_with (go_at_call 17;(with_reducible refine cL.mono ?_);rintro _ W4 ⟨rfl,hb1⟩;replace HB:=later HB hb1;clear hb1)
       go_ret
       exact⟨rfl,later HB0 HB⟩
end Go.Proofs.YtgocelaghggpmaaDoor
