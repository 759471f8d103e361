/- The document's Read, whole: it answers what the program's answers. -/
import Derived.Test.YtgocelaghggpmaaGreatDoorKo21
import Derived.Test.YtgocelaghggpmaaGreatDoorKo29
import Derived.Test.YtgocelaghggpmaaGreatDoorKo39
import Derived.Deep.Cut
import Derived.Deep.CutRange
namespace Go.Proofs.YtgocelaghggpmaaGreatDoor
open Go.ChangeShapes Go.WideShapes Go.ChangeAt Go.RowKit
def RdA (s:ByteArray) (w:World) (s4 s5 s6:Value) (wx:World):Prop:=∃(p:Nat) (all:ByteArray) (e:Int),s4=.int .i64 (p:Int)∧s5=.string all∧s6=.int .i64 e∧Hid (readV s=finV s all e p)∧p≤s.size∧all.size≤80∧Hid (∀i (h:i<all.size),isDg all[i]=true)∧e≤0∧-40≤e∧Below w.heap.size w wx∧Has2 wx w.heap.size (.int .i64 0) (.int .i64 0)
def RdB (s:ByteArray) (w:World) (s5 s6:Value) (wx:World):Prop:=∃(all:ByteArray) (e:Int),s5=.string all∧s6=.int .i64 e∧Hid (readV s=decV (valN all.data.toList) e)∧all.size≤80∧Hid (∀i (h:i<all.size),isDg all[i]=true)∧e≤99∧-139≤e∧Below w.heap.size w wx∧Has2 wx w.heap.size (.int .i64 0) (.int .i64 0)
theorem ten_room {m u:Nat} (h:4*m+1≤u):10^m<2^u:=Nat.lt_of_lt_of_le (pow_room (K:=4) (i:=m) (by decide)) (Nat.pow_le_pow_right (by omega) h)
theorem ext_dg (s:ByteArray) (k b:Nat) (hb:uptoN s k=b) (hk:k≤s.size):∀i (h:i<(s.extract k b).size),isDg (s.extract k b)[i]=true:=by
 intro i h
 have l:=upto_le' s k hk
 rw [ByteArray.size_extract] at h
 obtain⟨_,d⟩:=upto_dg s k i (by omega)
 rw [ByteArray.getElem_extract]
 exact d
set_option maxHeartbeats 4000000 in
set_option maxRecDepth 20000 in
theorem rread_w (s:ByteArray) (hs:(s.size:Int)≤9223372036854775807) (w:World) :
   Calls Tryz.prog 16 #[.string s] w fun r w'=>r=.returned (.tuple #[.agg #[.int .i64 (readV s).1,.int .i64 (readV s).2.1],.int .i64 (readV s).2.2])∧Below w.heap.size w w':=by
 have HB:Below w.heap.size w (w.alloc (.cells #[.int .i64 0,.int .i64 0] 33)):=by go_grown
 have X:Has2 (w.alloc (.cells #[.int .i64 0,.int .i64 0] 33)) w.heap.size (.int .i64 0) (.int .i64 0):=⟨by go_simp,by go_simp,by go_simp,by go_simp,by go_size⟩
 have cu:∀(k:Nat) (W:World),k≤s.size→Calls Tryz.prog 33 #[.string s,.int .i64 (k:Int)] W fun e w'=>e=.returned (.int .i64 (uptoN s k:Int))∧W=w':=fun k W h=>upto_w s k h hs W
 obtain⟨a,ha⟩:∃a,Hid (uptoN s 0=a):=⟨_,rfl⟩
 have c0:∀W,Calls Tryz.prog 33 #[.string s,.int .i64 0] W fun e w'=>e=.returned (.int .i64 (a:Int))∧W=w':=fun W=>by rw [←ha.out];exact cu 0 W (by omega)
 have hal:a≤s.size:=by rw [←ha.out];exact upto_le' s 0 (by omega)
 obtain⟨g,hR⟩:∃g,Hid (readV s=g):=⟨_,rfl⟩
 obtain⟨g1,g2,g3⟩:=g
 rw [hR.out]
 dsimp only
 go_enter Tryz.func16,Tryz.ntmps16
 go_upto_region 2 with (go_at_call 33;(with_reducible refine (c0 _).mono ?_);rintro _ W1 ⟨rfl,rfl⟩)
 clear c0
 by_cases r0:a<1∨40<a
 · have e0:=(read_R0 s (by rw [ha.out];exact r0)).symm.trans hR.out
   cases e0
   obtain⟨x0,x1,x2,x3,x4⟩:=id X
   have k1:(a:Int)<1∨(¬(a:Int)<1∧40<(a:Int)):=by omega
   rcases k1 with k1 | ⟨k1,k2⟩
   all_goals
     clear ha cu hR
     go_wp2_with fail
     refine bodyPost_ret (v:=.tuple #[.agg #[.int .i64 0,.int .i64 0],.int .i64 110]) (by simp [results,Tryz.results16,go_sem, *]) rfl ⟨rfl, ?_⟩
     repeat' (first | (with_reducible exact HB) | (with_reducible refine Below.setCell ?_ ?_ _) | go_size)
 · have k1:¬(a:Int)<1:=by omega
   have k2:¬40<(a:Int):=by omega
   have k3:(a:Int)≤(s.size:Int):=by omega
   generalize w.alloc (.cells #[.int .i64 0,.int .i64 0] 33)=V at *
   go_upto_region 6 with fail
   go_cut [35] from 26 to 34 (fun s35 wx=>s35=.bool (headB (s.extract a s.size) 46)∧V=wx)
   case first =>
     by_cases d0:a<s.size
     · have k4:(a:Int)<(s.size:Int):=by omega
       have E:headB (s.extract a s.size) 46=((s[a].toNat:Int)==46):=by
         rw [head_ext s a 46 d0,Bool.eq_iff_iff,beq_iff_eq,beq_iff_eq];omega
       have EH:Hid _:=E
       clear E cu ha hR
       go_wp2_with fail
       go_meet
       case rel=>exact⟨congrArg Value.bool EH.out.symm,rfl⟩
     · have k4:¬(a:Int)<(s.size:Int):=by omega
       clear cu ha hR
       go_wp2_with fail
       go_meet
       case rel=>exact⟨congrArg Value.bool (head_out s a 46 d0).symm,rfl⟩
   case rest =>
     obtain⟨rfl,rfl⟩:=hcut
     go_upto_if 35 with fail
     go_cut [4,5,6] from 35 to 64 (fun s4 s5 s6 wx=>RdA s w s4 s5 s6 wx)
     case first =>
       cases hd:headB (s.extract a s.size) 46
       · have hf:=read_R1a s (by rw [ha.out];exact r0) (by rw [ha.out];exact hd)
         rw [ha.out] at hf
         have HF:Hid _:=hf
         have HG:=ext_dg s 0 a ha.out (by omega)
         have HGG:Hid _:=HG
         have zz:(s.extract 0 a).size≤80:=by rw [ByteArray.size_extract];omega
         clear hf HG cu ha hR
         go_wp2_with fail
         go_meet
         case rel=>exact⟨a,s.extract 0 a,0,rfl,rfl,rfl,HF,hal,zz,HGG,by omega,by omega,HB,X⟩
       · have d0:a<s.size:=by
           by_cases d0:a<s.size
           · exact d0
           · rw [head_out s a 46 d0] at hd;exact absurd hd (by decide)
         obtain⟨b,hb⟩:∃b,Hid (uptoN s (a+1)=b):=⟨_,rfl⟩
         have cb:∀W,Calls Tryz.prog 33 #[.string s,.int .i64 ((a:Int)+1)] W fun e w'=>e=.returned (.int .i64 (b:Int))∧W=w':=fun W=>by
           have:=cu (a+1) W (by omega)
           rw [hb.out] at this
           exact this
         have hbl:b≤s.size:=by rw [←hb.out];exact upto_le' s (a+1) (by omega)
         have hbg:a+1≤b:=by rw [←hb.out];exact upto_ge s (a+1)
         by_cases rb:a+1<b∧b≤a+1+40
         · obtain⟨rb1,rb2⟩:=rb
           have HF:Hid _:=read_R1b s a b ha.out hb.out r0 hd rb1 rb2
           have z1:(s.extract 0 a).size=a:=by rw [ByteArray.size_extract];omega
           have z2:(s.extract (a+1) b).size=b-(a+1):=by rw [ByteArray.size_extract];omega
           have zz:(s.extract 0 a++s.extract (a+1) b).size≤80:=by rw [ByteArray.size_append];omega
           have HGG:Hid _:=app_dg (ext_dg s 0 a ha.out (by omega)) (ext_dg s (a+1) b hb.out (by omega))
           have q1:¬(b:Int)-(a:Int)-1<1:=by omega
           have q2:¬40<(b:Int)-(a:Int)-1:=by omega
           have q3:(a:Int)+1≤(b:Int):=by omega
           have q4:(b:Int)≤(s.size:Int):=by omega
           have hov:¬9223372036854775807<(s.extract 0 a).size+(s.extract (a+1) b).size:=by omega
           clear cu ha hb hR z1 z2
           go_wp2_with (go_at_call 33;(with_reducible refine (cb _).mono ?_);rintro _ W1 ⟨rfl,rfl⟩)
           go_meet
           case rel=>exact⟨b,s.extract 0 a++s.extract (a+1) b,(a:Int)+1-b,rfl,rfl,rfl,HF,hbl,zz,HGG,by omega,by omega,HB,X⟩
         · have e0:=(read_R1c s a b ha.out hb.out r0 hd rb).symm.trans hR.out
           cases e0
           obtain⟨x0,x1,x2,x3,x4⟩:=id X
           have q1:(b:Int)-(a:Int)-1<1∨(¬(b:Int)-(a:Int)-1<1∧40<(b:Int)-(a:Int)-1):=by omega
           rcases q1 with q1 | ⟨q1,q2⟩
           all_goals
             clear cu ha hb hR rb
             go_wp2_with (go_at_call 33;(with_reducible refine (cb _).mono ?_);rintro _ W1 ⟨rfl,rfl⟩)
             refine bodyPost_ret (v:=.tuple #[.agg #[.int .i64 0,.int .i64 0],.int .i64 110]) (by simp [results,Tryz.results16,go_sem, *]) rfl ⟨rfl, ?_⟩
             repeat' (first | (with_reducible exact HB) | (with_reducible refine Below.setCell ?_ ?_ _) | go_size)
     case rest =>
       clear k1 k2 k3 hal r0 ha HB X
       obtain⟨p,all,e,rfl,rfl,rfl,HR,hp,hz,HD,e1,e2,HB,X⟩:=hcut
       have hpi:(p:Int)≤(s.size:Int):=by omega
       go_upto_if 68 with fail
       go_cut [5,6] from 65 to 136 (fun s5 s6 wx=>RdB s w s5 s6 wx)
       case first =>
         by_cases c0:p<s.size
         · have k4:(p:Int)<(s.size:Int):=by omega
           go_upto_region 14 with fail
           go_cut [78] from 65 to 77 (fun s78 wx=>s78=.bool (!(decide (s[p].toNat=101∨s[p].toNat=69)))∧wc=wx)
           case first =>
             clear HR HD cu hR
             by_cases l1:s[p].toNat=101
             · have g1:((s[p].toNat:Int) != 101)=false:=by rw [bne_eq_false_iff_eq];omega
               go_wp2_with fail
               go_meet
               case rel=>exact⟨by rw [decide_eq_true (Or.inl l1)];rfl,rfl⟩
             · have g1:((s[p].toNat:Int) != 101)=true:=by rw [bne_iff_ne];omega
               go_wp2_with fail
               go_meet
               case rel =>
                 refine⟨congrArg Value.bool ?_,rfl⟩
                 by_cases l2:s[p].toNat=69
                 · rw [decide_eq_true (Or.inr l2),l2];rfl
                 · rw [decide_eq_false (fun q=>q.elim l1 l2)]
                   exact bne_iff_ne.2 (by omega)
           case rest =>
             obtain⟨rfl,rfl⟩:=hcut
             by_cases lt:s[p].toNat=101∨s[p].toNat=69
             · rw [decide_eq_true lt]
               have fF2:=fun c b=>fin_F2 s all e p c b c0 lt
               have fF3:=fun c b=>fin_F3 s all e p c b c0 lt
               have F2H:Hid _:=fF2
               have F3H:Hid _:=fF3
               clear fF2 fF3
               go_upto_region 18 with fail
               go_cut [97] from 78 to 96 (fun s97 wx=>s97=.bool (headB (s.extract (p+1) s.size) 45 || headB (s.extract (p+1) s.size) 43)∧wc=wx)
               case first =>
                 clear HR HD cu hR F2H F3H
                 by_cases c1:p+1<s.size
                 · have k5:(p:Int)+1<(s.size:Int):=by omega
                   have E1:headB (s.extract (p+1) s.size) 45=((s[p+1].toNat:Int)==45):=by
                     rw [head_ext s (p+1) 45 c1,Bool.eq_iff_iff,beq_iff_eq,beq_iff_eq];omega
                   have E2:headB (s.extract (p+1) s.size) 43=((s[p+1].toNat:Int)==43):=by
                     rw [head_ext s (p+1) 43 c1,Bool.eq_iff_iff,beq_iff_eq,beq_iff_eq];omega
                   have EH:Hid _:=And.intro E1 E2
                   clear E1 E2
                   by_cases l1:(s[p+1].toNat:Int)=43
                   · have g1:((s[p+1].toNat:Int)==43)=true:=by rw [beq_iff_eq];omega
                     go_wp2_with fail
                     go_meet
                     case rel=>exact⟨by rw [EH.out.2,g1,Bool.or_true],rfl⟩
                   · have g1:((s[p+1].toNat:Int)==43)=false:=by rw [beq_eq_false_iff_ne];omega
                     go_wp2_with fail
                     go_meet
                     case rel=>exact⟨by rw [EH.out.2,EH.out.1,g1,Bool.or_false],rfl⟩
                 · have k5:¬(p:Int)+1<(s.size:Int):=by omega
                   go_wp2_with fail
                   go_meet
                   case rel=>exact⟨by rw [head_out s (p+1) 45 c1,head_out s (p+1) 43 c1];rfl,rfl⟩
               case rest =>
                 obtain⟨rfl,rfl⟩:=hcut
                 go_upto_if 97 with fail
                 go_cut [4,8] from 97 to 103 (fun s4 s8 wx=>s4=.int .i64 (sgnP s (p+1):Int)∧s8=.int .i64 (if headB (s.extract (p+1) s.size) 45 then -1 else 1)∧wc=wx)
                 case first =>
                   clear HR HD cu hR F2H F3H
                   cases h1:headB (s.extract (p+1) s.size) 45
                   · cases h2:headB (s.extract (p+1) s.size) 43
                     · go_wp2_with fail
                       go_meet
                       case rel=>exact⟨by unfold sgnP;rw [h1,h2];rfl,by rw [h1];rfl,rfl⟩
                     · have c1:p+1<s.size:=by
                         by_cases c1:p+1<s.size
                         · exact c1
                         · rw [head_out s (p+1) 43 c1] at h2;exact absurd h2 (by decide)
                       have k5:(p:Int)+1<(s.size:Int):=by omega
                       have g1:((s[p+1].toNat:Int)==45)=false:=by
                         rw [head_ext s (p+1) 45 c1,beq_eq_false_iff_ne] at h1
                         rw [beq_eq_false_iff_ne];omega
                       go_wp2_with fail
                       go_meet
                       case rel=>exact⟨by unfold sgnP;rw [h1,h2];rfl,by rw [h1];rfl,rfl⟩
                   · simp only [Bool.true_or]
                     have c1:p+1<s.size:=by
                       by_cases c1:p+1<s.size
                       · exact c1
                       · rw [head_out s (p+1) 45 c1] at h1;exact absurd h1 (by decide)
                     have k5:(p:Int)+1<(s.size:Int):=by omega
                     have g1:((s[p+1].toNat:Int)==45)=true:=by
                       rw [head_ext s (p+1) 45 c1,beq_iff_eq] at h1
                       rw [beq_iff_eq];omega
                     go_wp2_with fail
                     go_meet
                     case rel=>exact⟨by unfold sgnP;rw [h1];rfl,by rw [h1];rfl,rfl⟩
                 case rest =>
                   obtain⟨rfl,rfl,rfl⟩:=hcut
                   obtain⟨c,hc⟩:∃c,Hid (sgnP s (p+1)=c):=⟨_,rfl⟩
                   obtain⟨b,hb⟩:∃b,Hid (uptoN s c=b):=⟨_,rfl⟩
                   have cl:c≤s.size:=by rw [←hc.out];exact sgnP_le s (p+1) (by omega)
                   have bl:b≤s.size:=by rw [←hb.out];exact upto_le' s c cl
                   have bg:c≤b:=by rw [←hb.out];exact upto_ge s c
                   have cb:∀W,Calls Tryz.prog 33 #[.string s,.int .i64 (c:Int)] W fun e w'=>e=.returned (.int .i64 (b:Int))∧W=w':=fun W=>by
                     have:=cu c W cl
                     rw [hb.out] at this
                     exact this
                   rw [hc.out]
                   by_cases rb:b=s.size∧c<b∧b≤c+2
                   · have HF:Hid _:=(HR.out).trans (F3H.out c b hc.out hb.out rb)
                     have DG:=ext_dg s c b hb.out cl
                     have z1:(s.extract c b).size=b-c:=by rw [ByteArray.size_extract];omega
                     have ca:=fun W=>atoi_w (s.extract c b) (by omega) (by omega) DG W
                     have v9:=val_100 (by omega) DG
                     obtain⟨rb1,rb2,rb3⟩:=rb
                     have q0:(b:Int)=(s.size:Int):=by omega
                     have q0':((b:Int) != (s.size:Int))=false:=by rw [bne_eq_false_iff_eq];exact q0
                     have q1:¬(b:Int)-(c:Int)<1:=by omega
                     have q2:¬2<(b:Int)-(c:Int):=by omega
                     have q3:(c:Int)≤(b:Int):=by omega
                     have q4:(b:Int)≤(s.size:Int):=by omega
                     clear cu hc hb hR F2H F3H HR DG z1 q0 rb1
                     generalize valN (s.extract c b).data.toList=kk at *
                     generalize hsg:headB (s.extract (p+1) s.size) 45=sg at *
                     clear hsg
                     cases sg
                     · simp only [Bool.false_eq_true,if_false] at *
                       go_wp2_with (first | (go_at_call 33;(with_reducible refine (cb _).mono ?_);rintro _ W1 ⟨rfl,rfl⟩) | (go_at_call 34;(with_reducible refine (ca _).mono ?_);rintro _ W2 ⟨rfl,hb1⟩;replace X:=X.keep hb1;replace HB:=later HB hb1;clear hb1))
                       go_meet
                       case rel=>exact⟨all,e+(kk:Int),rfl,rfl,HF,hz,HD,by omega,by omega,HB,X⟩
                     · simp only [if_true] at *
                       go_wp2_with (first | (go_at_call 33;(with_reducible refine (cb _).mono ?_);rintro _ W1 ⟨rfl,rfl⟩) | (go_at_call 34;(with_reducible refine (ca _).mono ?_);rintro _ W2 ⟨rfl,hb1⟩;replace X:=X.keep hb1;replace HB:=later HB hb1;clear hb1))
                       go_meet
                       case rel=>exact⟨all,e+-(kk:Int),rfl,by go_num,HF,hz,HD,by omega,by omega,HB,X⟩
                   · have e0:=((HR.out).trans (F2H.out c b hc.out hb.out rb)).symm.trans hR.out
                     cases e0
                     obtain⟨x0,x1,x2,x3,x4⟩:=id X
                     generalize (if headB (s.extract (p+1) s.size) 45=true then (-1:Int) else 1)=sv at *
                     have q1:((b:Int) != (s.size:Int))=true∨(((b:Int) != (s.size:Int))=false∧((b:Int)-(c:Int)<1∨(¬(b:Int)-(c:Int)<1∧2<(b:Int)-(c:Int)))):=by
                       rw [bne_iff_ne,bne_eq_false_iff_eq];omega
                     rcases q1 with q1 | ⟨q1,q2 | ⟨q2,q3⟩⟩
                     all_goals
                       clear cu hc hb hR F2H F3H HR HD rb
                       go_wp2_with (go_at_call 33;(with_reducible refine (cb _).mono ?_);rintro _ W1 ⟨rfl,rfl⟩)
                       refine bodyPost_ret (v:=.tuple #[.agg #[.int .i64 0,.int .i64 0],.int .i64 110]) (by simp [results,Tryz.results16,go_sem, *]) rfl ⟨rfl, ?_⟩
                       repeat' (first | (with_reducible exact HB) | (with_reducible refine Below.setCell ?_ ?_ _) | go_size)
             · rw [decide_eq_false lt]
               have e0:=((HR.out).trans (fin_F1 s all e p c0 (fun q=>lt (Or.inl q)) (fun q=>lt (Or.inr q)))).symm.trans hR.out
               cases e0
               obtain⟨x0,x1,x2,x3,x4⟩:=id X
               clear cu hR HR HD lt
               go_wp2_with fail
               refine bodyPost_ret (v:=.tuple #[.agg #[.int .i64 0,.int .i64 0],.int .i64 110]) (by simp [results,Tryz.results16,go_sem, *]) rfl ⟨rfl, ?_⟩
               repeat' (first | (with_reducible exact HB) | (with_reducible refine Below.setCell ?_ ?_ _) | go_size)
         · have k4:¬(p:Int)<(s.size:Int):=by omega
           have HF:Hid _:=(HR.out).trans (fin_F0 s all e p c0)
           clear HR cu hR
           go_wp2_with fail
           go_meet
           case rel=>exact⟨all,e,rfl,rfl,HF,hz,HD,by omega,by omega,HB,X⟩
       case rest =>
         have hR':=hR
         clear HB X HR HD hR hz e1 e2 hp hpi cu
         obtain⟨all',e',rfl,rfl,HR,hz,HD,e1,e2,HB,X⟩:=hcut
         have hval:=vlN_lt (bytN_dg HD.out)
         rw [vlN_text] at hval
         obtain⟨u,hu⟩:∃u:Nat,u=400:=⟨_,rfl⟩
         have hv:valN all'.data.toList<2^u:=Nat.lt_trans hval (ten_room (by omega))
         have cv:=fun W=>value_w all' (by omega) HD.out W
         have c10:∀W,Calls Tryz.prog 36 #[.int .u64 10] W fun e w'=>(∃v',e=.returned v'∧BigIs w' v' 10)∧Below W.heap.size W w':=fun W=>of_w 10 (by omega) W
         have c1:=one_w
         clear hval HD
         generalize valN all'.data.toList=v at *
         by_cases ce:0≤e'
         · obtain⟨n,rfl⟩:∃n:Nat,e'=(n:Int):=⟨e'.toNat,by omega⟩
           have hn:n≤99:=by omega
           have EV:Hid ((g1,g2,g3)=ofV false (v*10^n) 1):=by
             show _=_
             rw [←hR'.out,HR.out]
             unfold decV
             rw [if_pos ce,Int.toNat_natCast]
           have p10:10^n<2^u:=ten_room (by omega)
           have pm:v*10^n<2^(u+u):=by
             rw [Nat.pow_add]
             exact Nat.mul_lt_mul'' hv p10
           have u1:1<2^(u+u):=Nat.one_lt_two_pow (by omega)
           have cp:=fun (W:World) (ao:Option Addr) (l ca:Nat) (q:BigIs W (.slice ao l ca) 10)=>power_w11 10 n 4 (by omega) (by omega) (by decide) W q
           have cb:=fun (W:World) x y (q:BigIs W x v) (r:BigIs W y (10^n))=>by_w x y v (10^n) u (by omega) hv p10 W q r
           have co:=fun (W:World) (ao bo:Option Addr) (l ca k cc:Nat) (q:BigIs W (.slice ao l ca) (v*10^n)) (r:BigIs W (.slice bo k cc) 1)=>ofr_w false (v*10^n) 1 (u+u) (by omega) (by omega) pm u1 (by omega) W q r
           rw [←EV.out] at co
           clear p10 pm hv EV HR u1
           generalize 10^n=t at *
           generalize v*t=vt at *
           go_wp2_with (first
             | (go_at_call 35;(with_reducible refine (cv _).mono ?_);rintro _ W1 ⟨⟨v1,rfl,M⟩,hb1⟩;obtain⟨o1,k1,u1,rfl, -⟩:=M.shape;replace X:=X.keep hb1;replace HB:=later HB hb1;clear hb1)
             | (go_at_call 36;(with_reducible refine (c10 _).mono ?_);rintro _ W2 ⟨⟨v2,rfl,T⟩,hb1⟩;obtain⟨o2,k2,u2,rfl, -⟩:=T.shape;replace M:=M.keep hb1;replace X:=X.keep hb1;replace HB:=later HB hb1;clear hb1)
             | (go_at_call 39;(with_reducible refine (cp _ _ _ _ T).mono ?_);rintro _ W3 ⟨⟨v3,rfl,P⟩,hb1⟩;obtain⟨o3,k3,u3,rfl, -⟩:=P.shape;replace M:=M.keep hb1;replace X:=X.keep hb1;replace HB:=later HB hb1;clear hb1)
             | (go_at_call 38;(with_reducible refine (cb _ _ _ M P).mono ?_);rintro _ W4 ⟨⟨v4,rfl,B⟩,hb1⟩;obtain⟨o4,k4,u4,rfl, -⟩:=B.shape;replace X:=X.keep hb1;replace HB:=later HB hb1;clear hb1)
             | (go_at_call 40;(with_reducible refine (c1 _).mono ?_);rintro _ W5 ⟨⟨v5,rfl,O⟩,hb1⟩;obtain⟨o5,k5,u5,rfl, -⟩:=O.shape;replace B:=B.keep hb1;replace X:=X.keep hb1;replace HB:=later HB hb1;clear hb1)
             | (go_at_call 37;(with_reducible refine (co _ _ _ _ _ _ _ B O).mono ?_);rintro _ W6 ⟨rfl,hb1⟩;replace X:=X.keep hb1;replace HB:=later HB hb1;clear hb1;obtain⟨x0,x1,x2,x3,x4⟩:=id X))
           refine bodyPost_ret (v:=.tuple #[.agg #[.int .i64 g1,.int .i64 g2],.int .i64 g3]) (by simp [results,Tryz.results16,go_sem, *]) rfl ⟨rfl, ?_⟩
           repeat' (first | (with_reducible exact HB) | (with_reducible refine Below.setCell ?_ ?_ _) | go_size)
         · obtain⟨n,rfl⟩:∃n:Nat,e'=-(n:Int):=⟨(-e').toNat,by omega⟩
           have hn:n≤139:=by omega
           have EV:Hid ((g1,g2,g3)=ofV false v (10^n)):=by
             show _=_
             rw [←hR'.out,HR.out]
             unfold decV
             rw [if_neg ce,Int.neg_neg,Int.toNat_natCast]
           have p10:10^n<2^(u+u):=ten_room (by omega)
           have p0:10^n≠0:=Nat.pos_iff_ne_zero.1 (Nat.pow_pos (by omega))
           have hv8:v<2^(u+u):=Nat.lt_of_lt_of_le hv (Nat.pow_le_pow_right (by omega) (by omega))
           have cp:=fun (W:World) (ao:Option Addr) (l ca:Nat) (q:BigIs W (.slice ao l ca) 10)=>power_w11 10 n 4 (by omega) (by omega) (by decide) W q
           have co:=fun (W:World) (ao bo:Option Addr) (l ca k cc:Nat) (q:BigIs W (.slice ao l ca) v) (r:BigIs W (.slice bo k cc) (10^n))=>ofr_w false v (10^n) (u+u) (by omega) (by omega) hv8 p10 p0 W q r
           rw [←EV.out] at co
           clear p10 p0 hv8 hv EV HR c1
           generalize 10^n=t at *
           go_wp2_with (first
             | (go_at_call 35;(with_reducible refine (cv _).mono ?_);rintro _ W1 ⟨⟨v1,rfl,M⟩,hb1⟩;obtain⟨o1,k1,u1,rfl, -⟩:=M.shape;replace X:=X.keep hb1;replace HB:=later HB hb1;clear hb1)
             | (go_at_call 36;(with_reducible refine (c10 _).mono ?_);rintro _ W2 ⟨⟨v2,rfl,T⟩,hb1⟩;obtain⟨o2,k2,u2,rfl, -⟩:=T.shape;replace M:=M.keep hb1;replace X:=X.keep hb1;replace HB:=later HB hb1;clear hb1)
             | (go_at_call 39;(with_reducible refine (cp _ _ _ _ T).mono ?_);rintro _ W3 ⟨⟨v3,rfl,P⟩,hb1⟩;obtain⟨o3,k3,u3,rfl, -⟩:=P.shape;replace M:=M.keep hb1;replace X:=X.keep hb1;replace HB:=later HB hb1;clear hb1)
             | (go_at_call 37;(with_reducible refine (co _ _ _ _ _ _ _ M P).mono ?_);rintro _ W6 ⟨rfl,hb1⟩;replace X:=X.keep hb1;replace HB:=later HB hb1;clear hb1;obtain⟨x0,x1,x2,x3,x4⟩:=id X))
           refine bodyPost_ret (v:=.tuple #[.agg #[.int .i64 g1,.int .i64 g2],.int .i64 g3]) (by simp [results,Tryz.results16,go_sem, *]) rfl ⟨rfl, ?_⟩
           repeat' (first | (with_reducible exact HB) | (with_reducible refine Below.setCell ?_ ?_ _) | go_size)
end Go.Proofs.YtgocelaghggpmaaGreatDoor
