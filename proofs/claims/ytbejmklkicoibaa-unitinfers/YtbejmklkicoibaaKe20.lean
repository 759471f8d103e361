/- unit.merged, gone through. -/
import Derived.Test.YtbejmklkicoibaaSh
import Derived.Test.YtbejmklkicoibaaKe19
namespace Go.Proofs.Ytbejmklkicoibaa
open Go.ChangeShapes Go.WideShapes Go.ChangeAt Go.RowKit
theorem low_cons_lt {u:Int} {g:Fac} (L:List Fac) (h:g.1<u):lowF u (g :: L)=g :: lowF u L/\restF u (g :: L)=restF u L:=by
 constructor
 ·rw [lowF,if_pos h]
 ·rw [restF,if_pos h]
theorem low_cons_ge {u:Int} {g:Fac} (L:List Fac) (h:¬g.1<u):lowF u (g :: L)=[]/\restF u (g :: L)=g :: L:=by
 constructor
 ·rw [lowF,if_neg h]
 ·rw [restF,if_neg h]
def headLt (u:Int):List Fac->Bool
 | []=>false
 | g :: _=>decide (g.1<u)
def headEq (u:Int):List Fac->Bool
 | []=>false
 | g :: _=>decide (g.1=u)
theorem headLt_no {u:Int}:∀{L:List Fac},headLt u L=false->lowF u L=[]/\restF u L=L
 | [],_=>⟨rfl,rfl⟩
 | _ :: L,h=>low_cons_ge L (of_decide_eq_false h)
theorem not_some_block {v:Value} {b:Nat} {B:Nat} {w:World} {L:List Fac} (h:OwnX B w v L) (hb:w.heap.size<=b):v.ownBlock≠some b:=fun e=>by
 have:=(World.ownsRow.lt h b e).2
 omega
set_option maxRecDepth 4000 in
set_option maxHeartbeats 8000000 in
theorem umerged_core (A:Option Addr) (C:Nat) (D:Option Addr) (E:Nat) (La Lb:List Fac) (n m:Nat) (p:Int×Int) (hn:n=La.length) (hm:m=Lb.length) (hm0:m≠0) (hp0:p≠(0,1)) (hp:ROk p) (ha:FOk La) (hb:FOk Lb)
   (hl:n+m<=1000) (hC:n<=C) (w:World) (Fa:FacAt w A La) (Fb:FacAt w D Lb) :
   Calls Try.prog 76 #[.slice A n C,.slice D m E,.agg #[.int .i64 p.1,.int .i64 p.2]] w fun r w'=>MgAns r w' (mergeF p La Lb)/\Below w.heap.size w w':=by
 obtain⟨R,hR⟩:∃R,Hid (mergeF p La Lb=R):=⟨_,rfl⟩
 rw [hR.out]
 have PB:BlkAt (w.alloc (.cells #[.int .i64 p.1,.int .i64 p.2] 27)) w.heap.size 27 [.int .i64 p.1,.int .i64 p.2]:=blk_new w _ _
 have HB:Below w.heap.size w (w.alloc (.cells #[.int .i64 p.1,.int .i64 p.2] 27)):=by go_grown
 have cw:=fun W=>uwhole_w 0 W
 have hm1:((m:Int)==0)=false:=by simp;omega
 replace hm:Hid (m=Lb.length):=hm
 replace hn:Hid (n=La.length):=hn
 have HP:Hid (ROk p):=hp
 have HA:Hid (FOk La):=ha
 have HBb:Hid (FOk Lb):=hb
 have HFa:Hid (FacAt w A La):=Fa
 have HFb:Hid (FacAt w D Lb):=Fb
 have HP0:Hid (p≠(0,1)):=hp0
 clear ha hb Fa Fb hp hp0
 go_enter Try.func76,Try.ntmps76
 go_upto_region 1 with fail
 generalize (w.alloc (.cells #[.int .i64 p.1,.int .i64 p.2] 27))=V1 at *
 go_cut [17] from 10 to 17 (fun s17 wx=>s17=.bool false/\Below w.heap.size w wx/\BlkAt wx w.heap.size 27 [.int .i64 p.1,.int .i64 p.2])
 case first =>
   have k0:=fun n:Behind V1=>n.cell (PB.cell 0 _ rfl) PB.lt
   have k1:=fun n:Behind V1=>n.cell (PB.cell 1 _ rfl) PB.lt
   have hq:¬(p.1=0/\p.2=1):=fun h=>HP0.out (Prod.ext h.1 h.2)
   by_cases c1:p.1=0
   · have c2:¬p.2=1:=fun h=>hq ⟨c1,h⟩
     refine region_behind (by kernel_rfl) (by kernel_rfl) ?_
     repeat (go_big_quiet_step (first | (go_at_call 56;with_reducible refine Behind.call (cw _))))
     refine wpQuiet_nil ?_
     rintro _ ⟨q,rfl⟩
     obtain⟨W,hb1⟩:=q
     dsimp only
     go_wp2_with fail
     go_meet
     case rel=>exact⟨rfl,later HB hb1,PB.keeps hb1⟩
   · refine region_behind (by kernel_rfl) (by kernel_rfl) ?_
     repeat (go_big_quiet_step (first | (go_at_call 56;with_reducible refine Behind.call (cw _))))
     refine wpQuiet_nil ?_
     rintro _ ⟨q,rfl⟩
     obtain⟨W,hb1⟩:=q
     dsimp only
     go_wp2_with fail
     go_meet
     case rel=>exact⟨rfl,later HB hb1,PB.keeps hb1⟩
 case rest =>
 clear HB PB
 obtain⟨rfl,HB,PB⟩:=hcut
 clear hm1
 have hB0:w.heap.size+1<=wc.heap.size:=PB.lt
 go_wp2_with (at_make;refine wpList_makeX (by rfl) _ _ (by rfl) (n+m) (by rfl) (by first | rfl | go_num) (by omega) ?_;intro w3 I hb3)
 replace I:=I.base hB0
 replace HB:=later HB hb3
 replace PB:=PB.keeps hb3
 have hB3:w.heap.size+1<=w3.heap.size:=PB.lt
 clear hb3 hB0
 go_loopg [0,7,27] m (fun G s0 s7 s27 wx=>∃(i k C':Nat) (L T:List Fac) (A':Option Addr),i+G=m/\s27=.int .i64 (i:Int)/\s0=.slice A' k C'/\k<=C'/\Hid (k=L.length)/\Hid (FacAt w A' L)/\OwnX (w.heap.size+1) wx s7 T/\Below w.heap.size w wx/\BlkAt wx w.heap.size 27 [.int .i64 p.1,.int .i64 p.2]/\Hid ((mergeF p L (Lb.drop i)).map (T++·)=R)/\Hid (FOk L)/\Hid (T.length+k+(m-i)<=1000))
 case atStart=>exact⟨0,n,C,La,[],A,by omega,rfl,rfl,hC,hn,HFa,I,HB,PB,(by show ((mergeF p La (Lb.drop 0)).map ([]++·))=R;rw [List.drop_zero,hR.out];cases R <;> rfl),HA,(by show [].length+n+(m-0)<=1000;simp;omega)⟩
 case round =>
   clear I HB PB hB3
   obtain⟨i,k,C',L,T,A',hi,rfl,rfl,hkC,hk,FA',I,HB,PB,hM,HL,hlen⟩:=hrel
   have hB3:w.heap.size+1<=wr.heap.size:=PB.lt
   by_cases ci:i=m
   · have e1:Hid (R=some (T++L)):=by
       have q:=hM.out
       rw [List.drop_of_length_le (by have:=hm.out;omega),mergeF] at q
       exact q.symm
     clear hM hR
     subst ci
     obtain⟨A7,C7,rfl,hc7⟩:=I.form
     go_wp2_with (at_builtin;refine wpList_catX (by rfl) _ _ (by rfl) _ T L A' k C' (by rfl) (by rfl) hk.out I (FA'.out.keep HB) (by have:=hlen.out;have:=hk.out;omega) hB3 ?_;intro v' w' I' hb' hs' _ hW0)
     obtain⟨A8,C8,rfl,hc8⟩:=I'.form
     go_wp2_with fail
     refine bodyPost_ret (v:=.slice A8 (T++L).length C8) (by simp [results,Try.results76,go_sem]) rfl ⟨Or.inl ⟨T++L,_,e1.out,rfl,I'.fsl⟩,hW0 w (by omega) HB⟩
   · have him:i<m:=by omega
     obtain⟨f,hf⟩:∃f,Lb[i]?=some f:=⟨_,List.getElem?_eq_getElem (by have:=hm.out;omega)⟩
     have hdrop:Lb.drop i=f :: Lb.drop (i+1):=by
       have hi':i<Lb.length:=by have:=hm.out;omega
       have e:=List.getElem?_eq_getElem hi'
       rw [hf] at e
       rw [List.drop_eq_getElem_cons hi',Option.some.inj e]
     replace hM:Hid (((stepF p f (restF f.1 L)).bind fun x=>(mergeF p x.2 (Lb.drop (i+1))).map fun r=>lowF f.1 L++(keepF f.1 x.1++r)).map (T++·)=R):=by
       have q:=hM.out
       rw [hdrop,mergeF] at q
       exact q
     have hfo:Hid (ROk f.2):=HBb.out f (List.mem_of_getElem? hf)
     obtain⟨b,o,hA,hbs,c0,c1,c2⟩:=(HFb.out.keep HB).at hf
     subst hA
     have hlt:(i:Int)<(m:Int):=by omega
     replace hf:Hid (Lb[i]?=some f):=hf
     replace hdrop:Hid (Lb.drop i=f :: Lb.drop (i+1)):=hdrop
     have FB:BlkAt (wr.alloc (.cells #[.int .i64 f.1,.int .i64 f.2.1,.int .i64 f.2.2] 104)) wr.heap.size 104 [.int .i64 f.1,.int .i64 f.2.1,.int .i64 f.2.2]:=blk_new wr _ _
     go_upto_region 7 with fail
     have I1:OwnX (w.heap.size+1) (wr.alloc (.cells #[.int .i64 f.1,.int .i64 f.2.1,.int .i64 f.2.2] 104)) u7 T:=I.keep (by go_grown)
     have nb:Hid (u7.ownBlock≠some wr.heap.size):=not_some_block I (Nat.le_refl _)
     have HB1:Below w.heap.size w (wr.alloc (.cells #[.int .i64 f.1,.int .i64 f.2.1,.int .i64 f.2.2] 104)):=Below.alloc HB HB.size _
     have PB1:=PB.keeps (W:=wr.alloc (.cells #[.int .i64 f.1,.int .i64 f.2.1,.int .i64 f.2.2] 104)) (by go_grown)
     clear I c0 c1 c2 HB PB
     generalize (wr.alloc (.cells #[.int .i64 f.1,.int .i64 f.2.1,.int .i64 f.2.2] 104))=V2 at *
     obtain⟨fb,hfb⟩:∃fb,fb=wr.heap.size:=⟨_,rfl⟩
     rw [<-hfb] at FB nb hB3 ⊢
     clear hfb
     go_loopg [0,7] k (fun G s0 s7 wy=>∃(k2 C2:Nat) (L2 P2:List Fac) (A2:Option Addr),k2<=G/\s0=.slice A2 k2 C2/\k2<=C2/\Hid (k2=L2.length)/\Hid (FacAt w A2 L2)/\OwnX (w.heap.size+1) wy s7 (T++P2)/\Hid (s7.ownBlock≠some fb)/\Below w.heap.size w wy/\BlkAt wy w.heap.size 27 [.int .i64 p.1,.int .i64 p.2]/\BlkAt wy fb 104 [.int .i64 f.1,.int .i64 f.2.1,.int .i64 f.2.2]/\Hid (lowF f.1 L=P2++lowF f.1 L2/\restF f.1 L=restF f.1 L2)/\Hid (FOk L2)/\Hid (P2.length+k2=k))
     case atStart=>exact⟨k,C',L,[],A',Nat.le_refl _,rfl,hkC,hk,FA',(by rw [List.append_nil];exact I1),nb,HB1,PB1,FB,⟨rfl,rfl⟩,HL,(by show [].length+k=k;simp)⟩
     case round =>
       clear I1 nb HB1 PB1 FB
       obtain⟨k2,C2,L2,P2,A2,hG,rfl,hkC2,hk2,FA2,I,nb,HB,PB,FB,hlow,HL2,hln⟩:=hrel
       obtain⟨lt,hlt2⟩:∃lt,Hid (lt=headLt f.1 L2):=⟨_,rfl⟩
       go_upto_region 7 with fail
       go_cut [42] from 31 to 42 (fun s42 wy=>s42=.bool lt/\OwnX (w.heap.size+1) wy u7 (T++P2)/\Below w.heap.size w wy/\BlkAt wy w.heap.size 27 [.int .i64 p.1,.int .i64 p.2]/\BlkAt wy fb 104 [.int .i64 f.1,.int .i64 f.2.1,.int .i64 f.2.2])
       case first =>
         cases L2 with
         | nil =>
           have h0:k2=0:=hk2.out
           have hl:lt=false:=hlt2.out
           subst h0 hl
           refine region_behind (by kernel_rfl) (by kernel_rfl) ?_
           repeat (go_big_quiet_step (fail))
           refine wpQuiet_nil ?_
           rintro _ ⟨q,rfl⟩
           obtain⟨W,hb1⟩:=q
           dsimp only
           go_wp2_with fail
           go_meet
           case rel=>exact⟨rfl,I.keep hb1,later HB hb1,PB.keeps hb1,FB.keeps hb1⟩
         | cons g L3 =>
           obtain⟨b2,o2,hA2,hbs2,d0, -, -, -⟩:=(FA2.out.keep HB).head
           subst hA2
           have kd:=fun n:Behind wr=>n.cell d0 hbs2
           have kf:=fun n:Behind wr=>n.cell (FB.cell 0 _ rfl) FB.lt
           have hk0:0<k2:=by have:=hk2.out;simp at this;omega
           by_cases c:g.1<f.1
           · have hl:lt=true:=hlt2.out.trans (decide_eq_true c)
             subst hl
             refine region_behind (by kernel_rfl) (by kernel_rfl) ?_
             repeat (go_big_quiet_step (fail))
             refine wpQuiet_nil ?_
             rintro _ ⟨q,rfl⟩
             obtain⟨W,hb1⟩:=q
             dsimp only
             go_wp2_with fail
             go_meet
             case rel=>exact⟨rfl,I.keep hb1,later HB hb1,PB.keeps hb1,FB.keeps hb1⟩
           · have hl:lt=false:=hlt2.out.trans (decide_eq_false c)
             subst hl
             refine region_behind (by kernel_rfl) (by kernel_rfl) ?_
             repeat (go_big_quiet_step (fail))
             refine wpQuiet_nil ?_
             rintro _ ⟨q,rfl⟩
             obtain⟨W,hb1⟩:=q
             dsimp only
             go_wp2_with fail
             go_meet
             case rel=>exact⟨rfl,I.keep hb1,later HB hb1,PB.keeps hb1,FB.keeps hb1⟩
       case rest =>
       clear I HB PB FB
       obtain⟨rfl,I,HB,PB,FB⟩:=hcut
       have hB4:w.heap.size+1<=wc.heap.size:=PB.lt
       cases lt with
       | true =>
         cases L2 with
         | nil=>exact absurd hlt2.out (by simp [headLt])
         | cons g L3 =>
           have cg0:g.1<f.1:=of_decide_eq_true hlt2.out.symm
           have cg:Hid (g.1<f.1):=cg0
           clear cg0
           obtain⟨b2,o2,hA2,hbs2,e0,e1,e2,FA3⟩:=FA2.out.head
           have d0:=keepsC HB e0 hbs2
           have d1:=keepsC HB e1 hbs2
           have d2:=keepsC HB e2 hbs2
           subst hA2
           obtain⟨A7,C7,e7,hc7⟩:=I.form
           rw [List.length_append] at e7
           subst e7
           have hk0:0<k2:=by have:=hk2.out;simp at this;omega
           have hk1:(1:Int)<=(k2:Int):=by omega
           have hlx:Hid ((T++P2).length+[g].length<=2000000):=by show _<=_;simp;have:=hlen.out;have:=hln.out;omega
           have FA4:Hid (C2≠1->FacAt w (some ⟨b2,o2+3,none⟩) L3):=fun _=>FA3
           have FA5:Hid (C2=1->L3=[]):=fun h=>by have:=hk2.out;simp at this;exact List.eq_nil_of_length_eq_zero (by omega)
           clear e0 e1 e2 hlt2 FA3 hc7
           by_cases hC1:C2=1
           · subst hC1
             go_wp2_with fail
             go_region_law
               (first
                 | (refine step_catX (by rfl) _ _ (by rfl) _ (T++P2) [g] (some ⟨_,0,none⟩) 1 1 (by rfl) (by rfl) rfl (I.keep (by go_grown)) (facAt_new _ _) hlx.out (by go_size) ?_
                    intro v' w8 I8 hb8 hs8 hk8 hW8))
             all_goals
               go_wp2_with fail
               (go_roundg (gk-1)
                case measure=>omega
                case rel =>
                  refine⟨0,0,L3,P2++[g],some ⟨b2,o2,none⟩,by omega,rfl,by omega, ?_, ?_, ?_, ?_, ?_, ?_, ?_, ?_, ?_, ?_⟩
                  · show 0=L3.length
                    have:=hk2.out
                    simp at this
                    omega
                  · exact fun hne=>absurd (FA5.out (by simp)) hne
                  · rw [<-List.append_assoc];exact I8
                  · exact (hk8 fb _ _ (FB.keeps (by go_grown)) nb.out).2
                  · exact hW8 w (by omega) (later HB (by go_grown))
                  · exact (PB.keeps (by go_grown)).keep hb8 (by omega)
                  · exact (hk8 fb _ _ (FB.keeps (by go_grown)) nb.out).1
                  · obtain⟨q1,q2⟩:=hlow.out
                    obtain⟨q3,q4⟩:=low_cons_lt L3 cg.out
                    exact⟨by rw [q1,q3];simp,by rw [q2,q4]⟩
                  · exact HL2.out.tail
                  · show (P2++[g]).length+0=k
                    have:=hln.out
                    simp
                    omega)
           · go_wp2_with fail
             go_region_law
               (first
                 | (refine step_catX (by rfl) _ _ (by rfl) _ (T++P2) [g] (some ⟨_,0,none⟩) 1 1 (by rfl) (by rfl) rfl (I.keep (by go_grown)) (facAt_new _ _) hlx.out (by go_size) ?_
                    intro v' w8 I8 hb8 hs8 hk8 hW8))
             all_goals
               go_wp2_with fail
               (go_roundg (gk-1)
                case measure=>omega
                case rel =>
                  refine⟨k2-1,C2-1,L3,P2++[g],some ⟨b2,o2+3,none⟩,by omega,rfl,by omega, ?_, ?_, ?_, ?_, ?_, ?_, ?_, ?_, ?_, ?_⟩
                  · show k2-1=L3.length
                    have:=hk2.out
                    simp at this
                    omega
                  · exact FA4.out hC1
                  · rw [<-List.append_assoc];exact I8
                  · exact (hk8 fb _ _ (FB.keeps (by go_grown)) nb.out).2
                  · exact hW8 w (by omega) (later HB (by go_grown))
                  · exact (PB.keeps (by go_grown)).keep hb8 (by omega)
                  · exact (hk8 fb _ _ (FB.keeps (by go_grown)) nb.out).1
                  · obtain⟨q1,q2⟩:=hlow.out
                    obtain⟨q3,q4⟩:=low_cons_lt L3 cg.out
                    exact⟨by rw [q1,q3];simp,by rw [q2,q4]⟩
                  · exact HL2.out.tail
                  · show (P2++[g]).length+(k2-1)=k
                    have:=hln.out
                    simp
                    omega)
       | false =>
         have hM2:Hid (((stepF p f L2).bind fun x=>(mergeF p x.2 (Lb.drop (i+1))).map fun r=>P2++(keepF f.1 x.1++r)).map (T++·)=R):=by
           have q:=hM.out
           obtain⟨q1,q2⟩:=hlow.out
           obtain⟨q3,q4⟩:=headLt_no hlt2.out.symm
           rw [q3,List.append_nil] at q1
           rw [q4] at q2
           rw [q1,q2] at q
           exact q
         clear hM hlow hlt2
         have f0:=FB.cell 0 _ rfl
         have f1:=FB.cell 1 _ rfl
         have f2:=FB.cell 2 _ rfl
         have p0:=PB.cell 0 _ rfl
         have p1:=PB.cell 1 _ rfl
         have z1:=FB.froz 1
         have z2:=FB.froz 2
         have cm:=fun W=>mulRat_w f.2.1 f.2.2 p.1 p.2 hfo.out.2 HP.out.2 W
         rcases mulO_cases hfo.out HP.out with ⟨mu,hmu,emu⟩ | ⟨hmu,emu⟩
         · rw [emu] at cm
           have cu:=fun W=>must_ok mu.1 mu.2 W
           obtain⟨rmu, -⟩:=mulO_some hfo.out HP.out hmu
           replace rmu:Hid (ROk mu):=rmu
           replace hM2:Hid (((match L2 with | []=>some (mu,[]) | g :: a=>if g.1=f.1 then (addO g.2 mu).map fun e=>(e,a) else some (mu,g :: a)).bind fun x=>(mergeF p x.2 (Lb.drop (i+1))).map fun r=>P2++(keepF f.1 x.1++r)).map (T++·)=R):=by
             have q:=hM2.out
             unfold stepF at q
             rw [hmu] at q
             exact q
           clear hmu emu
           go_upto_region 10 with (first
             | (go_at_call 81;(with_reducible refine (cm _).mono ?_);rintro _ W1 ⟨rfl,hb1⟩;replace I:=I.keep hb1;replace HB:=later HB hb1;replace PB:=PB.keeps hb1;replace FB:=FB.keeps hb1;clear hb1 f0 f1 f2 p0 p1 z1 z2)
             | (go_at_call 58;(with_reducible refine (cu _).mono ?_);rintro _ W2 ⟨rfl,hb1⟩;replace I:=I.keep hb1;replace HB:=later HB hb1;replace PB:=PB.keeps hb1;replace FB:=FB.keeps hb1;clear hb1;have f1:=FB.cell 1 _ rfl;have f2:=FB.cell 2 _ rfl;have z1:=FB.froz 1;have z2:=FB.froz 2))
           have hne:w.heap.size≠fb:=by have:=PB.lt;intro e;have:=hB3;omega
           have hfb:w.heap.size<=fb:=by omega
           have I2:=(I.off nb.out 1 (.int .i64 mu.1)).off nb.out 2 (.int .i64 mu.2)
           have PB2:=(PB.offCell hne.symm 1 (.int .i64 mu.1)).offCell hne.symm 2 (.int .i64 mu.2)
           have FB2:BlkAt ((W2.setCell ⟨fb,1,none⟩ (.int .i64 mu.1)).setCell ⟨fb,2,none⟩ (.int .i64 mu.2)) fb 104 [.int .i64 f.1,.int .i64 mu.1,.int .i64 mu.2]:=(FB.setCell 1 (.int .i64 mu.1)).setCell 2 (.int .i64 mu.2)
           have HB2:=Below.setCell (Below.setCell HB (p:=⟨fb,1,none⟩) hfb (.int .i64 mu.1)) (p:=⟨fb,2,none⟩) hfb (.int .i64 mu.2)
           clear I FB PB HB f1 f2 z1 z2
           generalize ((W2.setCell ⟨fb,1,none⟩ (.int .i64 mu.1)).setCell ⟨fb,2,none⟩ (.int .i64 mu.2))=V9 at *
           obtain⟨eq,heq2⟩:∃eq,Hid (eq=headEq f.1 L2):=⟨_,rfl⟩
           go_cut [70] from 59 to 70 (fun s70 wy=>s70=.bool eq/\OwnX (w.heap.size+1) wy u7 (T++P2)/\Below w.heap.size w wy/\BlkAt wy w.heap.size 27 [.int .i64 p.1,.int .i64 p.2]/\BlkAt wy fb 104 [.int .i64 f.1,.int .i64 mu.1,.int .i64 mu.2])
           case first =>
             cases L2 with
             | nil =>
               have h0:k2=0:=hk2.out
               have hl:eq=false:=heq2.out
               subst h0 hl
               refine region_behind (by kernel_rfl) (by kernel_rfl) ?_
               repeat (go_big_quiet_step (fail))
               refine wpQuiet_nil ?_
               rintro _ ⟨q,rfl⟩
               obtain⟨W,hb1⟩:=q
               dsimp only
               go_wp2_with fail
               go_meet
               case rel=>exact⟨rfl,I2.keep hb1,later HB2 hb1,PB2.keeps hb1,FB2.keeps hb1⟩
             | cons g L3 =>
               obtain⟨b2,o2,hA2,hbs2,d0, -, -, -⟩:=(FA2.out.keep HB2).head
               subst hA2
               have kd:=fun n:Behind V9=>n.cell d0 hbs2
               have kf:=fun n:Behind V9=>n.cell (FB2.cell 0 _ rfl) FB2.lt
               have hk0:0<k2:=by have:=hk2.out;simp at this;omega
               by_cases c:g.1=f.1
               · have hl:eq=true:=heq2.out.trans (decide_eq_true c)
                 subst hl
                 refine region_behind (by kernel_rfl) (by kernel_rfl) ?_
                 repeat (go_big_quiet_step (fail))
                 refine wpQuiet_nil ?_
                 rintro _ ⟨q,rfl⟩
                 obtain⟨W,hb1⟩:=q
                 dsimp only
                 go_wp2_with fail
                 go_meet
                 case rel=>exact⟨rfl,I2.keep hb1,later HB2 hb1,PB2.keeps hb1,FB2.keeps hb1⟩
               · have hl:eq=false:=heq2.out.trans (decide_eq_false c)
                 have c':(g.1==f.1)=false:=by simpa using c
                 subst hl
                 refine region_behind (by kernel_rfl) (by kernel_rfl) ?_
                 repeat (go_big_quiet_step (fail))
                 refine wpQuiet_nil ?_
                 rintro _ ⟨q,rfl⟩
                 obtain⟨W,hb1⟩:=q
                 dsimp only
                 go_wp2_with fail
                 go_meet
                 case rel=>exact⟨rfl,I2.keep hb1,later HB2 hb1,PB2.keeps hb1,FB2.keeps hb1⟩
           case rest =>
           clear I2 HB2 PB2 FB2
           obtain⟨rfl,I,HB,PB,FB⟩:=hcut
           go_upto_if 70 with fail
           go_cut [0] from 70 to 83 (fun s0 wy=>∃(e:Int×Int) (L3:List Fac) (k3 C3:Nat) (A3:Option Addr),s0=.slice A3 k3 C3/\k3<=C3/\Hid (k3=L3.length)/\Hid (FacAt w A3 L3)/\OwnX (w.heap.size+1) wy u7 (T++P2)/\Below w.heap.size w wy/\BlkAt wy w.heap.size 27 [.int .i64 p.1,.int .i64 p.2]/\BlkAt wy fb 104 [.int .i64 f.1,.int .i64 e.1,.int .i64 e.2]/\Hid (((mergeF p L3 (Lb.drop (i+1))).map fun r=>P2++(keepF f.1 e++r)).map (T++·)=R)/\Hid (FOk L3)/\Hid (k3<=k2)/\Hid (ROk e))
           case first =>
             cases eq with
             | false =>
               have hM3:Hid (((mergeF p L2 (Lb.drop (i+1))).map fun r=>P2++(keepF f.1 mu++r)).map (T++·)=R):=by
                 have q:=hM2.out
                 have h2:=heq2.out
                 cases L2 with
                 | nil=>exact q
                 | cons g L3 =>
                   dsimp only at q
                   rw [if_neg (of_decide_eq_false h2.symm)] at q
                   exact q
               clear hM2 heq2
               go_wp2_with fail
               go_meet
               case rel=>exact⟨mu,L2,k2,C2,A2,rfl,hkC2,hk2,FA2,I,HB,PB,FB,hM3,HL2,Nat.le_refl _,rmu⟩
             | true =>
               cases L2 with
               | nil=>exact absurd heq2.out (by simp [headEq])
               | cons g L3 =>
                 have cg0:g.1=f.1:=of_decide_eq_true heq2.out.symm
                 obtain⟨b2,o2,hA2,hbs2,e0,e1,e2,FA3⟩:=FA2.out.head
                 have d1:=keepsC HB e1 hbs2
                 have d2:=keepsC HB e2 hbs2
                 have hbs3:b2<wc.heap.size:=Nat.lt_of_lt_of_le hbs2 HB.size
                 subst hA2
                 have hk0:0<k2:=by have:=hk2.out;simp at this;omega
                 have hk1:(1:Int)<=(k2:Int):=by omega
                 have hgo:=HL2.out g (List.mem_cons_self ..)
                 have FA4:Hid (C2≠1->FacAt w (some ⟨b2,o2+3,none⟩) L3):=fun _=>FA3
                 have FA5:Hid (C2=1->L3=[]):=fun h=>by have:=hk2.out;simp at this;exact List.eq_nil_of_length_eq_zero (by omega)
                 have hM4:Hid ((((addO g.2 mu).map fun e=>(e,L3)).bind fun x=>(mergeF p x.2 (Lb.drop (i+1))).map fun r=>P2++(keepF f.1 x.1++r)).map (T++·)=R):=by
                   have q:=hM2.out
                   dsimp only at q
                   rw [if_pos cg0] at q
                   exact q
                 have ca:=fun W=>addRat_w g.2.1 g.2.2 mu.1 mu.2 hgo.2 rmu.out.2 W
                 clear hM2 heq2 cg0 FA3 e0 e1 e2
                 rcases addO_cases hgo rmu.out with ⟨e,he,ee⟩ | ⟨he,ee⟩
                 · rw [ee] at ca
                   have cu:=fun W=>must_ok e.1 e.2 W
                   obtain⟨re0, -⟩:=addO_some hgo rmu.out he
                   have re:Hid (ROk e):=re0
                   have hM3:Hid (((mergeF p L3 (Lb.drop (i+1))).map fun r=>P2++(keepF f.1 e++r)).map (T++·)=R):=by
                     have q:=hM4.out
                     rw [he] at q
                     exact q
                   clear hM4 he ee re0 hgo
                   by_cases hC1:C2=1
                   · subst hC1
                     go_wp2_with fail
                     have ka:=fun n:Behind wc=>n.cell d1 hbs3
                     have kb:=fun n:Behind wc=>n.cell d2 hbs3
                     have kc:=fun n:Behind wc=>n.cell (FB.cell 1 _ rfl) FB.lt
                     have kd:=fun n:Behind wc=>n.cell (FB.cell 2 _ rfl) FB.lt
                     refine tail_behind 11 (by kernel_rfl) (by kernel_rfl) ?_
                     simp only [List.take_succ_cons,List.take_zero,List.drop_succ_cons,List.drop_zero]
                     repeat (go_big_quiet_step (first | (go_at_call 80;with_reducible refine Behind.call (ca _)) | (go_at_call 58;with_reducible refine Behind.call (cu _))))
                     refine wpQuiet_nil ?_
                     rintro _ ⟨q,rfl⟩
                     obtain⟨W,hb1⟩:=q
                     dsimp only
                     replace I:=I.keep hb1
                     replace HB:=later HB hb1
                     replace PB:=PB.keeps hb1
                     replace FB:=FB.keeps hb1
                     clear ka kb kc kd hb1 d1 d2
                     have f1:=FB.cell 1 _ rfl
                     have f2:=FB.cell 2 _ rfl
                     have z1:=FB.froz 1
                     have z2:=FB.froz 2
                     go_wp2_with fail
                     go_meet
                     case rel =>
                       exact⟨e,L3,0,0,some ⟨b2,o2,none⟩,rfl,by omega,(by have:=hk2.out;simp at this;show 0=L3.length;omega),(fun hne2=>absurd (FA5.out (by simp)) hne2),(I.off nb.out 1 _).off nb.out 2 _,Below.setCell (Below.setCell HB (p:=⟨fb,1,none⟩) hfb _) (p:=⟨fb,2,none⟩) hfb _,(PB.offCell hne.symm 1 _).offCell hne.symm 2 _,(FB.setCell 1 _).setCell 2 _,hM3,HL2.out.tail,(by show 0<=k2;omega),re⟩
                   · go_wp2_with fail
                     have ka:=fun n:Behind wc=>n.cell d1 hbs3
                     have kb:=fun n:Behind wc=>n.cell d2 hbs3
                     have kc:=fun n:Behind wc=>n.cell (FB.cell 1 _ rfl) FB.lt
                     have kd:=fun n:Behind wc=>n.cell (FB.cell 2 _ rfl) FB.lt
                     refine tail_behind 11 (by kernel_rfl) (by kernel_rfl) ?_
                     simp only [List.take_succ_cons,List.take_zero,List.drop_succ_cons,List.drop_zero]
                     repeat (go_big_quiet_step (first | (go_at_call 80;with_reducible refine Behind.call (ca _)) | (go_at_call 58;with_reducible refine Behind.call (cu _))))
                     refine wpQuiet_nil ?_
                     rintro _ ⟨q,rfl⟩
                     obtain⟨W,hb1⟩:=q
                     dsimp only
                     replace I:=I.keep hb1
                     replace HB:=later HB hb1
                     replace PB:=PB.keeps hb1
                     replace FB:=FB.keeps hb1
                     clear ka kb kc kd hb1 d1 d2
                     have f1:=FB.cell 1 _ rfl
                     have f2:=FB.cell 2 _ rfl
                     have z1:=FB.froz 1
                     have z2:=FB.froz 2
                     go_wp2_with fail
                     go_meet
                     case rel =>
                       exact⟨e,L3,(k2-1),C2-1,some ⟨b2,o2+3,none⟩,rfl,by omega,(by have:=hk2.out;simp at this;show (k2-1)=L3.length;omega),FA4.out hC1,(I.off nb.out 1 _).off nb.out 2 _,Below.setCell (Below.setCell HB (p:=⟨fb,1,none⟩) hfb _) (p:=⟨fb,2,none⟩) hfb _,(PB.offCell hne.symm 1 _).offCell hne.symm 2 _,(FB.setCell 1 _).setCell 2 _,hM3,HL2.out.tail,(by show (k2-1)<=k2;omega),re⟩
                 · have eR:Hid (R=none):=by
                     have q:=hM4.out
                     rw [he] at q
                     exact q.symm
                   obtain⟨xN,xD,ex⟩:∃a b,addV11 g.2.1 g.2.2 mu.1 mu.2=(a,b,3):=⟨_,_,tri_ext ee⟩
                   rw [ex] at ca
                   clear hM4 he ee ex hgo
                   have f1:=FB.cell 1 _ rfl
                   have f2:=FB.cell 2 _ rfl
                   go_wp2_with fail
                   refine wp_region_held_drew (S:=fun w'=>w'.cell? ⟨b2,o2+1,none⟩=some (.int .i64 g.2.1)/\w'.cell? ⟨b2,o2+2,none⟩=some (.int .i64 g.2.2)/\w'.cell? ⟨fb,1,none⟩=some (.int .i64 mu.1)/\w'.cell? ⟨fb,2,none⟩=some (.int .i64 mu.2)) (by kernel_rfl) ⟨d1,d2,f1,f2⟩ (fun hHeld=>?_)
                   refine tk (v:=?_) 0 rfl ?_ hHeld ?_;rotate_left;(focus ((intro w hSw;(try dsimp only at hSw);go_simp);try with_reducible rfl));simp only[gA,gB,Act.put,gD,gE,gF];refine tk (v:=?_) 1 rfl ?_ hHeld ?_;rotate_left;(focus ((intro w hSw;(try dsimp only at hSw);go_simp);try with_reducible rfl));simp only[gA,gB,gC,Act.put,gD,gE,gF];refine tk (v:=?_) 2 rfl ?_ hHeld ?_;rotate_left;(focus ((intro w hSw;(try dsimp only at hSw);go_simp);try with_reducible rfl));simp only[gA,gB,gC,Act.put,gD,gE,gF];refine tk (v:=?_) 3 rfl ?_ hHeld ?_;rotate_left;(focus ((intro w hSw;(try dsimp only at hSw);go_simp);try with_reducible rfl));simp only[gA,gB,gC,Act.put,gD,gE,gF];refine tk (v:=?_) 4 rfl ?_ hHeld ?_;rotate_left;(focus ((intro w hSw;(try dsimp only at hSw);go_simp);try with_reducible rfl));simp only[gA,gB,gC,Act.put,gD,gE,gF];refine tk (v:=?_) 5 rfl ?_ hHeld ?_;rotate_left;(focus ((intro w hSw;(try dsimp only at hSw);go_simp);try with_reducible rfl));simp only[gA,gB,gC,Act.put,gD,gE,gF]
                   have HD:Below wc.heap.size wc wc.drew:=(Below.refl _ _).drew
                   replace HB:=later HB HD
                   replace FB:=FB.keeps HD
                   replace d1:=keepsC HD d1 hbs3
                   replace d2:=keepsC HD d2 hbs3
                   have hbs4:b2<wc.drew.heap.size:=hbs3
                   clear HD f1 f2
                   refine rd 6 rfl (fun K hK=>?_);simp only[gA,gB,gC,Act.put,gD,gE,gF];go_simp
                   go_at_call 80
                   (with_reducible refine (ca _).mono ?_)
                   rintro _ W0 ⟨rfl,hb1⟩
                   replace HB:=later HB hb1
                   replace FB:=FB.keeps hb1
                   replace d1:=keepsC hb1 d1 hbs4
                   replace d2:=keepsC hb1 d2 hbs4
                   clear hb1
                   dsimp only
                   refine hK.out _ _ ⟨d1,d2,FB.cell 1 _ rfl,FB.cell 2 _ rfl⟩ (fun hHeld=>?_)
                   clear hK K
                   refine tk (v:=?_) 7 rfl ?_ hHeld ?_;rotate_left;(focus ((intro w hSw;(try dsimp only at hSw);go_simp);try with_reducible rfl));simp only[gA,gB,gC,Act.put,gD,gE,gF];refine tk (v:=?_) 8 rfl ?_ hHeld ?_;rotate_left;(focus ((intro w hSw;(try dsimp only at hSw);go_simp);try with_reducible rfl));simp only[gA,gB,gC,Act.put,gD,gE,gF]
                   refine rd 9 rfl (fun K hK=>?_);simp only[gA,gB,gC,Act.put,gD,gE,gF];go_simp
                   go_at_call 58
                   (with_reducible refine (must_no xN xD 3 (by decide) _).mono ?_)
                   rintro _ W1 ⟨rfl,hb1⟩
                   exact⟨rfl,Or.inr ⟨eR.out,rfl⟩,later HB hb1⟩
           case rest =>
           clear I HB PB FB hk2 FA2 HL2 hkC2 hM2 heq2
           obtain⟨e,L3,k3,C3,A3,rfl,hkC3,hk3,FA3,I,HB,PB,FB,hM3,HL3,hle,re⟩:=hcut
           go_upto_region 13 with fail
           go_cut [87] from 84 to 87 (fun s87 wy=>s87=.bool (!decide (e=(0,1)))/\OwnX (w.heap.size+1) wy u7 (T++P2)/\Below w.heap.size w wy/\BlkAt wy w.heap.size 27 [.int .i64 p.1,.int .i64 p.2]/\BlkAt wy fb 104 [.int .i64 f.1,.int .i64 e.1,.int .i64 e.2])
           case first =>
             have ka:=fun n:Behind wc=>n.cell (FB.cell 1 _ rfl) FB.lt
             have kb:=fun n:Behind wc=>n.cell (FB.cell 2 _ rfl) FB.lt
             by_cases c1:e.1=0
             · by_cases c2:e.2=1
               · refine region_behind (by kernel_rfl) (by kernel_rfl) ?_
                 repeat (go_big_quiet_step (first | (go_at_call 56;with_reducible refine Behind.call (cw _))))
                 refine wpQuiet_nil ?_
                 rintro _ ⟨q,rfl⟩
                 obtain⟨W,hb1⟩:=q
                 dsimp only
                 go_wp2_with fail
                 go_meet
                 case rel=>exact⟨by rw [decide_eq_true (Prod.ext c1 c2:e=(0,1))];rfl,I.keep hb1,later HB hb1,PB.keeps hb1,FB.keeps hb1⟩
               · refine region_behind (by kernel_rfl) (by kernel_rfl) ?_
                 repeat (go_big_quiet_step (first | (go_at_call 56;with_reducible refine Behind.call (cw _))))
                 refine wpQuiet_nil ?_
                 rintro _ ⟨q,rfl⟩
                 obtain⟨W,hb1⟩:=q
                 dsimp only
                 go_wp2_with fail
                 go_meet
                 case rel=>exact⟨by rw [decide_eq_false (fun h:e=(0,1)=>c2 (by rw [h]))];rfl,I.keep hb1,later HB hb1,PB.keeps hb1,FB.keeps hb1⟩
             · refine region_behind (by kernel_rfl) (by kernel_rfl) ?_
               repeat (go_big_quiet_step (first | (go_at_call 56;with_reducible refine Behind.call (cw _))))
               refine wpQuiet_nil ?_
               rintro _ ⟨q,rfl⟩
               obtain⟨W,hb1⟩:=q
               dsimp only
               go_wp2_with fail
               go_meet
               case rel=>exact⟨by rw [decide_eq_false (fun h:e=(0,1)=>c1 (by rw [h]))];rfl,I.keep hb1,later HB hb1,PB.keeps hb1,FB.keeps hb1⟩
           case rest =>
           clear I HB PB FB
           obtain⟨rfl,I,HB,PB,FB⟩:=hcut
           have hlx:Hid ((T++P2).length+k2+(m-i)<=1000):=by
             show _<=_
             rw [List.length_append]
             have:=hlen.out
             have:=hln.out
             omega
           have hB5:w.heap.size+1<=wc.heap.size:=PB.lt
           by_cases c:e=(0,1)
           · have hM5:Hid ((mergeF p L3 (Lb.drop (i+1))).map ((T++P2)++·)=R):=by
               have q:=hM3.out
               rw [keepF,if_pos c] at q
               have q2:(mergeF p L3 (Lb.drop (i+1))).map ((T++P2)++·)=((mergeF p L3 (Lb.drop (i+1))).map fun r=>P2++([]++r)).map (T++·):=by
                 cases mergeF p L3 (Lb.drop (i+1)) with
                 | none=>rfl
                 | some r=>simp
               exact q2.trans q
             have cd:decide (e=(0,1))=true:=decide_eq_true c
             rw [cd]
             clear hM3 c cd
             go_wp2_with fail
             (go_roundg (m-i-1)
              case measure=>omega
              case rel=>exact⟨i+1,k3,C3,L3,T++P2,A3,by omega,by go_num,rfl,hkC3,hk3,FA3,I,HB,PB,hM5,HL3,(by show (T++P2).length+k3+(m-(i+1))<=1000;have:=hlx.out;have:=hle.out;omega)⟩)
           · have hM5:Hid ((mergeF p L3 (Lb.drop (i+1))).map ((T++P2++[(f.1,e)])++·)=R):=by
               have q:=hM3.out
               rw [keepF,if_neg c] at q
               have q2:(mergeF p L3 (Lb.drop (i+1))).map ((T++P2++[(f.1,e)])++·)=((mergeF p L3 (Lb.drop (i+1))).map fun r=>P2++([(f.1,e)]++r)).map (T++·):=by
                 cases mergeF p L3 (Lb.drop (i+1)) with
                 | none=>rfl
                 | some r=>simp
               exact q2.trans q
             have cd:decide (e=(0,1))=false:=decide_eq_false c
             rw [cd]
             clear hM3 c cd
             obtain⟨A7,C7,e7,hc7⟩:=I.form
             obtain⟨l7,hl7⟩:∃l7,Hid (l7=(T++P2).length):=⟨_,rfl⟩
             rw [<-hl7.out] at e7
             subst e7
             have f0:=FB.cell 0 _ rfl
             have f1:=FB.cell 1 _ rfl
             have f2:=FB.cell 2 _ rfl
             have hly:Hid ((T++P2).length+[(f.1,e)].length<=2000000):=by show _<=_;have:=hlx.out;have e1:[(f.1,e)].length=1:=rfl;rw [e1];omega
             go_wp2_with (at_builtin;refine wpList_catX (by rfl) _ _ (by rfl) _ (T++P2) [(f.1,e)] (some ⟨_,0,none⟩) 1 1 (by rfl) (by rfl) rfl (I.keep (by go_grown)) (facAt_new _ _) hly.out (by go_size) ?_;intro v' w8 I8 hb8 hs8 hk8 hW8)
             (go_roundg (m-i-1)
              case measure=>omega
              case rel=>exact⟨i+1,k3,C3,L3,T++P2++[(f.1,e)],A3,by omega,by go_num,rfl,hkC3,hk3,FA3,I8,hW8 w (by omega) (later HB (by go_grown)),(PB.keeps (by go_grown)).keep hb8 (by omega),hM5,HL3,(by show (T++P2++[(f.1,e)]).length+k3+(m-(i+1))<=1000;rw [List.length_append];have e1:[(f.1,e)].length=1:=rfl;rw [e1];have:=hlx.out;have:=hle.out;omega)⟩)
         · have eR:Hid (R=none):=by
             have q:=hM2.out
             unfold stepF at q
             rw [hmu] at q
             exact q.symm
           obtain⟨xN,xD,ex⟩:∃a b,mulV11 f.2.1 f.2.2 p.1 p.2=(a,b,3):=⟨_,_,tri_ext emu⟩
           rw [ex] at cm
           clear hmu emu ex
           go_wp2_with (first
             | (go_at_call 81;(with_reducible refine (cm _).mono ?_);rintro _ W1 ⟨rfl,hb1⟩;replace HB:=later HB hb1;clear hb1 f0 f1 f2 p0 p1 z1 z2)
             | (go_at_call 58;(with_reducible refine (must_no xN xD 3 (by decide) _).mono ?_);rintro _ W2 ⟨rfl,hb1⟩;exact⟨rfl,Or.inr ⟨eR.out,rfl⟩,later HB hb1⟩))
end Go.Proofs.Ytbejmklkicoibaa
