/- LinSingular: the law's walk. An interval as an argument: opened and shut. -/
import Derived.Test.YtfdomcnaaadedaaZs41
import Derived.Test.YtfdomcnaaadedaaZs12
import Derived.ChangeSame
import Derived.JoinedOf
import Derived.JoinedAt
import Derived.RowKit3
namespace Go.Proofs.Ytfdomcnaaadedaa
open Go.ChangeShapes Go.WideShapes Go.ChangeAt Go.RowKit
set_option maxHeartbeats 1000000 in
theorem lsq_w (A:Option Addr) (N C:Nat) (RA:Nat→Option Addr) (RL RC:Nat→Nat) (X:Nat→Nat→Nat) (hN:N≤9223372036854775807) (w:World) (H:Rfs w A N RA RL RC X) :
   Calls Try.prog 4 #[.slice A N C] w fun e w'=>e=.returned (.bool (fltB N RL X&&decide (N=RL 0)))∧Below w.heap.size w w':=by
 have c1:=rfloats_w A N C RA RL RC X hN w H
 cases hf:fltB N RL X
 · rw [hf] at c1
   go_enter Try.func4,Try.ntmps4
   go_wp2_with (go_at_call 9;(with_reducible refine c1.mono ?_);rintro _ W1 ⟨rfl,HB⟩)
   go_ret
   exact⟨rfl,HB⟩
 · rw [hf] at c1
   obtain⟨m1,m2, -,m4,m5⟩:=fltB_parts hf
   obtain⟨b,o,rfl,hb,c0, -, -⟩:=H 0 (by omega)
   rw [Nat.add_zero] at c0
   generalize RA 0=R0 at *
   generalize RC 0=Q0 at *
   generalize RL 0=m at *
   have n0:(0:Int)<(N:Int):=by omega
   have ee:((N:Int)==(m:Int))=decide (N=m):=by
     by_cases c:N=m
     · rw [decide_eq_true c,c];simp
     · rw [decide_eq_false c,beq_eq_false_iff_ne];omega
   rw [Bool.true_and,←ee]
   clear hf H ee m1 m2 m4 m5
   go_enter Try.func4,Try.ntmps4
   go_wp2_with (go_at_call 9;(with_reducible refine c1.mono ?_);rintro _ W1 ⟨rfl,HB⟩;replace c0:=keepsC HB c0 hb)
   go_ret
   exact⟨rfl,HB⟩
def plI (i:Int) (n:Nat):Int:=((i.tmod n)+n).tmod n
theorem plI_in (i:Int) {n:Nat} (n1:1≤n):0≤plI i n∧plI i n<n:=by
 unfold plI
 have h1:=Int.tmod_lt_of_pos i (show (0:Int)<n by omega)
 have h2:=Int.lt_tmod_of_pos i (show (0:Int)<n by omega)
 exact⟨Int.tmod_nonneg _ (by omega),Int.tmod_lt_of_pos _ (by omega)⟩
def rowJ (X:Nat→Nat→Nat) (I J r:Nat):Nat→Nat:=if r=J then X I else X r
theorem place_of (i:Int) {n:Nat} (n1:1≤n) (n2:n≤24):∃I:Nat,(wrap64 (i.tmod n+n)).tmod n=(I:Int)∧I<n:=by
 have h1:=Int.tmod_lt_of_pos i (show (0:Int)<n by omega)
 have h2:=Int.lt_tmod_of_pos i (show (0:Int)<n by omega)
 have e:wrap64 (i.tmod n+n)=i.tmod n+n:=by
   unfold wrap64
   omega
 rw [e]
 obtain⟨a,b⟩:=plI_in i n1
 unfold plI at a b
 exact⟨((i.tmod n+n).tmod n).toNat,by omega,by omega⟩
theorem det_any {n:Nat} (n3:n≤3):∃K,DetC n K:=by
 have d1:=det_step 0 53 (by omega) (by omega) (by omega) det_0
 have d2:=det_step 1 _ (by omega) (by omega) (by omega) d1
 have d3:=det_step 2 _ (by omega) (by omega) (by omega) d2
 have n4:n=0∨n=1∨n=2∨n=3:=by omega
 rcases n4 with rfl | rfl | rfl | rfl
 · exact⟨_,det_0⟩
 · exact⟨_,d1⟩
 · exact⟨_,d2⟩
 · exact⟨_,d3⟩
theorem fltB_rowJ {n:Nat} {X:Nat→Nat→Nat} {I J:Nat} (h:fltB n (fun _=>n) X=true) (hI:I<n):fltB n (fun _=>n) (rowJ X I J)=true:=by
 unfold fltB at h ⊢
 simp only [Bool.and_eq_true] at h ⊢
 refine⟨all_upto.2 fun r hr=>?_,h.2⟩
 have a:=all_upto.1 h.1 r hr
 have b:=all_upto.1 h.1 I hI
 unfold rowFB at a b ⊢
 unfold rowJ
 by_cases c:r=J
 · rw [if_pos c];exact b
 · rw [if_neg c];exact a
theorem rowJ_sing {n:Nat} {X:Nat→Nat→Nat} {I J:Nat} (hI:I<n) (hJ:J<n) (hne:I≠J):¬RegQ n (rowJ X I J):=fun h=>by
 refine same_rows (i:=I) (j:=J) hI hJ hne (fun c hc=>?_) h.g
 show vq (key (rowJ X I J I c))=vq (key (rowJ X I J J c))
 unfold rowJ
 rw [if_neg hne,if_pos rfl]
theorem cmpZ_ne {z:Int} (h:z≠0):(cmpZ z 0 != 0)=true:=by
 unfold cmpZ
 rw [bne_iff_ne]
 by_cases c:z<0
 · rw [if_pos c];omega
 · rw [if_neg c,if_pos (by omega)];omega
set_option maxRecDepth 8000 in
set_option maxHeartbeats 8000000 in
theorem linSing_good (A:Option Addr) (n C:Nat) (RA:Nat→Option Addr) (RC:Nat→Nat) (X:Nat→Nat→Nat) (i j:Int) (n1:1≤n) (n2:n≤24) (hf:fltB n (fun _=>n) X=true) (w:World) (H:Rfs w A n RA (fun _=>n) RC X)
   (c1:Calls Try.prog 4 #[.slice A n C] w fun e w'=>e=.returned (.bool true)∧Below w.heap.size w w') :
   Calls Try.prog 3 #[.slice A n C,.int .i64 i,.int .i64 j] w fun e w'=>e=.returned (.bool true)∧Below w.heap.size w w':=by
 have n0:(n:Int)≠0:=by omega
 have nb:((n:Int)==0)=false:=by rw [beq_eq_false_iff_ne];omega
 obtain⟨I,eI,hI⟩:=place_of i n1 n2
 obtain⟨J,eJ,hJ⟩:=place_of j n1 n2
 have HH:Hid _:=H
 have hw:∀r,r<n→∀c,c<n→X r c<18446744073709551616:=fun r hr c hc=>rfs_words H hr hc
 have hfin:∀r,r<n→∀c,c<n→finB (X r c)=true:=fun r hr c hc=>fltB_fin hf hr hc
 have cJ:=fun W B C' RA' RC' (V:Rfs W B n RA' (fun _=>n) RC' (rowJ X I J))=>inverseG_w B n C' RA' (fun _=>n) RC' (rowJ X I J) (fltB_rowJ hf hI) rfl W V
 have cA:=fun W (hW:Below w.heap.size w W)=>inverseG_w A n C RA (fun _=>n) RC X hf rfl W (H.keep hW)
 have cN:=fun W (hW:Below w.heap.size w W)=>nums_w A n C RA (fun _=>n) RC X (by omega) (fun _ _=>rfl) hfin W (H.keep hW)
 clear H hf hfin
 go_enter Try.func3,Try.ntmps3
 go_upto_region 4 with (go_at_call 4;(with_reducible refine c1.mono ?_);rintro _ W1 ⟨rfl,HB⟩)
 go_region
 clear eI eJ c1
 replace HB:Below w.heap.size w W1.drew:=later HB (Below.refl _ _).drew
 generalize W1.drew=W2 at *
 go_upto_region 7 with fail
 go_loopg [8,36] n (fun G s8 s36 wx=>∃(k:Nat) (vs:List Value),s36=.int .i64 (k:Int)∧k≤n∧k+G=n∧OwnTq w.heap.size wx s8 vs∧RowsT w.heap.size wx n k (rowJ X I J) vs∧Below w.heap.size w wx)
 case atStart=>exact⟨0,[],rfl,by omega,by omega,ownTq_nil _ _,⟨rfl,fun r hr=>by omega⟩,HB⟩
 case round =>
   clear HB
   obtain⟨k,vs,rfl,hk,hG,own,rows,HB⟩:=hrel
   obtain⟨A8,C8,rfl⟩:=own.form
   by_cases c:k<n
   · have ci:(k:Int)<(n:Int):=by omega
     have Ii:(I:Int)<(n:Int):=by omega
     have hvl:vs.length≤1000:=by have:=rows.1;omega
     obtain⟨b,o,eA,hb,cr, -,fls⟩:=HH.out k c
     obtain⟨b',o',eA',hb',cr', -,fls'⟩:=HH.out I hI
     subst eA
     cases eA'
     replace cr:=keepsC HB cr hb
     replace cr':=keepsC HB cr' hb'
     replace fls:=fls.keep HB
     replace fls':=fls'.keep HB
     obtain⟨rb,ro,eR⟩:∃rb ro,RA k=some ⟨rb,ro,none⟩:=by
       obtain⟨rb,ro,e, -⟩:=fls 0 (show 0<n by omega)
       exact⟨rb,ro,e⟩
     obtain⟨rb',ro',eR'⟩:∃rb ro,RA I=some ⟨rb,ro,none⟩:=by
       obtain⟨rb,ro,e, -⟩:=fls' 0 (show 0<n by omega)
       exact⟨rb,ro,e⟩
     rw [eR] at cr fls
     rw [eR'] at cr' fls'
     clear eR eR' HH cJ cA cN hw
     have h2:=grewQ wr (.cells #[] 48)
     have q0:=ownFq_empty wr
     have szB:=HB.size
     have own0:=own
     have rows0:=rows
     have HB0:=HB
     by_cases e:k=J
     · have ke:((k:Int)==(J:Int))=true:=by rw [beq_iff_eq];omega
       replace fls':=fls'.keep h2
       have er:Hid (rowJ X I J k=X I):=by show _=_;unfold rowJ;rw [if_pos e]
       clear fls e
       go_wp2_with (first
         | (at_builtin;refine wpList_copyq (B:=wr.heap.size) (by rfl) _ _ (by rfl) _ rb' ro' n (RC I) (X I) (by rfl) (by rfl) q0 fls' (by omega) (by omega) h2.size ?_;intro g C' W4 oc hc sz4;have h4:=h2.trans hc;replace own:=own0.keep h4;replace rows:=rows0.keep h4;replace HB:=later HB0 h4;have oc2:=oc.base szB;clear oc)
         | (at_builtin;refine wpList_pushTq (by rfl) _ _ (by rfl) _ vs (some ⟨g,0,none⟩) n C' (by rfl) (by rfl) own (by omega) HB.size HB ?_;intro v' w' own' HB2 _ kp))
       rw [←er.out] at oc2
       (go_roundg (n-k-1)
        case measure=>omega
        case rel=>exact⟨k+1,_,by go_num,by omega,by omega,own',rows.push kp oc2,HB2⟩)
     · have ke:((k:Int)==(J:Int))=false:=by rw [beq_eq_false_iff_ne];omega
       replace fls:=fls.keep h2
       have er:Hid (rowJ X I J k=X k):=by show _=_;unfold rowJ;rw [if_neg e]
       clear fls'
       go_wp2_with (first
         | (at_builtin;refine wpList_copyq (B:=wr.heap.size) (by rfl) _ _ (by rfl) _ rb ro n (RC k) (X k) (by rfl) (by rfl) q0 fls (by omega) (by omega) h2.size ?_;intro g C' W4 oc hc sz4;have h4:=h2.trans hc;replace own:=own0.keep h4;replace rows:=rows0.keep h4;replace HB:=later HB0 h4;have oc2:=oc.base szB;clear oc)
         | (at_builtin;refine wpList_pushTq (by rfl) _ _ (by rfl) _ vs (some ⟨g,0,none⟩) n C' (by rfl) (by rfl) own (by omega) HB.size HB ?_;intro v' w' own' HB2 _ kp))
       rw [←er.out] at oc2
       (go_roundg (n-k-1)
        case measure=>omega
        case rel=>exact⟨k+1,_,by go_num,by omega,by omega,own',rows.push kp oc2,HB2⟩)
   · have ci:¬(k:Int)<(n:Int):=by omega
     obtain rfl:k=n:=by omega
     obtain⟨B9,C9,RA9,RC9,e9,V9⟩:=rowsT_rfs own rows n1 (by omega) (fun r hr c hc=>by unfold rowJ;split <;> exact hw _ (by assumption) _ hc)
     cases e9
     clear HH own rows hw
     generalize vs.length=n at *
     by_cases e:I=J
     · have ke:((I:Int) != (J:Int))=false:=by rw [bne_eq_false_iff_eq];omega
       clear e
       go_upto_region 17 with (first
         | (go_at_call 5;(with_reducible refine (cJ _ _ _ _ _ V9).mono ?_);rintro _ W5 ⟨⟨B5,L5,er5,rfl,a5⟩,hb1⟩;replace HB:=later HB hb1;clear hb1 V9 cJ a5)
         | (go_at_call 5;(with_reducible refine (cA _ HB).mono ?_);rintro _ W6 ⟨⟨B6,L6,er6,rfl,a6⟩,hb1⟩;replace HB:=later HB hb1;clear hb1 cA))
       by_cases hn3:3<n
       · have h3i:(3:Int)<(n:Int):=by omega
         go_wp2_with fail
         go_ret
         exact⟨rfl,HB⟩
       · have h3i:¬(3:Int)<(n:Int):=by omega
         rcases a6 with rfl | ⟨rfl, -, -,reg⟩
         · go_wp2_with fail
           go_ret
           exact⟨rfl,HB⟩
         · obtain⟨K,dK⟩:=det_any (n:=n) (by omega)
           unfold DetC at dK
           have cz:=cmpZ_ne (det_reg n1 (by omega) reg)
           clear reg
           go_wp2_with (first
             | (go_at_call 8;(with_reducible refine (cN _ HB).mono ?_);rintro _ W7 ⟨v7,vs7,rfl,o7,r7,hb1⟩;obtain⟨A7,C7,rfl,M7⟩:=rows_mat o7 r7.1 (fun r hr=>by obtain⟨A,C,T,a,b,c,d⟩:=r7.2 r hr;exact⟨A,C,T,a,b,c,fun k hk=>d k (by omega)⟩);replace HB:=later HB hb1;clear hb1 o7 r7 cN)
             | (go_at_call 7;(with_reducible refine (dK _ _ _ _ M7).mono ?_);rintro _ W8 ⟨⟨v8,rfl,N8⟩,hb1⟩;obtain⟨g8,a8,l8,k8,e8,rfl⟩:=N8.shape;replace HB:=later HB hb1;clear hb1 M7 dK)
             | (go_at_call 6;(with_reducible refine (sign_z N8).mono ?_);rintro _ W9 ⟨rfl,hb1⟩;replace HB:=later HB hb1;clear hb1 N8))
           go_ret
           exact⟨rfl,HB⟩
     · have ke:((I:Int) != (J:Int))=true:=by rw [bne_iff_ne];omega
       have sg:=rowJ_sing (X:=X) hI hJ e
       clear e
       go_upto_region 17 with (first
         | (go_at_call 5;(with_reducible refine (cJ _ _ _ _ _ V9).mono ?_);rintro _ W5 ⟨⟨B5,L5,er5,rfl,a5⟩,hb1⟩;replace HB:=later HB hb1;clear hb1 V9 cJ;obtain rfl:er5=40:=a5.elim id (fun q=>absurd q.2.2.2 sg))
         | (go_at_call 5;(with_reducible refine (cA _ HB).mono ?_);rintro _ W6 ⟨⟨B6,L6,er6,rfl,a6⟩,hb1⟩;replace HB:=later HB hb1;clear hb1 cA))
       by_cases hn3:3<n
       · have h3i:(3:Int)<(n:Int):=by omega
         go_wp2_with fail
         go_ret
         exact⟨rfl,HB⟩
       · have h3i:¬(3:Int)<(n:Int):=by omega
         rcases a6 with rfl | ⟨rfl, -, -,reg⟩
         · go_wp2_with fail
           go_ret
           exact⟨rfl,HB⟩
         · obtain⟨K,dK⟩:=det_any (n:=n) (by omega)
           unfold DetC at dK
           have cz:=cmpZ_ne (det_reg n1 (by omega) reg)
           clear reg
           go_wp2_with (first
             | (go_at_call 8;(with_reducible refine (cN _ HB).mono ?_);rintro _ W7 ⟨v7,vs7,rfl,o7,r7,hb1⟩;obtain⟨A7,C7,rfl,M7⟩:=rows_mat o7 r7.1 (fun r hr=>by obtain⟨A,C,T,a,b,c,d⟩:=r7.2 r hr;exact⟨A,C,T,a,b,c,fun k hk=>d k (by omega)⟩);replace HB:=later HB hb1;clear hb1 o7 r7 cN)
             | (go_at_call 7;(with_reducible refine (dK _ _ _ _ M7).mono ?_);rintro _ W8 ⟨⟨v8,rfl,N8⟩,hb1⟩;obtain⟨g8,a8,l8,k8,e8,rfl⟩:=N8.shape;replace HB:=later HB hb1;clear hb1 M7 dK)
             | (go_at_call 6;(with_reducible refine (sign_z N8).mono ?_);rintro _ W9 ⟨rfl,hb1⟩;replace HB:=later HB hb1;clear hb1 N8))
           go_ret
           exact⟨rfl,HB⟩
theorem linSingular_all (A:Option Addr) (N C:Nat) (RA:Nat→Option Addr) (RL RC:Nat→Nat) (X:Nat→Nat→Nat) (i j:Int) (hN:N≤9223372036854775807) (w:World) (H:Rfs w A N RA RL RC X) :
   Calls Try.prog 3 #[.slice A N C,.int .i64 i,.int .i64 j] w fun e w'=>e=.returned (.bool true)∧Below w.heap.size w w':=by
 have c1:=lsq_w A N C RA RL RC X hN w H
 cases hq:(fltB N RL X&&decide (N=RL 0))
 · rw [hq] at c1
   clear hq H
   go_enter Try.func3,Try.ntmps3
   go_wp2_with (go_at_call 4;(with_reducible refine c1.mono ?_);rintro _ W1 ⟨rfl,HB⟩)
   go_ret
   exact⟨rfl,HB⟩
 · rw [hq] at c1
   simp only [Bool.and_eq_true,decide_eq_true_eq] at hq
   obtain⟨hf,hR⟩:=hq
   obtain⟨m1,m2,m3,m4,m5⟩:=fltB_parts hf
   have hl:∀r,r<N→RL r=N:=fun r hr=>by rw [m3 r hr,←hR]
   refine linSing_good A N C RA RC X i j m1 m2 ?_ w (fun r hr=>?_) c1
   · unfold fltB at hf ⊢
     simp only [Bool.and_eq_true] at hf ⊢
     refine⟨all_upto.2 fun r hr=>?_,hf.2⟩
     have a:=all_upto.1 hf.1 r hr
     unfold rowFB at a ⊢
     rw [hl r hr,←hR] at a
     exact a
   · have:=H r hr
     rw [hl r hr] at this
     exact this
theorem cellsFloat:Try.prog.cellsOf 48=1:=by kernel_rfl
theorem f64_lt {b:Nat} (h:(Lit.float .f64 b).wf=true):b<18446744073709551616:=by simpa [Lit.wf] using h
theorem trod_float {H:Type} {enc:TypeId×Value→H} {W:World} {base:Nat} {sp:Nat→Bool} {held:Bool} {m:Nat} {c:Value} {y:DataW H×List MemPlace} (h:DataW.trod enc Try.prog W base sp held m 48 [c]=some y) :
   ∃b,c=.float .f64 b∧y=(.lit (.float .f64 b),[])∧b<18446744073709551616:=by
 have ht:=Try.underlying48
 cases m with
 | zero=>simp [DataW.trod] at h
 | succ n =>
   cases c <;> simp [DataW.trod,ht] at h
   rename_i k b
   obtain⟨⟨rfl,h1⟩,h2⟩:=h
   exact⟨b,rfl,h2.symm,f64_lt h1⟩
end Go.Proofs.Ytfdomcnaaadedaa
