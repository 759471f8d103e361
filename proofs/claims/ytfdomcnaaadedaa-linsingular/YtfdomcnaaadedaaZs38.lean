/- Balls about nought: rows of intervals, whatever they hold. lin.Inverse: it ends: refused, or a square of intervals. -/
import Derived.Test.YtfdomcnaaadedaaZs37
import Derived.Test.YtfdomcnaaadedaaZs35
import Derived.Test.YtfdomcnaaadedaaZs33
import Derived.Test.YtfdomcnaaadedaaZs36
namespace Go.Proofs.Ytfdomcnaaadedaa
open Go.ChangeShapes Go.WideShapes Go.ChangeAt Go.RowKit
set_option maxHeartbeats 4000000 in
theorem balls_w (A:Option Addr) (N C room:Nat) (RA:Nat→Option Addr) (RL RC:Nat→Nat) (X:Nat→Nat→Nat×Nat) (hN:N≤24) (hR:∀r,r<N→RL r=N) (hroom:room<18446744073709551616) (w:World) (V:Rws w A N RA RL RC X) :
   Calls Try.prog 21 #[.slice A N C,.float .f64 room] w fun e w'=>∃g h F,e=.returned (.slice (some ⟨g,0,none⟩) N N)∧Grd w' g N N h F∧(∀r,r<N→∀c,c<N→(F r c).1<18446744073709551616∧(F r c).2<18446744073709551616)∧Below w.heap.size w w':=by
 have HR:Hid (∀r,r<N→RL r=N):=hR
 clear hR
 have cg:=fun w=>grid_w N N hN hN w
 go_enter Try.func21,Try.ntmps21
 go_wp2_with (go_at_call 35;refine (cg _).mono ?_;rintro _ w1 ⟨g,h,rfl,G0,hg,hh,HB⟩)
 clear cg
 have HH:Hid (∀r,r<N→w.heap.size≤h r):=hh
 clear hh
 go_loopg [16] N (fun G s16 wx=>Below w.heap.size w wx∧∃(j:Nat) (F:Nat→Nat→Nat×Nat),j+G=N∧s16=.int .i64 (j:Int)∧Grd wx g N N h F∧Hid (∀r,r<N→∀c,c<N→(F r c).1<18446744073709551616∧(F r c).2<18446744073709551616))
 case atStart=>exact⟨HB,0,_,by omega,rfl,G0,fun r _ c _=>⟨by simp,by simp⟩⟩
 case round =>
   clear HB G0
   obtain⟨HB,j,F,hj,rfl,G0,HF⟩:=hrel
   by_cases cj:j=N
   · subst cj
     go_wp2_with fail
     go_ret
     exact⟨g,h,F,rfl,G0,HF,HB⟩
   · have hltj:(j:Int)<(N:Int):=by omega
     have cc:=column_w A N C j RA RL RC X hN (fun s hs=>by have:=HR.out s hs;omega) wr (V.keep HB)
     have hw:Hid (∀s,s<N→(X s j).1<18446744073709551616∧(X s j).2<18446744073709551616):=fun s hs=>rws_words V hs (by have:=HR.out s hs;omega)
     have gl:=(gm_am (fun r=>X r j) N).lt
     go_wp2_with (first
       | (go_at_call 46;refine cc.mono ?_;rintro _ w2 ⟨vb,rfl,hV,hvb,hb1⟩;have cm:=gm_w (some ⟨vb,0,none⟩) N N (fun r=>X r j) (by omega) w2 (hV.ivs hw.out))
       | (go_at_call 51;refine cm.mono ?_;rintro _ w3 ⟨rfl,hb2⟩)
       | (go_at_call 50;refine (div_w _ _ 1 gl hroom _).mono ?_;rintro _ w4 ⟨⟨d,rfl,hd, -⟩,hb3⟩))
     replace G0:=((G0.keep hb1).keep hb2).keep hb3
     replace HB:=later (later (later HB hb1) hb2) hb3
     clear cc cm hb1 hb2 hb3 hV hvb gl hw
     have hneg:Op.negFloat .f64 d=negB d:=negFloat_eq d hd
     have hnl:=negB_lt hd
     have ck:=fun w=>make_w (negB d) d hnl hd w
     have ml:=makeP_lt hnl hd
     generalize makeP (negB d) d=z at *
     generalize negB d=nd at *
     go_loopg [27] N (fun G s27 wy=>Below w.heap.size w wy∧∃(i:Nat) (F:Nat→Nat→Nat×Nat),i+G=N∧s27=.int .i64 (i:Int)∧Grd wy g N N h F∧Hid (∀r,r<N→∀c,c<N→(F r c).1<18446744073709551616∧(F r c).2<18446744073709551616))
     case atStart=>exact⟨HB,0,F,by omega,rfl,G0,HF⟩
     case round =>
       clear HB G0 HF F
       obtain⟨HB,i,F,hi,rfl,G0,HF⟩:=hrel
       by_cases ci:i=N
       · subst ci
         go_wp2_with fail
         go_roundg (i-j-1)
         case measure=>omega
         case rel=>exact⟨HB,j+1,F,by omega,by go_num,G0,HF⟩
       · have hlti:(i:Int)<(N:Int):=by omega
         obtain⟨g0, -⟩:=G0.out.2 i (by omega)
         have gl:=G0.out.1
         go_upto_region 9 with fail
         have k0:=fun n:Behind wr=>n.cell g0 gl
         refine tail_behind 9 (by kernel_rfl) (by kernel_rfl) ?_
         simp only [List.take_succ_cons,List.take_zero,List.drop_succ_cons,List.drop_zero]
         repeat (go_big_quiet_step (first
           | (go_at_call 52;with_reducible refine Behind.call (ck _))))
         refine wpQuiet_nil ?_
         rintro _ ⟨q,rfl⟩
         obtain⟨W,hb1⟩:=q
         dsimp only
         clear k0 g0 gl
         replace G0:=G0.keep hb1
         replace HB:=later HB hb1
         clear hb1
         obtain⟨i0,i1,f0,f1⟩:=id ((G0.row i (by omega)).2 j (by omega))
         go_wp2_with fail
         go_roundg (N-i-1)
         case measure=>omega
         case rel =>
           have hhi:=HH.out i (by omega)
           refine⟨?_,i+1,_,by omega,by go_num,G0.set i j _ _ (by omega) (by omega),fun r hr c hc=>?_⟩
           · repeat' (first | (with_reducible exact HB) | (with_reducible refine Below.setCell ?_ ?_ _) | go_size | omega)
           · by_cases e:r=i∧c=j
             · rw [if_pos e]
               exact ml
             · rw [if_neg e]
               exact HF.out r hr c hc
def Sq (w:World) (A:Option Addr) (n:Nat):Prop:=∃g h F,A=some ⟨g,0,none⟩∧Grd w g n n h F∧∀r,r<n→∀c,c<n→(F r c).1<18446744073709551616∧(F r c).2<18446744073709551616
theorem Sq.keep {w w2:World} {A:Option Addr} {n:Nat} (h:Sq w A n) (hb:Below w.heap.size w w2):Sq w2 A n:=by
 obtain⟨g,k,F,e,G,l⟩:=h
 exact⟨g,k,F,e,G.keep hb,l⟩
theorem Sq.rws {w:World} {A:Option Addr} {n:Nat} (h:Sq w A n) (hn:n≤24):∃RA RC X,Rws w A n RA (fun _=>n) RC X:=by
 obtain⟨g,k,F,rfl,G,l⟩:=h
 exact⟨_,_,_,G.rws (by omega) l⟩
theorem prod_sq (A B:Option Addr) (n:Nat) (n1:1≤n) (n2:n≤24) (w:World) (V:Sq w A n) (U:Sq w B n) :
   Calls Try.prog 18 #[.slice A n n,.slice B n n] w fun e w'=>(∃C,e=.returned (.slice C n n)∧Sq w' C n)∧Below w.heap.size w w':=by
 obtain⟨RA,RC,X,V⟩:=V.rws n2
 obtain⟨SA,SC,Y,U⟩:=U.rws n2
 refine (prodM_w A B n n n n n RA SA _ RC _ SC X Y n2 n2 n1 n2 (fun _ _=>rfl) (fun _ _=>rfl) w V U).mono fun e w' ⟨g,h,a,b,c⟩=>⟨⟨_,a,g,h,_,rfl,b,fun r hr c hc=>?_⟩,c⟩
 exact dotP_lt (fun i hi=>rws_words V hr hi) (fun i hi=>rws_words U hi hc)
theorem plus_sq (A B:Option Addr) (n:Nat) (n1:1≤n) (n2:n≤24) (w:World) (V:Sq w A n) (U:Sq w B n) :
   Calls Try.prog 22 #[.slice A n n,.slice B n n] w fun e w'=>(∃C,e=.returned (.slice C n n)∧Sq w' C n)∧Below w.heap.size w w':=by
 obtain⟨RA,RC,X,V⟩:=V.rws n2
 obtain⟨SA,SC,Y,U⟩:=U.rws n2
 refine (mplus_w A B n n n n RA SA _ RC _ SC X Y n2 n1 n2 (fun _ _=>rfl) (fun _ _=>rfl) w V U).mono fun e w' ⟨⟨g,h,a,b⟩,c⟩=>⟨⟨_,a,g,h,_,rfl,b,fun r hr c hc=>?_⟩,c⟩
 have x:=rws_words V hr hc
 have y:=rws_words U hr hc
 exact addP_lt x.1 x.2 y.1 y.2
theorem balls_sq (A:Option Addr) (n room:Nat) (n2:n≤24) (hroom:room<18446744073709551616) (w:World) (V:Sq w A n) :
   Calls Try.prog 21 #[.slice A n n,.float .f64 room] w fun e w'=>(∃C,e=.returned (.slice C n n)∧Sq w' C n)∧Below w.heap.size w w':=by
 obtain⟨RA,RC,X,V⟩:=V.rws n2
 exact (balls_w A n n room RA _ RC X n2 (fun _ _=>rfl) hroom w V).mono fun _ _ ⟨g,h,F,a,b,c,d⟩=>⟨⟨_,a,g,h,F,rfl,b,c⟩,d⟩
def Nr (w:World) (A:Option Addr) (l n:Nat):Prop:=∃RA RL RC X,Rfs w A l RA RL RC X∧(l=0∨l=n)∧∀r,r<l→RL r=0∨RL r=n
theorem near_nr (gb n b:Nat) (hb:Nat→Nat) (hn:n≤24) (w:World) (T:Tab b w gb n n hb) :
   Calls Try.prog 14 #[.slice (some ⟨gb,0,none⟩) n n] w fun e w'=>(∃A l C,e=.returned (.slice A l C)∧Nr w' A l n)∧Below w.heap.size w w':=by
 refine (nearly_w gb n b hb hn w T).mono fun _ _ ⟨a,d⟩=>⟨?_,d⟩
 rcases a with rfl | ⟨c,f,rfl,p⟩
 · exact⟨none,0,0,rfl,fun _=>none,fun _=>0,fun _=>0,fun _ _=>0,fun r hr=>absurd hr (by omega),Or.inl rfl,fun r hr=>absurd hr (by omega)⟩
 · obtain⟨RA,RL,RC,X,V,h⟩:=p.rows hn
   exact⟨_,_,_,rfl,RA,RL,RC,X,V,Or.inr rfl,h⟩
end Go.Proofs.Ytfdomcnaaadedaa
