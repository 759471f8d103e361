/- LinProducts' walk. LinProducts of slices as they lie in memory. LinInverts: the law's walk. -/
import Derived.Test.YtlabmpngbcnhpaaGreatZi23
import Derived.Deep.CutRange
import Derived.Test.YtlabmpngbcnhpaaGreatZi43
namespace Go.Proofs.YtlabmpngbcnhpaaGreat
open Go.ChangeShapes Go.WideShapes Go.ChangeAt Go.RowKit
theorem Ivs.congr {w:World} {A:Option Addr} {n:Nat} {X Y:Nat→Nat×Nat} (h:Ivs w A n X) (e:∀i,i<n→X i=Y i):Ivs w A n Y:=fun i hi=>by
 rw [←e i hi];exact h i hi
theorem Rowed.rws {B:Nat} {w:World} {X Y:Nat→Nat→Nat×Nat} {M L N:Nat} {v:Value} {vs:List Value} (h:Rowed B w X Y M L N vs) (k:OwnR B w v vs) (hL:L≤9223372036854775807) (hw:∀r,r<N→∀c,c<L→(prodI X Y M r c).1<18446744073709551616∧(prodI X Y M r c).2<18446744073709551616) :
   ∃A C RA RC,v=.slice A N C∧Rws w A N RA (fun _=>L) RC (prodI X Y M):=by
 obtain⟨f,hf⟩:=Classical.axiomOfChoice (fun r=>(show ∃p:Option Addr×Nat,r<N→vs[r]?=some (.slice p.1 L p.2)∧OwnI B w (.slice p.1 L p.2) (rowL X Y M r L) by
   by_cases hr:r<N
   · obtain⟨A,C,a,b⟩:=h.2 r hr
     exact⟨(A,C),fun _=>⟨a,b⟩⟩
   · exact⟨(none,0),fun q=>absurd q hr⟩))
 have k':w.ownsRow B 29 1 v vs.length vs:=k
 rcases k'.2 with ⟨rfl,hn⟩ | ⟨g,cap,cur,rfl, -⟩
 · have e:N=0:=by rw [←h.1];exact hn
   subst e
   exact⟨none,0,fun _=>none,fun _=>0,rfl,fun r hr=>absurd hr (by omega)⟩
 · rw [h.1] at k' ⊢
   have hl:=(World.ownsRow.lt k' g rfl).2
   refine⟨_,cap,fun r=>(f r).1,fun r=>(f r).2,rfl,fun r hr=>?_⟩
   obtain⟨a,b⟩:=hf r hr
   obtain⟨A',C',e,J⟩:=ownI_ivs b (fun p hp=>by
     simp only [rowL,List.mem_map,List.mem_range] at hp
     obtain⟨t,ht,rfl⟩:=hp
     exact hw r hr t ht)
   rw [rowL_len] at e J
   have e1:(f r).1=A':=by injection e
   refine⟨g,0,rfl,hl, ?_,hL, ?_⟩
   · rw [Nat.zero_add,World.ownsRow.cellAt k' r (by omega)]
     exact a
   · show Ivs w (f r).1 L (prodI X Y M r)
     rw [e1]
     exact J.congr fun i hi=>rowL_at X Y M r L i hi
theorem vq_back {a b:Int} (h:vq a≤vq b):a≤b:=by
 refine Int.not_lt.1 fun c=>?_
 have h1:V b<V a:=V_mono c
 have h2:((V b:Int):Rat)<((V a:Int):Rat):=Rat.intCast_lt_intCast.2 h1
 have h3:=Rat.mul_lt_mul_of_pos_right h2 iuQ_pos
 unfold vq at h
 grind
theorem hq_has {p:Nat×Nat} {v:Nat} (hv:v<18446744073709551616) (nv:nanB v=false) (iv:infB v=false) (h:Hq p (vq (key v))):hasB p.1 p.2 v=true:=by
 have lo:key p.1≤key v:=by
   rcases h.lo with e | e
   · have:=key_range hv nv
     omega
   · exact vq_back e
 have hi:key v≤key p.2:=by
   rcases h.hi with e | e
   · have:=key_range hv nv
     omega
   · rw [←vq_neg] at e
     have:=vq_back e
     omega
 unfold hasB
 rw [hs_iff.2 h.S,iv,le_iff.2 ⟨h.S.nl,nv,lo⟩,le_iff.2 ⟨nv,h.S.nh,hi⟩]
 rfl
theorem has_one {p:Nat×Nat} {i j:Nat} (h:Hq p (oneQ i j)):hasB p.1 p.2 (if i=j then 4607182418800017408 else 0)=true:=by
 by_cases e:i=j
 · rw [if_pos e]
   refine hq_has (by omega) (by decide) (by decide) ?_
   rw [show key 4607182418800017408=4607182418800017408 by decide,vq_one]
   unfold oneQ at h
   rw [if_pos e] at h
   exact h
 · rw [if_neg e]
   refine hq_has (by omega) (by decide) (by decide) ?_
   rw [show key 0=0 by decide,vq_zero]
   unfold oneQ at h
   rw [if_neg e] at h
   exact h
theorem matB_of {n:Nat} {Y:Nat→Nat→Nat×Nat} {Z:Nat→Nat→Rat} (n1:1≤n) (n2:n≤24) (h:∀r,r<n→∀c,c<n→Hq (Y r c) (Z r c)):matB n (fun _=>n) Y=true:=by
 have d:dimB n=true:=decide_eq_true ⟨n1,n2⟩
 unfold matB
 rw [d,Bool.and_true]
 refine all_upto.2 fun r hr=>?_
 unfold vecB
 rw [d,Bool.and_true]
 simp only [Bool.and_eq_true,decide_eq_true_eq,true_and]
 refine all_upto.2 fun c hc=>?_
 unfold rightB
 rw [hs_iff.2 (h r hr c hc).S,Bool.or_true]
set_option maxRecDepth 8000 in
set_option maxHeartbeats 16000000 in
theorem linInv_good (A:Option Addr) (n C:Nat) (RA:Nat→Option Addr) (RC:Nat→Nat) (X:Nat→Nat→Nat) (n1:1≤n) (n2:n≤24) (hf:fltB n (fun _=>n) X=true) (w:World) (H:Rfs w A n RA (fun _=>n) RC X) :
   Calls Tryz.prog 3 #[.slice A n C] w fun e w'=>e=.returned (.bool true)∧Below w.heap.size w w':=by
 have cI:=inverseSqH_w A n C RA (fun _=>n) RC X hf rfl w H
 have csq:∀W,Below w.heap.size w W→Calls Tryz.prog 5 #[.slice A n C] W fun e w'=>e=.returned (.bool true)∧Below W.heap.size W w':=fun W hW=>by
   have:=lsq_w A n C RA (fun _=>n) RC X (by omega) W (H.keep hW)
   rw [hf,decide_eq_true rfl] at this
   exact this
 have cP:=fun W (hW:Below w.heap.size w W)=>rPoints_good A n C RA (fun _=>n) RC X (by omega) hf W (H.keep hW)
 have hfin:∀r,r<n→∀c,c<n→X r c<18446744073709551616∧finB (X r c)=true:=fun r hr c hc=>⟨rfs_words H hr hc,fltB_fin hf hr hc⟩
 have HF:Hid _:=hf
 have HH:Hid (Rfs w A n RA (fun _=>n) RC X):=H
 have hfin2:Hid _:=hfin
 clear H hf hfin
 go_enter Tryz.func3,Tryz.ntmps3
 go_upto_region 4 with (first
   | (go_at_call 4;(with_reducible refine cI.mono ?_);rintro _ W1 ⟨⟨B1,L1,er1,rfl,a1⟩,HB⟩)
   | (go_at_call 5;(with_reducible refine (csq _ HB).mono ?_);rintro _ W2 ⟨rfl,hb2⟩;replace HB:=later HB hb2))
 clear cI csq
 rcases a1 with ⟨rfl,rfl⟩ | ⟨rfl,rfl,Z,SZ,hZ,hreg⟩
 · go_wp2_with fail
   go_ret
   exact⟨rfl,HB⟩
 · replace SZ:=SZ.keep hb2
   obtain⟨RB,RD,Y,U,hY⟩:=SZ.rws n2
   have cM:=rmat_w B1 n n RB (fun _=>n) RD Y (by omega) W2 U
   rw [matB_of n1 n2 hY] at cM
   obtain⟨b,o,eB,hb,c0, -, -⟩:=U 0 (by omega)
   rw [Nat.add_zero] at c0
   have ni:(0:Int)<(n:Int):=by omega
   by_cases n3:n≤3
   · have n3i:(n:Int)≤3:=by omega
     obtain⟨N,hN⟩:∃N,n=N+1:=⟨n-1,by omega⟩
     have cH:=fun W (hW:Below w.heap.size w W) (hW2:Below W2.heap.size W2 W)=>hinv_w A B1 n C N RA RB RC RD X Y Z hN n3 HF.out hZ hreg W (HH.out.keep hW) (U.keep hW2) hY
     subst eB
     clear hN SZ hZ hreg U hY cP hb2
     go_wp2_with (first
       | (go_at_call 6;(with_reducible refine cM.mono ?_);rintro _ W3 ⟨rfl,hb3⟩;replace HB:=later HB hb3;replace c0:=keepsC hb3 c0 hb)
       | (go_at_call 7;(with_reducible refine (cH _ HB hb3).mono ?_);rintro _ W4 ⟨rfl,hb4⟩;replace HB:=later HB hb4))
     go_ret
     exact⟨rfl,HB⟩
   · have n3i:¬(n:Int)≤3:=by omega
     have hP:∀r,r<n→∀c,c<n→Hq (ptsP X r c) (vq (key (X r c))):=fun r hr c hc=>hq_point (hfin2.out r hr c hc).1 (hfin2.out r hr c hc).2
     have hD:∀r,r<n→∀c,c<n→Hq (prodI (ptsP X) Y n r c) (oneQ r c):=fun r hr c hc=>by
       have:=hq_dot n (fun k hk=>hP r hr k hk) (fun k hk=>hY k hk c hc)
       have e:=hZ r hr c hc
       unfold prodQ at e
       rw [e] at this
       exact this
     have cMu:=fun W A5 C5 RA5 RC5 (P5:Rws W A5 n RA5 (fun _=>n) RC5 (ptsP X)) (U5:Rws W B1 n RB (fun _=>n) RD Y)=>rMulM_w A5 B1 n n n C5 n RA5 RB (fun _=>n) RC5 (fun _=>n) RD (ptsP X) Y n2 n2 (by omega) n2 (fun _ _=>rfl) (fun _ _=>rfl) W P5 U5
     have hD2:Hid _:=hD
     have hP2:Hid _:=hP
     subst eB
     have UU:Hid (Rws W2 (some ⟨b,o,none⟩) n RB (fun _=>n) RD Y):=U
     clear SZ hZ hreg hY hD hP HH HF hb2 U
     go_upto_region 12 with (first
       | (go_at_call 6;(with_reducible refine cM.mono ?_);rintro _ W3 ⟨rfl,hb3⟩;replace HB:=later HB hb3;replace c0:=keepsC hb3 c0 hb;have U3:=UU.out.keep hb3;clear hb3)
       | (go_at_call 9;(with_reducible refine (cP _ HB).mono ?_);rintro _ W4 ⟨v4,vs4,rfl,ow4,rw4,hb4⟩;obtain⟨A5,C5,RA5,RC5,rfl,P5⟩:=rw4.rws ow4 (show n≤_ by omega) (fun r hr c hc=>⟨(hP2.out r hr c hc).l1,(hP2.out r hr c hc).l2⟩);replace HB:=later HB hb4;have U4:=U3.keep hb4;clear hb4 ow4 rw4 U3)
       | (go_at_call 8;(with_reducible refine (cMu _ _ _ _ _ P5 U4).mono ?_);rintro _ W5 ⟨v5,vs5,rfl,ow5,rw5,hb5⟩;obtain⟨A6,C6,RA6,RC6,rfl,P6⟩:=rw5.rws ow5 (show n≤_ by omega) (fun r hr c hc=>⟨(hD2.out r hr c hc).l1,(hD2.out r hr c hc).l2⟩);replace HB:=later HB hb5;clear hb5 ow5 rw5 P5 U4))
     clear cP cMu cM c0 hP2 UU
     generalize hpd:prodI (ptsP X) Y n=PD at *
     clear hpd
     have PP:Hid (Rws W5 A6 n RA6 (fun _=>n) RC6 PD):=P6
     clear P6
     go_loopg [64] n (fun G s64 wx=>∃i:Nat,s64=.int .i64 (i:Int)∧i≤n∧i+G=n∧Below W5.heap.size W5 wx)
     case atStart=>exact⟨0,rfl,by omega,by omega,Below.refl _ _⟩
     case round =>
       obtain⟨i,rfl,hi,hG,hbi⟩:=hrel
       by_cases c:i<n
       · have ci:(i:Int)<(n:Int):=by omega
         obtain⟨b6,o6,e6,hb6,cr0, -,ivs⟩:=PP.out i c
         subst e6
         obtain⟨rb,ro,eR⟩:∃rb ro,RA6 i=some ⟨rb,ro,none⟩:=by
           obtain⟨rb,ro,e, -⟩:=ivs 0 (show 0<n by omega)
           exact⟨rb,ro,e⟩
         rw [eR] at cr0 ivs
         clear eR
         have cr:=keepsC hbi cr0 hb6
         go_upto_region 15 with fail
         clear cr
         go_loopg [72] n (fun G s72 wx=>∃j:Nat,s72=.int .i64 (j:Int)∧j≤n∧j+G=n∧Below W5.heap.size W5 wx)
         case atStart=>exact⟨0,rfl,by omega,by omega,hbi⟩
         case round =>
           clear hbi
           obtain⟨j,rfl,hj,hGj,hbj⟩:=hrel
           by_cases c2:j<n
           · have c2i:(j:Int)<(n:Int):=by omega
             obtain⟨b7,o7,e7,hb7,y0,y1,y2,y3⟩:=ivs j c2
             cases e7
             have cr:=keepsC hbj cr0 hb6
             replace y0:=keepsC hbj y0 hb7
             replace y1:=keepsC hbj y1 hb7
             have ho:=has_one (hD2.out i c j c2)
             generalize PD i j=pp at *
             obtain⟨plo,phi⟩:=pp
             dsimp only at y0 y1 y2 y3 ho
             by_cases e:i=j
             · have ei:((i:Int)==(j:Int))=true:=by rw [beq_iff_eq];omega
               rw [if_pos e] at ho
               have ch:=fun W=>rhas_w plo phi 4607182418800017408 y2 y3 (by omega) W
               rw [ho] at ch
               clear e ho
               go_wp2_with (go_at_call 10;(with_reducible refine (ch _).mono ?_);rintro _ W8 ⟨rfl,hb8⟩;replace hbj:=later hbj hb8)
               (go_roundg (n-j-1)
                case measure=>omega
                case rel=>exact⟨j+1,by go_num,by omega,by omega,hbj⟩)
             · have ei:((i:Int)==(j:Int))=false:=by rw [beq_eq_false_iff_ne];omega
               rw [if_neg e] at ho
               have ch:=fun W=>rhas_w plo phi 0 y2 y3 (by omega) W
               rw [ho] at ch
               clear e ho
               go_wp2_with (go_at_call 10;(with_reducible refine (ch _).mono ?_);rintro _ W8 ⟨rfl,hb8⟩;replace hbj:=later hbj hb8)
               (go_roundg (n-j-1)
                case measure=>omega
                case rel=>exact⟨j+1,by go_num,by omega,by omega,hbj⟩)
           · have c2i:¬(j:Int)<(n:Int):=by omega
             go_wp2_with fail
             (go_roundg (n-i-1)
              case measure=>omega
              case rel=>exact⟨i+1,by go_num,by omega,by omega,hbj⟩)
       · have ci:¬(i:Int)<(n:Int):=by omega
         go_wp2_with fail
         go_ret
         exact⟨rfl,later HB hbi⟩
theorem linInverts_all (A:Option Addr) (N C:Nat) (RA:Nat→Option Addr) (RL RC:Nat→Nat) (X:Nat→Nat→Nat) (hN:N≤9223372036854775807) (w:World) (H:Rfs w A N RA RL RC X) :
   Calls Tryz.prog 3 #[.slice A N C] w fun e w'=>e=.returned (.bool true)∧Below w.heap.size w w':=by
 cases hq:(fltB N RL X&&decide (N=RL 0))
 · have cI:=inverseBad_w A N C RA RL RC X hN hq w H
   have csq:∀W,Below w.heap.size w W→Calls Tryz.prog 5 #[.slice A N C] W fun e w'=>e=.returned (.bool false)∧Below W.heap.size W w':=fun W hW=>by
     have:=lsq_w A N C RA RL RC X hN W (H.keep hW)
     rw [hq] at this
     exact this
   clear hq H
   go_enter Tryz.func3,Tryz.ntmps3
   go_wp2_with (first
     | (go_at_call 4;(with_reducible refine cI.mono ?_);rintro _ W1 ⟨rfl,HB⟩)
     | (go_at_call 5;(with_reducible refine (csq _ HB).mono ?_);rintro _ W2 ⟨rfl,hb2⟩;replace HB:=later HB hb2))
   go_ret
   exact⟨rfl,HB⟩
 · simp only [Bool.and_eq_true,decide_eq_true_eq] at hq
   obtain⟨hf,hR⟩:=hq
   obtain⟨m1,m2,m3,m4,m5⟩:=fltB_parts hf
   have hl:∀r,r<N→RL r=N:=fun r hr=>by rw [m3 r hr,←hR]
   refine linInv_good A N C RA RC X m1 m2 ?_ w (fun r hr=>?_)
   · unfold fltB at hf ⊢
     simp only [Bool.and_eq_true] at hf ⊢
     refine⟨all_upto.2 fun r hr=>?_,hf.2⟩
     have a:=all_upto.1 hf.1 r hr
     unfold rowFB at a ⊢
     rw [hl r hr,←hR] at a
     exact a
   · have:=H r hr
     rw [hl r hr] at this
     exact this
end Go.Proofs.YtlabmpngbcnhpaaGreat
