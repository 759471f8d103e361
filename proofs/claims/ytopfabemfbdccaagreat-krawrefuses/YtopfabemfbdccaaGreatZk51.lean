/- kraw: slices.Contains of intervals; a round. kraw: the search. -/
import Derived.Test.YtopfabemfbdccaaGreatZk50
import Derived.WalkMore
namespace Go.Proofs.YtopfabemfbdccaaGreat
open Go.ChangeShapes Go.WideShapes Go.ChangeAt Go.RowKit
def isNo (p:Nat×Nat):Bool:=eqB (infI 1) p.1&&eqB (infI (-1)) p.2
set_option maxHeartbeats 2000000 in
theorem sidx_w (A:Option Addr) (n C:Nat) (X:Nat->Nat×Nat) (hn:n<=9223372036854775807) (w:World) (V:Ivs w A n X) :
   Calls Tryz.prog 233 #[.slice A n C,.agg #[.float .f64 (infI 1),.float .f64 (infI (-1))]] w fun e w'=>(∃k:Int,e=.returned (.int .i64 k)/\decide (k>=0)=someU n fun i=>isNo (X i))/\Below w.heap.size w w':=by
 have E:=has2_new w (.float .f64 (infI 1)) (.float .f64 (infI (-1))) 24
 have HB:Below w.heap.size w (w.alloc (.cells #[.float .f64 (infI 1),.float .f64 (infI (-1))] 24)):=by go_grown
 have u1:=infI_lt 1
 have u2:=infI_lt (-1)
 have hno:∀p:Nat×Nat,Hid (isNo p=(eqB (infI 1) p.1&&eqB (infI (-1)) p.2)):=fun _=>rfl
 generalize infI 1=e1 at *
 generalize infI (-1)=e2 at *
 go_enter Tryz.func233,Tryz.ntmps233
 go_wp2_with fail
 generalize (w.alloc (.cells #[.float .f64 e1,.float .f64 e2] 24))=V1 at *
 go_loopg [8] n (fun G s8 wx=>Below w.heap.size w wx/\Has2 wx w.heap.size (.float .f64 e1) (.float .f64 e2)/\∃i:Nat,i+G=n/\s8=.int .i64 (i:Int)/\Hid (∀i',i'<i->isNo (X i')=false))
 case atStart=>exact⟨HB,E,0,by omega,rfl,fun j hj=>absurd hj (by omega)⟩
 case round =>
   clear HB E
   obtain⟨HB,E,i,hi,rfl,hall⟩:=hrel
   by_cases ci:i=n
   · subst ci
     go_wp2_with fail
     go_ret
     exact⟨⟨-1,rfl,(someU_false.2 hall).symm⟩,HB⟩
   · have hlt:(i:Int)<(n:Int):=by omega
     obtain⟨b,o,hA,hb,x0,x1,l0,l1⟩:=(V.keep HB) i (by omega)
     obtain⟨s0,s1,s2,s3,s4⟩:=id E
     have o1:=o_eq u1 l0
     have o2:=o_eq u2 l1
     have hq:=hno (X i)
     generalize eqB e1 (X i).1=b1 at *
     generalize eqB e2 (X i).2=b2 at *
     subst hA
     cases b1 <;> cases b2
     all_goals
       go_upto_region 4 with fail
       have k0:=fun n:Behind wr=>n.cell x0 hb
       have k1:=fun n:Behind wr=>n.cell x1 hb
       have k2:=fun n:Behind wr=>n.cell s0 s4
       have k3:=fun n:Behind wr=>n.cell s1 s4
       refine region_behind (by kernel_rfl) (by kernel_rfl) ?_
       repeat (go_big_quiet_step (first | fail))
       refine wpQuiet_nil ?_
       rintro _ ⟨m,rfl⟩
       obtain⟨W,hb1⟩:=m
       dsimp only
       clear k0 k1 k2 k3 x0 x1 s0 s1 s2 s3 s4
       replace HB:=later HB hb1
       replace E:=E.keep hb1
       clear hb1
       go_wp2_with fail
       first
         | (go_roundg (n-i-1)
            case measure=>omega
            case rel=>exact⟨HB,E,i+1,by omega,by go_num,fun j hj=>by rcases Nat.lt_or_ge j i with h | h;exact hall j h;rw [show j=i by omega];exact hq⟩)
         | (go_ret
            exact⟨⟨(i:Int),rfl,by rw [show (someU n fun i=>isNo (X i))=true from someU_true (p:=fun i=>isNo (X i)) (i:=i) (by omega) (show isNo (X i)=true from hq)];exact decide_eq_true (by omega)⟩,HB⟩)
theorem scont_w (A:Option Addr) (n C:Nat) (X:Nat->Nat×Nat) (hn:n<=9223372036854775807) (w:World) (V:Ivs w A n X) :
  Calls Tryz.prog 185 #[.slice A n C,.agg #[.float .f64 (infI 1),.float .f64 (infI (-1))]] w fun e w'=>e=.returned (.bool (someU n fun i=>isNo (X i)))/\Below w.heap.size w w':=by
 have HB:Below w.heap.size w (w.alloc (.cells #[.float .f64 (infI 1),.float .f64 (infI (-1))] 24)):=by go_grown
 have c:=fun W (h:Below w.heap.size w W)=>sidx_w A n C X hn W (V.keep h)
 go_enter Tryz.func185,Tryz.ntmps185
 go_wp2_with (go_at_call 233;refine (c _ HB).mono ?_;rintro _ w1 ⟨⟨k,rfl,k2⟩,hb1⟩)
 go_ret
 exact⟨by rw [<-k2];rfl,later HB hb1⟩
theorem no_some {k x:Nat×Nat} (h:isNo (meetP k.1 k.2 x.1 x.2)=false):Some2 (meetP k.1 k.2 x.1 x.2).1 (meetP k.1 k.2 x.1 x.2).2:=by
 rcases meet_ways k x with e | S
 ·exfalso
  have e':meetP k.1 k.2 x.1 x.2=noneQ:=e
  rw [e'] at h
  exact absurd h (by decide)
 ·exact S
theorem meet_sub {k x:Nat×Nat} (h:Some2 (meetP k.1 k.2 x.1 x.2).1 (meetP k.1 k.2 x.1 x.2).2):key x.1<=key (meetP k.1 k.2 x.1 x.2).1/\key (meetP k.1 k.2 x.1 x.2).2<=key x.2:=by
 have no:¬Some2 (infI 1) (infI (-1)):=fun S=>by have:=S.lt;rw [key_up] at this;omega
 unfold meetP at h ⊢
 split at h
 ·rename_i c
  rw [if_pos c]
  unfold makeP at h ⊢
  split at h
  ·rename_i d
   rw [if_pos d]
   simp only [key_pz]
   constructor
   ·unfold maxW
    split
    ·omega
    ·split
     ·split <;> omega
     ·omega
   ·unfold minW
    split
    ·omega
    ·split
     ·split <;> omega
     ·omega
  ·exact absurd h no
 ·exact absurd h no
theorem pmid_hs {p:Nat×Nat} (h:W2 p):hsB (pmid p).1 (pmid p).2=true:=bd_hs (by unfold pmid;rw [fin_make (kmid_lt h.1 h.2)];exact kmid_fin h.1 h.2)
def Kept (n:Nat) (X Z:Nat->Nat×Nat):Prop:=∀i,i<n->Some2 (Z i).1 (Z i).2/\key (X i).1<=key (Z i).1/\key (Z i).2<=key (X i).2
def RnAns (w:World) (n:Nat) (X:Nat->Nat×Nat) (vk:Value) (bk:Bool) (er:Int):Prop :=
 (∃A C Z,vk=.slice A n C/\er=0/\Ivs w A n Z/\Kept n X Z)\/(vk=.slice none 0 0/\bk=false/\er≠0)
set_option maxRecDepth 8000 in
set_option maxHeartbeats 16000000 in
theorem kround_w {w:World} {v:Int} {A:Option Addr} {n C:Nat} {D:Option Addr} {nx E:Nat} {AP:Option Addr} {np CP:Nat} {O:Nat->Opw} {Y:Nat->Int} {P X:Nat->Nat×Nat} (Q:Qn w v A n D nx AP np O Y P) (b o CX:Nat) (VX:Ivs w (some ⟨b,o,none⟩) nx X) (hX:∀i,i<nx->hsB (X i).1 (X i).2=true) :
  Calls Tryz.prog 128 #[qnV v A n C D nx E AP np CP,.slice (some ⟨b,o,none⟩) nx CX] w fun e w'=>(∃vk bk er,e=.returned (.tuple #[vk,.bool bk,.int .i64 er])/\RnAns w' nx X vk bk er)/\Below w.heap.size w w':=by
 have T:=hasQn_new w v A n C D nx E AP np CP
 have HB:Below w.heap.size w (w.alloc (.cells #[.int .i64 v,.slice A n C,.slice D nx E,.slice AP np CP] 73)):=by go_grown
 have n1:=Q.x1
 have n2:=Q.x2
 have cS:=fun W (q:Below w.heap.size w W)=>kslope_w (C:=C) (E:=E) (CP:=CP) (Q.keep q) (some ⟨b,o,none⟩) CX (VX.keep q) hX
 have wX:=ivs_words VX
 have hgood:=fun he=>kvals_good Q _ VX hX he
 have hrows:=krows_good Q _ VX
 have cV:=fun W gm (q:Below w.heap.size w W) (VM:Ivs W (some ⟨gm,0,none⟩) nx (fun i=>pmid (X i)))=>kval_w (C:=C) (E:=E) (CP:=CP) (Q.keep q) (some ⟨gm,0,none⟩) nx VM (fun i hi=>pmid_hs (wX i hi))
 have hgoodM:=fun W gm (q:Below w.heap.size w W) (VM:Ivs W (some ⟨gm,0,none⟩) nx (fun i=>pmid (X i))) he=>kvals_good (Q.keep q) (some ⟨gm,0,none⟩) VM (fun i hi=>pmid_hs (wX i hi)) he
 have hXX:Hid (∀i,i<nx->hsB (X i).1 (X i).2=true):=hX
 replace hgood:Hid _:=hgood
 replace hrows:Hid _:=hrows
 replace hgoodM:Hid _:=hgoodM
 have VX0:=VX
 unfold qnV at *
 clear Q hX
 go_enter Tryz.func128,Tryz.ntmps128
 go_upto_region 1 with fail
 generalize (w.alloc (.cells #[.int .i64 v,.slice A n C,.slice D nx E,.slice AP np CP] 73))=V1 at *
 obtain⟨t0,t1,t2,t3,tl⟩:=id T
 go_upto_region 2 with (go_at_call 65;(with_reducible refine (cS _ HB).mono ?_);rintro _ W1 ⟨⟨vb,vd,er,rfl,hS⟩,hb1⟩;replace T:=T.keep hb1;replace HB:=later HB hb1;clear hb1;clear t0 t1 t2 t3 tl;obtain⟨t0,t1,t2,t3,tl⟩:=id T)
 clear cS
 rcases hS with ⟨g,h,SA,SC,rfl,rfl,rfl,hI,hR,hGd⟩ | ⟨rfl,rfl,hE⟩
 ·have gd:=hgood.out (fun j hj=>errG_ok hGd j hj)
  have VI:=hI.ivs fun i hi=>(gd i hi).1
  have VR:VecR W1 (some ⟨g,0,none⟩) nx:=⟨_,VI,fun i hi=>shp_right (Or.inr (gd i hi).2)⟩
  have MR:MatR W1 (some ⟨h,0,none⟩) nx:=⟨_,_,_,hR,fun r hr c _=>hrows.out r hr c⟩
  clear gd hGd hR hI hgood hrows
  generalize (fun i=>vAt O (catI nx X P) n (Y i).toNat)=VV at VI
  have VX:=VX0.keep HB
  have c2:=fun W (q:Below W1.heap.size W1 W)=>saway_w (some ⟨g,0,none⟩) nx nx VV (by omega) W (VI.keep q)
  have c3:=fun W (q:Below W1.heap.size W1 W)=>swide_w (some ⟨b,o,none⟩) nx CX X (by omega) W (VX.keep q)
  have c4:=fun W (q:Below W1.heap.size W1 W)=>swide_w (some ⟨g,0,none⟩) nx nx VV (by omega) W (VI.keep q)
  generalize (someU nx fun i=>!hasB (VV i).1 (VV i).2 0)=b1 at c2
  generalize (someU nx fun i=>ltB (X i).1 (X i).2)=b2 at c3
  generalize (someU nx fun i=>ltB (VV i).1 (VV i).2)=b3 at c4
  have H1:Below W1.heap.size W1 W1:=Below.refl _ _
  cases b1
  case true =>
   go_wp2_with (go_at_call 178;(with_reducible refine (c2 _ H1).mono ?_);rintro _ W2 ⟨rfl,hb1⟩;replace HB:=later HB hb1)
   refine bodyPost_ret (v:=.tuple #[.slice none 0 0,.bool false,.int .i64 71]) (by simp [results,Tryz.results128,go_sem, *]) rfl ⟨⟨_,_,_,rfl,Or.inr ⟨rfl,rfl,by decide⟩⟩,HB⟩
  case false =>
  go_upto_region 6 with (go_at_call 178;(with_reducible refine (c2 _ H1).mono ?_);rintro _ W2 ⟨rfl,hb1⟩;replace H1:=later H1 hb1;replace T:=T.keep hb1;replace VR:=VR.keep hb1;replace MR:=MR.keep hb1;replace HB:=later HB hb1;clear hb1;clear t0 t1 t2 t3 tl;obtain⟨t0,t1,t2,t3,tl⟩:=id T)
  cases b2 <;> cases b3
  case false.false =>
   have cc:=fun W (q:Below w.heap.size w W)=>clone_wide b o nx CX X (by omega) W (VX0.keep q)
   go_wp2_with (first
    | (go_at_call 178;(with_reducible refine (c3 _ H1).mono ?_);rintro _ W3 ⟨rfl,hb1⟩;replace H1:=later H1 hb1;replace HB:=later HB hb1;clear hb1)
    | (go_at_call 178;(with_reducible refine (c4 _ H1).mono ?_);rintro _ W4 ⟨rfl,hb1⟩;replace H1:=later H1 hb1;replace HB:=later HB hb1;clear hb1)
    | (go_at_call 127;(with_reducible refine (cc _ HB).mono ?_);rintro _ W5 ⟨⟨A5,C5,rfl,I5, -, -⟩,hb1⟩;replace HB:=later HB hb1))
   refine bodyPost_ret (v:=.tuple #[.slice A5 nx C5,.bool true,.int .i64 0]) (by simp [results,Tryz.results128,go_sem, *]) rfl ⟨⟨_,_,_,rfl,Or.inl ⟨A5,C5,X,rfl,rfl,I5,fun i hi=>⟨hs_iff.1 (hXX.out i hi),Int.le_refl _,Int.le_refl _⟩⟩⟩,HB⟩
  all_goals
   go_upto_region 8 with (first
    | (go_at_call 178;(with_reducible refine (c3 _ H1).mono ?_);rintro _ W3 ⟨rfl,hb1⟩;replace H1:=later H1 hb1;replace T:=T.keep hb1;replace VR:=VR.keep hb1;replace MR:=MR.keep hb1;replace HB:=later HB hb1;clear hb1;clear t0 t1 t2 t3 tl;obtain⟨t0,t1,t2,t3,tl⟩:=id T)
    | (go_at_call 178;(with_reducible refine (c4 _ H1).mono ?_);rintro _ W4 ⟨rfl,hb1⟩;replace H1:=later H1 hb1;replace T:=T.keep hb1;replace VR:=VR.keep hb1;replace MR:=MR.keep hb1;replace HB:=later HB hb1;clear hb1;clear t0 t1 t2 t3 tl;obtain⟨t0,t1,t2,t3,tl⟩:=id T))
   clear c2 c3 c4 H1 VX VI
   have cm:=fun W (q:Below w.heap.size w W)=>kmiddle_w (some ⟨b,o,none⟩) nx CX X (by omega) W (VX0.keep q)
   go_upto_region 9 with (go_at_call 181;(with_reducible refine (cm _ HB).mono ?_);rintro _ W5 ⟨⟨gm,rfl,IM, -⟩,hb1⟩;replace T:=T.keep hb1;replace MR:=MR.keep hb1;replace HB:=later HB hb1;clear hb1;clear t0 t1 t2 t3 tl;obtain⟨t0,t1,t2,t3,tl⟩:=id T)
   have VM:=IM.ivs fun i hi=>makeP_lt (kmid_lt (wX i hi).1 (wX i hi).2) (kmid_lt (wX i hi).1 (wX i hi).2)
   replace VM:Ivs W5 (some ⟨gm,0,none⟩) nx (fun i=>pmid (X i)):=VM
   clear cm IM
   go_upto_region 10 with (go_at_call 182;(with_reducible refine (cV _ _ HB VM).mono ?_);rintro _ W6 ⟨⟨vb2,er2,rfl,hA⟩,hb1⟩;replace VM:=VM.keep hb1;replace T:=T.keep hb1;replace MR:=MR.keep hb1;replace HB:=later HB hb1;clear hb1;clear t0 t1 t2 t3 tl;obtain⟨t0,t1,t2,t3,tl⟩:=id T)
   rcases hA with ⟨g2,rfl,rfl,hI2,he2⟩ | ⟨rfl,he2⟩
   ·have gd2:=hgoodM.out _ _ HB VM he2
    have VR2:VecR W6 (some ⟨g2,0,none⟩) nx:=⟨_,hI2.ivs fun i hi=>(gd2 i hi).1,fun i hi=>shp_right (Or.inr (gd2 i hi).2)⟩
    clear gd2 hI2 he2 cV
    have ck:=kraw_w (some ⟨b,o,none⟩) (some ⟨gm,0,none⟩) (some ⟨g2,0,none⟩) (some ⟨h,0,none⟩) nx CX nx nx nx n1 n2 W6 ⟨_,VX0.keep HB⟩ ⟨_,VM⟩ VR2 MR
    go_upto_region 13 with (go_at_call 183;(with_reducible refine ck.mono ?_);rintro _ W7 ⟨⟨vk,er3,rfl,hK⟩,hb1⟩;replace HB:=later HB hb1;clear hb1)
    rcases hK with ⟨g3,rfl,rfl,KX,VK⟩ | ⟨rfl,he3⟩
    ·have ce:=eachMeet_w (some ⟨g3,0,none⟩) (some ⟨b,o,none⟩) nx nx CX KX X (by omega) W7 VK (VX0.keep HB)
     have wK:=ivs_words VK
     go_upto_region 16 with (go_at_call 184;(with_reducible refine ce.mono ?_);rintro _ W8 ⟨⟨g4,rfl,I4, -⟩,hb1⟩;replace VK:=VK.keep hb1;replace HB:=later HB hb1;clear hb1)
     have V4:=I4.ivs fun i hi=>meet_lt (wK i hi).1 (wK i hi).2 (wX i hi).1 (wX i hi).2
     have H1:Below W8.heap.size W8 W8:=Below.refl _ _
     have cn:=fun W (q:Below W8.heap.size W8 W)=>scont_w (some ⟨g4,0,none⟩) nx nx _ (by omega) W (V4.keep q)
     have cl:=fun W (q:Below W8.heap.size W8 W)=>kroom_w (some ⟨g3,0,none⟩) (some ⟨b,o,none⟩) nx nx CX KX X (by omega) W (VK.keep q) ((VX0.keep HB).keep q)
     generalize hb4:(someU nx fun i=>isNo (meetP (KX i).1 (KX i).2 (X i).1 (X i).2))=b4 at cn
     replace hb4:Hid _:=hb4
     cases b4
     ·go_wp2_with (first
       | (go_at_call 76;(with_reducible refine (empty_w _).mono ?_);rintro _ W9 ⟨rfl,hb1⟩;replace H1:=later H1 hb1;replace HB:=later HB hb1;clear hb1)
       | (go_at_call 185;(with_reducible refine (cn _ H1).mono ?_);rintro _ W10 ⟨rfl,hb1⟩;replace H1:=later H1 hb1;replace HB:=later HB hb1;clear hb1)
       | (go_at_call 186;(with_reducible refine (cl _ H1).mono ?_);rintro _ W11 ⟨⟨bl,rfl⟩,hb1⟩;replace H1:=later H1 hb1;replace HB:=later HB hb1;clear hb1))
      refine bodyPost_ret (v:=.tuple #[.slice (some ⟨g4,0,none⟩) nx nx,.bool bl,.int .i64 0]) (by simp [results,Tryz.results128,go_sem, *]) rfl ⟨⟨_,_,_,rfl,Or.inl ⟨_,_,_,rfl,rfl,V4.keep H1,fun i hi=>?_⟩⟩,HB⟩
      have S:=no_some (k:=KX i) (x:=X i) (someU_false.1 hb4.out i hi)
      exact⟨S,meet_sub S⟩
     ·go_wp2_with (first
       | (go_at_call 76;(with_reducible refine (empty_w _).mono ?_);rintro _ W9 ⟨rfl,hb1⟩;replace H1:=later H1 hb1;replace HB:=later HB hb1;clear hb1)
       | (go_at_call 185;(with_reducible refine (cn _ H1).mono ?_);rintro _ W10 ⟨rfl,hb1⟩;replace H1:=later H1 hb1;replace HB:=later HB hb1;clear hb1))
      refine bodyPost_ret (v:=.tuple #[.slice none 0 0,.bool false,.int .i64 71]) (by simp [results,Tryz.results128,go_sem, *]) rfl ⟨⟨_,_,_,rfl,Or.inr ⟨rfl,rfl,by decide⟩⟩,HB⟩
    ·have hne:(er3 != 0)=true:=by simp [he3]
     go_wp2_with fail
     refine bodyPost_ret (v:=.tuple #[.slice none 0 0,.bool false,.int .i64 er3]) (by simp [results,Tryz.results128,go_sem, *]) rfl ⟨⟨_,_,_,rfl,Or.inr ⟨rfl,rfl,he3⟩⟩,HB⟩
   ·have hne:(er2 != 0)=true:=by simp [he2]
    go_wp2_with fail
    refine bodyPost_ret (v:=.tuple #[.slice none 0 0,.bool false,.int .i64 er2]) (by simp [results,Tryz.results128,go_sem, *]) rfl ⟨⟨_,_,_,rfl,Or.inr ⟨rfl,rfl,he2⟩⟩,HB⟩
 ·have he:er≠0:=by obtain⟨k, -, -,q,rfl⟩:=hE;exact q
  have hne:(er != 0)=true:=by simp [he]
  go_wp2_with fail
  refine bodyPost_ret (v:=.tuple #[.slice none 0 0,.bool false,.int .i64 er]) (by simp [results,Tryz.results128,go_sem, *]) rfl ⟨⟨_,_,_,rfl,Or.inr ⟨rfl,rfl,he⟩⟩,HB⟩
theorem Kept.trans {n:Nat} {X Z U:Nat->Nat×Nat} (h:Kept n X Z) (k:Kept n Z U):Kept n X U:=fun i hi=>by
 obtain⟨-,a,b⟩:=h i hi
 obtain⟨s,c,d⟩:=k i hi
 exact⟨s,by omega,by omega⟩
def SeAns (w:World) (n:Nat) (X:Nat->Nat×Nat) (vz:Value) (er:Int):Prop :=
 (∃A C Z,vz=.slice A n C/\er=0/\Ivs w A n Z/\Kept n X Z)\/(vz=.slice none 0 0/\(er=70\/er=71))
theorem ivs_some {w:World} {A:Option Addr} {n:Nat} {X:Nat->Nat×Nat} (h:Ivs w A n X) (n1:1<=n):∃b o,A=some ⟨b,o,none⟩:=by
 obtain⟨b,o,e, -⟩:=h 0 n1
 exact⟨b,o,e⟩
set_option maxRecDepth 8000 in
set_option maxHeartbeats 16000000 in
theorem ksearch_w {w:World} {v:Int} {A:Option Addr} {n C:Nat} {D:Option Addr} {nx E:Nat} {AP:Option Addr} {np CP:Nat} {O:Nat->Opw} {Y:Nat->Int} {P X:Nat->Nat×Nat} (Q:Qn w v A n D nx AP np O Y P) (b o CX:Nat) (VX:Ivs w (some ⟨b,o,none⟩) nx X) (hX:∀i,i<nx->hsB (X i).1 (X i).2=true) :
  Calls Tryz.prog 66 #[qnV v A n C D nx E AP np CP,.slice (some ⟨b,o,none⟩) nx CX] w fun e w'=>(∃vz er,e=.returned (.tuple #[vz,.int .i64 er])/\SeAns w' nx X vz er)/\Below w.heap.size w w':=by
 have T:=hasQn_new w v A n C D nx E AP np CP
 have HB:Below w.heap.size w (w.alloc (.cells #[.int .i64 v,.slice A n C,.slice D nx E,.slice AP np CP] 73)):=by go_grown
 have n1:=Q.x1
 have n2:=Q.x2
 have cR:=fun W b o CX Z (q:Below w.heap.size w W) (VZ:Ivs W (some ⟨b,o,none⟩) nx Z) (hZ:Kept nx X Z)=>kround_w (C:=C) (E:=E) (CP:=CP) (Q.keep q) b o CX VZ (fun i hi=>hs_iff.2 (hZ i hi).1)
 have cc:=fun W (q:Below w.heap.size w W)=>clone_wide b o nx CX X (by omega) W (VX.keep q)
 have K0:Kept nx X X:=fun i hi=>⟨hs_iff.1 (hX i hi),Int.le_refl _,Int.le_refl _⟩
 unfold qnV at *
 clear Q hX
 go_enter Tryz.func66,Tryz.ntmps66
 go_wp2_with fail
 go_step3
 go_upto_region 1 with fail
 generalize (w.alloc (.cells #[.int .i64 v,.slice A n C,.slice D nx E,.slice AP np CP] 73))=V1 at *
 go_upto_region 2 with (go_at_call 127;(with_reducible refine (cc _ HB).mono ?_);rintro _ W1 ⟨⟨A1,C1,rfl,I1, -, -⟩,hb1⟩;replace T:=T.keep hb1;replace HB:=later HB hb1;clear hb1)
 obtain⟨b1,o1,rfl⟩:=ivs_some I1 n1
 clear cc
 go_wp2_with fail
 go_step3
 go_wp2_with fail
 go_loopg [6,7,14] 100 (fun G s6 s7 s14 wx=>Below w.heap.size w wx/\HasQn wx w.heap.size v A n C D nx E AP np CP/\∃(i b o CZ:Nat) (Z:Nat->Nat×Nat) (sh:Bool),i+G=100/\s14=.int .i64 (i:Int)/\s6=.slice (some ⟨b,o,none⟩) nx CZ/\s7=.bool sh/\Ivs wx (some ⟨b,o,none⟩) nx Z/\Kept nx X Z)
 case atStart=>exact⟨HB,T,0,b1,o1,C1,X,false,by omega,rfl,rfl,rfl,I1,K0⟩
 case round =>
  clear HB T I1 K0
  obtain⟨HB,T,i,bz,oz,CZ,Z,sh,hi,rfl,rfl,rfl,VZ,KZ⟩:=hrel
  by_cases ci:i=100
  ·subst ci
   cases sh
   ·go_wp2_with fail
    (try rw [Exit.noGoto_ret]);refine bodyPost_ret (v:=.tuple #[.slice none 0 0,.int .i64 70]) (by simp [results,Tryz.results66,go_sem, *]) rfl ⟨⟨_,_,rfl,Or.inr ⟨rfl,Or.inl rfl⟩⟩,HB⟩
   ·go_wp2_with fail
    (try rw [Exit.noGoto_ret]);refine bodyPost_ret (v:=.tuple #[.slice (some ⟨bz,oz,none⟩) nx CZ,.int .i64 0]) (by simp [results,Tryz.results66,go_sem, *]) rfl ⟨⟨_,_,rfl,Or.inl ⟨_,_,_,rfl,rfl,VZ,KZ⟩⟩,HB⟩
  ·have hlt:(i:Int)<100:=by omega
   obtain⟨t0,t1,t2,t3,tl⟩:=id T
   go_upto_region 5 with (go_at_call 128;(with_reducible refine (cR _ _ _ _ _ HB VZ KZ).mono ?_);rintro _ W2 ⟨⟨vk,bk,er,rfl,hR⟩,hb1⟩;replace T:=T.keep hb1;replace HB:=later HB hb1;replace VZ:=VZ.keep hb1;clear hb1 t0 t1 t2 t3 tl)
   rcases hR with ⟨A2,C2,Z2,rfl,rfl,V2,K2⟩ | ⟨rfl,rfl,he⟩
   ·obtain⟨b2,o2,rfl⟩:=ivs_some V2 n1
    have K3:=KZ.trans K2
    have cw:=kworth_w (some ⟨b2,o2,none⟩) (some ⟨bz,oz,none⟩) nx C2 CZ Z2 Z (by omega) W2 V2 VZ
    cases sh <;> cases bk
    case false.false =>
     go_wp2_with (go_at_call 129;(with_reducible refine cw.mono ?_);rintro _ W3 ⟨⟨bw,rfl⟩,hb1⟩;replace T:=T.keep hb1;replace HB:=later HB hb1;replace V2:=V2.keep hb1;clear hb1)
     ·(try rw [Exit.noGoto_ret]);refine bodyPost_ret (v:=.tuple #[.slice none 0 0,.int .i64 70]) (by simp [results,Tryz.results66,go_sem, *]) rfl ⟨⟨_,_,rfl,Or.inr ⟨rfl,Or.inl rfl⟩⟩,HB⟩
     ·go_roundg (100-i-1)
      case measure=>omega
      case rel=>exact⟨HB,T,i+1,b2,o2,C2,Z2,_,by omega,by go_num,rfl,rfl,V2,K3⟩
    all_goals
     go_wp2_with (go_at_call 129;(with_reducible refine cw.mono ?_);rintro _ W3 ⟨⟨bw,rfl⟩,hb1⟩;replace T:=T.keep hb1;replace HB:=later HB hb1;replace V2:=V2.keep hb1;clear hb1)
     ·(try rw [Exit.noGoto_ret]);refine bodyPost_ret (v:=.tuple #[.slice (some ⟨b2,o2,none⟩) nx C2,.int .i64 0]) (by simp [results,Tryz.results66,go_sem, *]) rfl ⟨⟨_,_,rfl,Or.inl ⟨_,_,_,rfl,rfl,V2,K3⟩⟩,HB⟩
     ·go_roundg (100-i-1)
      case measure=>omega
      case rel=>exact⟨HB,T,i+1,b2,o2,C2,Z2,_,by omega,by go_num,rfl,rfl,V2,K3⟩
   ·by_cases h71:er=71
    ·subst h71
     go_wp2_with fail
     (try rw [Exit.noGoto_ret]);refine bodyPost_ret (v:=.tuple #[.slice none 0 0,.int .i64 71]) (by simp [results,Tryz.results66,go_sem, *]) rfl ⟨⟨_,_,rfl,Or.inr ⟨rfl,Or.inr rfl⟩⟩,HB⟩
    ·have q1:(er==71)=false:=by simp [h71]
     have q2:(er != 0)=true:=by simp [he]
     cases sh
     ·go_wp2_with fail
      (try rw [Exit.noGoto_ret]);refine bodyPost_ret (v:=.tuple #[.slice none 0 0,.int .i64 70]) (by simp [results,Tryz.results66,go_sem, *]) rfl ⟨⟨_,_,rfl,Or.inr ⟨rfl,Or.inl rfl⟩⟩,HB⟩
     ·go_wp2_with fail
      (try rw [Exit.noGoto_ret]);refine bodyPost_ret (v:=.tuple #[.slice (some ⟨bz,oz,none⟩) nx CZ,.int .i64 0]) (by simp [results,Tryz.results66,go_sem, *]) rfl ⟨⟨_,_,rfl,Or.inl ⟨_,_,_,rfl,rfl,VZ,KZ⟩⟩,HB⟩
def SoAns (w:World) (rt my:Bool) (O:Nat->Opw) (XX:Nat->Nat×Nat) (vars n nx:Nat) (X:Nat->Nat×Nat) (vz:Value) (er:Int):Prop :=
 (rt=false/\vz=.slice none 0 0/\er=50)\/(rt=true/\my=false/\vz=.slice none 0 0/\er=1)\/(rt=true/\my=true/\FirstG O XX vars n er/\vz=.slice none 0 0)\/(rt=true/\my=true/\(∀j,j<n->errG O XX vars j=0)/\SeAns w nx X vz er)
set_option maxRecDepth 8000 in
set_option maxHeartbeats 8000000 in
theorem solve_w (v:Int) (A:Option Addr) (n C:Nat) (D:Option Addr) (m E:Nat) (O:Nat->Opw) (Y:Nat->Int) (AX:Option Addr) (nx CX:Nat) (X:Nat->Nat×Nat) (AP:Option Addr) (np CP:Nat) (P:Nat->Nat×Nat) (hn:n<=9223372036854775807) (hm:m<=9223372036854775807) (hx:nx<=9223372036854775807) (hp:np<=9223372036854775807) (w:World) (VO:Ops w A n O) (VY:Ins w D m Y) (VX:Ivs w AX nx X) (VP:Ivs w AP np P) :
  Calls Tryz.prog 26 #[tapeV v A n C D m E,.slice AX nx CX,.slice AP np CP] w fun e w'=>(∃vz er,e=.returned (.tuple #[vz,.int .i64 er])/\SoAns w' (rightT v n O m Y) (mayQ v m nx X np P) O (catI nx X P) (nx+np) n nx X vz er)/\Below w.heap.size w w':=by
 have T:=hasT_new w v A n C D m E
 have HB:Below w.heap.size w (w.alloc (.cells #[.int .i64 v,.slice A n C,.slice D m E] 45)):=by go_grown
 have cR:=fun W (q:Below w.heap.size w W)=>right_t v A n C D m E O Y hn hm W (VO.keep q) (VY.keep q)
 have cM:=fun W (q:Below w.heap.size w W)=>kmay_w v A n C D m E AX nx CX X AP np CP P hx hp W (VX.keep q) (VP.keep q)
 have c0:rightT v n O m Y=false\/rightT v n O m Y=true:=by cases rightT v n O m Y <;> simp
 rcases c0 with hr | hr
 ·rw [hr,show errT false=50 from rfl] at cR
  unfold tapeV at *
  go_enter Tryz.func26,Tryz.ntmps26
  go_upto_region 1 with fail
  generalize (w.alloc (.cells #[.int .i64 v,.slice A n C,.slice D m E] 45))=V1 at *
  obtain⟨t0,t1,t2,tl⟩:=id T
  go_wp2_with (go_at_call 63;(with_reducible refine (cR _ HB).mono ?_);rintro _ W1 ⟨rfl,hb1⟩;replace HB:=later HB hb1)
  refine bodyPost_ret (v:=.tuple #[.slice none 0 0,.int .i64 50]) (by simp [results,Tryz.results26,go_sem, *]) rfl ⟨⟨_,_,rfl,Or.inl ⟨hr,rfl,rfl⟩⟩,HB⟩
 ·rw [hr,show errT true=0 from rfl] at cR
  have c1:mayQ v m nx X np P=false\/mayQ v m nx X np P=true:=by cases mayQ v m nx X np P <;> simp
  rcases c1 with hq | hq
  ·rw [hq] at cM
   unfold tapeV at *
   go_enter Tryz.func26,Tryz.ntmps26
   go_upto_region 1 with fail
   generalize (w.alloc (.cells #[.int .i64 v,.slice A n C,.slice D m E] 45))=V1 at *
   obtain⟨t0,t1,t2,tl⟩:=id T
   go_wp2_with (first
    | (go_at_call 63;(with_reducible refine (cR _ HB).mono ?_);rintro _ W1 ⟨rfl,hb1⟩;replace HB:=later HB hb1;replace T:=T.keep hb1;clear t0 t1 t2 tl hb1;obtain⟨t0,t1,t2,tl⟩:=id T)
    | (go_at_call 64;(with_reducible refine (cM _ HB).mono ?_);rintro _ W2 ⟨rfl,hb1⟩;replace HB:=later HB hb1))
   refine bodyPost_ret (v:=.tuple #[.slice none 0 0,.int .i64 1]) (by simp [results,Tryz.results26,go_sem, *]) rfl ⟨⟨_,_,rfl,Or.inr (Or.inl ⟨hr,hq,rfl,rfl⟩)⟩,HB⟩
  ·have hra:=right_all hr
   obtain⟨x1,x2,rfl,hv,bx,bp⟩:=mayQ_is hq ⟨hra.1.1,hra.1.2.1⟩ hp
   have Q:Qn w v A n D m AP np O Y P:=⟨VO,VY,VP,hr,hv,x1,x2,fun i hi=>bd_hs (bp i hi)⟩
   have hX:∀i,i<m->hsB (X i).1 (X i).2=true:=fun i hi=>bd_hs (bx i hi)
   obtain⟨b,o,rfl⟩:=ivs_some VX x1
   have cS:=fun W (q:Below w.heap.size w W)=>kslope_w (C:=C) (E:=E) (CP:=CP) (Q.keep q) (some ⟨b,o,none⟩) CX (VX.keep q) hX
   have cE:=fun W (q:Below w.heap.size w W)=>ksearch_w (C:=C) (E:=E) (CP:=CP) (Q.keep q) b o CX (VX.keep q) hX
   rw [hq] at cM
   unfold tapeV at *
   unfold qnV at *
   clear hra Q hX bx bp hv
   go_enter Tryz.func26,Tryz.ntmps26
   go_upto_region 1 with fail
   generalize (w.alloc (.cells #[.int .i64 v,.slice A n C,.slice D m E] 45))=V1 at *
   obtain⟨t0,t1,t2,tl⟩:=id T
   go_upto_region 7 with (first
    | (go_at_call 63;(with_reducible refine (cR _ HB).mono ?_);rintro _ W1 ⟨rfl,hb1⟩;replace HB:=later HB hb1;replace T:=T.keep hb1;clear t0 t1 t2 tl hb1;obtain⟨t0,t1,t2,tl⟩:=id T)
    | (go_at_call 64;(with_reducible refine (cM _ HB).mono ?_);rintro _ W2 ⟨rfl,hb1⟩;replace HB:=later HB hb1;replace T:=T.keep hb1;clear t0 t1 t2 tl hb1;obtain⟨t0,t1,t2,tl⟩:=id T))
   have U:=hasQn_new W2 v A n C D m E AP np CP
   replace HB:=below_alloc HB (.cells #[.int .i64 v,.slice A n C,.slice D m E,.slice AP np CP] 73)
   clear t0 t1 t2 tl T cR cM
   generalize (W2.alloc (.cells #[.int .i64 v,.slice A n C,.slice D m E,.slice AP np CP] 73))=V3 at *
   obtain⟨u0,u1,u2,u3,ul⟩:=id U
   go_upto_region 8 with (go_at_call 65;(with_reducible refine (cS _ HB).mono ?_);rintro _ W4 ⟨⟨vb,vd,er,rfl,hS⟩,hb1⟩;replace HB:=later HB hb1;replace U:=U.keep hb1;clear u0 u1 u2 u3 ul hb1;obtain⟨u0,u1,u2,u3,ul⟩:=id U)
   rcases hS with ⟨g,h,SA,SC,rfl,rfl,rfl,hI,hR,hGd⟩ | ⟨rfl,rfl,hE⟩
   ·go_wp2_with (go_at_call 66;(with_reducible refine (cE _ HB).mono ?_);rintro _ W5 ⟨⟨vz,ez,rfl,hZ⟩,hb1⟩;replace HB:=later HB hb1)
    refine bodyPost_ret (v:=.tuple #[vz,.int .i64 ez]) (by simp [results,Tryz.results26,go_sem, *]) rfl ⟨⟨_,_,rfl,Or.inr (Or.inr (Or.inr ⟨hr,hq,hGd,hZ⟩))⟩,HB⟩
   ·have he:er≠0:=by obtain⟨k, -, -,q,rfl⟩:=hE;exact q
    have hne:(er != 0)=true:=by simp [he]
    go_wp2_with fail
    refine bodyPost_ret (v:=.tuple #[.slice none 0 0,.int .i64 er]) (by simp [results,Tryz.results26,go_sem, *]) rfl ⟨⟨_,_,rfl,Or.inr (Or.inr (Or.inl ⟨hr,hq,hE,rfl⟩))⟩,HB⟩
end Go.Proofs.YtopfabemfbdccaaGreat
