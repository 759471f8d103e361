/- orreryref14.join, whole. -/
import Derived.Test.YtbejmklkicoibaaSh
import Derived.Test.YtbejmklkicoibaaKe38
import Derived.Test.YtbejmklkicoibaaKe17
import Derived.Test.YtbejmklkicoibaaKe37
namespace Go.Proofs.Ytbejmklkicoibaa
open Go.ChangeShapes Go.WideShapes Go.ChangeAt Go.RowKit
theorem range_all_succ (f:Nat->Bool) (i:Nat):(List.range (i+1)).all f=((List.range i).all f&&f i):=by
 rw [List.range_succ,List.all_append]
 simp
theorem range_map_succ (f:Nat->Int×Int) (i:Nat):(List.range (i+1)).map f=(List.range i).map f++[f i]:=by
 rw [List.range_succ,List.map_append]
 rfl
theorem mulV11_64 (aN aD bN bD:Int):I64 (mulV11 aN aD bN bD).1/\I64 (mulV11 aN aD bN bD).2.1:=by
 by_cases h:(rightR aN aD&&rightR bN bD)=true
 ·obtain⟨h1,h2⟩:=Bool.and_eq_true_iff.1 h
  rcases mulV11_err h1 h2 with e | e
  ·exact (mulV11_ok h1 h2 (tri_ext e)).2.2
  ·have z:(mulV11 aN aD bN bD).1=0/\(mulV11 aN aD bN bD).2.1=0:=by
    unfold mulV11 at e ⊢
    rw [if_pos h] at e ⊢
    unfold ofV at e ⊢
    split at e
    ·cases e
    ·rename_i c1
     rw [if_neg c1]
     split at e
     ·cases e
     ·rename_i c2
      rw [if_neg c2]
      exact⟨rfl,rfl⟩
   rw [z.1,z.2]
   exact⟨⟨by decide,by decide⟩,⟨by decide,by decide⟩⟩
 ·unfold mulV11
  rw [if_neg h]
  exact⟨⟨by decide,by decide⟩,⟨by decide,by decide⟩⟩
theorem RtAt.cells {w:World} {b n:Nat} {X:Nat->Int×Int} (h:RtAt w (some ⟨b,0,none⟩) n X) {i:Nat} (hi:i<n):b<w.heap.size/\w.cell? ⟨b,i*2,none⟩=some (.int .i64 (X i).1)/\w.cell? ⟨b,i*2+1,none⟩=some (.int .i64 (X i).2):=by
 obtain⟨b2,e,l,c⟩:=h.at hi
 have e2:b=b2:=by injection e with e;injection e
 subst e2
 exact⟨l,c⟩
set_option maxRecDepth 4000 in
set_option maxHeartbeats 16000000 in
theorem fjoin_core (n:Nat) (AA AB:Option Addr) (CA CB:Nat) (A B:Nat->Int×Int) (a b:Nat->Int×Int) (p:Int×Int) (hn:n<=500) (hA:Dim64 A) (hB:Dim64 B) (rA:drK A 7=true) (rB:drK B 7=true) (hp:ROk p) (ha:∀u,u<n->ROk (a u)) (hb:∀u,u<n->ROk (b u)) (w:World) (ra:RtAt w AA n a) (rb:RtAt w AB n b) :
  Calls Try.prog 45 #[fmV (.slice AA n CA) A,fmV (.slice AB n CB) B,.agg #[.int .i64 p.1,.int .i64 p.2]] w fun r w'=>(∃A' C',r=.returned (.tuple #[fmV (.slice A' n C') (jD A B p),.bool (tmF A B p.1 p.2 7==0&&(List.range n).all (jB a b p))])/\RtAt w' A' n (jE a b p))/\Below w.heap.size w w':=by
 have ct:∀W,Calls Try.prog 48 #[.agg #[.int .i64 (A 0).1,.int .i64 (A 0).2,.int .i64 (A 1).1,.int .i64 (A 1).2,.int .i64 (A 2).1,.int .i64 (A 2).2,.int .i64 (A 3).1,.int .i64 (A 3).2,.int .i64 (A 4).1,.int .i64 (A 4).2,.int .i64 (A 5).1,.int .i64 (A 5).2,.int .i64 (A 6).1,.int .i64 (A 6).2],.agg #[.int .i64 (B 0).1,.int .i64 (B 0).2,.int .i64 (B 1).1,.int .i64 (B 1).2,.int .i64 (B 2).1,.int .i64 (B 2).2,.int .i64 (B 3).1,.int .i64 (B 3).2,.int .i64 (B 4).1,.int .i64 (B 4).2,.int .i64 (B 5).1,.int .i64 (B 5).2,.int .i64 (B 6).1,.int .i64 (B 6).2],.agg #[.int .i64 p.1,.int .i64 p.2]] W fun r w'=>r=.returned (.tuple #[.agg #[.int .i64 (jD A B p 0).1,.int .i64 (jD A B p 0).2,.int .i64 (jD A B p 1).1,.int .i64 (jD A B p 1).2,.int .i64 (jD A B p 2).1,.int .i64 (jD A B p 2).2,.int .i64 (jD A B p 3).1,.int .i64 (jD A B p 3).2,.int .i64 (jD A B p 4).1,.int .i64 (jD A B p 4).2,.int .i64 (jD A B p 5).1,.int .i64 (jD A B p 5).2,.int .i64 (jD A B p 6).1,.int .i64 (jD A B p 6).2],.int .i64 (tmF A B p.1 p.2 7)])/\Below W.heap.size W w':=fun W=>by
  have q:=dTimes_w A B p.1 p.2 hA hB hp.2 W
  rw [tmV_jD rA rB hp.1] at q
  exact q
 obtain⟨tf,htf⟩:∃tf,Hid (tf=tmF A B p.1 p.2 7):=⟨_,rfl⟩
 rw [<-htf.out] at ct ⊢
 have HP:Hid (ROk p):=hp
 have HA:Hid (∀u,u<n->ROk (a u)):=ha
 have HBb:Hid (∀u,u<n->ROk (b u)):=hb
 clear hA hB rA rB hp ha hb htf
 show Calls Try.prog _ #[.agg #[.slice AA n CA,.int .i64 (A 0).1,.int .i64 (A 0).2,.int .i64 (A 1).1,.int .i64 (A 1).2,.int .i64 (A 2).1,.int .i64 (A 2).2,.int .i64 (A 3).1,.int .i64 (A 3).2,.int .i64 (A 4).1,.int .i64 (A 4).2,.int .i64 (A 5).1,.int .i64 (A 5).2,.int .i64 (A 6).1,.int .i64 (A 6).2],.agg #[.slice AB n CB,.int .i64 (B 0).1,.int .i64 (B 0).2,.int .i64 (B 1).1,.int .i64 (B 1).2,.int .i64 (B 2).1,.int .i64 (B 2).2,.int .i64 (B 3).1,.int .i64 (B 3).2,.int .i64 (B 4).1,.int .i64 (B 4).2,.int .i64 (B 5).1,.int .i64 (B 5).2,.int .i64 (B 6).1,.int .i64 (B 6).2],_] w _
 obtain⟨XA,XB,XP,RB,HB⟩:=blks4 w 58 58 27 58 [.slice AA n CA,.int .i64 (A 0).1,.int .i64 (A 0).2,.int .i64 (A 1).1,.int .i64 (A 1).2,.int .i64 (A 2).1,.int .i64 (A 2).2,.int .i64 (A 3).1,.int .i64 (A 3).2,.int .i64 (A 4).1,.int .i64 (A 4).2,.int .i64 (A 5).1,.int .i64 (A 5).2,.int .i64 (A 6).1,.int .i64 (A 6).2] [.slice AB n CB,.int .i64 (B 0).1,.int .i64 (B 0).2,.int .i64 (B 1).1,.int .i64 (B 1).2,.int .i64 (B 2).1,.int .i64 (B 2).2,.int .i64 (B 3).1,.int .i64 (B 3).2,.int .i64 (B 4).1,.int .i64 (B 4).2,.int .i64 (B 5).1,.int .i64 (B 5).2,.int .i64 (B 6).1,.int .i64 (B 6).2] [.int .i64 p.1,.int .i64 p.2] [.slice none 0 0,.int .i64 0,.int .i64 0,.int .i64 0,.int .i64 0,.int .i64 0,.int .i64 0,.int .i64 0,.int .i64 0,.int .i64 0,.int .i64 0,.int .i64 0,.int .i64 0,.int .i64 0,.int .i64 0]
 go_enter Try.func45,Try.ntmps45
 go_upto_region 1 with fail
 generalize ((((w.alloc (.cells #[.slice AA n CA,.int .i64 (A 0).1,.int .i64 (A 0).2,.int .i64 (A 1).1,.int .i64 (A 1).2,.int .i64 (A 2).1,.int .i64 (A 2).2,.int .i64 (A 3).1,.int .i64 (A 3).2,.int .i64 (A 4).1,.int .i64 (A 4).2,.int .i64 (A 5).1,.int .i64 (A 5).2,.int .i64 (A 6).1,.int .i64 (A 6).2] 58)).alloc (.cells #[.slice AB n CB,.int .i64 (B 0).1,.int .i64 (B 0).2,.int .i64 (B 1).1,.int .i64 (B 1).2,.int .i64 (B 2).1,.int .i64 (B 2).2,.int .i64 (B 3).1,.int .i64 (B 3).2,.int .i64 (B 4).1,.int .i64 (B 4).2,.int .i64 (B 5).1,.int .i64 (B 5).2,.int .i64 (B 6).1,.int .i64 (B 6).2] 58)).alloc (.cells #[.int .i64 p.1,.int .i64 p.2] 27)).alloc (.cells #[.slice none 0 0,.int .i64 0,.int .i64 0,.int .i64 0,.int .i64 0,.int .i64 0,.int .i64 0,.int .i64 0,.int .i64 0,.int .i64 0,.int .i64 0,.int .i64 0,.int .i64 0,.int .i64 0,.int .i64 0] 58))=V1 at *
 have p0:=XP.cell 0 _ rfl
 have p1:=XP.cell 1 _ rfl
 replace XA:BlkAt V1 w.heap.size 58 (fmL (.slice AA n CA) A):=XA
 replace XB:BlkAt V1 (w.heap.size+1) 58 (fmL (.slice AB n CB) B):=XB
 go_upto_region 2 with (first
  | (refine wpList_loadBig (by rfl) _ 30 (by rfl) Try.underlying30 (dimL A) (by kernel_rfl) (by rfl) ((fun j c hj=>by have q:=XA.fdim j c hj;exact q)) (dim_valU A) ?_)
  | (refine wpList_loadBig (by rfl) _ 30 (by rfl) Try.underlying30 (dimL B) (by kernel_rfl) (by rfl) ((fun j c hj=>by have q:=XB.fdim j c hj;exact q)) (dim_valU B) ?_)
  | (go_at_call 48;(with_reducible refine (ct _).mono ?_);rintro _ W5 ⟨rfl,hb2⟩;replace HB:=later HB hb2;replace RB:=RB.keeps hb2;replace XA:=XA.keeps hb2;replace XB:=XB.keeps hb2;replace XP:=XP.keeps hb2;clear hb2 p0 p1)
  | (refine wpList_storeBig (by rfl) _ _ 30 (by rfl) (blk_new _ _ _) (dimL (jD A B p)) (by kernel_rfl) (by rfl) (by rfl) (by rfl) (by rfl) ?_;rintro V2 XR hs2 hB2 hk2))
 have hrb:w.heap.size+1+1+1<W5.heap.size:=RB.lt
 have grw:Below W5.heap.size W5 V2:=hB2 _ _ (Below.alloc (Below.refl _ _) (Nat.le_refl _) _) (Nat.le_refl _)
 have XD:=XR
 obtain⟨db,hdb⟩:∃db,db=W5.heap.size:=⟨_,rfl⟩
 have hdl:w.heap.size+1+1+1<db:=by omega
 rw [<-hdb] at XD ⊢
 replace HB:=later HB grw
 replace RB:=RB.keeps grw
 replace XA:=XA.keeps grw
 replace XB:=XB.keeps grw
 replace XP:=XP.keeps grw
 clear XR hB2 hk2 hs2 hdb grw hrb ct
 try simp only [Act.put]
 go_upto_region 3 with (first
  | (refine wpList_loadBig (by rfl) _ 30 (by rfl) Try.underlying30 (dimL (jD A B p)) (by kernel_rfl) (by rfl) (XD.cell0) (dim_valU (jD A B p)) ?_)
  | (refine wpList_storeBig (by rfl) _ _ 58 (by rfl) (blk_new _ _ _) (fmL (.slice none 0 0) (jD A B p)) (by kernel_rfl) (by rfl) (by rfl) (by rfl) (by rfl) ?_;rintro V3 XR hs2 hB2 hk2))
 have hdl2:db<V2.heap.size:=XD.lt
 have grw:Below V2.heap.size V2 V3:=hB2 _ _ (Below.alloc (Below.refl _ _) (Nat.le_refl _) _) (Nat.le_refl _)
 obtain⟨ob,hob⟩:∃ob,ob=V2.heap.size:=⟨_,rfl⟩
 rw [<-hob] at XR ⊢
 have T:JSt w n ob AA AB CA CB A B (jD A B p) p (.slice none 0 0) [] V3:=⟨XA.keeps grw,XB.keeps grw,XP.keeps grw,RB.keeps grw,XR,ownRt_nil _ _,later HB grw,by omega⟩
 clear XA XB XP RB XD XR HB hB2 hk2 hs2 hob grw hdl hdl2
 try simp only [Act.put]
 have x0:=T.xa.cell 0 _ rfl
 go_wp2_with fail
 go_loopg [11,33] n (fun G s11 s33 wx=>∃(i:Nat) (v:Value),i+G=n/\s33=.int .i64 (i:Int)/\s11=.bool (tf==0&&(List.range i).all (jB a b p))/\JSt w n ob AA AB CA CB A B (jD A B p) p v ((List.range i).map (jE a b p)) wx)
 case atStart =>
  exact⟨0,.slice none 0 0,by omega,rfl,by simp,T⟩
 case round =>
  clear T x0
  obtain⟨i,v,hi,rfl,rfl,T⟩:=hrel
  obtain⟨ok,hok⟩:∃ok,Hid ((tf==0&&(List.range i).all (jB a b p))=ok):=⟨_,rfl⟩
  rw [hok.out]
  by_cases ci:i=n
  ·obtain⟨A7,C7,e7, -,r7, -⟩:=T.ow.form
   have e9:((List.range i).map (jE a b p)).length=i:=by rw [List.length_map,List.length_range]
   rw [e9] at e7 r7
   subst e7
   subst ci
   have hok2:Hid (ok=(tf==0&&(List.range i).all (jB a b p))):=hok.out.symm
   clear hok
   have r8:RtAt wr A7 i (jE a b p):=r7.congr fun u hu=>by
    rw [List.getD_eq_getElem?_getD,List.getElem?_map,List.getElem?_range hu]
    rfl
   clear r7 e9
   go_wp2_with (first
    | (refine wpList_loadBig (by rfl) _ 58 (by rfl) Try.underlying58 (fmL (.slice A7 i C7) (jD A B p)) (by kernel_rfl) (by rfl) (T.xo.cell0) (fm_val _ _) ?_)
    | (refine wpList_storeBig (by rfl) _ _ 58 (by rfl) (T.rb) (fmL (.slice A7 i C7) (jD A B p)) (by kernel_rfl) (by rfl) (by rfl) (by rfl) (by rfl) ?_;rintro V9 XR hs2 hB2 hk2))
   have r9:=r8.other T.rb (by decide) hk2
   exact bodyPost_ret (v:=.tuple #[fmV (.slice A7 i C7) (jD A B p),.bool ok]) (results_cell_tmp Try.results45 _ V9 (w.heap.size+1+1+1) 58 (fmL (.slice A7 i C7) (jD A B p)).toArray (0,0) _ (by rfl) XR Try.underlying58 (by rfl) (by kernel_rfl) (by rfl)) rfl ⟨⟨A7,C7,by rw [hok2.out],r9⟩,hB2 _ _ T.hb (by omega)⟩
  ·have hin:i<n:=by omega
   have hlt:(i:Int)<(n:Int):=by omega
   obtain⟨ab,eA,lA,a0,a1⟩:=(ra.keep T.hb).at hin
   obtain⟨bb,eB,lB,b0,b1⟩:=(rb.keep T.hb).at hin
   subst eA eB
   have x0:=T.xb.cell 0 _ rfl
   have ho1:ob+1<=wr.heap.size:=T.xo.lt
   by_cases cz:(b i).1=0
   ·have hj:jE a b p i=a i:=if_pos cz
    have hokk:Hid ((tf==0&&(List.range (i+1)).all (jB a b p))=ok):=by
     show _=_
     rw [range_all_succ,show jB a b p i=true by unfold jB;rw [cz];rfl,Bool.and_true]
     exact hok.out
    rw [cz] at b0
    replace cz:Hid ((b i).1=0):=cz
    go_upto_region 8 with fail
    have y0:=T.xo.cell 0 _ rfl
    have z0:=T.xa.cell 0 _ rfl
    refine held_tail 9 (fun W=>W.cell? ⟨ob,0,none⟩=some v/\W.cell? ⟨w.heap.size,0,none⟩=some (.slice (some ⟨ab,0,none⟩) n CA)/\W.cell? ⟨ab,i*2,none⟩=some (.int .i64 (a i).1)/\W.cell? ⟨ab,i*2+1,none⟩=some (.int .i64 (a i).2)) (by kernel_rfl) (by kernel_rfl) ⟨y0,z0,a0,a1⟩ (fun hHeld=>?_)
    simp only [List.take_succ_cons,List.take_zero,List.drop_succ_cons,List.drop_zero]
    refine tk (v:=?_) 0 rfl ?_ hHeld ?_;rotate_left;(focus ((intro w hSw;(try dsimp only at hSw);go_simp);try with_reducible rfl));simp only[gA,gB,Act.put,gD,gE,gF];refine tk (v:=?_) 1 rfl ?_ hHeld ?_;rotate_left;(focus ((intro w hSw;(try dsimp only at hSw);go_simp);try with_reducible rfl));simp only[gA,gB,gC,Act.put,gD,gE,gF];refine tk (v:=?_) 2 rfl ?_ hHeld ?_;rotate_left;(focus ((intro w hSw;(try dsimp only at hSw);go_simp);try with_reducible rfl));simp only[gA,gB,gC,Act.put,gD,gE,gF];refine tk (v:=?_) 3 rfl ?_ hHeld ?_;rotate_left;(focus ((intro w hSw;(try dsimp only at hSw);go_simp);try with_reducible rfl));simp only[gA,gB,gC,Act.put,gD,gE,gF];refine tk (v:=?_) 4 rfl ?_ hHeld ?_;rotate_left;(focus ((intro w hSw;(try dsimp only at hSw);go_simp);try with_reducible rfl));simp only[gA,gB,gC,Act.put,gD,gE,gF];refine tk (v:=?_) 5 rfl ?_ hHeld ?_;rotate_left;(focus ((intro w hSw;(try dsimp only at hSw);go_simp);try with_reducible rfl));simp only[gA,gB,gC,Act.put,gD,gE,gF];refine tk (v:=?_) 6 rfl ?_ hHeld ?_;rotate_left;(focus ((intro w hSw;(try dsimp only at hSw);go_simp);try with_reducible rfl));simp only[gA,gB,gC,Act.put,gD,gE,gF]
    have HD0:Below wr.heap.size wr wr.drew:=(Below.refl _ _).drew
    replace T:=T.keep HD0
    replace a0:=keepsC HD0 a0 lA
    replace a1:=keepsC HD0 a1 lA
    replace lA:=Nat.lt_of_lt_of_le lA HD0.size
    replace ho1:=Nat.le_trans ho1 HD0.size
    clear HD0 x0 y0 z0 b0 b1
    generalize wr.drew=V4 at *
    refine rd 7 rfl (fun K hK=>?_);simp only[gA,gB,gC,Act.put,gD,gE,gF];go_simp
    have nb:BlkAt (V4.alloc (.cells #[.int .i64 (a i).1,.int .i64 (a i).2] 27)) V4.heap.size 27 [.int .i64 (a i).1,.int .i64 (a i).2]:=blk_new _ _ _
    have hb1:Below V4.heap.size V4 (V4.alloc (.cells #[.int .i64 (a i).1,.int .i64 (a i).2] 27)):=Below.alloc (Below.refl _ _) (Nat.le_refl _) _
    replace T:=T.keep hb1
    replace a0:=keepsC hb1 a0 lA
    replace a1:=keepsC hb1 a1 lA
    replace lA:=Nat.lt_of_lt_of_le lA hb1.size
    replace ho1:=Nat.le_trans ho1 hb1.size
    clear hb1
    refine hK.out _ _ ⟨T.xo.cell 0 _ rfl,T.xa.cell 0 _ rfl,a0,a1⟩ (fun hHeld=>?_)
    clear hK K
    generalize V4.alloc (.cells #[.int .i64 (a i).1,.int .i64 (a i).2] 27)=W7 at *
    generalize V4.heap.size=nbk at *
    refine rd 8 rfl (fun K hK=>?_)
    refine step_catRt (by rfl) _ _ (by rfl) v ((List.range i).map (jE a b p)) (a i) nbk (by rfl) (by rfl) T.ow nb (by rw [List.length_map,List.length_range];omega) ho1 ?_
    clear hHeld a0 a1
    rintro v' w8 I8 hb8 hW8 hs8
    have T8:=T.grown I8 hb8
    have xo8:=T.xo.keep hb8 (Nat.lt_succ_self ob)
    refine hK.out _ _ ⟨T.xo.keep hb8 (Nat.lt_succ_self ob) |>.cell 0 _ rfl,T.xa.keep hb8 (by have:=T.lo;omega) |>.cell 0 _ rfl,((ra.keep (T.hb.trans (hb8.mono (by have:=T.lo;omega)))).cells hin).2⟩ (fun _=>wpAnyH_done (by kernel_rfl) ?_ _)
    clear hK K
    obtain⟨A8,C8,e8, -⟩:=I8.form
    have e9:(((List.range i).map (jE a b p))++[a i]).length=i+1:=by rw [List.length_append,List.length_map,List.length_range];rfl
    rw [e9] at e8
    subst e8
    have y0:=xo8.cell 0 _ rfl
    have fz:=xo8.froz 0
    have hxl:=xo8.lt
    show wpList _ _ _ _ _ _
    go_wp2_with fail
    go_roundg (n-i-1)
    case measure=>omega
    case rel=>exact⟨i+1,_,by omega,by go_num,by rw [hokk.out],by rw [range_map_succ,hj];exact T8⟩
   ·have hj:jE a b p i=((addV11 (a i).1 (a i).2 (mulV11 (b i).1 (b i).2 p.1 p.2).1 (mulV11 (b i).1 (b i).2 p.1 p.2).2.1).1,(addV11 (a i).1 (a i).2 (mulV11 (b i).1 (b i).2 p.1 p.2).1 (mulV11 (b i).1 (b i).2 p.1 p.2).2.1).2.1):=if_neg cz
    have hjb:jB a b p i=((mulV11 (b i).1 (b i).2 p.1 p.2).2.2==0&&(addV11 (a i).1 (a i).2 (mulV11 (b i).1 (b i).2 p.1 p.2).1 (mulV11 (b i).1 (b i).2 p.1 p.2).2.1).2.2==0):=by unfold jB;rw [beq_eq_false_iff_ne.2 cz,Bool.false_or]
    have cm:=fun W=>mul11_w (b i).1 (b i).2 p.1 p.2 (HBb.out i hin).2 HP.out.2 W
    have ma:=mulV11_64 (b i).1 (b i).2 p.1 p.2
    obtain⟨mN,mD,me,hm⟩:∃x y z,mulV11 (b i).1 (b i).2 p.1 p.2=(x,y,z):=⟨_,_,_,rfl⟩
    rw [hm] at cm ma hj hjb
    have ca:=fun W=>add11_w (a i).1 (a i).2 mN mD (HA.out i hin).2 ma W
    obtain⟨sN,sD,se,hs⟩:∃x y z,addV11 (a i).1 (a i).2 mN mD=(x,y,z):=⟨_,_,_,rfl⟩
    dsimp only at hj hjb
    rw [hs] at ca hj hjb
    dsimp only at hj hjb ca cm
    have hj2:Hid (jE a b p i=(sN,sD)):=hj
    have hokk:Hid ((tf==0&&(List.range (i+1)).all (jB a b p))=(ok&&(me==0&&se==0))):=by
     show _=_
     rw [range_all_succ,hjb,<-Bool.and_assoc,hok.out]
    have cz':((b i).1==0)=false:=beq_eq_false_iff_ne.2 cz
    clear hj hjb ma hm hs hok
    go_upto_region 9 with fail
    clear x0 b0 b1 a0 a1 lA lB
    generalize wr=V2 at *
    go_cut [13,14] from 53 to 62 (fun s13 s14 wx=>∃xb,s13=.pointer (some ⟨xb,0,none⟩)/\s14=.int .i64 me/\ob<xb/\JSt w n ob (some ⟨ab,0,none⟩) (some ⟨bb,0,none⟩) CA CB A B (jD A B p) p v ((List.range i).map (jE a b p)) wx/\BlkAt wx xb 27 [.int .i64 mN,.int .i64 mD])
    case first =>
     have hJ:∀W W',JSt w n ob (some ⟨ab,0,none⟩) (some ⟨bb,0,none⟩) CA CB A B (jD A B p) p v ((List.range i).map (jE a b p)) W->Below W.heap.size W W'->JSt w n ob (some ⟨ab,0,none⟩) (some ⟨bb,0,none⟩) CA CB A B (jD A B p) p v ((List.range i).map (jE a b p)) W':=fun W W' h k=>h.keep k
     have hJl:∀W,JSt w n ob (some ⟨ab,0,none⟩) (some ⟨bb,0,none⟩) CA CB A B (jD A B p) p v ((List.range i).map (jE a b p)) W->ob<W.heap.size:=fun W h=>h.xo.lt
     have hS:∀W,JSt w n ob (some ⟨ab,0,none⟩) (some ⟨bb,0,none⟩) CA CB A B (jD A B p) p v ((List.range i).map (jE a b p)) W->(fun W=>W.cell? ⟨w.heap.size+1,0,none⟩=some (.slice (some ⟨bb,0,none⟩) n CB)/\W.cell? ⟨bb,i*2,none⟩=some (.int .i64 (b i).1)/\W.cell? ⟨bb,i*2+1,none⟩=some (.int .i64 (b i).2)/\W.cell? ⟨w.heap.size+1+1,0,none⟩=some (.int .i64 p.1)/\W.cell? ⟨w.heap.size+1+1,1,none⟩=some (.int .i64 p.2)) W:=fun W h=>⟨h.xb.cell 0 _ rfl,((rb.keep h.hb).cells hin).2.1,((rb.keep h.hb).cells hin).2.2,h.xp.cell 0 _ rfl,h.xp.cell 1 _ rfl⟩
     have HD:Below V2.heap.size V2 V2.drew:=(Below.refl _ _).drew
     refine wp_region_held_drew (S:=fun W=>W.cell? ⟨w.heap.size+1,0,none⟩=some (.slice (some ⟨bb,0,none⟩) n CB)/\W.cell? ⟨bb,i*2,none⟩=some (.int .i64 (b i).1)/\W.cell? ⟨bb,i*2+1,none⟩=some (.int .i64 (b i).2)/\W.cell? ⟨w.heap.size+1+1,0,none⟩=some (.int .i64 p.1)/\W.cell? ⟨w.heap.size+1+1,1,none⟩=some (.int .i64 p.2)) (by kernel_rfl) (hS _ (hJ _ _ T HD)) (fun hHeld=>?_)
     replace T:=hJ _ _ T HD
     clear HD
     generalize V2.drew=V4 at *
     refine tk (v:=?_) 0 rfl ?_ hHeld ?_;rotate_left;(focus ((intro w hSw;(try dsimp only at hSw);go_simp);try with_reducible rfl));simp only[gA,gB,Act.put,gD,gE,gF];refine tk (v:=?_) 1 rfl ?_ hHeld ?_;rotate_left;(focus ((intro w hSw;(try dsimp only at hSw);go_simp);try with_reducible rfl));simp only[gA,gB,gC,Act.put,gD,gE,gF];refine tk (v:=?_) 2 rfl ?_ hHeld ?_;rotate_left;(focus ((intro w hSw;(try dsimp only at hSw);go_simp);try with_reducible rfl));simp only[gA,gB,gC,Act.put,gD,gE,gF];refine tk (v:=?_) 3 rfl ?_ hHeld ?_;rotate_left;(focus ((intro w hSw;(try dsimp only at hSw);go_simp);try with_reducible rfl));simp only[gA,gB,gC,Act.put,gD,gE,gF];refine tk (v:=?_) 4 rfl ?_ hHeld ?_;rotate_left;(focus ((intro w hSw;(try dsimp only at hSw);go_simp);try with_reducible rfl));simp only[gA,gB,gC,Act.put,gD,gE,gF];refine tk (v:=?_) 5 rfl ?_ hHeld ?_;rotate_left;(focus ((intro w hSw;(try dsimp only at hSw);go_simp);try with_reducible rfl));simp only[gA,gB,gC,Act.put,gD,gE,gF]
     refine wpAnyH_ready (rs:=[6,10]) (by kernel_rfl) (by simp) ?_
     refine AllReadyH.cons rfl (fun K hK=>?_) (AllReadyH.cons rfl (fun K hK=>?_) AllReadyH.nil)
     ·simp only[gA,gB,gC,Act.put,gD,gE,gF]
      go_simp
      go_at_call 70
      (with_reducible refine (cm _).mono ?_)
      rintro _ W1 ⟨rfl,hb1⟩
      replace T:=hJ _ _ T hb1
      clear hb1
      dsimp only
      refine hK.out _ _ (hS _ T) (fun hHeld=>?_)
      clear hK K
      refine tk (v:=?_) 7 rfl ?_ hHeld ?_;rotate_left;(focus ((intro w hSw;(try dsimp only at hSw);go_simp);try with_reducible rfl));simp only[gA,gB,gC,Act.put,gD,gE,gF];refine tk (v:=?_) 8 rfl ?_ hHeld ?_;rotate_left;(focus ((intro w hSw;(try dsimp only at hSw);go_simp);try with_reducible rfl));simp only[gA,gB,gC,Act.put,gD,gE,gF];refine tk (v:=?_) 9 rfl ?_ hHeld ?_;rotate_left;(focus ((intro w hSw;(try dsimp only at hSw);go_simp);try with_reducible rfl));simp only[gA,gB,gC,Act.put,gD,gE,gF]
      refine rd 10 rfl (fun K hK=>?_);simp only[gA,gB,gC,Act.put,gD,gE,gF];go_simp
      have hg:Below W1.heap.size W1 (W1.alloc (.cells #[.int .i64 0,.int .i64 0] 27)):=Below.alloc (Below.refl _ _) (Nat.le_refl _) _
      have nb:BlkAt (W1.alloc (.cells #[.int .i64 0,.int .i64 0] 27)) W1.heap.size 27 [.int .i64 0,.int .i64 0]:=blk_new _ _ _
      refine hK.out _ _ (hS _ (hJ _ _ T hg)) (fun hHeld=>?_)
      clear hK K
      refine rd 11 rfl (fun K hK=>?_)
      refine step_storeBig (by rfl) _ _ 27 (by rfl) nb ([.int .i64 mN,.int .i64 mD]) (by kernel_rfl) (by rfl) (by rfl) (by rfl) (by rfl) ?_
      rintro V5 XR hs2 hB2 -
      have hb2:Below W1.heap.size W1 V5:=hB2 _ _ hg (Nat.le_refl _)
      obtain⟨nbk,hnbk⟩:∃nbk,nbk=W1.heap.size:=⟨_,rfl⟩
      have hnl:=hJl _ T
      rw [<-hnbk] at XR hnl ⊢
      replace T:=hJ _ _ T hb2
      refine hK.out _ _ (hS _ T) (fun hHeld=>?_)
      clear hK K
      refine tk (v:=?_) 12 rfl ?_ hHeld ?_;rotate_left;(focus ((intro w hSw;(try dsimp only at hSw);go_simp);try with_reducible rfl));simp only[gA,gB,gC,Act.put,gD,gE,gF]
      refine wpAnyH_done (by kernel_rfl) ?_ _
      clear hb2 hB2 hs2 nb hg hnbk
      go_wp2_with fail
      go_meet
      case rel=>exact⟨nbk,rfl,rfl,hnl,T,XR⟩
     ·simp only[gA,gB,gC,Act.put,gD,gE,gF]
      go_simp
      have hg:Below V4.heap.size V4 (V4.alloc (.cells #[.int .i64 0,.int .i64 0] 27)):=Below.alloc (Below.refl _ _) (Nat.le_refl _) _
      have nb:BlkAt (V4.alloc (.cells #[.int .i64 0,.int .i64 0] 27)) V4.heap.size 27 [.int .i64 0,.int .i64 0]:=blk_new _ _ _
      refine hK.out _ _ (hS _ (hJ _ _ T hg)) (fun hHeld=>?_)
      clear hK K
      refine rd 6 rfl (fun K hK=>?_);simp only[gA,gB,gC,Act.put,gD,gE,gF];go_simp
      go_at_call 70
      (with_reducible refine (cm _).mono ?_)
      rintro _ W1 ⟨rfl,hb1⟩
      have hh:Below V4.heap.size V4 W1:=hg.trans (hb1.mono (by rw [World.size_alloc];omega))
      replace nb:=nb.keeps hb1
      clear hb1
      dsimp only
      refine hK.out _ _ (hS _ (hJ _ _ T hh)) (fun hHeld=>?_)
      clear hK K
      refine tk (v:=?_) 7 rfl ?_ hHeld ?_;rotate_left;(focus ((intro w hSw;(try dsimp only at hSw);go_simp);try with_reducible rfl));simp only[gA,gB,gC,Act.put,gD,gE,gF];refine tk (v:=?_) 8 rfl ?_ hHeld ?_;rotate_left;(focus ((intro w hSw;(try dsimp only at hSw);go_simp);try with_reducible rfl));simp only[gA,gB,gC,Act.put,gD,gE,gF];refine tk (v:=?_) 9 rfl ?_ hHeld ?_;rotate_left;(focus ((intro w hSw;(try dsimp only at hSw);go_simp);try with_reducible rfl));simp only[gA,gB,gC,Act.put,gD,gE,gF]
      refine rd 11 rfl (fun K hK=>?_)
      refine step_storeBig (by rfl) _ _ 27 (by rfl) nb ([.int .i64 mN,.int .i64 mD]) (by kernel_rfl) (by rfl) (by rfl) (by rfl) (by rfl) ?_
      rintro V5 XR hs2 hB2 -
      have hb2:Below V4.heap.size V4 V5:=hB2 _ _ hh (Nat.le_refl _)
      obtain⟨nbk,hnbk⟩:∃nbk,nbk=V4.heap.size:=⟨_,rfl⟩
      have hnl:=hJl _ T
      rw [<-hnbk] at XR hnl ⊢
      replace T:=hJ _ _ T hb2
      refine hK.out _ _ (hS _ T) (fun hHeld=>?_)
      clear hK K
      refine tk (v:=?_) 12 rfl ?_ hHeld ?_;rotate_left;(focus ((intro w hSw;(try dsimp only at hSw);go_simp);try with_reducible rfl));simp only[gA,gB,gC,Act.put,gD,gE,gF]
      refine wpAnyH_done (by kernel_rfl) ?_ _
      clear hb2 hB2 hs2 nb hg hh hnbk
      go_wp2_with fail
      go_meet
      case rel=>exact⟨nbk,rfl,rfl,hnl,T,XR⟩
    case rest =>
    clear T ho1
    obtain⟨xb,rfl,rfl,hxb,T,XX⟩:=hcut
    go_upto_region 10 with fail
    generalize wc=V2 at *
    go_cut [15,16] from 63 to 72 (fun s15 s16 wx=>∃yb,s15=.pointer (some ⟨yb,0,none⟩)/\s16=.int .i64 se/\ob<yb/\JSt w n ob (some ⟨ab,0,none⟩) (some ⟨bb,0,none⟩) CA CB A B (jD A B p) p v ((List.range i).map (jE a b p)) wx/\BlkAt wx yb 27 [.int .i64 sN,.int .i64 sD])
    case first =>
     have hJ:∀W W',(JSt w n ob (some ⟨ab,0,none⟩) (some ⟨bb,0,none⟩) CA CB A B (jD A B p) p v ((List.range i).map (jE a b p)) W/\BlkAt W xb 27 [.int .i64 mN,.int .i64 mD])->Below W.heap.size W W'->(JSt w n ob (some ⟨ab,0,none⟩) (some ⟨bb,0,none⟩) CA CB A B (jD A B p) p v ((List.range i).map (jE a b p)) W'/\BlkAt W' xb 27 [.int .i64 mN,.int .i64 mD]):=fun W W' h k=>⟨h.1.keep k,h.2.keeps k⟩
     have hJl:∀W,(JSt w n ob (some ⟨ab,0,none⟩) (some ⟨bb,0,none⟩) CA CB A B (jD A B p) p v ((List.range i).map (jE a b p)) W/\BlkAt W xb 27 [.int .i64 mN,.int .i64 mD])->ob<W.heap.size:=fun W h=>h.1.xo.lt
     have hS:∀W,(JSt w n ob (some ⟨ab,0,none⟩) (some ⟨bb,0,none⟩) CA CB A B (jD A B p) p v ((List.range i).map (jE a b p)) W/\BlkAt W xb 27 [.int .i64 mN,.int .i64 mD])->(fun W=>W.cell? ⟨w.heap.size,0,none⟩=some (.slice (some ⟨ab,0,none⟩) n CA)/\W.cell? ⟨ab,i*2,none⟩=some (.int .i64 (a i).1)/\W.cell? ⟨ab,i*2+1,none⟩=some (.int .i64 (a i).2)/\W.cell? ⟨xb,0,none⟩=some (.int .i64 mN)/\W.cell? ⟨xb,1,none⟩=some (.int .i64 mD)) W:=fun W h=>⟨h.1.xa.cell 0 _ rfl,((ra.keep h.1.hb).cells hin).2.1,((ra.keep h.1.hb).cells hin).2.2,h.2.cell 0 _ rfl,h.2.cell 1 _ rfl⟩
     replace T:=And.intro T XX
     clear XX
     have HD:Below V2.heap.size V2 V2.drew:=(Below.refl _ _).drew
     refine wp_region_held_drew (S:=fun W=>W.cell? ⟨w.heap.size,0,none⟩=some (.slice (some ⟨ab,0,none⟩) n CA)/\W.cell? ⟨ab,i*2,none⟩=some (.int .i64 (a i).1)/\W.cell? ⟨ab,i*2+1,none⟩=some (.int .i64 (a i).2)/\W.cell? ⟨xb,0,none⟩=some (.int .i64 mN)/\W.cell? ⟨xb,1,none⟩=some (.int .i64 mD)) (by kernel_rfl) (hS _ (hJ _ _ T HD)) (fun hHeld=>?_)
     replace T:=hJ _ _ T HD
     clear HD
     generalize V2.drew=V4 at *
     refine tk (v:=?_) 0 rfl ?_ hHeld ?_;rotate_left;(focus ((intro w hSw;(try dsimp only at hSw);go_simp);try with_reducible rfl));simp only[gA,gB,Act.put,gD,gE,gF];refine tk (v:=?_) 1 rfl ?_ hHeld ?_;rotate_left;(focus ((intro w hSw;(try dsimp only at hSw);go_simp);try with_reducible rfl));simp only[gA,gB,gC,Act.put,gD,gE,gF];refine tk (v:=?_) 2 rfl ?_ hHeld ?_;rotate_left;(focus ((intro w hSw;(try dsimp only at hSw);go_simp);try with_reducible rfl));simp only[gA,gB,gC,Act.put,gD,gE,gF];refine tk (v:=?_) 3 rfl ?_ hHeld ?_;rotate_left;(focus ((intro w hSw;(try dsimp only at hSw);go_simp);try with_reducible rfl));simp only[gA,gB,gC,Act.put,gD,gE,gF];refine tk (v:=?_) 4 rfl ?_ hHeld ?_;rotate_left;(focus ((intro w hSw;(try dsimp only at hSw);go_simp);try with_reducible rfl));simp only[gA,gB,gC,Act.put,gD,gE,gF];refine tk (v:=?_) 5 rfl ?_ hHeld ?_;rotate_left;(focus ((intro w hSw;(try dsimp only at hSw);go_simp);try with_reducible rfl));simp only[gA,gB,gC,Act.put,gD,gE,gF]
     refine wpAnyH_ready (rs:=[6,10]) (by kernel_rfl) (by simp) ?_
     refine AllReadyH.cons rfl (fun K hK=>?_) (AllReadyH.cons rfl (fun K hK=>?_) AllReadyH.nil)
     ·simp only[gA,gB,gC,Act.put,gD,gE,gF]
      go_simp
      go_at_call 71
      (with_reducible refine (ca _).mono ?_)
      rintro _ W1 ⟨rfl,hb1⟩
      replace T:=hJ _ _ T hb1
      clear hb1
      dsimp only
      refine hK.out _ _ (hS _ T) (fun hHeld=>?_)
      clear hK K
      refine tk (v:=?_) 7 rfl ?_ hHeld ?_;rotate_left;(focus ((intro w hSw;(try dsimp only at hSw);go_simp);try with_reducible rfl));simp only[gA,gB,gC,Act.put,gD,gE,gF];refine tk (v:=?_) 8 rfl ?_ hHeld ?_;rotate_left;(focus ((intro w hSw;(try dsimp only at hSw);go_simp);try with_reducible rfl));simp only[gA,gB,gC,Act.put,gD,gE,gF];refine tk (v:=?_) 9 rfl ?_ hHeld ?_;rotate_left;(focus ((intro w hSw;(try dsimp only at hSw);go_simp);try with_reducible rfl));simp only[gA,gB,gC,Act.put,gD,gE,gF]
      refine rd 10 rfl (fun K hK=>?_);simp only[gA,gB,gC,Act.put,gD,gE,gF];go_simp
      have hg:Below W1.heap.size W1 (W1.alloc (.cells #[.int .i64 0,.int .i64 0] 27)):=Below.alloc (Below.refl _ _) (Nat.le_refl _) _
      have nb:BlkAt (W1.alloc (.cells #[.int .i64 0,.int .i64 0] 27)) W1.heap.size 27 [.int .i64 0,.int .i64 0]:=blk_new _ _ _
      refine hK.out _ _ (hS _ (hJ _ _ T hg)) (fun hHeld=>?_)
      clear hK K
      refine rd 11 rfl (fun K hK=>?_)
      refine step_storeBig (by rfl) _ _ 27 (by rfl) nb ([.int .i64 sN,.int .i64 sD]) (by kernel_rfl) (by rfl) (by rfl) (by rfl) (by rfl) ?_
      rintro V5 XR hs2 hB2 -
      have hb2:Below W1.heap.size W1 V5:=hB2 _ _ hg (Nat.le_refl _)
      obtain⟨nbk,hnbk⟩:∃nbk,nbk=W1.heap.size:=⟨_,rfl⟩
      have hnl:=hJl _ T
      rw [<-hnbk] at XR hnl ⊢
      replace T:=hJ _ _ T hb2
      refine hK.out _ _ (hS _ T) (fun hHeld=>?_)
      clear hK K
      refine tk (v:=?_) 12 rfl ?_ hHeld ?_;rotate_left;(focus ((intro w hSw;(try dsimp only at hSw);go_simp);try with_reducible rfl));simp only[gA,gB,gC,Act.put,gD,gE,gF]
      refine wpAnyH_done (by kernel_rfl) ?_ _
      clear hb2 hB2 hs2 nb hg hnbk
      go_wp2_with fail
      go_meet
      case rel=>exact⟨nbk,rfl,rfl,hnl,T.1,XR⟩
     ·simp only[gA,gB,gC,Act.put,gD,gE,gF]
      go_simp
      have hg:Below V4.heap.size V4 (V4.alloc (.cells #[.int .i64 0,.int .i64 0] 27)):=Below.alloc (Below.refl _ _) (Nat.le_refl _) _
      have nb:BlkAt (V4.alloc (.cells #[.int .i64 0,.int .i64 0] 27)) V4.heap.size 27 [.int .i64 0,.int .i64 0]:=blk_new _ _ _
      refine hK.out _ _ (hS _ (hJ _ _ T hg)) (fun hHeld=>?_)
      clear hK K
      refine rd 6 rfl (fun K hK=>?_);simp only[gA,gB,gC,Act.put,gD,gE,gF];go_simp
      go_at_call 71
      (with_reducible refine (ca _).mono ?_)
      rintro _ W1 ⟨rfl,hb1⟩
      have hh:Below V4.heap.size V4 W1:=hg.trans (hb1.mono (by rw [World.size_alloc];omega))
      replace nb:=nb.keeps hb1
      clear hb1
      dsimp only
      refine hK.out _ _ (hS _ (hJ _ _ T hh)) (fun hHeld=>?_)
      clear hK K
      refine tk (v:=?_) 7 rfl ?_ hHeld ?_;rotate_left;(focus ((intro w hSw;(try dsimp only at hSw);go_simp);try with_reducible rfl));simp only[gA,gB,gC,Act.put,gD,gE,gF];refine tk (v:=?_) 8 rfl ?_ hHeld ?_;rotate_left;(focus ((intro w hSw;(try dsimp only at hSw);go_simp);try with_reducible rfl));simp only[gA,gB,gC,Act.put,gD,gE,gF];refine tk (v:=?_) 9 rfl ?_ hHeld ?_;rotate_left;(focus ((intro w hSw;(try dsimp only at hSw);go_simp);try with_reducible rfl));simp only[gA,gB,gC,Act.put,gD,gE,gF]
      refine rd 11 rfl (fun K hK=>?_)
      refine step_storeBig (by rfl) _ _ 27 (by rfl) nb ([.int .i64 sN,.int .i64 sD]) (by kernel_rfl) (by rfl) (by rfl) (by rfl) (by rfl) ?_
      rintro V5 XR hs2 hB2 -
      have hb2:Below V4.heap.size V4 V5:=hB2 _ _ hh (Nat.le_refl _)
      obtain⟨nbk,hnbk⟩:∃nbk,nbk=V4.heap.size:=⟨_,rfl⟩
      have hnl:=hJl _ T
      rw [<-hnbk] at XR hnl ⊢
      replace T:=hJ _ _ T hb2
      refine hK.out _ _ (hS _ T) (fun hHeld=>?_)
      clear hK K
      refine tk (v:=?_) 12 rfl ?_ hHeld ?_;rotate_left;(focus ((intro w hSw;(try dsimp only at hSw);go_simp);try with_reducible rfl));simp only[gA,gB,gC,Act.put,gD,gE,gF]
      refine wpAnyH_done (by kernel_rfl) ?_ _
      clear hb2 hB2 hs2 nb hg hh hnbk
      go_wp2_with fail
      go_meet
      case rel=>exact⟨nbk,rfl,rfl,hnl,T.1,XR⟩
    case rest =>
    clear T XX
    obtain⟨yb,rfl,rfl,hyb,T,YY⟩:=hcut
    go_upto_region 11 with fail
    go_cut [11] from 73 to 81 (fun s11 wx=>s11=.bool (ok&&(me==0&&se==0))/\wx=wc)
    case first =>
     cases ok with
     | false =>
      go_wp2_with fail
      go_meet
      case rel=>exact⟨rfl,rfl⟩
     | true =>
      by_cases c1:me=0
      ·subst c1
       by_cases c2:se=0
       ·subst c2
        go_wp2_with fail
        go_meet
        case rel=>exact⟨rfl,rfl⟩
       ·have c3:(se==0)=false:=beq_eq_false_iff_ne.2 c2
        go_wp2_with fail
        go_meet
        case rel=>exact⟨by rw [c3];rfl,rfl⟩
      ·have c3:(me==0)=false:=beq_eq_false_iff_ne.2 c1
       go_wp2_with fail
       go_meet
       case rel=>exact⟨by rw [c3];rfl,rfl⟩
    case rest =>
    obtain⟨rfl,rfl⟩:=hcut
    have ho1:ob+1<=wc.heap.size:=T.xo.lt
    go_upto_region 12 with fail
    have y0:=T.xo.cell 0 _ rfl
    have y1:=YY.cell 0 _ rfl
    have y2:=YY.cell 1 _ rfl
    have hL2:Hid (((List.range i).map (jE a b p)).length<=2000000):=by show _<=_;rw [List.length_map,List.length_range];omega
    go_wp2_with (at_builtin;refine wpList_catRt (B:=ob+1) (by rfl) _ _ (by rfl) v ((List.range i).map (jE a b p)) (sN,sD) _ (by rfl) (by rfl) (T.ow.keep (by go_grown)) (blk_new _ _ _) hL2.out (by rw [World.size_alloc];omega) ?_;rintro v' w8 I8 hb7 hW8 hs8;have hb8:Below (ob+1) wc w8:=(Below.alloc (Below.refl _ _) ho1 _).trans hb7;have T8:=T.grown I8 hb8;have xo8:=T.xo.keep hb8 (Nat.lt_succ_self ob);obtain⟨A8,C8,e8, -⟩:=I8.form;have e9:(((List.range i).map (jE a b p))++[(sN,sD)]).length=i+1:=(by rw [List.length_append,List.length_map,List.length_range];rfl);rw [e9] at e8;subst e8;clear y0;have y0:=xo8.cell 0 _ rfl;have fz:=xo8.froz 0;have hxl:=xo8.lt)
    go_roundg (n-i-1)
    case measure=>omega
    case rel=>exact⟨i+1,_,by omega,by go_num,by rw [hokk.out],by rw [range_map_succ,hj2.out];exact T8⟩
end Go.Proofs.Ytbejmklkicoibaa
