/- taylor: Coefs of a field of one variable, whole. -/
import Derived.Test.YtgfppdboogldlaaGreatZs38
namespace Go.Proofs.YtgfppdboogldlaaGreat
open Go.ChangeShapes Go.WideShapes Go.ChangeAt Go.RowKit
set_option maxHeartbeats 4000000 in
set_option maxRecDepth 4000 in
theorem tcoefs_w (n:Nat) (hn:n≤1000) (ab ao aC ob oo oC xb xo cx t order:Nat) (ho:order≤20) (ht:t<n) (Z:Nat→Opw) (X Kn:Nat→Nat×Nat) (V:Nat→Nat→Nat×Nat) (w:World) (I:Ivs w (some ⟨xb,xo,none⟩) 1 (fun _=>X 0))
   (hKd:∀j,j<n→(Z j).k=2∨(Z j).k=5) (hZ:∀k,k<order→∀j,j<n→SqOp Z X V k j) (hV:∀i k,W2 (V i k)) (hX:∀k,W2 (X k)) (he:∀k,k<order→∀j,j<n→endB (V j k)=false)
   (ck:∀k:Nat,k<order→∀w,Calls Tryz.prog 98 #[.float .f64 (floatOfInt .f64 ((k:Int)+1))] w fun e w'=>e=.returned (.agg #[.float .f64 (Kn k).1,.float .f64 (Kn k).2])∧Below w.heap.size w w') (cv:∀k,k<order→∀w,Calls Tryz.prog 142 #[.agg #[.float .f64 (V t k).1,.float .f64 (V t k).2],.agg #[.float .f64 (Kn k).1,.float .f64 (Kn k).2]] w fun e w'=>e=.returned (.agg #[.float .f64 (X (k+1)).1,.float .f64 (X (k+1)).2])∧Below w.heap.size w w')
   (hr:rightT 1 n Z 1 (fun _=>(t:Int))=true) (h0:hsB (X 0).1 (X 0).2=true) (h1:endB (X 0)=false)
   (O:Ops w (some ⟨ab,ao,none⟩) n Z) (D:Ins w (some ⟨ob,oo,none⟩) 1 (fun _=>(t:Int))) (lo:ob<w.heap.size) (co:w.cell? ⟨ob,oo,none⟩=some (.int .i64 (t:Int))) :
   Calls Tryz.prog 9 #[tapeV 1 (some ⟨ab,ao,none⟩) n aC (some ⟨ob,oo,none⟩) 1 oC,.slice (some ⟨xb,xo,none⟩) 1 cx,.int .i64 (order:Int)] w fun e w'=>(∃A C RA RC,e=.returned (.tuple #[.slice A (order+1) C,.int .i64 0])∧Rws w' A (order+1) RA (fun _=>1) RC (fun r _=>X r))∧Below w.heap.size w w':=by
 have cr:=fun (W:World) (hW:Below w.heap.size w W)=>trefused_w (some ⟨ab,ao,none⟩) n aC (some ⟨ob,oo,none⟩) oC (some ⟨xb,xo,none⟩) cx order ho Z (fun _=>(t:Int)) (fun _=>X 0) hn hr ⟨hX 0,h0⟩ h1 W (O.keep hW) (D.keep hW) (I.keep hW)
 have cc:=fun (W:World) (hW:Below w.heap.size w W)=>clone0_w xb xo 1 cx (fun _=>X 0) (by omega) (by omega) W (I.keep hW)
 have cs:=fun (W:World) (hW:Below w.heap.size w W) g C' (M:Ivs W (some ⟨g,0,none⟩) 1 (fun _=>X 0))=>tseries_w n 1 g C' hn ab ao aC ob oo oC t order (by omega) ht Z X Kn V W M hKd hZ hV hX he ck cv (O.keep hW) (Nat.lt_of_lt_of_le lo hW.size) (keepsC hW co lo)
 simp only [show ((1:Nat):Int)=1 from rfl] at cs
 have hX0:(X 0).1<18446744073709551616∧(X 0).2<18446744073709551616:=hX 0
 clear I hKd hZ hV hX he ck cv hr h0 h1 O D lo co
 unfold tapeV at *
 have T:=tpAt_new w (.int .i64 1) (.slice (some ⟨ab,ao,none⟩) n aC) (.slice (some ⟨ob,oo,none⟩) 1 oC) 25
 have HB:Below w.heap.size w (w.alloc (.cells #[.int .i64 1,.slice (some ⟨ab,ao,none⟩) n aC,.slice (some ⟨ob,oo,none⟩) 1 oC] 25)):=by go_grown
 go_enter Tryz.func9,Tryz.ntmps9
 go_upto_region 1 with fail
 generalize (w.alloc (.cells #[.int .i64 1,.slice (some ⟨ab,ao,none⟩) n aC,.slice (some ⟨ob,oo,none⟩) 1 oC] 25))=V1 at *
 obtain⟨t0,t1,t2,tl⟩:=id T
 go_upto_region 4 with (go_at_call 19;refine (cr _ HB).mono ?_;rintro _ V2 ⟨rfl,hb1⟩;replace T:=T.keep hb1;replace HB:=later HB hb1;clear hb1;clear t0 t1 t2 tl;obtain⟨t0,t1,t2,tl⟩:=id T)
 clear t0 t1 t2 tl cr
 have HD:Below V2.heap.size V2 V2.drew:=(Below.refl _ _).drew
 replace T:=T.keep HD;replace HB:=later HB HD;clear HD
 refine held_tail 9 (fun w'=>w'.cell? ⟨w.heap.size,0,none⟩=some (.int .i64 1)∧w'.cell? ⟨w.heap.size,1,none⟩=some (.slice (some ⟨ab,ao,none⟩) n aC)∧w'.cell? ⟨w.heap.size,2,none⟩=some (.slice (some ⟨ob,oo,none⟩) 1 oC)) (by kernel_rfl) (by kernel_rfl) ⟨T.1,T.2.1,T.2.2.1⟩ (fun hHeld=>?_)
 generalize V2.drew=V3 at *
 simp only [List.take_succ_cons,List.take_zero]
 refine wpAnyH_take (i:=0) (v:=?_) rfl (by kernel_rfl) (by kernel_rfl) (by kernel_rfl) (fun _ _ _ h=>h) (Or.inl ⟨by rfl, ?_⟩) hHeld ?_;rotate_left;(focus ((intro w hSw;(try dsimp only at hSw);go_simp);try with_reducible rfl));simp only [List.getElem_toArray,List.getElem_cons_zero,Act.put,List.setIfInBounds_toArray,List.set_cons_zero,List.set_cons_succ];refine wpAnyH_take (i:=1) (v:=?_) rfl (by kernel_rfl) (by kernel_rfl) (by kernel_rfl) (fun _ _ _ h=>h) (Or.inl ⟨by rfl, ?_⟩) hHeld ?_;rotate_left;(focus ((intro w hSw;(try dsimp only at hSw);go_simp);try with_reducible rfl));simp only [List.getElem_toArray,List.getElem_cons_zero,List.getElem_cons_succ,Act.put,List.setIfInBounds_toArray,List.set_cons_zero,List.set_cons_succ];refine wpAnyH_take (i:=2) (v:=?_) rfl (by kernel_rfl) (by kernel_rfl) (by kernel_rfl) (fun _ _ _ h=>h) (Or.inl ⟨by rfl, ?_⟩) hHeld ?_;rotate_left;(focus ((intro w hSw;(try dsimp only at hSw);go_simp);try with_reducible rfl));simp only [List.getElem_toArray,List.getElem_cons_zero,List.getElem_cons_succ,Act.put,List.setIfInBounds_toArray,List.set_cons_zero,List.set_cons_succ];refine wpAnyH_take (i:=3) (v:=?_) rfl (by kernel_rfl) (by kernel_rfl) (by kernel_rfl) (fun _ _ _ h=>h) (Or.inl ⟨by rfl, ?_⟩) hHeld ?_;rotate_left;(focus ((intro w hSw;(try dsimp only at hSw);go_simp);try with_reducible rfl));simp only [List.getElem_toArray,List.getElem_cons_zero,List.getElem_cons_succ,Act.put,List.setIfInBounds_toArray,List.set_cons_zero,List.set_cons_succ];refine wpAnyH_take (i:=5) (v:=?_) rfl (by kernel_rfl) (by kernel_rfl) (by kernel_rfl) (fun _ _ _ h=>h) (Or.inl ⟨by rfl, ?_⟩) hHeld ?_;rotate_left;(focus ((intro w hSw;(try dsimp only at hSw);go_simp);try with_reducible rfl));simp only [List.getElem_toArray,List.getElem_cons_zero,List.getElem_cons_succ,Act.put,List.setIfInBounds_toArray,List.set_cons_zero,List.set_cons_succ]
 refine wpAnyH_ready (rs:=[4]) (by kernel_rfl) (by simp) ?_;refine AllReadyH.cons rfl (fun K hK=>?_) AllReadyH.nil;simp only [List.getElem_toArray,List.getElem_cons_zero,List.getElem_cons_succ,Act.put,List.setIfInBounds_toArray,List.set_cons_zero,List.set_cons_succ];go_simp
 go_at_call 21
 (with_reducible refine (cc _ HB).mono ?_)
 rintro _ W1 ⟨⟨g,C',rfl,M⟩,hb1⟩
 replace T:=T.keep hb1;replace HB:=later HB hb1;clear hb1
 dsimp only
 refine hK.out _ _ ⟨T.1,T.2.1,T.2.2.1⟩ (fun hHeld=>?_)
 clear hK K
 refine wpAnyH_ready (rs:=[6]) (by kernel_rfl) (by simp) ?_;refine AllReadyH.cons rfl (fun K hK=>?_) AllReadyH.nil;simp only [List.getElem_toArray,List.getElem_cons_zero,List.getElem_cons_succ,Act.put,List.setIfInBounds_toArray,List.set_cons_zero,List.set_cons_succ];go_simp
 go_at_call 20
 (with_reducible refine (cs _ HB g C' (M.ivs fun i hi=>hX0)).mono ?_)
 rintro _ W2 ⟨vv,rfl,b,db,gr,rc,vo,S⟩
 replace T:=T.keep S.bl;replace HB:=later HB S.bl
 obtain⟨A,C,RA,RC,rfl,R⟩:=S.rws
 clear S cs cc M
 dsimp only
 refine hK.out _ _ ⟨T.1,T.2.1,T.2.2.1⟩ (fun hHeld=>?_)
 clear hK K
 refine wpAnyH_take (i:=7) (v:=?_) rfl (by kernel_rfl) (by kernel_rfl) (by kernel_rfl) (fun _ _ _ h=>h) (Or.inl ⟨by rfl, ?_⟩) hHeld ?_;rotate_left;(focus ((intro w hSw;(try dsimp only at hSw);go_simp);try with_reducible rfl));simp only [List.getElem_toArray,List.getElem_cons_zero,List.getElem_cons_succ,Act.put,List.setIfInBounds_toArray,List.set_cons_zero,List.set_cons_succ];refine wpAnyH_take (i:=8) (v:=?_) rfl (by kernel_rfl) (by kernel_rfl) (by kernel_rfl) (fun _ _ _ h=>h) (Or.inl ⟨by rfl, ?_⟩) hHeld ?_;rotate_left;(focus ((intro w hSw;(try dsimp only at hSw);go_simp);try with_reducible rfl));simp only [List.getElem_toArray,List.getElem_cons_zero,List.getElem_cons_succ,Act.put,List.setIfInBounds_toArray,List.set_cons_zero,List.set_cons_succ]
 refine wpAnyH_done (by kernel_rfl) ?_ _
 simp only [HeadQ,List.drop_succ_cons,List.drop_zero]
 go_wp2_with fail
 refine bodyPost_ret (v:=.tuple #[.slice A (order+1) C,.int .i64 0]) (by simp [results,Tryz.results9,go_sem, *]) rfl ⟨⟨_,_,_,_,rfl,R⟩,HB⟩
end Go.Proofs.YtgfppdboogldlaaGreat
