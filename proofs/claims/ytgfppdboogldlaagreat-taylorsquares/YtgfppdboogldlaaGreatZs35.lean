/- taylor: a series, whole. -/
import Derived.Test.YtgfppdboogldlaaGreatZs34
namespace Go.Proofs.YtgfppdboogldlaaGreat
open Go.ChangeShapes Go.WideShapes Go.ChangeAt Go.RowKit
theorem made_at {n i:Nat} (h:i<n*2):(madeCells #[Value.slice none 0 0,.slice none 0 0] (n*2))[i]?=some (.slice none 0 0):=by
 have e1:(madeCells #[Value.slice none 0 0,.slice none 0 0] (n*2)).toList=List.replicate (n*2) (Value.slice none 0 0):=by
   refine List.eq_replicate_iff.2 ⟨by simp [madeCells],fun b hb=>?_⟩
   simp [madeCells] at hb
   obtain⟨x, -,hx⟩:=hb
   rw [←hx]
   have:x%2=0∨x%2=1:=by omega
   rcases this with e | e <;> simp [e]
 rw [←Array.getElem?_toList,e1]
 simp [h]
theorem SeS.init {w0 W:World} {n b db vb gx cx v:Nat} {oV uV:Value} {X:Nat→Nat×Nat} {L:Nat→List (Nat×Nat)} (hL:∀i,i<n→L i=[]) (bl:Below w0.heap.size w0 W) (b0:w0.heap.size≤b) (d0:w0.heap.size≤db) (v0:w0.heap.size≤vb) (bd:b≠db) (bv:b≠vb) (dv:db≠vb)
   (hb:W.heap[b]?=some (.cells #[.iface 58 (.agg #[]),.int .i64 (v:Int),oV,uV,.slice (some ⟨vb,0,none⟩) 1 1,.slice (some ⟨db,0,none⟩) n n] 84))
   (hd:W.heap[db]?=some (.cells (madeCells #[.slice none 0 0,.slice none 0 0] (n*2)) 87))
   (hv:W.heap[vb]?=some (.cells #[.slice (some ⟨gx,0,none⟩) 1 cx] 26)) (I:Ivs w0 (some ⟨gx,0,none⟩) 1 (fun _=>X 0)) :
   SeS w0 n b db oV uV X L 0 (fun _=>gx) (fun _=>cx) W (fun _=>.slice none 0 0) (.slice (some ⟨vb,0,none⟩) 1 1)∧BsT W db n:=by
 have lb:b<W.heap.size:=(Array.getElem?_eq_some_iff.1 hb).1
 have ld:db<W.heap.size:=(Array.getElem?_eq_some_iff.1 hd).1
 have cb:∀(o:Nat) (u:Value),(#[.iface 58 (.agg #[]),.int .i64 (v:Int),oV,uV,.slice (some ⟨vb,0,none⟩) 1 1,.slice (some ⟨db,0,none⟩) n n]:Array Value)[o]?=some u→W.cell? ⟨b,o,none⟩=some u:=fun o u h=>by simp only [World.cell?,hb];exact h
 have cd:∀o,o<n*2→W.cell? ⟨db,o,none⟩=some (.slice none 0 0):=fun o h=>by simp only [World.cell?,hd];exact made_at h
 have lg:=ivs_lt I (by omega)
 refine⟨⟨bl,⟨cb 0 _ rfl,lb⟩,cb 2 _ rfl,cb 3 _ rfl,cb 4 _ rfl,cb 5 _ rfl, ?_,b0,d0,ld,bd, ?_, ?_, ?_, ?_, ?_, ?_, ?_, ?_, ?_⟩, ?_⟩
 · simp [World.frozen?,hb]
 · intro i hi
   rw [hL i hi]
   exact⟨rfl,.inl ⟨rfl,rfl⟩⟩
 · exact fun i hi=>cd _ (by omega)
 · intro i hi
   simp [World.frozen?,hd]
 · exact fun _ _ _ _ _=>Or.inl rfl
 · exact fun _ _=>⟨by simp [Value.ownBlock],by simp [Value.ownBlock]⟩
 · exact⟨by simp,.inr ⟨vb,1,_,rfl,v0,hv,Nat.le_refl _,by unfold maxLen;omega,by simp,by simp⟩⟩
 · refine⟨fun e=>?_,fun e=>?_⟩
   · exact bv (Option.some.inj e).symm
   · exact dv (Option.some.inj e).symm
 · intro i hi
   obtain rfl:i=0:=by omega
   exact I.keep bl
 · intro i hi
   refine⟨by omega,by omega,fun e=>?_,fun j hj=>by simp [Value.ownBlock]⟩
   have:vb=gx:=Option.some.inj e
   omega
 · intro i hi
   refine⟨by rw [cd _ (by omega)];rfl,by simp [World.frozen?,hd]⟩
theorem three (V:World) (o1 o2 o3:Obj) {q:Nat} (h:V.heap.size=q):(((V.alloc o1).alloc o2).alloc o3).heap[q]?=some o1∧(((V.alloc o1).alloc o2).alloc o3).heap[q+1]?=some o2∧(((V.alloc o1).alloc o2).alloc o3).heap[q+1+1]?=some o3∧Below V.heap.size V (((V.alloc o1).alloc o2).alloc o3):=by
 subst h
 have g1:=grewT V o1
 have g2:=grewT (V.alloc o1) o2
 have g3:=grewT ((V.alloc o1).alloc o2) o3
 have s1:(V.alloc o1).heap.size=V.heap.size+1:=by simp
 have s2:((V.alloc o1).alloc o2).heap.size=V.heap.size+1+1:=by simp
 have n1:∀(W:World) (o:Obj),(W.alloc o).heap[W.heap.size]?=some o:=fun W o=>by show (W.heap.push o)[W.heap.size]?=some o;simp
 refine⟨?_, ?_, ?_,later g1 (later g2 g3)⟩
 · rw [g3.block _ (by omega),g2.block _ (by omega)];exact n1 _ _
 · rw [g3.block _ (by omega),←s1];exact n1 _ _
 · rw [←s2];exact n1 _ _
set_option maxHeartbeats 4000000 in
set_option maxRecDepth 8000 in
theorem tseries_w (n v gx cx:Nat) (hn:n≤1000) (ab ao aC ob oo oC t order:Nat) (ho:order≤1000) (ht:t<n) (Z:Nat→Opw) (X Kn:Nat→Nat×Nat) (V:Nat→Nat→Nat×Nat) (w:World) (I:Ivs w (some ⟨gx,0,none⟩) 1 (fun _=>X 0))
   (hKd:∀j,j<n→(Z j).k=2∨(Z j).k=5) (hZ:∀k,k<order→∀j,j<n→SqOp Z X V k j) (hV:∀i k,W2 (V i k)) (hX:∀k,W2 (X k)) (he:∀k,k<order→∀j,j<n→endB (V j k)=false)
   (ck:∀k:Nat,k<order→∀w,Calls Tryz.prog 98 #[.float .f64 (floatOfInt .f64 ((k:Int)+1))] w fun e w'=>e=.returned (.agg #[.float .f64 (Kn k).1,.float .f64 (Kn k).2])∧Below w.heap.size w w') (cv:∀k,k<order→∀w,Calls Tryz.prog 142 #[.agg #[.float .f64 (V t k).1,.float .f64 (V t k).2],.agg #[.float .f64 (Kn k).1,.float .f64 (Kn k).2]] w fun e w'=>e=.returned (.agg #[.float .f64 (X (k+1)).1,.float .f64 (X (k+1)).2])∧Below w.heap.size w w')
   (O:Ops w (some ⟨ab,ao,none⟩) n Z) (lo:ob<w.heap.size) (co:w.cell? ⟨ob,oo,none⟩=some (.int .i64 (t:Int))) :
   Calls Tryz.prog 20 #[.iface 58 (.agg #[]),.agg #[.int .i64 (v:Int),.slice (some ⟨ab,ao,none⟩) n aC,.slice (some ⟨ob,oo,none⟩) 1 oC],.slice (some ⟨gx,0,none⟩) 1 cx,.int .i64 (order:Int)] w fun e w'=>∃vv,e=.returned (.tuple #[vv,.int .i64 0])∧∃b db gr rc vo,SeS w n b db (.slice (some ⟨ab,ao,none⟩) n aC) (.slice (some ⟨ob,oo,none⟩) 1 oC) X (cofL V order) order gr rc w' vo vv:=by
 obtain⟨L0,hL0⟩:∃L0,L0=cofL V 0:=⟨_,rfl⟩
 have hL:∀i,i<n→L0 i=[]:=fun i _=>by rw [hL0];rfl
 have hmk:=fun W=>run_makeT n (by omega) W
 obtain⟨v1,hv1⟩:∃v1,v1=w.alloc (.cells #[.int .i64 (v:Int),.slice (some ⟨ab,ao,none⟩) n aC,.slice (some ⟨ob,oo,none⟩) 1 oC] 25):=⟨_,rfl⟩
 have K1:Below w.heap.size w v1:=by rw [hv1];exact grewT _ _
 have z1:v1.heap.size=w.heap.size+1:=by rw [hv1];simp
 have t0:v1.cell? ⟨w.heap.size,0,none⟩=some (.int .i64 (v:Int)):=by rw [hv1];go_simp
 have t1:v1.cell? ⟨w.heap.size,1,none⟩=some (.slice (some ⟨ab,ao,none⟩) n aC):=by rw [hv1];go_simp
 have t2:v1.cell? ⟨w.heap.size,2,none⟩=some (.slice (some ⟨ob,oo,none⟩) 1 oC):=by rw [hv1];go_simp
 have lt1:w.heap.size<v1.heap.size:=by omega
 go_enter Tryz.func20,Tryz.ntmps20
 go_upto_region 1 with fail
 rw [←hv1]
 clear hv1
 go_cut [10] from 15 to 24 (fun s10 wx=>∃b db vb,s10=.pointer (some ⟨b,0,none⟩)∧SeS w n b db (.slice (some ⟨ab,ao,none⟩) n aC) (.slice (some ⟨ob,oo,none⟩) 1 oC) X L0 0 (fun _=>gx) (fun _=>cx) wx (fun _=>.slice none 0 0) (.slice (some ⟨vb,0,none⟩) 1 1)∧BsT wx db n∧Below v1.heap.size v1 wx)
 case first =>
   have HD:Below v1.heap.size v1 v1.drew:=(Below.refl _ _).drew
   refine wp_region_held_drew (S:=fun w'=>w'.cell? ⟨w.heap.size,0,none⟩=some (.int .i64 (v:Int))∧w'.cell? ⟨w.heap.size,1,none⟩=some (.slice (some ⟨ab,ao,none⟩) n aC)∧w'.cell? ⟨w.heap.size,2,none⟩=some (.slice (some ⟨ob,oo,none⟩) 1 oC)) (by kernel_rfl) ⟨t0,t1,t2⟩ (fun hHeld=>?_)
   have z2:v1.drew.heap.size=v1.heap.size:=rfl
   generalize v1.drew=V4 at *
   have z4:V4.heap.size=w.heap.size+1:=by omega
   refine wpAnyH_take (i:=0) (v:=?_) rfl (by kernel_rfl) (by kernel_rfl) (by kernel_rfl) (fun _ _ _ h=>h) (Or.inl ⟨by rfl, ?_⟩) hHeld ?_;rotate_left;(focus ((intro w hSw;(try dsimp only at hSw);go_simp);try with_reducible rfl));simp only [List.getElem_toArray,List.getElem_cons_zero,Act.put,List.setIfInBounds_toArray,List.set_cons_zero,List.set_cons_succ];refine wpAnyH_take (i:=1) (v:=?_) rfl (by kernel_rfl) (by kernel_rfl) (by kernel_rfl) (fun _ _ _ h=>h) (Or.inl ⟨by rfl, ?_⟩) hHeld ?_;rotate_left;(focus ((intro w hSw;(try dsimp only at hSw);go_simp);try with_reducible rfl));simp only [List.getElem_toArray,List.getElem_cons_zero,List.getElem_cons_succ,Act.put,List.setIfInBounds_toArray,List.set_cons_zero,List.set_cons_succ];refine wpAnyH_take (i:=2) (v:=?_) rfl (by kernel_rfl) (by kernel_rfl) (by kernel_rfl) (fun _ _ _ h=>h) (Or.inl ⟨by rfl, ?_⟩) hHeld ?_;rotate_left;(focus ((intro w hSw;(try dsimp only at hSw);go_simp);try with_reducible rfl));simp only [List.getElem_toArray,List.getElem_cons_zero,List.getElem_cons_succ,Act.put,List.setIfInBounds_toArray,List.set_cons_zero,List.set_cons_succ];refine wpAnyH_take (i:=4) (v:=?_) rfl (by kernel_rfl) (by kernel_rfl) (by kernel_rfl) (fun _ _ _ h=>h) (Or.inl ⟨by rfl, ?_⟩) hHeld ?_;rotate_left;(focus ((intro w hSw;(try dsimp only at hSw);go_simp);try with_reducible rfl));simp only [List.getElem_toArray,List.getElem_cons_zero,List.getElem_cons_succ,Act.put,List.setIfInBounds_toArray,List.set_cons_zero,List.set_cons_succ];refine wpAnyH_take (i:=5) (v:=?_) rfl (by kernel_rfl) (by kernel_rfl) (by kernel_rfl) (fun _ _ _ h=>h) (Or.inl ⟨by rfl, ?_⟩) hHeld ?_;rotate_left;(focus ((intro w hSw;(try dsimp only at hSw);go_simp);try with_reducible rfl));simp only [List.getElem_toArray,List.getElem_cons_zero,List.getElem_cons_succ,Act.put,List.setIfInBounds_toArray,List.set_cons_zero,List.set_cons_succ];refine wpAnyH_take (i:=6) (v:=?_) rfl (by kernel_rfl) (by kernel_rfl) (by kernel_rfl) (fun _ _ _ h=>h) (Or.inl ⟨by rfl, ?_⟩) hHeld ?_;rotate_left;(focus ((intro w hSw;(try dsimp only at hSw);go_simp);try with_reducible rfl));simp only [List.getElem_toArray,List.getElem_cons_zero,List.getElem_cons_succ,Act.put,List.setIfInBounds_toArray,List.set_cons_zero,List.set_cons_succ]
   refine wpAnyH_ready (rs:=[3,7]) (by kernel_rfl) (by simp) ?_
   refine AllReadyH.cons rfl (fun K hK=>?_) (AllReadyH.cons rfl (fun K hK=>?_) AllReadyH.nil)
   · simp only [List.getElem_toArray,List.getElem_cons_zero,List.getElem_cons_succ,Act.put,List.setIfInBounds_toArray,List.set_cons_zero,List.set_cons_succ]
     go_simp
     have g1:=grewT V4 (.cells #[.slice (some ⟨gx,0,none⟩) 1 cx] 26)
     refine hK.out _ _ ⟨keepsC (later HD g1) t0 lt1,keepsC (later HD g1) t1 lt1,keepsC (later HD g1) t2 lt1⟩ (fun hHeld=>?_)
     clear hK K
     refine wpAnyH_ready (rs:=[7]) (by kernel_rfl) (by simp) ?_;refine AllReadyH.cons rfl (fun K hK=>?_) AllReadyH.nil;simp only [List.getElem_toArray,List.getElem_cons_zero,List.getElem_cons_succ,Act.put,List.setIfInBounds_toArray,List.set_cons_zero,List.set_cons_succ];go_simp
     refine hK.out _ _ ⟨keepsC (later HD (later g1 (grewT _ _))) t0 lt1,keepsC (later HD (later g1 (grewT _ _))) t1 lt1,keepsC (later HD (later g1 (grewT _ _))) t2 lt1⟩ (fun hHeld=>?_)
     clear hK K
     refine wpAnyH_take (i:=8) (v:=?_) rfl (by kernel_rfl) (by kernel_rfl) (by kernel_rfl) (fun _ _ _ h=>h) (Or.inl ⟨by rfl, ?_⟩) hHeld ?_;rotate_left;(focus ((intro w hSw;(try dsimp only at hSw);go_simp);try with_reducible rfl));simp only [List.getElem_toArray,List.getElem_cons_zero,List.getElem_cons_succ,Act.put,List.setIfInBounds_toArray,List.set_cons_zero,List.set_cons_succ]
     refine wpAnyH_ready (rs:=[9]) (by kernel_rfl) (by simp) ?_;refine AllReadyH.cons rfl (fun K hK=>?_) AllReadyH.nil;simp only [List.getElem_toArray,List.getElem_cons_zero,List.getElem_cons_succ,Act.put,List.setIfInBounds_toArray,List.set_cons_zero,List.set_cons_succ];go_simp
     obtain⟨a1,a2,a3,a4⟩:=three V4 (.cells #[.slice (some ⟨gx,0,none⟩) 1 cx] 26) (.cells (madeCells #[.slice none 0 0,.slice none 0 0] (n*2)) 87) (.cells #[.iface 58 (.agg #[]),.int .i64 (v:Int),.slice (some ⟨ab,ao,none⟩) n aC,.slice (some ⟨ob,oo,none⟩) 1 oC,.slice (some ⟨w.heap.size+1,0,none⟩) 1 1,.slice (some ⟨w.heap.size+1+1,0,none⟩) n n] 84) z4
     refine hK.out _ _ ⟨keepsC (later HD a4) t0 lt1,keepsC (later HD a4) t1 lt1,keepsC (later HD a4) t2 lt1⟩ (fun hHeld=>?_)
     clear hK K
     refine wpAnyH_take (i:=10) (v:=?_) rfl (by kernel_rfl) (by kernel_rfl) (by kernel_rfl) (fun _ _ _ h=>h) (Or.inl ⟨by rfl, ?_⟩) hHeld ?_;rotate_left;(focus ((intro w hSw;(try dsimp only at hSw);go_simp);try with_reducible rfl));simp only [List.getElem_toArray,List.getElem_cons_zero,List.getElem_cons_succ,Act.put,List.setIfInBounds_toArray,List.set_cons_zero,List.set_cons_succ]
     refine wpAnyH_done (by kernel_rfl) ?_ _
     go_wp2_with fail
     go_meet
     case rel =>
       obtain⟨i1,i2⟩:=SeS.init (X:=X) (L:=L0) hL (later K1 (later HD a4)) (by omega) (by omega) (by omega) (by omega) (by omega) (by omega) a3 a2 a1 I
       exact⟨_,_,_,rfl,i1,i2,later HD a4⟩
   · simp only [List.getElem_toArray,List.getElem_cons_zero,List.getElem_cons_succ,Act.put,List.setIfInBounds_toArray,List.set_cons_zero,List.set_cons_succ]
     go_simp
     have g1:=grewT V4 (.cells (madeCells #[.slice none 0 0,.slice none 0 0] (n*2)) 87)
     refine hK.out _ _ ⟨keepsC (later HD g1) t0 lt1,keepsC (later HD g1) t1 lt1,keepsC (later HD g1) t2 lt1⟩ (fun hHeld=>?_)
     clear hK K
     refine wpAnyH_ready (rs:=[3]) (by kernel_rfl) (by simp) ?_;refine AllReadyH.cons rfl (fun K hK=>?_) AllReadyH.nil;simp only [List.getElem_toArray,List.getElem_cons_zero,List.getElem_cons_succ,Act.put,List.setIfInBounds_toArray,List.set_cons_zero,List.set_cons_succ];go_simp
     refine hK.out _ _ ⟨keepsC (later HD (later g1 (grewT _ _))) t0 lt1,keepsC (later HD (later g1 (grewT _ _))) t1 lt1,keepsC (later HD (later g1 (grewT _ _))) t2 lt1⟩ (fun hHeld=>?_)
     clear hK K
     refine wpAnyH_take (i:=8) (v:=?_) rfl (by kernel_rfl) (by kernel_rfl) (by kernel_rfl) (fun _ _ _ h=>h) (Or.inl ⟨by rfl, ?_⟩) hHeld ?_;rotate_left;(focus ((intro w hSw;(try dsimp only at hSw);go_simp);try with_reducible rfl));simp only [List.getElem_toArray,List.getElem_cons_zero,List.getElem_cons_succ,Act.put,List.setIfInBounds_toArray,List.set_cons_zero,List.set_cons_succ]
     refine wpAnyH_ready (rs:=[9]) (by kernel_rfl) (by simp) ?_;refine AllReadyH.cons rfl (fun K hK=>?_) AllReadyH.nil;simp only [List.getElem_toArray,List.getElem_cons_zero,List.getElem_cons_succ,Act.put,List.setIfInBounds_toArray,List.set_cons_zero,List.set_cons_succ];go_simp
     obtain⟨a1,a2,a3,a4⟩:=three V4 (.cells (madeCells #[.slice none 0 0,.slice none 0 0] (n*2)) 87) (.cells #[.slice (some ⟨gx,0,none⟩) 1 cx] 26) (.cells #[.iface 58 (.agg #[]),.int .i64 (v:Int),.slice (some ⟨ab,ao,none⟩) n aC,.slice (some ⟨ob,oo,none⟩) 1 oC,.slice (some ⟨w.heap.size+1+1,0,none⟩) 1 1,.slice (some ⟨w.heap.size+1,0,none⟩) n n] 84) z4
     refine hK.out _ _ ⟨keepsC (later HD a4) t0 lt1,keepsC (later HD a4) t1 lt1,keepsC (later HD a4) t2 lt1⟩ (fun hHeld=>?_)
     clear hK K
     refine wpAnyH_take (i:=10) (v:=?_) rfl (by kernel_rfl) (by kernel_rfl) (by kernel_rfl) (fun _ _ _ h=>h) (Or.inl ⟨by rfl, ?_⟩) hHeld ?_;rotate_left;(focus ((intro w hSw;(try dsimp only at hSw);go_simp);try with_reducible rfl));simp only [List.getElem_toArray,List.getElem_cons_zero,List.getElem_cons_succ,Act.put,List.setIfInBounds_toArray,List.set_cons_zero,List.set_cons_succ]
     refine wpAnyH_done (by kernel_rfl) ?_ _
     go_wp2_with fail
     go_meet
     case rel =>
       obtain⟨i1,i2⟩:=SeS.init (X:=X) (L:=L0) hL (later K1 (later HD a4)) (by omega) (by omega) (by omega) (by omega) (by omega) (by omega) a3 a1 a2 I
       exact⟨_,_,_,rfl,i1,i2,later HD a4⟩
 case rest =>
   obtain⟨b,db,vb,rfl,S,B,K2⟩:=hcut
   replace t1:=keepsC K2 t1 lt1
   clear t0 t2 hmk
   generalize wc=V1 at *
   obtain⟨vv,hvv⟩:∃vv,vv=Value.slice (some ⟨vb,0,none⟩) 1 1:=⟨_,rfl⟩
   rw [←hvv] at S
   clear hvv
   have ltn:(n:Int)≤1000:=by omega
   have hmk0:=fun W=>run_makeT0 W
   go_upto_region 3 with fail
   clear t1 lt1 z1 K1 K2
   go_loopg [28] n (fun G s28 wx=>∃j:Nat,j+G=n∧s28=.int .i64 (j:Int)∧SeS w n b db (.slice (some ⟨ab,ao,none⟩) n aC) (.slice (some ⟨ob,oo,none⟩) 1 oC) X L0 0 (fun _=>gx) (fun _=>cx) wx (fun _=>.slice none 0 0) vv∧BsT wx db n)
   case atStart=>exact⟨0,by omega,rfl,S,B⟩
   case round =>
     clear S B
     obtain⟨j,hj,rfl,S,B⟩:=hrel
     by_cases cj:j<n
     · have ltj:(j:Int)<(n:Int):=by omega
       obtain⟨ob',oo',oe,ol,e0,e1,e2,e3,e4,e5, -⟩:=(O.keep S.bl) j cj
       simp only [Option.some.injEq,Addr.mk.injEq,and_true] at oe
       obtain⟨rfl,rfl⟩:=oe
       go_upto_region 5 with fail
       have hb0:Below wr.heap.size wr (wr.alloc (.cells #[.int .i64 (Z j).k,.int .i64 (Z j).a,.int .i64 (Z j).b,.int .i64 (Z j).n,.float .f64 (Z j).lo,.float .f64 (Z j).hi] 45)):=Below.alloc (Below.refl _ _) (Nat.le_refl _) _
       have q0:(wr.alloc (.cells #[.int .i64 (Z j).k,.int .i64 (Z j).a,.int .i64 (Z j).b,.int .i64 (Z j).n,.float .f64 (Z j).lo,.float .f64 (Z j).hi] 45)).cell? ⟨wr.heap.size,0,none⟩=some (.int .i64 (Z j).k):=by go_simp
       have q1:(wr.alloc (.cells #[.int .i64 (Z j).k,.int .i64 (Z j).a,.int .i64 (Z j).b,.int .i64 (Z j).n,.float .f64 (Z j).lo,.float .f64 (Z j).hi] 45)).cell? ⟨wr.heap.size,1,none⟩=some (.int .i64 (Z j).a):=by go_simp
       have q2:(wr.alloc (.cells #[.int .i64 (Z j).k,.int .i64 (Z j).a,.int .i64 (Z j).b,.int .i64 (Z j).n,.float .f64 (Z j).lo,.float .f64 (Z j).hi] 45)).cell? ⟨wr.heap.size,2,none⟩=some (.int .i64 (Z j).b):=by go_simp
       have q3:(wr.alloc (.cells #[.int .i64 (Z j).k,.int .i64 (Z j).a,.int .i64 (Z j).b,.int .i64 (Z j).n,.float .f64 (Z j).lo,.float .f64 (Z j).hi] 45)).cell? ⟨wr.heap.size,3,none⟩=some (.int .i64 (Z j).n):=by go_simp
       have q4:(wr.alloc (.cells #[.int .i64 (Z j).k,.int .i64 (Z j).a,.int .i64 (Z j).b,.int .i64 (Z j).n,.float .f64 (Z j).lo,.float .f64 (Z j).hi] 45)).cell? ⟨wr.heap.size,4,none⟩=some (.float .f64 (Z j).lo):=by go_simp
       have q5:(wr.alloc (.cells #[.int .i64 (Z j).k,.int .i64 (Z j).a,.int .i64 (Z j).b,.int .i64 (Z j).n,.float .f64 (Z j).lo,.float .f64 (Z j).hi] 45)).cell? ⟨wr.heap.size,5,none⟩=some (.float .f64 (Z j).hi):=by go_simp
       have xq:wr.heap.size<(wr.alloc (.cells #[.int .i64 (Z j).k,.int .i64 (Z j).a,.int .i64 (Z j).b,.int .i64 (Z j).n,.float .f64 (Z j).lo,.float .f64 (Z j).hi] 45)).heap.size:=by go_size
       replace B:=B.keep S.dl hb0
       replace S:=S.keep hb0
       clear hb0 e0 e1 e2 e3 e4 e5 ol
       generalize (wr.alloc (.cells #[.int .i64 (Z j).k,.int .i64 (Z j).a,.int .i64 (Z j).b,.int .i64 (Z j).n,.float .f64 (Z j).lo,.float .f64 (Z j).hi] 45))=V2 at *
       generalize wr.heap.size=qb at *
       have Q:OpAt V2 qb (Z j):=⟨q0,q1,q2,q3,q4,q5,xq⟩
       clear q0 q1 q2 q3 q4 q5 xq
       have HD:Below V2.heap.size V2 V2.drew:=(Below.refl _ _).drew
       replace B:=B.keep S.dl HD
       replace S:=S.keep HD;replace Q:=Q.keep HD;clear HD
       refine held_tail 10 (fun w'=>w'.cell? ⟨qb,0,none⟩=some (.int .i64 (Z j).k)∧w'.cell? ⟨qb,1,none⟩=some (.int .i64 (Z j).a)∧w'.cell? ⟨qb,2,none⟩=some (.int .i64 (Z j).b)∧w'.cell? ⟨qb,3,none⟩=some (.int .i64 (Z j).n)∧w'.cell? ⟨qb,4,none⟩=some (.float .f64 (Z j).lo)∧w'.cell? ⟨qb,5,none⟩=some (.float .f64 (Z j).hi)∧w'.cell? ⟨b,5,none⟩=some (.slice (some ⟨db,0,none⟩) n n)) (by kernel_rfl) (by kernel_rfl) ⟨Q.c0,Q.c1,Q.c2,Q.c3,Q.c4,Q.c5,S.c5⟩ (fun hHeld=>?_)
       generalize V2.drew=V3 at *
       simp only [List.take_succ_cons,List.take_zero]
       refine wpAnyH_take (i:=0) (v:=?_) rfl (by kernel_rfl) (by kernel_rfl) (by kernel_rfl) (fun _ _ _ h=>h) (Or.inl ⟨by rfl, ?_⟩) hHeld ?_;rotate_left;(focus ((intro w hSw;(try dsimp only at hSw);go_simp);try with_reducible rfl));simp only [List.getElem_toArray,List.getElem_cons_zero,Act.put,List.setIfInBounds_toArray,List.set_cons_zero,List.set_cons_succ];refine wpAnyH_take (i:=1) (v:=?_) rfl (by kernel_rfl) (by kernel_rfl) (by kernel_rfl) (fun _ _ _ h=>h) (Or.inl ⟨by rfl, ?_⟩) hHeld ?_;rotate_left;(focus ((intro w hSw;(try dsimp only at hSw);go_simp);try with_reducible rfl));simp only [List.getElem_toArray,List.getElem_cons_zero,List.getElem_cons_succ,Act.put,List.setIfInBounds_toArray,List.set_cons_zero,List.set_cons_succ];refine wpAnyH_take (i:=2) (v:=?_) rfl (by kernel_rfl) (by kernel_rfl) (by kernel_rfl) (fun _ _ _ h=>h) (Or.inl ⟨by rfl, ?_⟩) hHeld ?_;rotate_left;(focus ((intro w hSw;(try dsimp only at hSw);go_simp);try with_reducible rfl));simp only [List.getElem_toArray,List.getElem_cons_zero,List.getElem_cons_succ,Act.put,List.setIfInBounds_toArray,List.set_cons_zero,List.set_cons_succ];refine wpAnyH_take (i:=3) (v:=?_) rfl (by kernel_rfl) (by kernel_rfl) (by kernel_rfl) (fun _ _ _ h=>h) (Or.inl ⟨by rfl, ?_⟩) hHeld ?_;rotate_left;(focus ((intro w hSw;(try dsimp only at hSw);go_simp);try with_reducible rfl));simp only [List.getElem_toArray,List.getElem_cons_zero,List.getElem_cons_succ,Act.put,List.setIfInBounds_toArray,List.set_cons_zero,List.set_cons_succ];refine wpAnyH_take (i:=4) (v:=?_) rfl (by kernel_rfl) (by kernel_rfl) (by kernel_rfl) (fun _ _ _ h=>h) (Or.inl ⟨by rfl, ?_⟩) hHeld ?_;rotate_left;(focus ((intro w hSw;(try dsimp only at hSw);go_simp);try with_reducible rfl));simp only [List.getElem_toArray,List.getElem_cons_zero,List.getElem_cons_succ,Act.put,List.setIfInBounds_toArray,List.set_cons_zero,List.set_cons_succ];refine wpAnyH_take (i:=5) (v:=?_) rfl (by kernel_rfl) (by kernel_rfl) (by kernel_rfl) (fun _ _ _ h=>h) (Or.inl ⟨by rfl, ?_⟩) hHeld ?_;rotate_left;(focus ((intro w hSw;(try dsimp only at hSw);go_simp);try with_reducible rfl));simp only [List.getElem_toArray,List.getElem_cons_zero,List.getElem_cons_succ,Act.put,List.setIfInBounds_toArray,List.set_cons_zero,List.set_cons_succ]
       refine wpAnyH_ready (rs:=[6]) (by kernel_rfl) (by simp) ?_;refine AllReadyH.cons rfl (fun K hK=>?_) AllReadyH.nil;simp only [List.getElem_toArray,List.getElem_cons_zero,List.getElem_cons_succ,Act.put,List.setIfInBounds_toArray,List.set_cons_zero,List.set_cons_succ];go_simp
       go_at_call 42
       (with_reducible refine (sbeside_w _ _ _ _ (hKd j cj) _ _ _).mono ?_)
       rintro _ W1 ⟨rfl,hb1⟩
       replace B:=B.keep S.dl hb1
       replace S:=S.keep hb1;replace Q:=Q.keep hb1
       clear hb1
       dsimp only
       refine hK.out _ _ ⟨Q.c0,Q.c1,Q.c2,Q.c3,Q.c4,Q.c5,S.c5⟩ (fun hHeld=>?_)
       clear hK K
       refine wpAnyH_ready (rs:=[7]) (by kernel_rfl) (by simp) ?_;refine AllReadyH.cons rfl (fun K hK=>?_) AllReadyH.nil;simp only [List.getElem_toArray,List.getElem_cons_zero,List.getElem_cons_succ,Act.put,List.setIfInBounds_toArray,List.set_cons_zero,List.set_cons_succ];go_simp
       have hg0:=grewT W1 (.cells #[] 26)
       replace B:=B.keep S.dl hg0
       replace S:=S.keep hg0;replace Q:=Q.keep hg0
       refine hK.out _ _ ⟨Q.c0,Q.c1,Q.c2,Q.c3,Q.c4,Q.c5,S.c5⟩ (fun hHeld=>?_)
       clear hK K
       generalize W1.alloc (.cells #[] 26)=W2 at *
       generalize W1.heap.size=nb at *
       refine wpAnyH_take (i:=8) (v:=?_) rfl (by kernel_rfl) (by kernel_rfl) (by kernel_rfl) (fun _ _ _ h=>h) (Or.inl ⟨by rfl, ?_⟩) hHeld ?_;rotate_left;(focus ((intro w hSw;(try dsimp only at hSw);go_simp);try with_reducible rfl));simp only [List.getElem_toArray,List.getElem_cons_zero,List.getElem_cons_succ,Act.put,List.setIfInBounds_toArray,List.set_cons_zero,List.set_cons_succ];refine wpAnyH_take (i:=9) (v:=?_) rfl (by kernel_rfl) (by kernel_rfl) (by kernel_rfl) (fun _ _ _ h=>h) (Or.inl ⟨by rfl, ?_⟩) hHeld ?_;rotate_left;(focus ((intro w hSw;(try dsimp only at hSw);go_simp);try with_reducible rfl));simp only [List.getElem_toArray,List.getElem_cons_zero,List.getElem_cons_succ,Act.put,List.setIfInBounds_toArray,List.set_cons_zero,List.set_cons_succ]
       refine wpAnyH_done (by kernel_rfl) ?_ _
       simp only [HeadQ,List.drop_succ_cons,List.drop_zero]
       obtain⟨y1,y2⟩:=B j cj
       obtain⟨u,y1⟩:=Option.isSome_iff_exists.1 y1
       go_wp2_with fail
       obtain⟨g,rfl⟩:∃g,gk=g+1:=⟨gk-1,by omega⟩
       go_roundg g
       case measure=>omega
       case rel=>exact⟨j+1,by omega,by go_num,S.beside j _,B.set j _⟩
     · obtain rfl:j=n:=by omega
       have ltj:¬(j:Int)<(j:Int):=by omega
       clear B hmk0
       rw [hL0] at S
       clear hL hL0 hKd I
       go_upto_region 8 with fail
       generalize wr=V2 at *
       have hoi:(order:Int)≤1000:=by omega
       go_loopg [45] order (fun G s45 wx=>∃k:Nat,k+G=order∧s45=.int .i64 (k:Int)∧∃gr rc vo vv,SeS w j b db (.slice (some ⟨ab,ao,none⟩) j aC) (.slice (some ⟨ob,oo,none⟩) 1 oC) X (cofL V k) k gr rc wx vo vv)
       case atStart=>exact⟨0,by omega,rfl,_,_,_,_,S⟩
       case round =>
         clear S
         obtain⟨k,hk,rfl,gr,rc,vo,vv',S⟩:=hrel
         by_cases ck2:k<order
         · have ltk:(k:Int)<(order:Int):=by omega
           have S0:SeS w j b db (.slice (some ⟨ab,ao,none⟩) j aC) (.slice (some ⟨ob,oo,none⟩) 1 oC) X (LLt (cofL V k) (fun i=>V i k) 0) k gr rc wr vo vv':=S.congrL fun i _=>by rw [LLt_cof,if_neg (by omega)]
           have cO:=tone_w w j b db ab ao aC ob oo oC t Z X (fun i=>V i k) (cofL V k) k (by omega) hn (Kn k) ht (fun i _=>cofL_len V k i) (by rw [cofL_push];exact cofL_mem fun t' _=>hV _ t') (hX (k+1)) (ck k ck2) (cv k ck2) O lo co (fun j' hj' W vo gr rc vv S=>tnexts_w Z V ab ao aC ob oo oC (by omega) hj' (hZ k ck2 j' hj') (fun i t _=>hV i t) (he k ck2 j' hj') W vo gr rc vv S) gr rc wr vo vv' S0
           clear S S0
           go_upto_region 11 with (go_at_call 43;(with_reducible refine cO.mono ?_);rintro _ W1 ⟨rfl,gr2,rc2,vo2,vv2,S⟩)
           go_wp2_with fail
           obtain⟨g,rfl⟩:∃g,gk=g+1:=⟨gk-1,by omega⟩
           go_roundg g
           case measure=>omega
           case rel=>exact⟨k+1,by omega,by go_num,_,_,_,_,S.congrL fun i hi=>by rw [LLt_cof,if_pos hi]⟩
         · obtain rfl:k=order:=by omega
           have ltk:¬(k:Int)<(k:Int):=by omega
           have c4:=S.c4
           go_wp2_with fail
           refine bodyPost_ret (v:=.tuple #[vv',.int .i64 0]) (by simp [results,Tryz.results20,go_sem, *]) rfl ⟨_,rfl,_,_,_,_,_,S⟩
end Go.Proofs.YtgfppdboogldlaaGreat
