/- taylor: all operations' coefficients of one order, and the variable's next. Intervals hold rational numbers: sums, negatives, differences, products. -/
import Derived.Test.YtgfppdboogldlaaGreatZs30
import Derived.Test.YtgfppdboogldlaaGreatZs20
namespace Go.Proofs.YtgfppdboogldlaaGreat
open Go.ChangeShapes Go.WideShapes Go.ChangeAt Go.RowKit
theorem grewT (w:World) (o:Obj):Below w.heap.size w (w.alloc o):=Below.alloc (Below.refl _ _) (Nat.le_refl _) _
def LLt (L:Nat→List (Nat×Nat)) (P:Nat→Nat×Nat) (j:Nat):Nat→List (Nat×Nat):=fun i=>if i<j then L i++[P i] else L i
theorem LLt_push (L:Nat→List (Nat×Nat)) (P:Nat→Nat×Nat) (j:Nat):updT (LLt L P j) j (LLt L P j j++[P j])=LLt L P (j+1):=by
 funext i
 by_cases e:i=j
 · subst e
   rw [updT_same]
   unfold LLt
   rw [if_neg (by omega),if_pos (by omega)]
 · rw [updT_other _ _ e]
   unfold LLt
   by_cases c:i<j
   · rw [if_pos c,if_pos (by omega)]
   · rw [if_neg c,if_neg (by omega)]
structure OpAt (w:World) (q:Nat) (z:Opw):Prop where
 c0:w.cell? ⟨q,0,none⟩=some (.int .i64 z.k)
 c1:w.cell? ⟨q,1,none⟩=some (.int .i64 z.a)
 c2:w.cell? ⟨q,2,none⟩=some (.int .i64 z.b)
 c3:w.cell? ⟨q,3,none⟩=some (.int .i64 z.n)
 c4:w.cell? ⟨q,4,none⟩=some (.float .f64 z.lo)
 c5:w.cell? ⟨q,5,none⟩=some (.float .f64 z.hi)
 lt:q<w.heap.size
theorem OpAt.keep {w W:World} {q:Nat} {z:Opw} (h:OpAt w q z) (k:Below w.heap.size w W):OpAt W q z:=⟨keepsC k h.c0 h.lt,keepsC k h.c1 h.lt,keepsC k h.c2 h.lt,keepsC k h.c3 h.lt,keepsC k h.c4 h.lt,keepsC k h.c5 h.lt,Nat.lt_of_lt_of_le h.lt k.size⟩
set_option maxHeartbeats 4000000 in
set_option maxRecDepth 4000 in
theorem tone_w (w0:World) (n b db ab ao aC ob oo oC t:Nat) (Z:Nat→Opw) (X P:Nat→Nat×Nat) (L:Nat→List (Nat×Nat)) (k:Nat) (hk:k≤1000) (hn:n≤1000) (K:Nat×Nat) (ht:t<n) (hL:∀i,i<n→(L i).length=k) (hW:∀p∈L t++[P t],p.1<18446744073709551616∧p.2<18446744073709551616) (hX:W2 (X (k+1)))
   (ck:∀w,Calls Tryz.prog 98 #[.float .f64 (floatOfInt .f64 ((k:Int)+1))] w fun e w'=>e=.returned (.agg #[.float .f64 K.1,.float .f64 K.2])∧Below w.heap.size w w') (cv:∀w,Calls Tryz.prog 142 #[.agg #[.float .f64 (P t).1,.float .f64 (P t).2],.agg #[.float .f64 K.1,.float .f64 K.2]] w fun e w'=>e=.returned (.agg #[.float .f64 (X (k+1)).1,.float .f64 (X (k+1)).2])∧Below w.heap.size w w')
   (O:Ops w0 (some ⟨ab,ao,none⟩) n Z) (lo:ob<w0.heap.size) (co:w0.cell? ⟨ob,oo,none⟩=some (.int .i64 (t:Int)))
   (cn:∀j,j<n→∀W vo gr rc vv,SeS w0 n b db (.slice (some ⟨ab,ao,none⟩) n aC) (.slice (some ⟨ob,oo,none⟩) 1 oC) X (LLt L P j) k gr rc W vo vv→Calls Tryz.prog 62 #[.pointer (some ⟨b,0,none⟩),.int .i64 (k:Int),(Z j).val,.pointer (some ⟨db,j*2,none⟩)] W fun e w'=>e=.returned (.tuple #[.agg #[.float .f64 (P j).1,.float .f64 (P j).2],.int .i64 0])∧Below W.heap.size W w')
   (gr rc:Nat→Nat) (w:World) (vo:Nat→Value) (vv:Value) (S:SeS w0 n b db (.slice (some ⟨ab,ao,none⟩) n aC) (.slice (some ⟨ob,oo,none⟩) 1 oC) X (LLt L P 0) k gr rc w vo vv) :
   Calls Tryz.prog 43 #[.pointer (some ⟨b,0,none⟩),.int .i64 (k:Int)] w fun e w'=>e=.returned (.int .i64 0)∧∃gr rc vo vv,SeS w0 n b db (.slice (some ⟨ab,ao,none⟩) n aC) (.slice (some ⟨ob,oo,none⟩) 1 oC) X (LLt L P n) (k+1) gr rc w' vo vv:=by
 have c2:=S.c2
 have ltn:(n:Int)≤1000:=by omega
 go_enter Tryz.func43,Tryz.ntmps43
 go_wp2_with fail
 clear c2
 go_loopg [15] n (fun G s15 wx=>∃j:Nat,j+G=n∧s15=.int .i64 (j:Int)∧∃vo,SeS w0 n b db (.slice (some ⟨ab,ao,none⟩) n aC) (.slice (some ⟨ob,oo,none⟩) 1 oC) X (LLt L P j) k gr rc wx vo vv)
 case atStart=>exact⟨0,by omega,rfl,vo,S⟩
 case round =>
   clear S vo
   obtain⟨j,hj,rfl,vo,S⟩:=hrel
   by_cases cj:j<n
   · have ltj:(j:Int)<(n:Int):=by omega
     obtain⟨ob',oo',oe,ol,e0,e1,e2,e3,e4,e5, -⟩:=(O.keep S.bl) j cj
     simp only [Option.some.injEq,Addr.mk.injEq,and_true] at oe
     obtain⟨rfl,rfl⟩:=oe
     go_upto_region 4 with fail
     have hb0:Below wr.heap.size wr (wr.alloc (.cells #[.int .i64 (Z j).k,.int .i64 (Z j).a,.int .i64 (Z j).b,.int .i64 (Z j).n,.float .f64 (Z j).lo,.float .f64 (Z j).hi] 45)):=Below.alloc (Below.refl _ _) (Nat.le_refl _) _
     have q0:(wr.alloc (.cells #[.int .i64 (Z j).k,.int .i64 (Z j).a,.int .i64 (Z j).b,.int .i64 (Z j).n,.float .f64 (Z j).lo,.float .f64 (Z j).hi] 45)).cell? ⟨wr.heap.size,0,none⟩=some (.int .i64 (Z j).k):=by go_simp
     have q1:(wr.alloc (.cells #[.int .i64 (Z j).k,.int .i64 (Z j).a,.int .i64 (Z j).b,.int .i64 (Z j).n,.float .f64 (Z j).lo,.float .f64 (Z j).hi] 45)).cell? ⟨wr.heap.size,1,none⟩=some (.int .i64 (Z j).a):=by go_simp
     have q2:(wr.alloc (.cells #[.int .i64 (Z j).k,.int .i64 (Z j).a,.int .i64 (Z j).b,.int .i64 (Z j).n,.float .f64 (Z j).lo,.float .f64 (Z j).hi] 45)).cell? ⟨wr.heap.size,2,none⟩=some (.int .i64 (Z j).b):=by go_simp
     have q3:(wr.alloc (.cells #[.int .i64 (Z j).k,.int .i64 (Z j).a,.int .i64 (Z j).b,.int .i64 (Z j).n,.float .f64 (Z j).lo,.float .f64 (Z j).hi] 45)).cell? ⟨wr.heap.size,3,none⟩=some (.int .i64 (Z j).n):=by go_simp
     have q4:(wr.alloc (.cells #[.int .i64 (Z j).k,.int .i64 (Z j).a,.int .i64 (Z j).b,.int .i64 (Z j).n,.float .f64 (Z j).lo,.float .f64 (Z j).hi] 45)).cell? ⟨wr.heap.size,4,none⟩=some (.float .f64 (Z j).lo):=by go_simp
     have q5:(wr.alloc (.cells #[.int .i64 (Z j).k,.int .i64 (Z j).a,.int .i64 (Z j).b,.int .i64 (Z j).n,.float .f64 (Z j).lo,.float .f64 (Z j).hi] 45)).cell? ⟨wr.heap.size,5,none⟩=some (.float .f64 (Z j).hi):=by go_simp
     have xq:wr.heap.size<(wr.alloc (.cells #[.int .i64 (Z j).k,.int .i64 (Z j).a,.int .i64 (Z j).b,.int .i64 (Z j).n,.float .f64 (Z j).lo,.float .f64 (Z j).hi] 45)).heap.size:=by go_size
     replace S:=S.keep hb0
     clear hb0 e0 e1 e2 e3 e4 e5 ol
     generalize (wr.alloc (.cells #[.int .i64 (Z j).k,.int .i64 (Z j).a,.int .i64 (Z j).b,.int .i64 (Z j).n,.float .f64 (Z j).lo,.float .f64 (Z j).hi] 45))=V1 at *
     generalize wr.heap.size=qb at *
     have Q:OpAt V1 qb (Z j):=⟨q0,q1,q2,q3,q4,q5,xq⟩
     clear q0 q1 q2 q3 q4 q5 xq
     unfold Opw.val at cn
     go_cut [7,8] from 20 to 32 (fun s7 s8 wx=>∃xb,s7=.pointer (some ⟨xb,0,none⟩)∧s8=.int .i64 0∧SeS w0 n b db (.slice (some ⟨ab,ao,none⟩) n aC) (.slice (some ⟨ob,oo,none⟩) 1 oC) X (LLt L P j) k gr rc wx vo vv∧Has2 wx xb (.float .f64 (P j).1) (.float .f64 (P j).2)∧(vo j).ownBlock≠some xb)
     case first =>
       have HD:Below V1.heap.size V1 V1.drew:=(Below.refl _ _).drew
       refine wp_region_held_drew (S:=fun w'=>w'.cell? ⟨qb,0,none⟩=some (.int .i64 (Z j).k)∧w'.cell? ⟨qb,1,none⟩=some (.int .i64 (Z j).a)∧w'.cell? ⟨qb,2,none⟩=some (.int .i64 (Z j).b)∧w'.cell? ⟨qb,3,none⟩=some (.int .i64 (Z j).n)∧w'.cell? ⟨qb,4,none⟩=some (.float .f64 (Z j).lo)∧w'.cell? ⟨qb,5,none⟩=some (.float .f64 (Z j).hi)∧w'.cell? ⟨b,5,none⟩=some (.slice (some ⟨db,0,none⟩) n n)) (by kernel_rfl) ⟨Q.c0,Q.c1,Q.c2,Q.c3,Q.c4,Q.c5,S.c5⟩ (fun hHeld=>?_)
       replace S:=S.keep HD;replace Q:=Q.keep HD;clear HD
       generalize V1.drew=V4 at *
       refine wpAnyH_take (i:=0) (v:=?_) rfl (by kernel_rfl) (by kernel_rfl) (by kernel_rfl) (fun _ _ _ h=>h) (Or.inl ⟨by rfl, ?_⟩) hHeld ?_;rotate_left;(focus ((intro w hSw;(try dsimp only at hSw);go_simp);try with_reducible rfl));simp only [List.getElem_toArray,List.getElem_cons_zero,Act.put,List.setIfInBounds_toArray,List.set_cons_zero,List.set_cons_succ];refine wpAnyH_take (i:=1) (v:=?_) rfl (by kernel_rfl) (by kernel_rfl) (by kernel_rfl) (fun _ _ _ h=>h) (Or.inl ⟨by rfl, ?_⟩) hHeld ?_;rotate_left;(focus ((intro w hSw;(try dsimp only at hSw);go_simp);try with_reducible rfl));simp only [List.getElem_toArray,List.getElem_cons_zero,List.getElem_cons_succ,Act.put,List.setIfInBounds_toArray,List.set_cons_zero,List.set_cons_succ];refine wpAnyH_take (i:=2) (v:=?_) rfl (by kernel_rfl) (by kernel_rfl) (by kernel_rfl) (fun _ _ _ h=>h) (Or.inl ⟨by rfl, ?_⟩) hHeld ?_;rotate_left;(focus ((intro w hSw;(try dsimp only at hSw);go_simp);try with_reducible rfl));simp only [List.getElem_toArray,List.getElem_cons_zero,List.getElem_cons_succ,Act.put,List.setIfInBounds_toArray,List.set_cons_zero,List.set_cons_succ];refine wpAnyH_take (i:=3) (v:=?_) rfl (by kernel_rfl) (by kernel_rfl) (by kernel_rfl) (fun _ _ _ h=>h) (Or.inl ⟨by rfl, ?_⟩) hHeld ?_;rotate_left;(focus ((intro w hSw;(try dsimp only at hSw);go_simp);try with_reducible rfl));simp only [List.getElem_toArray,List.getElem_cons_zero,List.getElem_cons_succ,Act.put,List.setIfInBounds_toArray,List.set_cons_zero,List.set_cons_succ];refine wpAnyH_take (i:=4) (v:=?_) rfl (by kernel_rfl) (by kernel_rfl) (by kernel_rfl) (fun _ _ _ h=>h) (Or.inl ⟨by rfl, ?_⟩) hHeld ?_;rotate_left;(focus ((intro w hSw;(try dsimp only at hSw);go_simp);try with_reducible rfl));simp only [List.getElem_toArray,List.getElem_cons_zero,List.getElem_cons_succ,Act.put,List.setIfInBounds_toArray,List.set_cons_zero,List.set_cons_succ];refine wpAnyH_take (i:=5) (v:=?_) rfl (by kernel_rfl) (by kernel_rfl) (by kernel_rfl) (fun _ _ _ h=>h) (Or.inl ⟨by rfl, ?_⟩) hHeld ?_;rotate_left;(focus ((intro w hSw;(try dsimp only at hSw);go_simp);try with_reducible rfl));simp only [List.getElem_toArray,List.getElem_cons_zero,List.getElem_cons_succ,Act.put,List.setIfInBounds_toArray,List.set_cons_zero,List.set_cons_succ];refine wpAnyH_take (i:=6) (v:=?_) rfl (by kernel_rfl) (by kernel_rfl) (by kernel_rfl) (fun _ _ _ h=>h) (Or.inl ⟨by rfl, ?_⟩) hHeld ?_;rotate_left;(focus ((intro w hSw;(try dsimp only at hSw);go_simp);try with_reducible rfl));simp only [List.getElem_toArray,List.getElem_cons_zero,List.getElem_cons_succ,Act.put,List.setIfInBounds_toArray,List.set_cons_zero,List.set_cons_succ];refine wpAnyH_take (i:=7) (v:=?_) rfl (by kernel_rfl) (by kernel_rfl) (by kernel_rfl) (fun _ _ _ h=>h) (Or.inl ⟨by rfl, ?_⟩) hHeld ?_;rotate_left;(focus ((intro w hSw;(try dsimp only at hSw);go_simp);try with_reducible rfl));simp only [List.getElem_toArray,List.getElem_cons_zero,List.getElem_cons_succ,Act.put,List.setIfInBounds_toArray,List.set_cons_zero,List.set_cons_succ];refine wpAnyH_take (i:=8) (v:=?_) rfl (by kernel_rfl) (by kernel_rfl) (by kernel_rfl) (fun _ _ _ h=>h) (Or.inl ⟨by rfl, ?_⟩) hHeld ?_;rotate_left;(focus ((intro w hSw;(try dsimp only at hSw);go_simp);try with_reducible rfl));simp only [List.getElem_toArray,List.getElem_cons_zero,List.getElem_cons_succ,Act.put,List.setIfInBounds_toArray,List.set_cons_zero,List.set_cons_succ]
       refine wpAnyH_ready (rs:=[9,13]) (by kernel_rfl) (by simp) ?_
       refine AllReadyH.cons rfl (fun K hK=>?_) (AllReadyH.cons rfl (fun K hK=>?_) AllReadyH.nil)
       · skip
         simp only [List.getElem_toArray,List.getElem_cons_zero,List.getElem_cons_succ,Act.put,List.setIfInBounds_toArray,List.set_cons_zero,List.set_cons_succ]
         go_simp
         go_at_call 62
         (with_reducible refine (cn j cj _ vo gr rc vv S).mono ?_)
         rintro _ W1 ⟨rfl,hb1⟩
         replace S:=S.keep hb1;replace Q:=Q.keep hb1
         clear hb1
         dsimp only
         refine hK.out _ _ ⟨Q.c0,Q.c1,Q.c2,Q.c3,Q.c4,Q.c5,S.c5⟩ (fun hHeld=>?_)
         clear hK K
         refine wpAnyH_take (i:=10) (v:=?_) rfl (by kernel_rfl) (by kernel_rfl) (by kernel_rfl) (fun _ _ _ h=>h) (Or.inl ⟨by rfl, ?_⟩) hHeld ?_;rotate_left;(focus ((intro w hSw;(try dsimp only at hSw);go_simp);try with_reducible rfl));simp only [List.getElem_toArray,List.getElem_cons_zero,List.getElem_cons_succ,Act.put,List.setIfInBounds_toArray,List.set_cons_zero,List.set_cons_succ];refine wpAnyH_take (i:=11) (v:=?_) rfl (by kernel_rfl) (by kernel_rfl) (by kernel_rfl) (fun _ _ _ h=>h) (Or.inl ⟨by rfl, ?_⟩) hHeld ?_;rotate_left;(focus ((intro w hSw;(try dsimp only at hSw);go_simp);try with_reducible rfl));simp only [List.getElem_toArray,List.getElem_cons_zero,List.getElem_cons_succ,Act.put,List.setIfInBounds_toArray,List.set_cons_zero,List.set_cons_succ];refine wpAnyH_take (i:=12) (v:=?_) rfl (by kernel_rfl) (by kernel_rfl) (by kernel_rfl) (fun _ _ _ h=>h) (Or.inl ⟨by rfl, ?_⟩) hHeld ?_;rotate_left;(focus ((intro w hSw;(try dsimp only at hSw);go_simp);try with_reducible rfl));simp only [List.getElem_toArray,List.getElem_cons_zero,List.getElem_cons_succ,Act.put,List.setIfInBounds_toArray,List.set_cons_zero,List.set_cons_succ]
         refine wpAnyH_ready (rs:=[13]) (by kernel_rfl) (by simp) ?_;refine AllReadyH.cons rfl (fun K hK=>?_) AllReadyH.nil;simp only [List.getElem_toArray,List.getElem_cons_zero,List.getElem_cons_succ,Act.put,List.setIfInBounds_toArray,List.set_cons_zero,List.set_cons_succ];go_simp
         have SB:=S;have QB:=Q
         have nx:(vo j).ownBlock≠some W1.heap.size:=fun e=>Nat.lt_irrefl _ (own_at (SB.own j cj) _ e).2
         have hgB:=grewT W1 (.cells #[.float .f64 0,.float .f64 0] 43)
         have bx:=has2_new W1 (.float .f64 0) (.float .f64 0) 43
         skip
         replace S:=S.keep hgB;replace Q:=Q.keep hgB
         refine hK.out _ _ ⟨Q.c0,Q.c1,Q.c2,Q.c3,Q.c4,Q.c5,S.c5⟩ (fun hHeld=>?_)
         clear hK K
         generalize W1.alloc (.cells #[.float .f64 0,.float .f64 0] 43)=W2 at *
         generalize hnb:W1.heap.size=nb at *
         replace hgB:Below W1.heap.size W1 W2:=by rw [hnb];exact hgB
         have hs0:Below W1.heap.size W1 ((W2.setCell ⟨nb,0,none⟩ (.float .f64 (P j).1)).setCell ⟨nb,1,none⟩ (.float .f64 (P j).2)):=Below.setCell (Below.setCell hgB (show _≤nb by omega) _) (show _≤nb by omega) _
         obtain⟨bx0,bx1,bx2,bx3,bx4⟩:=id bx
         refine wpAnyH_ready (rs:=[14]) (by kernel_rfl) (by simp) ?_;refine AllReadyH.cons rfl (fun K hK=>?_) AllReadyH.nil;simp only [List.getElem_toArray,List.getElem_cons_zero,List.getElem_cons_succ,Act.put];go_simp
         replace S:=SB.keep hs0;replace Q:=QB.keep hs0
         replace bx:=bx.put (.float .f64 (P j).1) (.float .f64 (P j).2)
         clear bx0 bx1 bx2 bx3 bx4 hs0 hgB SB QB
         refine hK.out _ _ ⟨Q.c0,Q.c1,Q.c2,Q.c3,Q.c4,Q.c5,S.c5⟩ (fun hHeld=>?_)
         clear hK K
         generalize (W2.setCell ⟨nb,0,none⟩ (.float .f64 (P j).1)).setCell ⟨nb,1,none⟩ (.float .f64 (P j).2)=W3 at *
         refine wpAnyH_take (i:=15) (v:=?_) rfl (by kernel_rfl) (by kernel_rfl) (by kernel_rfl) (fun _ _ _ h=>h) (Or.inl ⟨by rfl, ?_⟩) hHeld ?_;rotate_left;(focus ((intro w hSw;(try dsimp only at hSw);go_simp);try with_reducible rfl));simp only [List.getElem_toArray,List.getElem_cons_zero,List.getElem_cons_succ,Act.put,List.setIfInBounds_toArray,List.set_cons_zero,List.set_cons_succ]
         refine wpAnyH_done (by kernel_rfl) ?_ _
         go_wp2_with fail
         go_meet
         case rel=>exact⟨nb,rfl,rfl,S,bx,nx⟩
       · skip
         simp only [List.getElem_toArray,List.getElem_cons_zero,List.getElem_cons_succ,Act.put,List.setIfInBounds_toArray,List.set_cons_zero,List.set_cons_succ]
         go_simp
         have SB:=S;have QB:=Q
         have nx:(vo j).ownBlock≠some V4.heap.size:=fun e=>Nat.lt_irrefl _ (own_at (SB.own j cj) _ e).2
         have hgB:=grewT V4 (.cells #[.float .f64 0,.float .f64 0] 43)
         have bx:=has2_new V4 (.float .f64 0) (.float .f64 0) 43
         skip
         replace S:=S.keep hgB;replace Q:=Q.keep hgB
         refine hK.out _ _ ⟨Q.c0,Q.c1,Q.c2,Q.c3,Q.c4,Q.c5,S.c5⟩ (fun hHeld=>?_)
         clear hK K
         generalize V4.alloc (.cells #[.float .f64 0,.float .f64 0] 43)=W2 at *
         generalize hnb:V4.heap.size=nb at *
         replace hgB:Below V4.heap.size V4 W2:=by rw [hnb];exact hgB
         refine wpAnyH_ready (rs:=[9]) (by kernel_rfl) (by simp) ?_;refine AllReadyH.cons rfl (fun K hK=>?_) AllReadyH.nil;simp only [List.getElem_toArray,List.getElem_cons_zero,List.getElem_cons_succ,Act.put,List.setIfInBounds_toArray,List.set_cons_zero,List.set_cons_succ];go_simp
         go_at_call 62
         (with_reducible refine (cn j cj _ vo gr rc vv S).mono ?_)
         rintro _ W1 ⟨rfl,hb1⟩
         replace S:=S.keep hb1;replace Q:=Q.keep hb1
         replace bx:=bx.keep hb1;replace hgB:=later hgB hb1;clear hb1
         dsimp only
         refine hK.out _ _ ⟨Q.c0,Q.c1,Q.c2,Q.c3,Q.c4,Q.c5,S.c5⟩ (fun hHeld=>?_)
         clear hK K
         refine wpAnyH_take (i:=10) (v:=?_) rfl (by kernel_rfl) (by kernel_rfl) (by kernel_rfl) (fun _ _ _ h=>h) (Or.inl ⟨by rfl, ?_⟩) hHeld ?_;rotate_left;(focus ((intro w hSw;(try dsimp only at hSw);go_simp);try with_reducible rfl));simp only [List.getElem_toArray,List.getElem_cons_zero,List.getElem_cons_succ,Act.put,List.setIfInBounds_toArray,List.set_cons_zero,List.set_cons_succ];refine wpAnyH_take (i:=11) (v:=?_) rfl (by kernel_rfl) (by kernel_rfl) (by kernel_rfl) (fun _ _ _ h=>h) (Or.inl ⟨by rfl, ?_⟩) hHeld ?_;rotate_left;(focus ((intro w hSw;(try dsimp only at hSw);go_simp);try with_reducible rfl));simp only [List.getElem_toArray,List.getElem_cons_zero,List.getElem_cons_succ,Act.put,List.setIfInBounds_toArray,List.set_cons_zero,List.set_cons_succ];refine wpAnyH_take (i:=12) (v:=?_) rfl (by kernel_rfl) (by kernel_rfl) (by kernel_rfl) (fun _ _ _ h=>h) (Or.inl ⟨by rfl, ?_⟩) hHeld ?_;rotate_left;(focus ((intro w hSw;(try dsimp only at hSw);go_simp);try with_reducible rfl));simp only [List.getElem_toArray,List.getElem_cons_zero,List.getElem_cons_succ,Act.put,List.setIfInBounds_toArray,List.set_cons_zero,List.set_cons_succ]
         have hs0:Below V4.heap.size V4 ((W1.setCell ⟨nb,0,none⟩ (.float .f64 (P j).1)).setCell ⟨nb,1,none⟩ (.float .f64 (P j).2)):=Below.setCell (Below.setCell hgB (show _≤nb by omega) _) (show _≤nb by omega) _
         obtain⟨bx0,bx1,bx2,bx3,bx4⟩:=id bx
         refine wpAnyH_ready (rs:=[14]) (by kernel_rfl) (by simp) ?_;refine AllReadyH.cons rfl (fun K hK=>?_) AllReadyH.nil;simp only [List.getElem_toArray,List.getElem_cons_zero,List.getElem_cons_succ,Act.put];go_simp
         replace S:=SB.keep hs0;replace Q:=QB.keep hs0
         replace bx:=bx.put (.float .f64 (P j).1) (.float .f64 (P j).2)
         clear bx0 bx1 bx2 bx3 bx4 hs0 hgB SB QB
         refine hK.out _ _ ⟨Q.c0,Q.c1,Q.c2,Q.c3,Q.c4,Q.c5,S.c5⟩ (fun hHeld=>?_)
         clear hK K
         generalize (W1.setCell ⟨nb,0,none⟩ (.float .f64 (P j).1)).setCell ⟨nb,1,none⟩ (.float .f64 (P j).2)=W3 at *
         refine wpAnyH_take (i:=15) (v:=?_) rfl (by kernel_rfl) (by kernel_rfl) (by kernel_rfl) (fun _ _ _ h=>h) (Or.inl ⟨by rfl, ?_⟩) hHeld ?_;rotate_left;(focus ((intro w hSw;(try dsimp only at hSw);go_simp);try with_reducible rfl));simp only [List.getElem_toArray,List.getElem_cons_zero,List.getElem_cons_succ,Act.put,List.setIfInBounds_toArray,List.set_cons_zero,List.set_cons_succ]
         refine wpAnyH_done (by kernel_rfl) ?_ _
         go_wp2_with fail
         go_meet
         case rel=>exact⟨nb,rfl,rfl,S,bx,nx⟩
     case rest =>
       clear S Q
       obtain⟨xb,rfl,rfl,S2,X2,nx⟩:=hcut
       go_upto_region 7 with fail
       generalize wc=V2 at *
       have HD:Below V2.heap.size V2 V2.drew:=(Below.refl _ _).drew
       replace S2:=S2.keep HD;replace X2:=X2.keep HD;clear HD
       refine held_tail 18 (fun w'=>w'.cell? ⟨b,5,none⟩=some (.slice (some ⟨db,0,none⟩) n n)∧w'.cell? ⟨db,j*2,none⟩=some (vo j)∧w'.cell? ⟨xb,0,none⟩=some (.float .f64 (P j).1)∧w'.cell? ⟨xb,1,none⟩=some (.float .f64 (P j).2)) (by kernel_rfl) (by kernel_rfl) ⟨S2.c5,S2.cel j cj,X2.1,X2.2.1⟩ (fun hHeld=>?_)
       generalize V2.drew=V3 at *
       simp only [List.take_succ_cons,List.take_zero]
       refine wpAnyH_take (i:=0) (v:=?_) rfl (by kernel_rfl) (by kernel_rfl) (by kernel_rfl) (fun _ _ _ h=>h) (Or.inl ⟨by rfl, ?_⟩) hHeld ?_;rotate_left;(focus ((intro w hSw;(try dsimp only at hSw);go_simp);try with_reducible rfl));simp only [List.getElem_toArray,List.getElem_cons_zero,Act.put,List.setIfInBounds_toArray,List.set_cons_zero,List.set_cons_succ];refine wpAnyH_take (i:=1) (v:=?_) rfl (by kernel_rfl) (by kernel_rfl) (by kernel_rfl) (fun _ _ _ h=>h) (Or.inl ⟨by rfl, ?_⟩) hHeld ?_;rotate_left;(focus ((intro w hSw;(try dsimp only at hSw);go_simp);try with_reducible rfl));simp only [List.getElem_toArray,List.getElem_cons_zero,List.getElem_cons_succ,Act.put,List.setIfInBounds_toArray,List.set_cons_zero,List.set_cons_succ];refine wpAnyH_take (i:=2) (v:=?_) rfl (by kernel_rfl) (by kernel_rfl) (by kernel_rfl) (fun _ _ _ h=>h) (Or.inl ⟨by rfl, ?_⟩) hHeld ?_;rotate_left;(focus ((intro w hSw;(try dsimp only at hSw);go_simp);try with_reducible rfl));simp only [List.getElem_toArray,List.getElem_cons_zero,List.getElem_cons_succ,Act.put,List.setIfInBounds_toArray,List.set_cons_zero,List.set_cons_succ];refine wpAnyH_take (i:=3) (v:=?_) rfl (by kernel_rfl) (by kernel_rfl) (by kernel_rfl) (fun _ _ _ h=>h) (Or.inl ⟨by rfl, ?_⟩) hHeld ?_;rotate_left;(focus ((intro w hSw;(try dsimp only at hSw);go_simp);try with_reducible rfl));simp only [List.getElem_toArray,List.getElem_cons_zero,List.getElem_cons_succ,Act.put,List.setIfInBounds_toArray,List.set_cons_zero,List.set_cons_succ];refine wpAnyH_take (i:=4) (v:=?_) rfl (by kernel_rfl) (by kernel_rfl) (by kernel_rfl) (fun _ _ _ h=>h) (Or.inl ⟨by rfl, ?_⟩) hHeld ?_;rotate_left;(focus ((intro w hSw;(try dsimp only at hSw);go_simp);try with_reducible rfl));simp only [List.getElem_toArray,List.getElem_cons_zero,List.getElem_cons_succ,Act.put,List.setIfInBounds_toArray,List.set_cons_zero,List.set_cons_succ];refine wpAnyH_take (i:=5) (v:=?_) rfl (by kernel_rfl) (by kernel_rfl) (by kernel_rfl) (fun _ _ _ h=>h) (Or.inl ⟨by rfl, ?_⟩) hHeld ?_;rotate_left;(focus ((intro w hSw;(try dsimp only at hSw);go_simp);try with_reducible rfl));simp only [List.getElem_toArray,List.getElem_cons_zero,List.getElem_cons_succ,Act.put,List.setIfInBounds_toArray,List.set_cons_zero,List.set_cons_succ];refine wpAnyH_take (i:=6) (v:=?_) rfl (by kernel_rfl) (by kernel_rfl) (by kernel_rfl) (fun _ _ _ h=>h) (Or.inl ⟨by rfl, ?_⟩) hHeld ?_;rotate_left;(focus ((intro w hSw;(try dsimp only at hSw);go_simp);try with_reducible rfl));simp only [List.getElem_toArray,List.getElem_cons_zero,List.getElem_cons_succ,Act.put,List.setIfInBounds_toArray,List.set_cons_zero,List.set_cons_succ];refine wpAnyH_take (i:=7) (v:=?_) rfl (by kernel_rfl) (by kernel_rfl) (by kernel_rfl) (fun _ _ _ h=>h) (Or.inl ⟨by rfl, ?_⟩) hHeld ?_;rotate_left;(focus ((intro w hSw;(try dsimp only at hSw);go_simp);try with_reducible rfl));simp only [List.getElem_toArray,List.getElem_cons_zero,List.getElem_cons_succ,Act.put,List.setIfInBounds_toArray,List.set_cons_zero,List.set_cons_succ];refine wpAnyH_take (i:=8) (v:=?_) rfl (by kernel_rfl) (by kernel_rfl) (by kernel_rfl) (fun _ _ _ h=>h) (Or.inl ⟨by rfl, ?_⟩) hHeld ?_;rotate_left;(focus ((intro w hSw;(try dsimp only at hSw);go_simp);try with_reducible rfl));simp only [List.getElem_toArray,List.getElem_cons_zero,List.getElem_cons_succ,Act.put,List.setIfInBounds_toArray,List.set_cons_zero,List.set_cons_succ];refine wpAnyH_take (i:=9) (v:=?_) rfl (by kernel_rfl) (by kernel_rfl) (by kernel_rfl) (fun _ _ _ h=>h) (Or.inl ⟨by rfl, ?_⟩) hHeld ?_;rotate_left;(focus ((intro w hSw;(try dsimp only at hSw);go_simp);try with_reducible rfl));simp only [List.getElem_toArray,List.getElem_cons_zero,List.getElem_cons_succ,Act.put,List.setIfInBounds_toArray,List.set_cons_zero,List.set_cons_succ];refine wpAnyH_take (i:=10) (v:=?_) rfl (by kernel_rfl) (by kernel_rfl) (by kernel_rfl) (fun _ _ _ h=>h) (Or.inl ⟨by rfl, ?_⟩) hHeld ?_;rotate_left;(focus ((intro w hSw;(try dsimp only at hSw);go_simp);try with_reducible rfl));simp only [List.getElem_toArray,List.getElem_cons_zero,List.getElem_cons_succ,Act.put,List.setIfInBounds_toArray,List.set_cons_zero,List.set_cons_succ];refine wpAnyH_take (i:=11) (v:=?_) rfl (by kernel_rfl) (by kernel_rfl) (by kernel_rfl) (fun _ _ _ h=>h) (Or.inl ⟨by rfl, ?_⟩) hHeld ?_;rotate_left;(focus ((intro w hSw;(try dsimp only at hSw);go_simp);try with_reducible rfl));simp only [List.getElem_toArray,List.getElem_cons_zero,List.getElem_cons_succ,Act.put,List.setIfInBounds_toArray,List.set_cons_zero,List.set_cons_succ];refine wpAnyH_take (i:=12) (v:=?_) rfl (by kernel_rfl) (by kernel_rfl) (by kernel_rfl) (fun _ _ _ h=>h) (Or.inl ⟨by rfl, ?_⟩) hHeld ?_;rotate_left;(focus ((intro w hSw;(try dsimp only at hSw);go_simp);try with_reducible rfl));simp only [List.getElem_toArray,List.getElem_cons_zero,List.getElem_cons_succ,Act.put,List.setIfInBounds_toArray,List.set_cons_zero,List.set_cons_succ];refine wpAnyH_take (i:=13) (v:=?_) rfl (by kernel_rfl) (by kernel_rfl) (by kernel_rfl) (fun _ _ _ h=>h) (Or.inl ⟨by rfl, ?_⟩) hHeld ?_;rotate_left;(focus ((intro w hSw;(try dsimp only at hSw);go_simp);try with_reducible rfl));simp only [List.getElem_toArray,List.getElem_cons_zero,List.getElem_cons_succ,Act.put,List.setIfInBounds_toArray,List.set_cons_zero,List.set_cons_succ]
       refine wpAnyH_ready (rs:=[14]) (by kernel_rfl) (by simp) ?_;refine AllReadyH.cons rfl (fun K hK=>?_) AllReadyH.nil;simp only [List.getElem_toArray,List.getElem_cons_zero,List.getElem_cons_succ,Act.put,List.setIfInBounds_toArray,List.set_cons_zero,List.set_cons_succ];go_simp
       have hlen:(LLt L P j j).length≤2000000:=by
         unfold LLt
         rw [if_neg (by omega),hL j cj]
         omega
       have hg0:=grewT V3 (.cells #[.float .f64 (P j).1,.float .f64 (P j).2] 43)
       refine hK.out _ _ ⟨keepsC hg0 S2.c5 S2.pl.2,keepsC hg0 (S2.cel j cj) S2.dl,keepsC hg0 X2.1 X2.2.2.2.2,keepsC hg0 X2.2.1 X2.2.2.2.2⟩ (fun hHeld=>?_)
       clear hK K
       refine wpAnyH_ready (rs:=[15]) (by kernel_rfl) (by simp) ?_
       refine AllReadyH.cons rfl (fun K hK=>?_) AllReadyH.nil
       simp only [List.getElem_toArray,List.getElem_cons_zero,List.getElem_cons_succ,Act.put,List.setIfInBounds_toArray,List.set_cons_zero,List.set_cons_succ]
       refine wp_pushA (.tmp 48) (.tmp 50) rfl (vo j) (LLt L P j j) (P j).1 (P j).2 rfl rfl (S2.own j cj) hlen S2.bl.size ?_
       intro v' wp U G gg
       have hx0:wp.heap[xb]?=V3.heap[xb]?:=(G.block xb (Nat.lt_of_lt_of_le X2.2.2.2.2 hg0.size) (fun e=>nx e.symm)).trans (hg0.block xb X2.2.2.2.2)
       have hb5:wp.heap[b]?=V3.heap[b]?:=(G.block b (Nat.lt_of_lt_of_le S2.pl.2 hg0.size) (fun e=>(S2.ob j cj).1 e.symm)).trans (hg0.block b S2.pl.2)
       obtain⟨d0,d1⟩:=S2.db_at cj G
       have y0:=(World.cell?_of_block (w:=V3) (a:=⟨xb,0,none⟩) hx0).trans X2.1
       have y1:=(World.cell?_of_block (w:=V3) (a:=⟨xb,1,none⟩) hx0).trans X2.2.1
       have y5:=(World.cell?_of_block (w:=V3) (a:=⟨b,5,none⟩) hb5).trans S2.c5
       have S4:=S2.push cj (p:=P j) U G gg
       obtain⟨A',C',hv'⟩:=U.form
       have hv2:v'=.slice A' ((LLt L P j j).length+1) C':=by rw [hv'];simp
       subst hv2
       rw [LLt_push] at S4
       clear U G gg S2 hlen hv' hx0 hb5 hg0 X2
       refine hK.out _ _ ⟨y5,d0,y0,y1⟩ (fun hHeld=>?_)
       clear hK K
       refine wpAnyH_take (i:=16) (v:=?_) rfl (by kernel_rfl) (by kernel_rfl) (by kernel_rfl) (fun _ _ _ h=>h) (Or.inl ⟨by rfl, ?_⟩) hHeld ?_;rotate_left;(focus ((intro w hSw;(try dsimp only at hSw);go_simp);try with_reducible rfl));simp only [List.getElem_toArray,List.getElem_cons_zero,List.getElem_cons_succ,Act.put,List.setIfInBounds_toArray,List.set_cons_zero,List.set_cons_succ];refine wpAnyH_take (i:=17) (v:=?_) rfl (by kernel_rfl) (by kernel_rfl) (by kernel_rfl) (fun _ _ _ h=>h) (Or.inl ⟨by rfl, ?_⟩) hHeld ?_;rotate_left;(focus ((intro w hSw;(try dsimp only at hSw);go_simp);try with_reducible rfl));simp only [List.getElem_toArray,List.getElem_cons_zero,List.getElem_cons_succ,Act.put,List.setIfInBounds_toArray,List.set_cons_zero,List.set_cons_succ]
       refine wpAnyH_done (by kernel_rfl) ?_ _
       simp only [HeadQ,List.drop_succ_cons,List.drop_zero]
       go_wp2_with fail
       obtain⟨g,rfl⟩:∃g,gk=g+1:=⟨gk-1,by omega⟩
       go_roundg g
       case measure=>omega
       case rel=>exact⟨j+1,by omega,by go_num,_,S4⟩
   · obtain rfl:j=n:=by omega
     have ltj:¬(j:Int)<(j:Int):=by omega
     clear cn O
     go_upto_region 9 with fail
     have HD:Below wr.heap.size wr wr.drew:=(Below.refl _ _).drew
     replace S:=S.keep HD;clear HD
     refine held_tail 12 (fun w'=>w'.cell? ⟨b,4,none⟩=some vv) (by kernel_rfl) (by kernel_rfl) S.c4 (fun hHeld=>?_)
     generalize wr.drew=V3 at *
     simp only [List.take_succ_cons,List.take_zero]
     refine wpAnyH_take (i:=0) (v:=?_) rfl (by kernel_rfl) (by kernel_rfl) (by kernel_rfl) (fun _ _ _ h=>h) (Or.inl ⟨by rfl, ?_⟩) hHeld ?_;rotate_left;(focus ((intro w hSw;(try dsimp only at hSw);go_simp);try with_reducible rfl));simp only [List.getElem_toArray,List.getElem_cons_zero,Act.put,List.setIfInBounds_toArray,List.set_cons_zero,List.set_cons_succ];refine wpAnyH_take (i:=1) (v:=?_) rfl (by kernel_rfl) (by kernel_rfl) (by kernel_rfl) (fun _ _ _ h=>h) (Or.inl ⟨by rfl, ?_⟩) hHeld ?_;rotate_left;(focus ((intro w hSw;(try dsimp only at hSw);go_simp);try with_reducible rfl));simp only [List.getElem_toArray,List.getElem_cons_zero,List.getElem_cons_succ,Act.put,List.setIfInBounds_toArray,List.set_cons_zero,List.set_cons_succ];refine wpAnyH_take (i:=2) (v:=?_) rfl (by kernel_rfl) (by kernel_rfl) (by kernel_rfl) (fun _ _ _ h=>h) (Or.inl ⟨by rfl, ?_⟩) hHeld ?_;rotate_left;(focus ((intro w hSw;(try dsimp only at hSw);go_simp);try with_reducible rfl));simp only [List.getElem_toArray,List.getElem_cons_zero,List.getElem_cons_succ,Act.put,List.setIfInBounds_toArray,List.set_cons_zero,List.set_cons_succ];refine wpAnyH_take (i:=3) (v:=?_) rfl (by kernel_rfl) (by kernel_rfl) (by kernel_rfl) (fun _ _ _ h=>h) (Or.inl ⟨by rfl, ?_⟩) hHeld ?_;rotate_left;(focus ((intro w hSw;(try dsimp only at hSw);go_simp);try with_reducible rfl));simp only [List.getElem_toArray,List.getElem_cons_zero,List.getElem_cons_succ,Act.put,List.setIfInBounds_toArray,List.set_cons_zero,List.set_cons_succ];refine wpAnyH_take (i:=4) (v:=?_) rfl (by kernel_rfl) (by kernel_rfl) (by kernel_rfl) (fun _ _ _ h=>h) (Or.inl ⟨by rfl, ?_⟩) hHeld ?_;rotate_left;(focus ((intro w hSw;(try dsimp only at hSw);go_simp);try with_reducible rfl));simp only [List.getElem_toArray,List.getElem_cons_zero,List.getElem_cons_succ,Act.put,List.setIfInBounds_toArray,List.set_cons_zero,List.set_cons_succ];refine wpAnyH_take (i:=5) (v:=?_) rfl (by kernel_rfl) (by kernel_rfl) (by kernel_rfl) (fun _ _ _ h=>h) (Or.inl ⟨by rfl, ?_⟩) hHeld ?_;rotate_left;(focus ((intro w hSw;(try dsimp only at hSw);go_simp);try with_reducible rfl));simp only [List.getElem_toArray,List.getElem_cons_zero,List.getElem_cons_succ,Act.put,List.setIfInBounds_toArray,List.set_cons_zero,List.set_cons_succ];refine wpAnyH_take (i:=6) (v:=?_) rfl (by kernel_rfl) (by kernel_rfl) (by kernel_rfl) (fun _ _ _ h=>h) (Or.inl ⟨by rfl, ?_⟩) hHeld ?_;rotate_left;(focus ((intro w hSw;(try dsimp only at hSw);go_simp);try with_reducible rfl));simp only [List.getElem_toArray,List.getElem_cons_zero,List.getElem_cons_succ,Act.put,List.setIfInBounds_toArray,List.set_cons_zero,List.set_cons_succ]
     have eL:LLt L P j t=L t++[P t]:=if_pos ht
     have U:=S.own t ht
     rw [eL] at U
     obtain⟨A,C,hv,V⟩:=ownI_ivs U hW
     have hlen:(L t++[P t]).length=k+1:=by rw [List.length_append,hL t ht];rfl
     rw [hlen] at hv V
     have eY:(L t++[P t]).getD k (0,0)=P t:=by
       have e:=hL t ht
       rw [List.getD_eq_getElem?_getD,List.getElem?_append_right (by omega),e,Nat.sub_self]
       rfl
     have cc:=S.cel t ht
     rw [hv] at cc
     have ct:=tnov_w k b ob oo oC db j t (k+1) C A (fun i=>(L t++[P t]).getD i (0,0)) K (X (k+1)) ht (by omega) hk hX V3 S.pl (Nat.lt_of_lt_of_le lo S.bl.size) S.dl ck (by rw [eY];exact cv) S.c3 (keepsC S.bl co lo) S.c5 cc V
     clear U hv V hlen eY cc eL
     refine wpAnyH_ready (rs:=[7]) (by kernel_rfl) (by simp) ?_;refine AllReadyH.cons rfl (fun K hK=>?_) AllReadyH.nil;simp only [List.getElem_toArray,List.getElem_cons_zero,List.getElem_cons_succ,Act.put,List.setIfInBounds_toArray,List.set_cons_zero,List.set_cons_succ];go_simp
     go_at_call 63
     (with_reducible refine ct.mono ?_)
     rintro _ W1 ⟨⟨g,rfl,hg,I⟩,hb1⟩
     have gb:g≠b∧g≠db∧vv.ownBlock≠some g∧∀i,i<j→(vo i).ownBlock≠some g:=by
       refine⟨?_, ?_,fun e=>?_,fun i hi e=>?_⟩
       · have:=S.pl.2;omega
       · have:=S.dl;omega
       · have:=(World.ownsRow.lt S.hv g e).2;omega
       · have:=(own_at (S.own i hi) g e).2;omega
     replace S:=S.keep hb1
     clear hb1 ct
     dsimp only
     refine hK.out _ _ S.c4 (fun hHeld=>?_)
     clear hK K
     refine wpAnyH_ready (rs:=[8]) (by kernel_rfl) (by simp) ?_;refine AllReadyH.cons rfl (fun K hK=>?_) AllReadyH.nil;simp only [List.getElem_toArray,List.getElem_cons_zero,List.getElem_cons_succ,Act.put,List.setIfInBounds_toArray,List.set_cons_zero,List.set_cons_succ];go_simp
     have hg0:=grewT W1 (.cells #[.slice (some ⟨g,0,none⟩) 1 1] 26)
     refine hK.out _ _ (keepsC hg0 S.c4 S.pl.2) (fun hHeld=>?_)
     clear hK K
     refine wpAnyH_ready (rs:=[9]) (by kernel_rfl) (by simp) ?_
     refine AllReadyH.cons rfl (fun K hK=>?_) AllReadyH.nil
     simp only [List.getElem_toArray,List.getElem_cons_zero,List.getElem_cons_succ,Act.put,List.setIfInBounds_toArray,List.set_cons_zero,List.set_cons_succ]
     refine wp_pushAR (.tmp 59) (.tmp 63) rfl vv (rowsT gr rc k) (some ⟨g,0,none⟩) 1 1 rfl rfl S.hv (by unfold rowsT;simp;omega) S.bl.size ?_
     intro v' wp U G gg
     obtain⟨d0,d1⟩:=S.b_at G
     have S4:=S.pushV I gb U G gg
     obtain⟨A',C',hv'⟩:=ownR_form U
     have hv2:v'=.slice A' (k+1+1) C':=by rw [hv'];simp [rowsT]
     subst hv2
     clear U G gg S hv' hg0 I gb
     refine hK.out _ _ d0 (fun hHeld=>?_)
     clear hK K
     refine wpAnyH_take (i:=10) (v:=?_) rfl (by kernel_rfl) (by kernel_rfl) (by kernel_rfl) (fun _ _ _ h=>h) (Or.inl ⟨by rfl, ?_⟩) hHeld ?_;rotate_left;(focus ((intro w hSw;(try dsimp only at hSw);go_simp);try with_reducible rfl));simp only [List.getElem_toArray,List.getElem_cons_zero,List.getElem_cons_succ,Act.put,List.setIfInBounds_toArray,List.set_cons_zero,List.set_cons_succ];refine wpAnyH_take (i:=11) (v:=?_) rfl (by kernel_rfl) (by kernel_rfl) (by kernel_rfl) (fun _ _ _ h=>h) (Or.inl ⟨by rfl, ?_⟩) hHeld ?_;rotate_left;(focus ((intro w hSw;(try dsimp only at hSw);go_simp);try with_reducible rfl));simp only [List.getElem_toArray,List.getElem_cons_zero,List.getElem_cons_succ,Act.put,List.setIfInBounds_toArray,List.set_cons_zero,List.set_cons_succ]
     refine wpAnyH_done (by kernel_rfl) ?_ _
     simp only [HeadQ,List.drop_succ_cons,List.drop_zero]
     go_wp2_with fail
     go_ret
     exact⟨rfl,_,_,_,_,S4⟩
def expN:Nat:=1074
def unitN:Nat:=2^expN
theorem unitN_pos:0<unitN:=Nat.two_pow_pos expN
def iuQ:Rat:=((unitN:Int):Rat)⁻¹
theorem unitQ_pos:(0:Rat)<((unitN:Int):Rat):=by
 have:=unitN_pos
 exact Rat.intCast_pos.2 (by omega)
theorem iuQ_pos:0<iuQ:=Rat.inv_pos.2 unitQ_pos
theorem iuQ_one:((unitN:Int):Rat)*iuQ=1:=Rat.mul_inv_cancel _ (by have:=unitQ_pos;grind)
def vq (k:Int):Rat:=(V k:Rat)*iuQ
theorem vq_le {k l:Int} (h:k≤l):vq k≤vq l:=Rat.mul_le_mul_of_nonneg_right (Rat.intCast_le_intCast.2 (V_mono_le h)) (Rat.le_of_lt iuQ_pos)
theorem vq_neg (k:Int):vq (-k)=- vq k:=by
 unfold vq
 rw [V_neg,Rat.intCast_neg]
 grind
theorem vq_zero:vq 0=0:=by
 unfold vq
 rw [V_zero]
 grind
theorem vq_nonneg {k:Int} (h:0≤k):0≤vq k:=by have:=vq_le h;rw [vq_zero] at this;exact this
theorem vq_npos {k:Int} (h:k≤0):vq k≤0:=by have:=vq_le h;rw [vq_zero] at this;exact this
def LoQ (k:Int) (x:Rat):Prop:=k=-9218868437227405312∨vq k≤x
theorem LoQ.mono {k l:Int} {x:Rat} (h:LoQ k x) (hl:l≤k) (hb:-9218868437227405312≤l):LoQ l x:=by
 rcases h with h | h
 · exact Or.inl (by omega)
 · exact Or.inr (Rat.le_trans (vq_le hl) h)
theorem LoQ.less {k:Int} {x y:Rat} (h:LoQ k x) (hy:x≤y):LoQ k y:=h.imp id (fun q=>Rat.le_trans q hy)
theorem down_le {N:Int} {D:Nat} {k:Int} (h:KDown (exQ N D) k):k=-9218868437227405312∨2*V k*(D:Int)≤N:=h.low
theorem add_loF {a b:Nat} (ha:a<18446744073709551616) (hb:b<18446744073709551616) (fa:finB a=true) (fb:finB b=true):LoQ (key (addF a b (-1))) (vq (key a)+vq (key b)):=by
 rcases down_le (addF_down ha hb fa fb) with h | h
 · exact Or.inl h
 · refine Or.inr ?_
   have h1:V (key (addF a b (-1)))≤V (key a)+V (key b):=by omega
   have h2:=Rat.mul_le_mul_of_nonneg_right (Rat.intCast_le_intCast.2 h1) (Rat.le_of_lt iuQ_pos)
   rw [Rat.intCast_add] at h2
   unfold vq
   grind
theorem mul_loF {a b r:Nat} (ha:a<18446744073709551616) (hb:b<18446744073709551616) (fa:finB a=true) (fb:finB b=true) (h:mulR a b (-1)=some r):LoQ (key r) (vq (key a)*vq (key b)):=by
 obtain⟨u,hu⟩:∃u:Nat,u=1073:=⟨_,rfl⟩
 rcases down_le (mulR_down hu ha hb fa fb h) with h | h
 · exact Or.inl h
 · refine Or.inr ?_
   have e:2*(2^u:Nat)=unitN:=by unfold unitN;rw [show expN=u+1 by rw [hu];rfl,Nat.pow_succ']
   have e2:((2^u:Nat):Int)*2=(unitN:Int):=by omega
   have h1:V (key r)*(unitN:Int)≤V (key a)*V (key b):=by
     rw [←e2]
     have:V (key r)*(((2^u:Nat):Int)*2)=2*V (key r)*((2^u:Nat):Int):=by
       rw [Int.mul_comm 2,Int.mul_assoc,Int.mul_comm ((2^u:Nat):Int) 2]
     omega
   clear e e2 hu
   have i0:=iuQ_pos
   have i1:=iuQ_one
   have h2:=Rat.mul_le_mul_of_nonneg_right (Rat.intCast_le_intCast.2 h1) (Rat.mul_nonneg (Rat.le_of_lt i0) (Rat.le_of_lt i0))
   rw [Rat.intCast_mul,Rat.intCast_mul] at h2
   unfold vq
   generalize (V (key r):Rat)=R at *
   generalize (V (key a):Rat)=A at *
   generalize (V (key b):Rat)=B at *
   generalize ((unitN:Int):Rat)=U at *
   generalize iuQ=i at *
   have e3:R*U*(i*i)=R*i:=by grind
   have e4:A*B*(i*i)=A*i*(B*i):=by grind
   rw [e3,e4] at h2
   exact h2
structure Hq (p:Nat×Nat) (x:Rat):Prop where
 l1:p.1<18446744073709551616
 l2:p.2<18446744073709551616
 S:Some2 p.1 p.2
 lo:LoQ (key p.1) x
 hi:LoQ (-key p.2) (-x)
theorem fin_two {a:Nat} (ha:a<18446744073709551616) (na:nanB a=false) (h1:key a≠9218868437227405312) (h2:key a≠-9218868437227405312):finB a=true:=by
 cases f:finB a
 · rcases (key_inf ha na).1 f with c | c
   · exact absurd c h1
   · exact absurd c h2
 · rfl
theorem add_lo {a b l:Nat} {x y:Rat} (ha:a<18446744073709551616) (hb:b<18446744073709551616) (na:nanB a=false) (nb:nanB b=false) (ka:key a<9218868437227405312) (kb:key b<9218868437227405312)
   (X:LoQ (key a) x) (Y:LoQ (key b) y) (e:addR a b (-1)=some l):LoQ (key l) (x+y):=by
 by_cases c1:key a=-9218868437227405312
 · rw [addR_bot ha na c1 e];exact Or.inl c1
 by_cases c2:key b=-9218868437227405312
 · exact Or.inl (addR_bot2 ha hb na nb c2 e)
 have fa:=fin_two ha na (by omega) c1
 have fb:=fin_two hb nb (by omega) c2
 rw [addR_fin (-1) fa fb] at e
 obtain rfl:=Option.some.inj e
 rcases X with X | X
 · exact absurd X c1
 rcases Y with Y | Y
 · exact absurd Y c2
 exact (add_loF ha hb fa fb).less (by grind)
theorem hq_add {p q:Nat×Nat} {x y:Rat} (X:Hq p x) (Y:Hq q y):Hq (addP p.1 p.2 q.1 q.2) (x+y):=by
 obtain⟨l,u,e1,e2,A,l1,l2⟩:=add_some X.l1 X.l2 Y.l1 Y.l2 X.S Y.S
 have e:addP p.1 p.2 q.1 q.2=(l,u):=by unfold addP;rw [hs_iff.2 X.S,hs_iff.2 Y.S,e1,e2];rfl
 rw [e]
 refine⟨l1,l2,A,add_lo X.l1 Y.l1 X.S.nl Y.S.nl X.S.lt Y.S.lt X.lo Y.lo e1, ?_⟩
 have m:=addR_mirror (negB_lt X.l2) (negB_lt Y.l2)
 rw [negB_negB X.l2,negB_negB Y.l2,e2] at m
 rcases m with ⟨_,m⟩ | ⟨v,t,m1,m2,m3,m4,m5⟩
 · cases m
 · obtain rfl:=Option.some.inj m2
   rw [m5,Int.neg_neg,show -(x+y)=-x+-y by grind]
   have k1:=X.S.gt
   have k2:=Y.S.gt
   exact add_lo (negB_lt X.l2) (negB_lt Y.l2) (by rw [nanB_negB X.l2];exact X.S.nh) (by rw [nanB_negB Y.l2];exact Y.S.nh) (by rw [key_negB X.l2];omega) (by rw [key_negB Y.l2];omega) (by rw [key_negB X.l2];exact X.hi) (by rw [key_negB Y.l2];exact Y.hi) m1
theorem hq_neg {p:Nat×Nat} {x:Rat} (X:Hq p x):Hq (negP (p.1,p.2)) (-x):=by
 have e:negP (p.1,p.2)=mirrorP (p.1,p.2):=by unfold negP;rw [if_pos (hs_iff.2 X.S)]
 obtain⟨S,k1,k2,l1,l2⟩:=mirror_some X.l1 X.l2 X.S
 rw [e]
 refine⟨l1,l2,S,by rw [k1];exact X.hi, ?_⟩
 rw [k2,Int.neg_neg,show - -x=x by grind]
 exact X.lo
theorem corner {a b:Nat} {t:Rat} (ha:a<18446744073709551616) (hb:b<18446744073709551616) (na:nanB a=false) (nb:nanB b=false) (ka:key a≤0) (kb:0≤key b)
   (hf:finB a=true→finB b=true→vq (key a)*vq (key b)≤t) (hz:key a=0∨key b=0→0≤t):LoQ (key (mulV a b (-1))) t:=by
 have e:=mulV_is (-1) na nb
 by_cases f:(finB a&&finB b)=true
 · obtain⟨fa,fb⟩:=Bool.and_eq_true_iff.1 f
   exact (mul_loF ha hb fa fb e).less (hf fa fb)
 · have f':(finB a&&finB b)=false:=by simpa using f
   have p1:=V_npos ka
   have p2:=V_nonneg kb
   rcases mulR_inf ha hb na nb f' e (by have:=Int.mul_nonneg (show 0≤-V (key a) by omega) p2;rw [Int.neg_mul] at this;omega) with ⟨z,k⟩ | k
   · refine Or.inr ?_
     rw [k,vq_zero]
     refine hz ?_
     rcases Int.mul_eq_zero.1 z with c | c
     · exact Or.inl (V_inj0.1 c)
     · exact Or.inr (V_inj0.1 c)
   · exact Or.inl k
theorem corner_f {a b:Nat} {t:Rat} (ha:a<18446744073709551616) (hb:b<18446744073709551616) (fa:finB a=true) (fb:finB b=true) (h:vq (key a)*vq (key b)≤t):LoQ (key (mulV a b (-1))) t :=
 (mul_loF ha hb fa fb (mulV_is (-1) (fin_not_nan fa) (fin_not_nan fb))).less h
theorem mul_nn {a b:Rat} (h:0≤a) (k:0≤b):0≤a*b:=Rat.mul_nonneg h k
theorem prod_low {a d x y:Rat} (h1:a≤x) (h2:y≤d) (h3:a≤0) (h4:0≤y):a*d≤x*y:=by
 have q1:=mul_nn (show 0≤x-a by grind) h4
 have q2:=mul_nn (show 0≤-a by grind) (show 0≤d-y by grind)
 grind
theorem rat_anti {x:Rat} (h:0≤x) (k:x≤0):x=0:=Rat.le_antisymm k h
theorem prod_two {a b x y:Rat} (h1:0≤a) (h2:0≤b) (h3:a≤x) (h4:b≤y):a*b≤x*y:=by
 have q1:=mul_nn (show 0≤x-a by grind) (show 0≤y by grind)
 have q2:=mul_nn h1 (show 0≤y-b by grind)
 grind
theorem prod_neg {a b x y:Rat} (h1:a≤0) (h2:b≤0) (h3:x≤a) (h4:y≤b):a*b≤x*y:=by
 have:=prod_two (show 0≤-a by grind) (show 0≤-b by grind) (show -a≤-x by grind) (show -b≤-y by grind)
 grind
theorem prod_npos {x y:Rat} (h1:x≤0) (h2:y≤0):0≤x*y:=by
 have:=mul_nn (show 0≤-x by grind) (show 0≤-y by grind)
 grind
theorem lo_any {a b:Nat} (ha:a<18446744073709551616) (hb:b<18446744073709551616) (na:nanB a=false) (nb:nanB b=false) (ka:key a≤0) (kb:0≤key b):LoQ (key (mulV a b (-1))) 0 :=
 corner ha hb na nb ka kb (fun _ _=>by
   have:=mul_nn (show 0≤-vq (key a) by have:=vq_npos ka;grind) (vq_nonneg kb)
   grind) (fun _=>Rat.le_refl)
theorem low_holds {p q:Nat×Nat} {x y:Rat} (X:Hq p x) (Y:Hq q y):LoQ (lowK p.1 p.2 q.1 q.2) (x*y):=by
 obtain⟨f1,f2,f3,f4,f5,f6,f7⟩:=low_four X.l1 X.l2 Y.l1 Y.l2 X.S.nl X.S.nh Y.S.nl Y.S.nh X.S.le Y.S.le
 have kx:=X.S.le
 have ky:=Y.S.le
 have gx:=X.S.gt
 have gy:=Y.S.gt
 have lx:=X.S.lt
 have ly:=Y.S.lt
 have xh:key p.2≠9218868437227405312→x≤vq (key p.2):=fun c=>by
   rcases X.hi with h | h
   · omega
   · rw [vq_neg] at h;grind
 have yh:key q.2≠9218868437227405312→y≤vq (key q.2):=fun c=>by
   rcases Y.hi with h | h
   · omega
   · rw [vq_neg] at h;grind
 have xl:key p.1≠-9218868437227405312→vq (key p.1)≤x:=fun c=>by
   rcases X.lo with h | h
   · omega
   · exact h
 have yl:key q.1≠-9218868437227405312→vq (key q.1)≤y:=fun c=>by
   rcases Y.lo with h | h
   · omega
   · exact h
 have fin1:∀{a:Nat},a<18446744073709551616→finB a=true→key a≠9218868437227405312∧key a≠-9218868437227405312:=fun ha f=>by
   have:=fin_key ha f
   omega
 have xp:0≤key p.1→0≤x:=fun c=>Rat.le_trans (vq_nonneg c) (xl (by omega))
 have yp:0≤key q.1→0≤y:=fun c=>Rat.le_trans (vq_nonneg c) (yl (by omega))
 have xn:key p.2≤0→x≤0:=fun c=>Rat.le_trans (xh (by omega)) (vq_npos c)
 have yn:key q.2≤0→y≤0:=fun c=>Rat.le_trans (yh (by omega)) (vq_npos c)
 have cA:key q.1≤0→0≤key p.2→(0≤x→LoQ (key (mulV p.2 q.1 (-1))) (x*y)):=fun c1 c2 hx=>by
   rw [mulV_comm]
   refine corner Y.l1 X.l2 Y.S.nl X.S.nh c1 c2 (fun fa fb=>?_) (fun z=>?_)
   · rw [Rat.mul_comm x y]
     exact prod_low (yl (fin1 Y.l1 fa).2) (xh (fin1 X.l2 fb).1) (vq_npos c1) hx
   · rcases z with z | z
     · exact mul_nn hx (yp (by omega))
     · rw [rat_anti hx (xn (by omega)),Rat.zero_mul]
       exact Rat.le_refl
 have cB:key p.1≤0→0≤key q.2→(0≤y→LoQ (key (mulV p.1 q.2 (-1))) (x*y)):=fun c1 c2 hy=>by
   refine corner X.l1 Y.l2 X.S.nl Y.S.nh c1 c2 (fun fa fb=>?_) (fun z=>?_)
   · exact prod_low (xl (fin1 X.l1 fa).2) (yh (fin1 Y.l2 fb).1) (vq_npos c1) hy
   · rcases z with z | z
     · exact mul_nn (xp (by omega)) hy
     · rw [rat_anti hy (yn (by omega)),Rat.mul_zero]
       exact Rat.le_refl
 have bot:∀a b,a<18446744073709551616→b<18446744073709551616→nanB a=false→nanB b=false→-9218868437227405312≤key (mulV a b (-1)):=fun a b _ _ na nb=>(key_range (mulV_facts (-1) na nb).2 (mulV_facts (-1) na nb).1).1
 by_cases a1:0≤key p.1
 · have hx:=xp a1
   by_cases a2:key q.1<0
   · rw [f1 a1 a2]
     exact cA (by omega) (by omega) hx
   · rw [f2 a1 (by omega)]
     have hy:=yp (by omega)
     refine corner_f X.l1 Y.l1 (fin_two X.l1 X.S.nl (by omega) (by omega)) (fin_two Y.l1 Y.S.nl (by omega) (by omega)) ?_
     exact prod_two (vq_nonneg a1) (vq_nonneg (by omega)) (xl (by omega)) (yl (by omega))
 by_cases a3:key p.2≤0
 · have hx:=xn a3
   by_cases a4:0<key q.2
   · rw [f3 a3 a4]
     by_cases hy:0≤y
     · exact cB (by omega) (by omega) hy
     · refine (lo_any X.l1 Y.l2 X.S.nl Y.S.nh (by omega) (by omega)).less (prod_npos hx ?_)
       exact Rat.le_of_lt (Rat.not_le.1 hy)
   · rw [f4 a3 (by omega)]
     refine corner_f X.l2 Y.l2 (fin_two X.l2 X.S.nh (by omega) (by omega)) (fin_two Y.l2 Y.S.nh (by omega) (by omega)) ?_
     exact prod_neg (vq_npos a3) (vq_npos (by omega)) (xh (by omega)) (yh (by omega))
 have dA:key q.1≤0→LoQ (key (mulV p.2 q.1 (-1))) 0:=fun c=>by
   rw [mulV_comm]
   exact lo_any Y.l1 X.l2 Y.S.nl X.S.nh c (by omega)
 have dB:0≤key q.2→LoQ (key (mulV p.1 q.2 (-1))) 0:=fun c=>lo_any X.l1 Y.l2 X.S.nl Y.S.nh (by omega) c
 by_cases a5:0≤key q.1
 · rw [f5 (by omega) (by omega) a5]
   exact cB (by omega) (by omega) (yp a5)
 by_cases a6:key q.2≤0
 · rw [f6 (by omega) (by omega) a6]
   by_cases hx:0≤x
   · exact cA (by omega) (by omega) hx
   · exact (dA (by omega)).less (prod_npos (Rat.le_of_lt (Rat.not_le.1 hx)) (yn a6))
 rw [f7 (by omega) (by omega) (by omega) (by omega)]
 have b1:=bot p.1 q.2 X.l1 Y.l2 X.S.nl Y.S.nh
 have b2:=bot p.2 q.1 X.l2 Y.l1 X.S.nh Y.S.nl
 have m1:LoQ (key (mulV p.1 q.2 (-1))) (x*y)∨LoQ (key (mulV p.2 q.1 (-1))) (x*y):=by
   by_cases hy:0≤y
   · exact Or.inl (cB (by omega) (by omega) hy)
   · by_cases hx:0≤x
     · exact Or.inr (cA (by omega) (by omega) hx)
     · exact Or.inl ((dB (by omega)).less (prod_npos (Rat.le_of_lt (Rat.not_le.1 hx)) (Rat.le_of_lt (Rat.not_le.1 hy))))
 rcases m1 with m | m
 · exact m.mono (by omega) (by omega)
 · exact m.mono (by omega) (by omega)
theorem hq_mul {p q:Nat×Nat} {x y:Rat} (X:Hq p x) (Y:Hq q y):Hq (mulP p.1 p.2 q.1 q.2) (x*y):=by
 obtain⟨Z,k1,k2⟩:=mul_keys X.l1 X.l2 Y.l1 Y.l2 X.S Y.S
 have w:=mulP_lt X.l1 X.l2 Y.l1 Y.l2
 refine⟨w.1,w.2,Z,by rw [k1];exact low_holds X Y, ?_⟩
 have N:=hq_neg X
 have e:negP (p.1,p.2)=mirrorP (p.1,p.2):=by unfold negP;rw [if_pos (hs_iff.2 X.S)]
 have t:=low_holds N Y
 rw [k2,top_low X.l1 X.l2 X.S.nl X.S.nh Y.S.nl Y.S.nh,Int.neg_neg,show -(x*y)=-x*y by grind]
 have q1:lowK (negP (p.1,p.2)).1 (negP (p.1,p.2)).2 q.1 q.2=lowK (negB p.2) (negB p.1) q.1 q.2:=by
   obtain⟨v,H⟩:=held_some X.l1 X.l2 X.S
   rw [e]
   unfold mirrorP makeP
   have hs:hsB (pz (negB p.2)) (pz (negB p.1))=true:=by
     have:=N.S
     rw [e] at this
     unfold mirrorP makeP at this
     cases hh:hsB (pz (negB p.2)) (pz (negB p.1))
     · rw [hh] at this
       simp only [Bool.false_eq_true,if_false] at this
       exact absurd this.le (by decide)
     · rfl
   rw [hs]
   simp only [if_true]
   exact lowK_pz _ _ _ _
 rw [←q1]
 exact t
theorem hq_point {a:Nat} (ha:a<18446744073709551616) (fa:finB a=true):Hq (makeP a a) (vq (key a)):=by
 have n:=fin_not_nan fa
 have k:=fin_key ha fa
 have hs:hsB (pz a) (pz a)=true:=by
   refine hs_iff.2 ⟨by rw [nan_pz];exact n,by rw [nan_pz];exact n,Int.le_refl _,by rw [key_pz];omega,by rw [key_pz];omega,pz_ne a,pz_ne a⟩
 have e:makeP a a=(pz a,pz a):=by unfold makeP;rw [hs];rfl
 rw [e]
 refine⟨pz_lt ha,pz_lt ha,hs_iff.1 hs,Or.inr (by rw [key_pz];exact Rat.le_refl),Or.inr ?_⟩
 rw [key_pz,vq_neg]
 exact Rat.le_refl
end Go.Proofs.YtgfppdboogldlaaGreat
