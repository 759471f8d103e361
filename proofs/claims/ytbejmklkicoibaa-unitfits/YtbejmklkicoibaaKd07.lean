/- unit.ofUnknown, product.times, product.power. unit: product.power, variables.of. unit.isPlain, variables.right, variables.have. unit.dimensionOf: what a node's dimension is, of those of its operands. unit.dimensionOf: kinds with operands. unit.ruleOf: what must be plain of a node's operands. unit.dimensionOf and ruleOf, of any node that may be. Products in a block that is written piece by piece, and in a slice that grows. -/
import Derived.Test.YtbejmklkicoibaaKd06
import Derived.Test.YtbejmklkicoibaaKd05
import Derived.Laws.CopyRow
namespace Go.Proofs.Ytbejmklkicoibaa
open Go.ChangeShapes Go.WideShapes Go.ChangeAt Go.RowKit
theorem blks1 (w:World) (T0:TypeId) (c0:List Value):BlkAt (w.alloc (.cells c0.toArray T0)) w.heap.size T0 c0∧Below w.heap.size w (w.alloc (.cells c0.toArray T0)) :=
 ⟨blk_new w T0 c0,Below.alloc (Below.refl _ _) (Nat.le_refl _) _⟩
theorem blks2 (w:World) (T0 T1:TypeId) (c0 c1:List Value):BlkAt ((w.alloc (.cells c0.toArray T0)).alloc (.cells c1.toArray T1)) w.heap.size T0 c0∧BlkAt ((w.alloc (.cells c0.toArray T0)).alloc (.cells c1.toArray T1)) (w.heap.size+1) T1 c1∧Below w.heap.size w ((w.alloc (.cells c0.toArray T0)).alloc (.cells c1.toArray T1)):=by
 obtain⟨a,h⟩:=blks1 w T0 c0
 have e:(w.alloc (.cells c0.toArray T0)).heap.size=w.heap.size+1:=World.size_alloc _ _
 have b:=blk_new (w.alloc (.cells c0.toArray T0)) T1 c1
 rw [e] at b
 exact⟨a.keeps (Below.alloc (Below.refl _ _) (Nat.le_refl _) _),b,Below.alloc h (by omega) _⟩
theorem blks3 (w:World) (T0 T1 T2:TypeId) (c0 c1 c2:List Value):BlkAt (((w.alloc (.cells c0.toArray T0)).alloc (.cells c1.toArray T1)).alloc (.cells c2.toArray T2)) w.heap.size T0 c0∧BlkAt (((w.alloc (.cells c0.toArray T0)).alloc (.cells c1.toArray T1)).alloc (.cells c2.toArray T2)) (w.heap.size+1) T1 c1∧BlkAt (((w.alloc (.cells c0.toArray T0)).alloc (.cells c1.toArray T1)).alloc (.cells c2.toArray T2)) (w.heap.size+1+1) T2 c2∧Below w.heap.size w (((w.alloc (.cells c0.toArray T0)).alloc (.cells c1.toArray T1)).alloc (.cells c2.toArray T2)):=by
 obtain⟨a,b,h⟩:=blks2 w T0 T1 c0 c1
 have e:((w.alloc (.cells c0.toArray T0)).alloc (.cells c1.toArray T1)).heap.size=w.heap.size+1+1:=by rw [World.size_alloc,World.size_alloc]
 have c:=blk_new ((w.alloc (.cells c0.toArray T0)).alloc (.cells c1.toArray T1)) T2 c2
 rw [e] at c
 exact⟨a.keeps (Below.alloc (Below.refl _ _) (Nat.le_refl _) _),b.keeps (Below.alloc (Below.refl _ _) (Nat.le_refl _) _),c,Below.alloc h (by omega) _⟩
theorem blks4 (w:World) (T0 T1 T2 T3:TypeId) (c0 c1 c2 c3:List Value):BlkAt ((((w.alloc (.cells c0.toArray T0)).alloc (.cells c1.toArray T1)).alloc (.cells c2.toArray T2)).alloc (.cells c3.toArray T3)) w.heap.size T0 c0∧BlkAt ((((w.alloc (.cells c0.toArray T0)).alloc (.cells c1.toArray T1)).alloc (.cells c2.toArray T2)).alloc (.cells c3.toArray T3)) (w.heap.size+1) T1 c1∧BlkAt ((((w.alloc (.cells c0.toArray T0)).alloc (.cells c1.toArray T1)).alloc (.cells c2.toArray T2)).alloc (.cells c3.toArray T3)) (w.heap.size+1+1) T2 c2∧BlkAt ((((w.alloc (.cells c0.toArray T0)).alloc (.cells c1.toArray T1)).alloc (.cells c2.toArray T2)).alloc (.cells c3.toArray T3)) (w.heap.size+1+1+1) T3 c3∧Below w.heap.size w ((((w.alloc (.cells c0.toArray T0)).alloc (.cells c1.toArray T1)).alloc (.cells c2.toArray T2)).alloc (.cells c3.toArray T3)):=by
 obtain⟨a,b,c,h⟩:=blks3 w T0 T1 T2 c0 c1 c2
 have e:(((w.alloc (.cells c0.toArray T0)).alloc (.cells c1.toArray T1)).alloc (.cells c2.toArray T2)).heap.size=w.heap.size+1+1+1:=by rw [World.size_alloc,World.size_alloc,World.size_alloc]
 have d:=blk_new (((w.alloc (.cells c0.toArray T0)).alloc (.cells c1.toArray T1)).alloc (.cells c2.toArray T2)) T3 c3
 rw [e] at d
 exact⟨a.keeps (Below.alloc (Below.refl _ _) (Nat.le_refl _) _),b.keeps (Below.alloc (Below.refl _ _) (Nat.le_refl _) _),c.keeps (Below.alloc (Below.refl _ _) (Nat.le_refl _) _),d,Below.alloc h (by omega) _⟩
theorem BlkAt.dim0 {w:World} {g:Nat} {T:TypeId} {E:Nat→Int×Int} {s:Value} (h:BlkAt w g T (proL E s)):∀j v,(dimL E)[j]?=some v→w.cell? ⟨g,0+j,none⟩=some v:=fun j v hj=>h.cell0 j v (proL_dim j v hj)
theorem BlkAt.dim0b {w:World} {g:Nat} {T:TypeId} {E:Nat→Int×Int} {s:Value} (h:BlkAt w g T (proL E s)):∀W,(∃n:Behind w,W=n.W)→∀j v,(dimL E)[j]?=some v→W.cell? ⟨g,0+j,none⟩=some v:=fun W hW j v hj=>h.behind W hW j v (proL_dim j v hj)
set_option maxHeartbeats 1000000 in
theorem uofUnknown_w (v:Int) (w:World):Calls Try.prog 82 #[.int .i64 v] w fun r w'=>(∃s,r=.returned (proV plE s)∧FSl w' s [(v,(1,1))])∧Below w.heap.size w w':=by
 have cp:∀W,Calls Try.prog 40 #[] W fun r w'=>r=.returned (.agg #[.int .i64 (plE 0).1,.int .i64 (plE 0).2,.int .i64 (plE 1).1,.int .i64 (plE 1).2,.int .i64 (plE 2).1,.int .i64 (plE 2).2,.int .i64 (plE 3).1,.int .i64 (plE 3).2,.int .i64 (plE 4).1,.int .i64 (plE 4).2,.int .i64 (plE 5).1,.int .i64 (plE 5).2,.int .i64 (plE 6).1,.int .i64 (plE 6).2])∧Below W.heap.size W w':=fun W=>uplain_w W
 have cw:=fun W=>uwhole_w 1 W
 obtain⟨RB,HB⟩:=blks1 w 79 [.int .i64 0,.int .i64 0,.int .i64 0,.int .i64 0,.int .i64 0,.int .i64 0,.int .i64 0,.int .i64 0,.int .i64 0,.int .i64 0,.int .i64 0,.int .i64 0,.int .i64 0,.int .i64 0,.slice none 0 0]
 go_enter Try.func82,Try.ntmps82
 go_upto_region 1 with fail
 generalize (w.alloc (.cells #[.int .i64 0,.int .i64 0,.int .i64 0,.int .i64 0,.int .i64 0,.int .i64 0,.int .i64 0,.int .i64 0,.int .i64 0,.int .i64 0,.int .i64 0,.int .i64 0,.int .i64 0,.int .i64 0,.slice none 0 0] 79))=V1 at *
 go_wp2_with (first
   | (go_at_call 40;(with_reducible refine (cp _).mono ?_);rintro _ W1 ⟨rfl,hb1⟩;replace HB:=later HB hb1;replace RB:=RB.keeps hb1;clear hb1)
   | (go_at_call 56;(with_reducible refine (cw _).mono ?_);rintro _ W2 ⟨rfl,hb1⟩;replace HB:=later HB hb1;replace RB:=RB.keeps hb1;clear hb1)
   | (refine wpList_storeBig (by rfl) _ _ 79 (by rfl) (RB.keeps (by go_grown)) (proL plE (.slice (some ⟨W2.heap.size,0,none⟩) 1 1)) (by kernel_rfl) (by rfl) (by rfl) (by rfl) (by rfl) ?_;rintro V2 XR hs2 hB2 hk2))
 have nb:BlkAt (W2.alloc (.cells #[.int .i64 v,.int .i64 1,.int .i64 1] 104)) W2.heap.size 104 (facCells [(v,(1,1))]):=blk_new W2 _ _
 have nb2:=hk2 _ _ _ (by have:=RB.lt;omega) nb
 have fs:FSl V2 (.slice (some ⟨W2.heap.size,0,none⟩) 1 1) [(v,(1,1))]:=⟨_,1,rfl,Nat.le_refl _,facAt_blk nb2⟩
 exact bodyPost_ret (v:=proV plE (.slice (some ⟨W2.heap.size,0,none⟩) 1 1)) (results_cell_row Try.results82 _ V2 (w.heap.size) 79 (proL plE (.slice (some ⟨W2.heap.size,0,none⟩) 1 1)).toArray (0,0) _ (by rfl) XR Try.underlying79 (by rfl) (by kernel_rfl)) rfl ⟨⟨_,rfl,fs⟩,hB2 _ _ (Below.alloc HB HB.size _) (Nat.le_refl _)⟩
set_option maxRecDepth 4000 in
set_option maxHeartbeats 4000000 in
theorem uptimes_w (A B:Nat→Int×Int) (La Lb:List Fac) (sa sb:Value) (p:Int×Int) (hA:Dim64 A) (hB:Dim64 B) (rA:drK A 7=true) (rB:drK B 7=true) (hp:ROk p) (ha:FOk La) (hb:FOk Lb) (hl:La.length+Lb.length≤1000) (w:World) (Fa:FSl w sa La) (Fb:FSl w sb Lb) :
   Calls Try.prog 57 #[proV A sa,proV B sb,.agg #[.int .i64 p.1,.int .i64 p.2]] w fun r w'=>PrAns r w' (timesP (A,La) (B,Lb) p)∧Below w.heap.size w w':=by
 have ct:=fun W=>utimes_w A B p.1 p.2 hA hB hp.2 rA rB hp.1 W
 have cm:=fun W fa fb=>umerged_w La Lb sa sb p hp ha hb hl W fa fb
 have herr:=tmF_err rA rB hp.1 7 (Nat.le_refl _)
 obtain⟨R,hR⟩:∃R,Hid (timesP (A,La) (B,Lb) p=R):=⟨_,rfl⟩
 rw [hR.out]
 unfold timesP at hR
 dsimp only at hR
 generalize tmD A B p.1 p.2 7=D at *
 generalize hM:mergedF p La Lb=M at *
 clear hM
 unfold proV
 obtain⟨XA,XB,XP,RB,HB⟩:=blks4 w 79 79 27 79 [.int .i64 (A 0).1,.int .i64 (A 0).2,.int .i64 (A 1).1,.int .i64 (A 1).2,.int .i64 (A 2).1,.int .i64 (A 2).2,.int .i64 (A 3).1,.int .i64 (A 3).2,.int .i64 (A 4).1,.int .i64 (A 4).2,.int .i64 (A 5).1,.int .i64 (A 5).2,.int .i64 (A 6).1,.int .i64 (A 6).2,sa] [.int .i64 (B 0).1,.int .i64 (B 0).2,.int .i64 (B 1).1,.int .i64 (B 1).2,.int .i64 (B 2).1,.int .i64 (B 2).2,.int .i64 (B 3).1,.int .i64 (B 3).2,.int .i64 (B 4).1,.int .i64 (B 4).2,.int .i64 (B 5).1,.int .i64 (B 5).2,.int .i64 (B 6).1,.int .i64 (B 6).2,sb] [.int .i64 p.1,.int .i64 p.2] [.int .i64 0,.int .i64 0,.int .i64 0,.int .i64 0,.int .i64 0,.int .i64 0,.int .i64 0,.int .i64 0,.int .i64 0,.int .i64 0,.int .i64 0,.int .i64 0,.int .i64 0,.int .i64 0,.slice none 0 0]
 go_enter Try.func57,Try.ntmps57
 go_upto_region 1 with fail
 generalize ((((w.alloc (.cells #[.int .i64 (A 0).1,.int .i64 (A 0).2,.int .i64 (A 1).1,.int .i64 (A 1).2,.int .i64 (A 2).1,.int .i64 (A 2).2,.int .i64 (A 3).1,.int .i64 (A 3).2,.int .i64 (A 4).1,.int .i64 (A 4).2,.int .i64 (A 5).1,.int .i64 (A 5).2,.int .i64 (A 6).1,.int .i64 (A 6).2,sa] 79)).alloc (.cells #[.int .i64 (B 0).1,.int .i64 (B 0).2,.int .i64 (B 1).1,.int .i64 (B 1).2,.int .i64 (B 2).1,.int .i64 (B 2).2,.int .i64 (B 3).1,.int .i64 (B 3).2,.int .i64 (B 4).1,.int .i64 (B 4).2,.int .i64 (B 5).1,.int .i64 (B 5).2,.int .i64 (B 6).1,.int .i64 (B 6).2,sb] 79)).alloc (.cells #[.int .i64 p.1,.int .i64 p.2] 27)).alloc (.cells #[.int .i64 0,.int .i64 0,.int .i64 0,.int .i64 0,.int .i64 0,.int .i64 0,.int .i64 0,.int .i64 0,.int .i64 0,.int .i64 0,.int .i64 0,.int .i64 0,.int .i64 0,.int .i64 0,.slice none 0 0] 79))=V1 at *
 by_cases z:tmF A B p.1 p.2 7=0
 · rw [if_pos z] at hR ct
   replace ct:∀W,Calls Try.prog 62 #[dimV A,dimV B,.agg #[.int .i64 p.1,.int .i64 p.2]] W fun r w'=>r=.returned (.agg #[.int .i64 (D 0).1,.int .i64 (D 0).2,.int .i64 (D 1).1,.int .i64 (D 1).2,.int .i64 (D 2).1,.int .i64 (D 2).2,.int .i64 (D 3).1,.int .i64 (D 3).2,.int .i64 (D 4).1,.int .i64 (D 4).2,.int .i64 (D 5).1,.int .i64 (D 5).2,.int .i64 (D 6).1,.int .i64 (D 6).2])∧Below W.heap.size W w':=ct
   have k2:=fun n:Behind V1=>n.cell (XP.cell 0 _ rfl) XP.lt
   have k3:=fun n:Behind V1=>n.cell (XP.cell 1 _ rfl) XP.lt
   have k4:=fun n:Behind V1=>n.cell (XA.cell 14 _ rfl) XA.lt
   have k5:=fun n:Behind V1=>n.cell (XB.cell 14 _ rfl) XB.lt
   refine tail_behind 11 (by kernel_rfl) (by kernel_rfl) ?_
   simp only [List.take_succ_cons,List.take_zero,List.drop_succ_cons,List.drop_zero]
   repeat (first
     | (go_big_quiet_want;refine quiet_loadBig _ 30 (by rfl) Try.underlying30 (dimL A) (by kernel_rfl) (by rfl) (XA.dim0b) (dim_val A) ?_;simp only [Act.put,List.setIfInBounds_toArray,List.set_cons_zero,List.set_cons_succ];go_big_quiet_on)
     | (go_big_quiet_want;refine quiet_loadBig _ 30 (by rfl) Try.underlying30 (dimL B) (by kernel_rfl) (by rfl) (XB.dim0b) (dim_val B) ?_;simp only [Act.put,List.setIfInBounds_toArray,List.set_cons_zero,List.set_cons_succ];go_big_quiet_on)
     | (go_big_quiet_step (first | (go_at_call 62;with_reducible refine Behind.call (ct _)))))
   refine wpQuiet_nil ?_
   rintro _ ⟨q,rfl⟩
   obtain⟨W,hb1⟩:=q
   dsimp only
   clear k2 k3 k4 k5
   replace HB:=later HB hb1
   replace RB:=RB.keeps hb1
   clear hb1
   cases M with
   | none =>
     have eR:Hid (R=none):=hR.out.symm
     go_wp2_with (go_at_call 76;(with_reducible refine (cm _ (Fa.keep HB) (Fb.keep HB)).mono ?_);rintro r W2 ⟨hM,hb2⟩;have hr:=hM.no;subst hr;exact⟨rfl,Or.inr ⟨eR.out,rfl⟩,later HB hb2⟩)
   | some L =>
     have eR:Hid (R=some (D,L)):=hR.out.symm
     go_wp2_with (first
       | (go_at_call 76;(with_reducible refine (cm _ (Fa.keep HB) (Fb.keep HB)).mono ?_);rintro r W2 ⟨hM,hb2⟩;obtain⟨s,hr,A9,c9,rfl,hc9,fa9⟩:=hM.yes;subst hr;have fl:FSl W2 (.slice A9 L.length c9) L:=⟨A9,c9,rfl,hc9,fa9⟩;replace HB:=later HB hb2;replace RB:=RB.keeps hb2;clear hb2 hM)
       | (refine wpList_storeBig (by rfl) _ _ 79 (by rfl) (RB) (proL D (.slice A9 L.length c9)) (by kernel_rfl) (by rfl) (by rfl) (by rfl) (by rfl) ?_;rintro V2 XR hs2 hB2 hk2))
     have fl2:=fl.other RB (by decide) hk2
     exact bodyPost_ret (v:=proV D (.slice A9 L.length c9)) (results_cell_row Try.results57 _ V2 (w.heap.size+1+1+1) 79 (proL D (.slice A9 L.length c9)).toArray (0,0) _ (by rfl) XR Try.underlying79 (by rfl) (by kernel_rfl)) rfl ⟨Or.inl ⟨(D,L),_,eR.out,rfl,fl2⟩,hB2 _ _ HB (by omega)⟩
 · have z3:=herr.resolve_left z
   rw [if_neg z] at hR ct
   rw [z3] at ct
   have eR:Hid (R=none):=hR.out.symm
   clear hR
   refine wp_region_held_drew (S:=fun W=>BlkAt W w.heap.size 79 (proL A sa)∧BlkAt W (w.heap.size+1) 79 (proL B sb)∧W.cell? ⟨w.heap.size+1+1,0,none⟩=some (.int .i64 p.1)∧W.cell? ⟨w.heap.size+1+1,1,none⟩=some (.int .i64 p.2)∧W.cell? ⟨w.heap.size,14,none⟩=some sa∧W.cell? ⟨w.heap.size+1,14,none⟩=some sb) (by kernel_rfl) ⟨XA,XB,XP.cell 0 _ rfl,XP.cell 1 _ rfl,XA.cell 14 _ rfl,XB.cell 14 _ rfl⟩ (fun hHeld=>?_)
   refine wpAnyH_take (i:=0) (v:=?_) rfl (by kernel_rfl) (by kernel_rfl) (by kernel_rfl) (fun _ _ _ h=>h) (Or.inl ⟨by rfl, ?_⟩) hHeld ?_;rotate_left;(focus ((intro w hSw;(try dsimp only at hSw);go_simp);try with_reducible rfl));simp only [List.getElem_toArray,List.getElem_cons_zero,Act.put,List.setIfInBounds_toArray,List.set_cons_zero,List.set_cons_succ]
   refine wpAnyH_take (i:=1) (v:=dimV A) rfl (by kernel_rfl) (by kernel_rfl) (by kernel_rfl) (fun _ _ _ h=>h) (yields_loadBig (by rfl) _ 30 (by rfl) Try.underlying30 (dimL A) (by kernel_rfl) (by rfl) (fun W hS=>hS.1.dim0) (dim_val A)) hHeld ?_;simp only [List.getElem_toArray,List.getElem_cons_zero,List.getElem_cons_succ,Act.put,List.setIfInBounds_toArray,List.set_cons_zero,List.set_cons_succ]
   refine wpAnyH_take (i:=2) (v:=?_) rfl (by kernel_rfl) (by kernel_rfl) (by kernel_rfl) (fun _ _ _ h=>h) (Or.inl ⟨by rfl, ?_⟩) hHeld ?_;rotate_left;(focus ((intro w hSw;(try dsimp only at hSw);go_simp);try with_reducible rfl));simp only [List.getElem_toArray,List.getElem_cons_zero,List.getElem_cons_succ,Act.put,List.setIfInBounds_toArray,List.set_cons_zero,List.set_cons_succ]
   refine wpAnyH_take (i:=3) (v:=dimV B) rfl (by kernel_rfl) (by kernel_rfl) (by kernel_rfl) (fun _ _ _ h=>h) (yields_loadBig (by rfl) _ 30 (by rfl) Try.underlying30 (dimL B) (by kernel_rfl) (by rfl) (fun W hS=>hS.2.1.dim0) (dim_val B)) hHeld ?_;simp only [List.getElem_toArray,List.getElem_cons_zero,List.getElem_cons_succ,Act.put,List.setIfInBounds_toArray,List.set_cons_zero,List.set_cons_succ]
   refine wpAnyH_take (i:=4) (v:=?_) rfl (by kernel_rfl) (by kernel_rfl) (by kernel_rfl) (fun _ _ _ h=>h) (Or.inl ⟨by rfl, ?_⟩) hHeld ?_;rotate_left;(focus ((intro w hSw;(try dsimp only at hSw);go_simp);try with_reducible rfl));simp only [List.getElem_toArray,List.getElem_cons_zero,List.getElem_cons_succ,Act.put,List.setIfInBounds_toArray,List.set_cons_zero,List.set_cons_succ];refine wpAnyH_take (i:=6) (v:=?_) rfl (by kernel_rfl) (by kernel_rfl) (by kernel_rfl) (fun _ _ _ h=>h) (Or.inl ⟨by rfl, ?_⟩) hHeld ?_;rotate_left;(focus ((intro w hSw;(try dsimp only at hSw);go_simp);try with_reducible rfl));simp only [List.getElem_toArray,List.getElem_cons_zero,List.getElem_cons_succ,Act.put,List.setIfInBounds_toArray,List.set_cons_zero,List.set_cons_succ];refine wpAnyH_take (i:=7) (v:=?_) rfl (by kernel_rfl) (by kernel_rfl) (by kernel_rfl) (fun _ _ _ h=>h) (Or.inl ⟨by rfl, ?_⟩) hHeld ?_;rotate_left;(focus ((intro w hSw;(try dsimp only at hSw);go_simp);try with_reducible rfl));simp only [List.getElem_toArray,List.getElem_cons_zero,List.getElem_cons_succ,Act.put,List.setIfInBounds_toArray,List.set_cons_zero,List.set_cons_succ];refine wpAnyH_take (i:=8) (v:=?_) rfl (by kernel_rfl) (by kernel_rfl) (by kernel_rfl) (fun _ _ _ h=>h) (Or.inl ⟨by rfl, ?_⟩) hHeld ?_;rotate_left;(focus ((intro w hSw;(try dsimp only at hSw);go_simp);try with_reducible rfl));simp only [List.getElem_toArray,List.getElem_cons_zero,List.getElem_cons_succ,Act.put,List.setIfInBounds_toArray,List.set_cons_zero,List.set_cons_succ];refine wpAnyH_take (i:=9) (v:=?_) rfl (by kernel_rfl) (by kernel_rfl) (by kernel_rfl) (fun _ _ _ h=>h) (Or.inl ⟨by rfl, ?_⟩) hHeld ?_;rotate_left;(focus ((intro w hSw;(try dsimp only at hSw);go_simp);try with_reducible rfl));simp only [List.getElem_toArray,List.getElem_cons_zero,List.getElem_cons_succ,Act.put,List.setIfInBounds_toArray,List.set_cons_zero,List.set_cons_succ];refine wpAnyH_take (i:=10) (v:=?_) rfl (by kernel_rfl) (by kernel_rfl) (by kernel_rfl) (fun _ _ _ h=>h) (Or.inl ⟨by rfl, ?_⟩) hHeld ?_;rotate_left;(focus ((intro w hSw;(try dsimp only at hSw);go_simp);try with_reducible rfl));simp only [List.getElem_toArray,List.getElem_cons_zero,List.getElem_cons_succ,Act.put,List.setIfInBounds_toArray,List.set_cons_zero,List.set_cons_succ]
   have HD:Below V1.heap.size V1 V1.drew:=(Below.refl _ _).drew
   refine wpAnyH_ready (rs:=[5]) (by kernel_rfl) (by simp) ?_;refine AllReadyH.cons rfl (fun K hK=>?_) AllReadyH.nil;simp only [List.getElem_toArray,List.getElem_cons_zero,List.getElem_cons_succ,Act.put,List.setIfInBounds_toArray,List.set_cons_zero,List.set_cons_succ];go_simp
   go_at_call 62
   (with_reducible refine (ct _).mono ?_)
   rintro _ W0 ⟨rfl,hb1⟩
   exact⟨rfl,Or.inr ⟨eR.out,rfl⟩,later HB (HD.trans hb1)⟩
theorem plE_ok:Dim64 plE∧drK plE 7=true:=⟨fun _ _=>⟨⟨by show (-9223372036854775808:Int)≤0;decide,by show (0:Int)≤9223372036854775807;decide⟩,⟨by show (-9223372036854775808:Int)≤1;decide,by show (1:Int)≤9223372036854775807;decide⟩⟩,by decide⟩
def powerP (a:Pro) (p:Int×Int):Option Pro:=timesP (plE,[]) a p
structure POk (V:Int) (X:Pro):Prop where
 d:Dim64 X.1
 r:drK X.1 7=true
 f:FOk X.2
 s:Rise V 0 X.2
theorem fOk_one (v:Int):FOk [(v,(1,1))]:=fun f hf=>by rw [List.mem_singleton.1 hf];exact rok_one ⟨by decide,by decide⟩ (by decide)
theorem fOk_nil:FOk []:=fun f hf=>by cases hf
def Dms (w:World) (A:Option Addr) (n:Nat) (D:Nat→Nat→Int×Int):Prop:=∀i,i<n→∃b o,A=some ⟨b,o,none⟩∧b<w.heap.size∧∀j c,(dimL (D i))[j]?=some c→w.cell? ⟨b,o+i*14+j,none⟩=some c
theorem Dms.keep {w W:World} {A:Option Addr} {n:Nat} {D:Nat→Nat→Int×Int} (h:Dms w A n D) (k:Below w.heap.size w W):Dms W A n D:=fun i hi=>by
 obtain⟨b,o,e,l,c⟩:=h i hi
 exact⟨b,o,e,Nat.lt_of_lt_of_le l k.size,fun j u hj=>keepsC k (c j u hj) l⟩
def Bls (w:World) (A:Option Addr) (n:Nat) (G:Nat→Bool):Prop:=∀i,i<n→∃b o,A=some ⟨b,o,none⟩∧b<w.heap.size∧w.cell? ⟨b,o+i,none⟩=some (.bool (G i))
theorem Bls.keep {w W:World} {A:Option Addr} {n:Nat} {G:Nat→Bool} (h:Bls w A n G) (k:Below w.heap.size w W):Bls W A n G:=fun i hi=>by
 obtain⟨b,o,e,l,c⟩:=h i hi
 exact⟨b,o,e,Nat.lt_of_lt_of_le l k.size,keepsC k c l⟩
def vrV (dv gv:Value) (S:Nat→Int×Int):Value:=.agg #[dv,gv,.int .i64 (S 0).1,.int .i64 (S 0).2,.int .i64 (S 1).1,.int .i64 (S 1).2,.int .i64 (S 2).1,.int .i64 (S 2).2,.int .i64 (S 3).1,.int .i64 (S 3).2,.int .i64 (S 4).1,.int .i64 (S 4).2,.int .i64 (S 5).1,.int .i64 (S 5).2,.int .i64 (S 6).1,.int .i64 (S 6).2]
def vrL (dv gv:Value) (S:Nat→Int×Int):List Value:=[dv,gv,.int .i64 (S 0).1,.int .i64 (S 0).2,.int .i64 (S 1).1,.int .i64 (S 1).2,.int .i64 (S 2).1,.int .i64 (S 2).2,.int .i64 (S 3).1,.int .i64 (S 3).2,.int .i64 (S 4).1,.int .i64 (S 4).2,.int .i64 (S 5).1,.int .i64 (S 5).2,.int .i64 (S 6).1,.int .i64 (S 6).2]
theorem vr_val (dv gv:Value) (S:Nat→Int×Int):vrV dv gv S=.agg (vrL dv gv S).toArray:=rfl
theorem vrL_dim {dv gv:Value} {S:Nat→Int×Int} (j:Nat) (v:Value) (h:(dimL S)[j]?=some v):(vrL dv gv S)[2+j]?=some v:=by
 rw [Nat.add_comm]
 exact h
def varP (G:Nat→Bool) (D:Nat→Nat→Int×Int) (S:Nat→Int×Int) (v k:Int):Option Pro:=timesP (if G v.toNat then (D v.toNat,[]) else (plE,[(v,(1,1))])) (S,[]) (-k,1)
set_option maxRecDepth 4000 in
set_option maxHeartbeats 4000000 in
theorem upower_w (B:Nat→Int×Int) (Lb:List Fac) (sb:Value) (p:Int×Int) (hB:Dim64 B) (rB:drK B 7=true) (hp:ROk p) (hb:FOk Lb) (hl:Lb.length≤1000) (w:World) (Fb:FSl w sb Lb) :
   Calls Try.prog 60 #[proV B sb,.agg #[.int .i64 p.1,.int .i64 p.2]] w fun r w'=>PrAns r w' (powerP (B,Lb) p)∧Below w.heap.size w w':=by
 have ct:=fun W fb=>uptimes_w plE B [] Lb (.slice none 0 0) sb p plE_ok.1 hB plE_ok.2 rB hp fOk_nil hb (by simpa using hl) W (fSl_nil W) fb
 have cp:=fun W=>uplain_w W
 have ck:=fun W=>uofKnown_w plE W
 unfold powerP
 obtain⟨R,hR⟩:∃R,Hid (timesP (plE,[]) (B,Lb) p=R):=⟨_,rfl⟩
 rw [hR.out] at ct ⊢
 show Calls Try.prog _ #[.agg #[.int .i64 (B 0).1,.int .i64 (B 0).2,.int .i64 (B 1).1,.int .i64 (B 1).2,.int .i64 (B 2).1,.int .i64 (B 2).2,.int .i64 (B 3).1,.int .i64 (B 3).2,.int .i64 (B 4).1,.int .i64 (B 4).2,.int .i64 (B 5).1,.int .i64 (B 5).2,.int .i64 (B 6).1,.int .i64 (B 6).2,sb],_] w _
 obtain⟨XB,XP,RB,HB⟩:=blks3 w 79 27 79 [.int .i64 (B 0).1,.int .i64 (B 0).2,.int .i64 (B 1).1,.int .i64 (B 1).2,.int .i64 (B 2).1,.int .i64 (B 2).2,.int .i64 (B 3).1,.int .i64 (B 3).2,.int .i64 (B 4).1,.int .i64 (B 4).2,.int .i64 (B 5).1,.int .i64 (B 5).2,.int .i64 (B 6).1,.int .i64 (B 6).2,sb] [.int .i64 p.1,.int .i64 p.2] [.int .i64 0,.int .i64 0,.int .i64 0,.int .i64 0,.int .i64 0,.int .i64 0,.int .i64 0,.int .i64 0,.int .i64 0,.int .i64 0,.int .i64 0,.int .i64 0,.int .i64 0,.int .i64 0,.slice none 0 0]
 go_enter Try.func60,Try.ntmps60
 go_upto_region 1 with fail
 generalize (((w.alloc (.cells #[.int .i64 (B 0).1,.int .i64 (B 0).2,.int .i64 (B 1).1,.int .i64 (B 1).2,.int .i64 (B 2).1,.int .i64 (B 2).2,.int .i64 (B 3).1,.int .i64 (B 3).2,.int .i64 (B 4).1,.int .i64 (B 4).2,.int .i64 (B 5).1,.int .i64 (B 5).2,.int .i64 (B 6).1,.int .i64 (B 6).2,sb] 79)).alloc (.cells #[.int .i64 p.1,.int .i64 p.2] 27)).alloc (.cells #[.int .i64 0,.int .i64 0,.int .i64 0,.int .i64 0,.int .i64 0,.int .i64 0,.int .i64 0,.int .i64 0,.int .i64 0,.int .i64 0,.int .i64 0,.int .i64 0,.int .i64 0,.int .i64 0,.slice none 0 0] 79))=V1 at *
 have k2:=fun n:Behind V1=>n.cell (XP.cell 0 _ rfl) XP.lt
 have k3:=fun n:Behind V1=>n.cell (XP.cell 1 _ rfl) XP.lt
 refine tail_behind 4 (by kernel_rfl) (by kernel_rfl) ?_
 simp only [List.take_succ_cons,List.take_zero,List.drop_succ_cons,List.drop_zero]
 repeat (first
   | (go_big_quiet_want;refine quiet_loadBig _ 79 (by rfl) Try.underlying79 (proL B sb) (by kernel_rfl) (by rfl) (XB.behind) (pro_val B sb) ?_;simp only [Act.put,List.setIfInBounds_toArray,List.set_cons_zero,List.set_cons_succ];go_big_quiet_on)
   | (go_big_quiet_step (first | (go_at_call 40;with_reducible refine Behind.call (cp _)) | (go_at_call 63;with_reducible refine Behind.call (ck _)))))
 refine wpQuiet_nil ?_
 rintro _ ⟨q,rfl⟩
 obtain⟨W,hb1⟩:=q
 dsimp only
 clear k2 k3
 replace HB:=later HB hb1
 replace RB:=RB.keeps hb1
 clear hb1
 cases R with
 | none =>
   have eR:Hid ((none:Option Pro)=none):=rfl
   go_wp2_with (first
     | (go_at_call 57;(with_reducible refine (ct _ (Fb.keep HB)).mono ?_);rintro r W2 ⟨hM,hb2⟩;have hr:=hM.no;subst hr;exact⟨rfl,Or.inr ⟨eR.out,rfl⟩,later HB hb2⟩))
 | some X =>
   go_wp2_with (first
     | (go_at_call 57;(with_reducible refine (ct _ (Fb.keep HB)).mono ?_);rintro r W2 ⟨hM,hb2⟩;obtain⟨s,hr,A9,c9,rfl,hc9,fa9⟩:=hM.yes;subst hr;have fl:FSl W2 (.slice A9 X.2.length c9) X.2:=⟨A9,c9,rfl,hc9,fa9⟩;replace HB:=later HB hb2;replace RB:=RB.keeps hb2;clear hb2 hM)
     | (refine wpList_storeBig (by rfl) _ _ 79 (by rfl) (RB) (proL X.1 (.slice A9 X.2.length c9)) (by kernel_rfl) (by rfl) (by rfl) (by rfl) (by rfl) ?_;rintro V2 XR hs2 hB2 hk2))
   have fl2:=fl.other RB (by decide) hk2
   exact bodyPost_ret (v:=proV X.1 (.slice A9 X.2.length c9)) (results_cell_row Try.results60 _ V2 (w.heap.size+1+1) 79 (proL X.1 (.slice A9 X.2.length c9)).toArray (0,0) _ (by rfl) XR Try.underlying79 (by rfl) (by kernel_rfl)) rfl ⟨Or.inl ⟨X,_,rfl,rfl,fl2⟩,hB2 _ _ HB (by omega)⟩
set_option maxRecDepth 4000 in
set_option maxHeartbeats 4000000 in
theorem uvarOf_w (A0 A1:Option Addr) (n0 C0 n1 C1:Nat) (D:Nat→Nat→Int×Int) (G:Nat→Bool) (S:Nat→Int×Int) (v k:Int) (hk:0≤k∧k≤6) (hS:Dim64 S) (rS:drK S 7=true) (hv:0≤v∧v<(n0:Int)) (hn:n1=n0) (hn2:(n0:Int)≤9223372036854775807)
   (hD:G v.toNat=true→Dim64 (D v.toNat)∧drK (D v.toNat) 7=true) (w:World) (VD:Dms w A0 n0 D) (VG:Bls w A1 n1 G) :
   Calls Try.prog 64 #[vrV (.slice A0 n0 C0) (.slice A1 n1 C1) S,.agg #[.int .i64 v,.int .i64 k]] w fun r w'=>PrAns r w' (varP G D S v k)∧Below w.heap.size w w':=by
 subst hn
 have cu:=fun W=>uofUnknown_w v W
 have cs:=fun W=>uofKnown_w S W
 have cw:=fun W=>uwhole_w (-k) W
 have hpk:ROk (-k,1):=rok_one (by constructor <;> omega) (by omega)
 obtain⟨t,rfl⟩:∃t:Nat,v=(t:Int):=⟨v.toNat,by omega⟩
 have ht:t<n1:=by omega
 have e0:((t:Int)).toNat=t:=by omega
 rw [e0] at hD
 obtain⟨b1,o1,hA1,l1,g1⟩:=VG t ht
 obtain⟨b0,o0,hA0,l0,g0⟩:=VD t ht
 unfold varP
 rw [e0]
 obtain⟨R,hR⟩:∃R,Hid (timesP (if G t then (D t,[]) else (plE,[((t:Int),(1,1))])) (S,[]) (-k,1)=R):=⟨_,rfl⟩
 rw [hR.out]
 have HD:Hid (G t=true→Dim64 (D t)∧drK (D t) 7=true):=hD
 replace g0:Hid (∀j c,(dimL (D t))[j]?=some c→w.cell? ⟨b0,o0+t*14+j,none⟩=some c):=g0
 subst hA1 hA0
 clear VD VG hD e0
 show Calls Try.prog _ #[.agg #[.slice _ _ _,.slice _ _ _,.int .i64 (S 0).1,.int .i64 (S 0).2,.int .i64 (S 1).1,.int .i64 (S 1).2,.int .i64 (S 2).1,.int .i64 (S 2).2,.int .i64 (S 3).1,.int .i64 (S 3).2,.int .i64 (S 4).1,.int .i64 (S 4).2,.int .i64 (S 5).1,.int .i64 (S 5).2,.int .i64 (S 6).1,.int .i64 (S 6).2],_] w _
 obtain⟨XV,XK,RB,HB⟩:=blks3 w 43 52 79 [.slice (some ⟨b0,o0,none⟩) n1 C0,.slice (some ⟨b1,o1,none⟩) n1 C1,.int .i64 (S 0).1,.int .i64 (S 0).2,.int .i64 (S 1).1,.int .i64 (S 1).2,.int .i64 (S 2).1,.int .i64 (S 2).2,.int .i64 (S 3).1,.int .i64 (S 3).2,.int .i64 (S 4).1,.int .i64 (S 4).2,.int .i64 (S 5).1,.int .i64 (S 5).2,.int .i64 (S 6).1,.int .i64 (S 6).2] [.int .i64 (t:Int),.int .i64 k] [.int .i64 0,.int .i64 0,.int .i64 0,.int .i64 0,.int .i64 0,.int .i64 0,.int .i64 0,.int .i64 0,.int .i64 0,.int .i64 0,.int .i64 0,.int .i64 0,.int .i64 0,.int .i64 0,.slice none 0 0]
 go_enter Try.func64,Try.ntmps64
 go_upto_region 1 with fail
 generalize (((w.alloc (.cells #[.slice (some ⟨b0,o0,none⟩) n1 C0,.slice (some ⟨b1,o1,none⟩) n1 C1,.int .i64 (S 0).1,.int .i64 (S 0).2,.int .i64 (S 1).1,.int .i64 (S 1).2,.int .i64 (S 2).1,.int .i64 (S 2).2,.int .i64 (S 3).1,.int .i64 (S 3).2,.int .i64 (S 4).1,.int .i64 (S 4).2,.int .i64 (S 5).1,.int .i64 (S 5).2,.int .i64 (S 6).1,.int .i64 (S 6).2] 43)).alloc (.cells #[.int .i64 (t:Int),.int .i64 k] 52)).alloc (.cells #[.int .i64 0,.int .i64 0,.int .i64 0,.int .i64 0,.int .i64 0,.int .i64 0,.int .i64 0,.int .i64 0,.int .i64 0,.int .i64 0,.int .i64 0,.int .i64 0,.int .i64 0,.int .i64 0,.slice none 0 0] 79))=V1 at *
 have x0:=XV.cell 0 _ rfl
 have x1:=XV.cell 1 _ rfl
 have q0:=XK.cell 0 _ rfl
 go_upto_region 2 with (first
   | (go_at_call 82;(with_reducible refine (cu _).mono ?_);rintro _ W1 ⟨⟨s5,rfl,A5,c5,rfl,hc5,fa5⟩,hb1⟩;replace HB:=later HB hb1;replace XV:=XV.keeps hb1;replace XK:=XK.keeps hb1;replace RB:=RB.keeps hb1;clear hb1 x0 x1 q0)
   | (refine wpList_storeBig (by rfl) _ _ 79 (by rfl) (blk_new _ _ _) (proL plE (.slice A5 1 c5)) (by kernel_rfl) (by rfl) (by rfl) (by rfl) (by rfl) ?_;rintro V2 XR hs2 hB2 hk2))
 replace XV:=hk2 _ _ _ (by have:=XV.lt;omega) (XV.keeps (Below.alloc (Below.refl _ _) (Nat.le_refl _) _))
 replace XK:=hk2 _ _ _ (by have:=XK.lt;omega) (XK.keeps (Below.alloc (Below.refl _ _) (Nat.le_refl _) _))
 replace fa5:=(fa5.keep (Below.alloc (Below.refl _ _) (Nat.le_refl _) _)).other (blk_new _ _ _) (by decide) hk2
 have XD:=XR
 have hne:w.heap.size+1+1<W1.heap.size:=RB.lt
 replace RB:=hk2 _ _ _ (by omega) (RB.keeps (Below.alloc (Below.refl _ _) (Nat.le_refl _) _))
 replace HB:=hB2 _ _ (Below.alloc HB HB.size _) HB.size
 obtain⟨db,hdb⟩:∃db,db=W1.heap.size:=⟨_,rfl⟩
 rw [←hdb] at XD hne ⊢
 clear hdb XR hB2 hk2 hs2
 have FL5:FSl V2 (.slice A5 1 c5) [((t:Int),(1,1))]:=⟨A5,c5,rfl,hc5,fa5⟩
 clear fa5 hc5
 have x0:=XV.cell 0 _ rfl
 have x1:=XV.cell 1 _ rfl
 have q0:=XK.cell 0 _ rfl
 have q1:=XK.cell 1 _ rfl
 have gg:=keepsC HB g1 l1
 have htn:(t:Int)<(n1:Int):=by omega
 cases hG:G t with
 | true =>
   rw [hG] at gg
   have eR:Hid (timesP (D t,[]) (S,[]) (-k,1)=R):=by have q:=hR.out;rw [hG] at q;exact q
   obtain⟨hD1,hD2⟩:=HD.out hG
   have ct:=fun W fa fb=>uptimes_w (D t) S [] [] (.slice none 0 0) (.slice none 0 0) (-k,1) hD1 hS hD2 rS hpk fOk_nil fOk_nil (by simp) W fa fb
   rw [eR.out] at ct
   have cD:=fun W=>uofKnown_w (D t) W
   clear hR hG
   go_upto_region 4 with (first
     | (refine wpList_loadBig (by rfl) _ 30 (by rfl) Try.underlying30 (dimL (D t)) (by kernel_rfl) (by rfl) (fun j c hj=>keepsC HB (g0.out j c hj) l0) (dim_val (D t)) ?_)
     | (go_at_call 63;(with_reducible refine (cD _).mono ?_);rintro _ W3 ⟨rfl,hb1⟩;replace HB:=later HB hb1;replace XV:=XV.keeps hb1;replace XK:=XK.keeps hb1;replace RB:=RB.keeps hb1;replace XD:=XD.keeps hb1;clear hb1 x0 x1 q0 q1 gg)
     | (refine wpList_storeBig (by rfl) _ _ 79 (by rfl) XD (proL (D t) (.slice none 0 0)) (by kernel_rfl) (by rfl) (by rfl) (by rfl) (by rfl) ?_;rintro V4 XR hs4 hB4 hk4;replace XV:=hk4 _ _ _ (by omega) XV;replace XK:=hk4 _ _ _ (by omega) XK;replace RB:=hk4 _ _ _ (by omega) RB;replace HB:=hB4 _ _ HB (by omega);clear XD;have XD:=XR;clear XR hk4 hB4 hs4))
   have x0:=XV.cell 0 _ rfl
   have x1:=XV.cell 1 _ rfl
   have q0:=XK.cell 0 _ rfl
   have q1:=XK.cell 1 _ rfl
   have gg:=q1
   try simp only [Act.put]
   have k0:=fun n:Behind V4=>n.cell q1 XK.lt
   obtain⟨hk1,hk2⟩:=hk
   refine tail_behind 8 (by kernel_rfl) (by kernel_rfl) ?_
   simp only [List.take_succ_cons,List.take_zero,List.drop_succ_cons,List.drop_zero]
   repeat (first
     | (go_big_quiet_want;refine quiet_loadBig _ 79 (by rfl) Try.underlying79 (proL (D t) (.slice none 0 0)) (by kernel_rfl) (by rfl) (XD.behind) (pro_val (D t) (.slice none 0 0)) ?_;simp only [Act.put,List.setIfInBounds_toArray,List.set_cons_zero,List.set_cons_succ];go_big_quiet_on)
     | (go_big_quiet_want;refine quiet_loadBig _ 30 (by rfl) Try.underlying30 (dimL S) (by kernel_rfl) (by rfl) (fun W hW j c hj=>by have q:=XV.behind W hW (2+j) c (vrL_dim j c hj);rwa [Nat.zero_add] at q) (dim_val S) ?_;simp only [Act.put,List.setIfInBounds_toArray,List.set_cons_zero,List.set_cons_succ];go_big_quiet_on)
     | (go_big_quiet_step (first | (go_at_call 63;with_reducible refine Behind.call (cs _)) | (go_at_call 56;with_reducible refine Behind.call (cw _)))))
   refine wpQuiet_nil ?_
   rintro _ ⟨q,rfl⟩
   obtain⟨W,hb1⟩:=q
   dsimp only
   clear k0 x0 x1 q0 q1 gg
   replace HB:=later HB hb1
   replace RB:=RB.keeps hb1
   have FLk:=(fSl_nil V4).keep hb1
   clear hb1
   cases R with
   | none =>
     have eR:Hid ((none:Option Pro)=none):=rfl
     go_wp2_with (first
       | (go_at_call 57;(with_reducible refine (ct _ FLk (fSl_nil _)).mono ?_);rintro r W2 ⟨hM,hb2⟩;have hr:=hM.no;subst hr;exact⟨rfl,Or.inr ⟨eR.out,rfl⟩,later HB hb2⟩))
   | some X =>
     go_wp2_with (first
       | (go_at_call 57;(with_reducible refine (ct _ FLk (fSl_nil _)).mono ?_);rintro r W2 ⟨hM,hb2⟩;obtain⟨s,hr,A9,c9,rfl,hc9,fa9⟩:=hM.yes;subst hr;have fl:FSl W2 (.slice A9 X.2.length c9) X.2:=⟨A9,c9,rfl,hc9,fa9⟩;replace HB:=later HB hb2;replace RB:=RB.keeps hb2;clear hb2 hM)
       | (refine wpList_storeBig (by rfl) _ _ 79 (by rfl) (RB) (proL X.1 (.slice A9 X.2.length c9)) (by kernel_rfl) (by rfl) (by rfl) (by rfl) (by rfl) ?_;rintro V3 XR hs2 hB2 hk2))
     have fl2:=fl.other RB (by decide) hk2
     exact bodyPost_ret (v:=proV X.1 (.slice A9 X.2.length c9)) (results_cell_row Try.results64 _ V3 (w.heap.size+1+1) 79 (proL X.1 (.slice A9 X.2.length c9)).toArray (0,0) _ (by rfl) XR Try.underlying79 (by rfl) (by kernel_rfl)) rfl ⟨Or.inl ⟨X,_,rfl,rfl,fl2⟩,hB2 _ _ HB (by omega)⟩
 | false =>
   rw [hG] at gg
   have eR:Hid (timesP (plE,[((t:Int),(1,1))]) (S,[]) (-k,1)=R):=by have q:=hR.out;rw [hG] at q;exact q
   have ct:=fun W fa fb=>uptimes_w plE S [((t:Int),(1,1))] [] (.slice A5 1 c5) (.slice none 0 0) (-k,1) plE_ok.1 hS plE_ok.2 rS hpk (fOk_one _) fOk_nil (by simp) W fa fb
   rw [eR.out] at ct
   clear hR hG
   go_upto_region 4 with fail
   try simp only [Act.put]
   have k0:=fun n:Behind V2=>n.cell q1 XK.lt
   obtain⟨hk1,hk2⟩:=hk
   refine tail_behind 8 (by kernel_rfl) (by kernel_rfl) ?_
   simp only [List.take_succ_cons,List.take_zero,List.drop_succ_cons,List.drop_zero]
   repeat (first
     | (go_big_quiet_want;refine quiet_loadBig _ 79 (by rfl) Try.underlying79 (proL plE (.slice A5 1 c5)) (by kernel_rfl) (by rfl) (XD.behind) (pro_val plE (.slice A5 1 c5)) ?_;simp only [Act.put,List.setIfInBounds_toArray,List.set_cons_zero,List.set_cons_succ];go_big_quiet_on)
     | (go_big_quiet_want;refine quiet_loadBig _ 30 (by rfl) Try.underlying30 (dimL S) (by kernel_rfl) (by rfl) (fun W hW j c hj=>by have q:=XV.behind W hW (2+j) c (vrL_dim j c hj);rwa [Nat.zero_add] at q) (dim_val S) ?_;simp only [Act.put,List.setIfInBounds_toArray,List.set_cons_zero,List.set_cons_succ];go_big_quiet_on)
     | (go_big_quiet_step (first | (go_at_call 63;with_reducible refine Behind.call (cs _)) | (go_at_call 56;with_reducible refine Behind.call (cw _)))))
   refine wpQuiet_nil ?_
   rintro _ ⟨q,rfl⟩
   obtain⟨W,hb1⟩:=q
   dsimp only
   clear k0 x0 x1 q0 q1 gg
   replace HB:=later HB hb1
   replace RB:=RB.keeps hb1
   have FLk:=FL5.keep hb1
   clear hb1
   cases R with
   | none =>
     have eR:Hid ((none:Option Pro)=none):=rfl
     go_wp2_with (first
       | (go_at_call 57;(with_reducible refine (ct _ FLk (fSl_nil _)).mono ?_);rintro r W2 ⟨hM,hb2⟩;have hr:=hM.no;subst hr;exact⟨rfl,Or.inr ⟨eR.out,rfl⟩,later HB hb2⟩))
   | some X =>
     go_wp2_with (first
       | (go_at_call 57;(with_reducible refine (ct _ FLk (fSl_nil _)).mono ?_);rintro r W2 ⟨hM,hb2⟩;obtain⟨s,hr,A9,c9,rfl,hc9,fa9⟩:=hM.yes;subst hr;have fl:FSl W2 (.slice A9 X.2.length c9) X.2:=⟨A9,c9,rfl,hc9,fa9⟩;replace HB:=later HB hb2;replace RB:=RB.keeps hb2;clear hb2 hM)
       | (refine wpList_storeBig (by rfl) _ _ 79 (by rfl) (RB) (proL X.1 (.slice A9 X.2.length c9)) (by kernel_rfl) (by rfl) (by rfl) (by rfl) (by rfl) ?_;rintro V3 XR hs2 hB2 hk2))
     have fl2:=fl.other RB (by decide) hk2
     exact bodyPost_ret (v:=proV X.1 (.slice A9 X.2.length c9)) (results_cell_row Try.results64 _ V3 (w.heap.size+1+1) 79 (proL X.1 (.slice A9 X.2.length c9)).toArray (0,0) _ (by rfl) XR Try.underlying79 (by rfl) (by kernel_rfl)) rfl ⟨Or.inl ⟨X,_,rfl,rfl,fl2⟩,hB2 _ _ HB (by omega)⟩
section
variable {P:Program} {ops:Array Oper} {Q:Exit→Act→World→Prop} {a:Act} {w:World} {rest:List Oper} {o:Oper}
theorem load_arr {T:TypeId} {n e:Nat} (hu:P.underlying T=some (.array n e)) {cs:List Value} (hi:(P.info? T).map (·.size)=some cs.length) {b off:Nat} (hc:∀j v,cs[j]?=some v→w.cell? ⟨b,off+j,none⟩=some v) :
   (loadVar T ⟨b,off,none⟩).run P w=.ok (.agg cs.toArray) w:=by
 have hl:(loadCells ⟨b,off,none⟩ cs.length).run P w=.ok cs.toArray w :=
   run_loadCells_list (P:=P) w ⟨b,off,none⟩ cs (fun j v hv=>by rw [add_plain];exact hc j v hv)
 cases hq:P.info? T with
 | none=>simp [hq] at hi
 | some i =>
   have hs:i.size=cs.length:=by simpa [hq] using hi
   simp [loadVar,isAgg,underlying,sizeOf,typeInfo,hq,hu,hs,hl]
theorem run_loadArr {cs:List Value} {T:TypeId} {p:Operand} (ho:o.op=.load T p) {n e:Nat} (hu:P.underlying T=some (.array n e)) (hi:(P.info? T).map (·.size)=some cs.length) {b off:Nat} (hp:a.eval p=.pointer (some ⟨b,off,none⟩))
   (hc:∀j v,cs[j]?=some v→w.cell? ⟨b,off+j,none⟩=some v):(execOp a.eval o).run P w=.ok (.value (.agg cs.toArray)) w:=by
 obtain⟨dst,op,ty,pos,after,guard⟩:=o
 simp only at ho
 subst ho
 have e:(Instr.loadAt T (.pointer (some ⟨b,off,none⟩))).run P w=.ok (.agg cs.toArray) w:=by
   simp only [Instr.loadAt,Instr.sureAddr,Sem.run_bind,Sem.run_pure,Result.andThen]
   exact load_arr hu hi hc
 simp only [execOp,hp,Sem.run_bind,e,Result.andThen,Sem.run_pure]
theorem quiet_loadArr {C:World→Prop} {K:Act→Prop} (p:Operand) (T:TypeId) (ho:o.op=.load T p) {n e:Nat} (hu:P.underlying T=some (.array n e)) (cs:List Value) (hi:(P.info? T).map (·.size)=some cs.length) {b off:Nat} (hp:a.eval p=.pointer (some ⟨b,off,none⟩))
   (hc:∀w,C w→∀j v,cs[j]?=some v→w.cell? ⟨b,off+j,none⟩=some v) {V:Value} (hV:V=.agg cs.toArray) (h:K (a.put o.dst V)):o.quiet P a C K:=by
 subst hV
 exact⟨_,fun w hw=>by unfold Oper.quietAt;rw [run_loadArr ho hu hi hp (hc w hw)];exact⟨rfl,rfl⟩,h⟩
theorem quiet_run {C:World→Prop} {K:Act→Prop} (V:Value) (hr:∀w,C w→(execOp a.eval o).run P w=.ok (.value V) w) (h:K (a.put o.dst V)):o.quiet P a C K :=
 ⟨_,fun w hw=>by unfold Oper.quietAt;rw [hr w hw];exact⟨rfl,rfl⟩,h⟩
end
def givenB (G:Nat→Bool) (D:Nat→Nat→Int×Int) (n:Nat):Bool:=(List.range n).all fun i=>!G i || drK (D i) 7
def vrightB (n0 n1:Nat) (G:Nat→Bool) (D:Nat→Nat→Int×Int) (S:Nat→Int×Int):Bool:=n1==n0&&(drK S 7&&givenB G D n0)
def haveB (X:Nat→Nd) (N:Nat→Bool) (n m:Nat):Bool:=(List.range n).all fun i=>!(N i&&((X i).k==2&&decide ((m:Int)≤(X i).v)))
theorem as_aggU (xs:Array Value) (w:World):(asAgg (.agg xs)).run Try.prog w=.ok xs w:=rfl
@[go_sem] theorem fld_dim (E:Nat→Int×Int) (w:World):(Instr.field 30 (.agg #[.int .i64 (E 0).1,.int .i64 (E 0).2,.int .i64 (E 1).1,.int .i64 (E 1).2,.int .i64 (E 2).1,.int .i64 (E 2).2,.int .i64 (E 3).1,.int .i64 (E 3).2,.int .i64 (E 4).1,.int .i64 (E 4).2,.int .i64 (E 5).1,.int .i64 (E 5).2,.int .i64 (E 6).1,.int .i64 (E 6).2]) 0).run Try.prog w=.ok (.agg #[.int .i64 (E 0).1,.int .i64 (E 0).2,.int .i64 (E 1).1,.int .i64 (E 1).2,.int .i64 (E 2).1,.int .i64 (E 2).2,.int .i64 (E 3).1,.int .i64 (E 3).2,.int .i64 (E 4).1,.int .i64 (E 4).2,.int .i64 (E 5).1,.int .i64 (E 5).2,.int .i64 (E 6).1,.int .i64 (E 6).2]) w:=by
 unfold Instr.field
 simp [go_sem,as_aggU]
set_option maxRecDepth 4000 in
set_option maxHeartbeats 4000000 in
theorem uisPlain_w (E:Nat→Int×Int) (w:World):Calls Try.prog 36 #[.agg #[.int .i64 (E 0).1,.int .i64 (E 0).2,.int .i64 (E 1).1,.int .i64 (E 1).2,.int .i64 (E 2).1,.int .i64 (E 2).2,.int .i64 (E 3).1,.int .i64 (E 3).2,.int .i64 (E 4).1,.int .i64 (E 4).2,.int .i64 (E 5).1,.int .i64 (E 5).2,.int .i64 (E 6).1,.int .i64 (E 6).2]] w fun r w'=>r=.returned (.bool (eqD E plE))∧Below w.heap.size w w':=by
 have cp:∀W,Calls Try.prog 40 #[] W fun r w'=>r=.returned (.agg #[.int .i64 (plE 0).1,.int .i64 (plE 0).2,.int .i64 (plE 1).1,.int .i64 (plE 1).2,.int .i64 (plE 2).1,.int .i64 (plE 2).2,.int .i64 (plE 3).1,.int .i64 (plE 3).2,.int .i64 (plE 4).1,.int .i64 (plE 4).2,.int .i64 (plE 5).1,.int .i64 (plE 5).2,.int .i64 (plE 6).1,.int .i64 (plE 6).2])∧Below W.heap.size W w':=fun W=>uplain_w W
 obtain⟨b,hb⟩:∃b,Hid (eqD E plE=b):=⟨_,rfl⟩
 rw [hb.out]
 have q1:∀W,(Op.equalIn 10000 28 (.agg #[.int .i64 (E 0).1,.int .i64 (E 0).2,.int .i64 (E 1).1,.int .i64 (E 1).2,.int .i64 (E 2).1,.int .i64 (E 2).2,.int .i64 (E 3).1,.int .i64 (E 3).2,.int .i64 (E 4).1,.int .i64 (E 4).2,.int .i64 (E 5).1,.int .i64 (E 5).2,.int .i64 (E 6).1,.int .i64 (E 6).2]) (.agg #[.int .i64 (plE 0).1,.int .i64 (plE 0).2,.int .i64 (plE 1).1,.int .i64 (plE 1).2,.int .i64 (plE 2).1,.int .i64 (plE 2).2,.int .i64 (plE 3).1,.int .i64 (plE 3).2,.int .i64 (plE 4).1,.int .i64 (plE 4).2,.int .i64 (plE 5).1,.int .i64 (plE 5).2,.int .i64 (plE 6).1,.int .i64 (plE 6).2])).run Try.prog W=.ok b W:=fun W=>by
   have h:=run_equal_arr 9997 E plE W
   rw [hb.out] at h
   exact h
 generalize plE=PE at *
 obtain⟨XB,HB⟩:=blks1 w 30 [.int .i64 (E 0).1,.int .i64 (E 0).2,.int .i64 (E 1).1,.int .i64 (E 1).2,.int .i64 (E 2).1,.int .i64 (E 2).2,.int .i64 (E 3).1,.int .i64 (E 3).2,.int .i64 (E 4).1,.int .i64 (E 4).2,.int .i64 (E 5).1,.int .i64 (E 5).2,.int .i64 (E 6).1,.int .i64 (E 6).2]
 go_enter Try.func36,Try.ntmps36
 go_upto_region 1 with fail
 generalize (w.alloc (.cells #[.int .i64 (E 0).1,.int .i64 (E 0).2,.int .i64 (E 1).1,.int .i64 (E 1).2,.int .i64 (E 2).1,.int .i64 (E 2).2,.int .i64 (E 3).1,.int .i64 (E 3).2,.int .i64 (E 4).1,.int .i64 (E 4).2,.int .i64 (E 5).1,.int .i64 (E 5).2,.int .i64 (E 6).1,.int .i64 (E 6).2] 30))=V1 at *
 replace XB:BlkAt V1 w.heap.size 30 (dimL E):=XB
 refine region_behind (by kernel_rfl) (by kernel_rfl) ?_
 repeat (first
   | (go_big_quiet_want;refine quiet_loadArr _ 28 (by rfl) Try.underlying28 (dimL E) (by kernel_rfl) (by rfl) XB.behind (dim_valU E) ?_;simp only [Act.put,List.setIfInBounds_toArray,List.set_cons_zero,List.set_cons_succ];go_big_quiet_on)
   | (go_big_quiet_step (first | (go_at_call 40;with_reducible refine Behind.call (cp _))))
   | (go_big_quiet_want;refine quiet_run (.agg #[.int .i64 (PE 0).1,.int .i64 (PE 0).2,.int .i64 (PE 1).1,.int .i64 (PE 1).2,.int .i64 (PE 2).1,.int .i64 (PE 2).2,.int .i64 (PE 3).1,.int .i64 (PE 3).2,.int .i64 (PE 4).1,.int .i64 (PE 4).2,.int .i64 (PE 5).1,.int .i64 (PE 5).2,.int .i64 (PE 6).1,.int .i64 (PE 6).2]) (fun W _=>by simp [execOp,go_sem,fld_dim]) ?_;simp only [Act.put,List.setIfInBounds_toArray,List.set_cons_zero,List.set_cons_succ];go_big_quiet_on)
   | (go_big_quiet_want;refine quiet_run (.bool b) (fun W _=>by simp [execOp,go_sem,q1 W]) ?_;simp only [Act.put,List.setIfInBounds_toArray,List.set_cons_zero,List.set_cons_succ];go_big_quiet_on))
 refine wpQuiet_nil ?_
 rintro _ ⟨q,rfl⟩
 obtain⟨W,hb1⟩:=q
 dsimp only
 go_wp2_with fail
 go_ret
 exact⟨rfl,later HB hb1⟩
set_option maxRecDepth 4000 in
set_option maxHeartbeats 4000000 in
theorem uvright_w (A0 A1:Option Addr) (n0 C0 n1 C1:Nat) (D:Nat→Nat→Int×Int) (G:Nat→Bool) (S:Nat→Int×Int) (hS:Dim64 S) (hn:(n0:Int)≤9223372036854775807) (hn1:(n1:Int)≤9223372036854775807)
   (hD:∀i,i<n0→Dim64 (D i)) (w:World) (VD:Dms w A0 n0 D) (VG:Bls w A1 n1 G) :
   Calls Try.prog 14 #[vrV (.slice A0 n0 C0) (.slice A1 n1 C1) S] w fun r w'=>r=.returned (.bool (vrightB n0 n1 G D S))∧Below w.heap.size w w':=by
 obtain⟨R,hR⟩:∃R,Hid (vrightB n0 n1 G D S=R):=⟨_,rfl⟩
 rw [hR.out]
 have HD:Hid (∀i,i<n0→Dim64 (D i)):=hD
 have cS:∀W,Calls Try.prog 10 #[.agg #[.int .i64 (S 0).1,.int .i64 (S 0).2,.int .i64 (S 1).1,.int .i64 (S 1).2,.int .i64 (S 2).1,.int .i64 (S 2).2,.int .i64 (S 3).1,.int .i64 (S 3).2,.int .i64 (S 4).1,.int .i64 (S 4).2,.int .i64 (S 5).1,.int .i64 (S 5).2,.int .i64 (S 6).1,.int .i64 (S 6).2]] W fun r w'=>r=.returned (.bool (drK S 7))∧Below W.heap.size W w':=fun W=>uright_w S hS W
 clear hD
 show Calls Try.prog _ #[.agg #[.slice A0 n0 C0,.slice A1 n1 C1,.int .i64 (S 0).1,.int .i64 (S 0).2,.int .i64 (S 1).1,.int .i64 (S 1).2,.int .i64 (S 2).1,.int .i64 (S 2).2,.int .i64 (S 3).1,.int .i64 (S 3).2,.int .i64 (S 4).1,.int .i64 (S 4).2,.int .i64 (S 5).1,.int .i64 (S 5).2,.int .i64 (S 6).1,.int .i64 (S 6).2]] w _
 obtain⟨XV,HB⟩:=blks1 w 43 [.slice A0 n0 C0,.slice A1 n1 C1,.int .i64 (S 0).1,.int .i64 (S 0).2,.int .i64 (S 1).1,.int .i64 (S 1).2,.int .i64 (S 2).1,.int .i64 (S 2).2,.int .i64 (S 3).1,.int .i64 (S 3).2,.int .i64 (S 4).1,.int .i64 (S 4).2,.int .i64 (S 5).1,.int .i64 (S 5).2,.int .i64 (S 6).1,.int .i64 (S 6).2]
 go_enter Try.func14,Try.ntmps14
 go_upto_region 1 with fail
 generalize (w.alloc (.cells #[.slice A0 n0 C0,.slice A1 n1 C1,.int .i64 (S 0).1,.int .i64 (S 0).2,.int .i64 (S 1).1,.int .i64 (S 1).2,.int .i64 (S 2).1,.int .i64 (S 2).2,.int .i64 (S 3).1,.int .i64 (S 3).2,.int .i64 (S 4).1,.int .i64 (S 4).2,.int .i64 (S 5).1,.int .i64 (S 5).2,.int .i64 (S 6).1,.int .i64 (S 6).2] 43))=V1 at *
 replace XV:BlkAt V1 w.heap.size 43 (vrL (.slice A0 n0 C0) (.slice A1 n1 C1) S):=XV
 have x0:=XV.cell 0 _ rfl
 have x1:=XV.cell 1 _ rfl
 by_cases cn:¬n1=n0
 · have e1:Hid (false=R):=by have q:=hR.out;unfold vrightB at q;rw [beq_eq_false_iff_ne.2 cn,Bool.false_and] at q;exact q
   have cn2:¬(n1:Int)=(n0:Int):=by omega
   have cn3:((n1:Int) != (n0:Int))=true:=bne_iff_ne.2 cn2
   clear hR
   replace cn:Hid (¬n1=n0):=cn
   go_wp2_with fail
   go_ret
   exact⟨by have q:=e1.out;subst q;rfl,HB⟩
 replace cn:n1=n0:=Decidable.not_not.1 cn
 subst cn
 have hR1:Hid ((drK S 7&&givenB G D n1)=R):=by have q:=hR.out;unfold vrightB at q;rw [beq_self_eq_true,Bool.true_and] at q;exact q
 clear hR
 cases hs:drK S 7 with
 | false =>
   rw [hs] at cS
   have e1:Hid (false=R):=by have q:=hR1.out;rw [hs,Bool.false_and] at q;exact q
   clear hR1 hs
   go_wp2_with (first
     | (refine wpList_loadBig (by rfl) _ 30 (by rfl) Try.underlying30 (dimL S) (by kernel_rfl) (by rfl) ((fun j c hj=>by have q:=XV.cell0 (2+j) c (vrL_dim j c hj);rwa [Nat.zero_add] at q)) (dim_valU S) ?_)
     | (go_at_call 10;(with_reducible refine (cS _).mono ?_);rintro _ W3 ⟨rfl,hb1⟩;replace HB:=later HB hb1;clear hb1 x0 x1))
   go_ret
   exact⟨by have q:=e1.out;subst q;rfl,HB⟩
 | true =>
   rw [hs] at cS
   have hR2:Hid (givenB G D n1=R):=by have q:=hR1.out;rw [hs,Bool.true_and] at q;exact q
   clear hR1 hs
   go_upto_region 4 with (first
     | (refine wpList_loadBig (by rfl) _ 30 (by rfl) Try.underlying30 (dimL S) (by kernel_rfl) (by rfl) ((fun j c hj=>by have q:=XV.cell0 (2+j) c (vrL_dim j c hj);rwa [Nat.zero_add] at q)) (dim_valU S) ?_)
     | (go_at_call 10;(with_reducible refine (cS _).mono ?_);rintro _ W3 ⟨rfl,hb1⟩;replace HB:=later HB hb1;replace XV:=XV.keeps hb1;clear hb1 x0 x1;have x0:=XV.cell 0 _ rfl;have x1:=XV.cell 1 _ rfl))
   clear x0 x1
   go_loopg [21] n1 (fun T s21 wx=>∃i:Nat,i+T=n1∧s21=.int .i64 (i:Int)∧Below w.heap.size w wx∧BlkAt wx w.heap.size 43 (vrL (.slice A0 n1 C0) (.slice A1 n1 C1) S)∧Hid (∀q,q<i→(!G q || drK (D q) 7)=true))
   case atStart=>exact⟨0,by omega,rfl,HB,XV,fun j hj=>absurd hj (by omega)⟩
   case round =>
     clear HB XV
     obtain⟨i,hi,rfl,HB,XV,hall⟩:=hrel
     by_cases ci:i=n1
     · have e1:Hid (true=R):=by have q:=hR2.out;subst ci;unfold givenB at q;rw [all_upto2.2 hall] at q;exact q
       clear hR2 hall
       subst ci
       go_wp2_with fail
       go_ret
       exact⟨by have q:=e1.out;subst q;rfl,HB⟩
     · have hin:i<n1:=by omega
       have hlt:(i:Int)<(n1:Int):=by omega
       obtain⟨b1,o1,hA1,l1,g1⟩:=(VG.keep HB) i hin
       obtain⟨b0,o0,hA0,l0,g0⟩:=(VD.keep HB) i hin
       replace g0:Hid (∀j c,(dimL (D i))[j]?=some c→wr.cell? ⟨b0,o0+i*14+j,none⟩=some c):=g0
       subst hA1 hA0
       have x0:=XV.cell 0 _ rfl
       have x1:=XV.cell 1 _ rfl
       go_upto_region 6 with (first
         | (refine wpList_loadBig (by rfl) _ 30 (by rfl) Try.underlying30 (dimL (D i)) (by kernel_rfl) (by rfl) (g0.out) (dim_valU (D i)) ?_)
         | (refine wpList_storeBig (by rfl) _ _ 30 (by rfl) (blk_new _ _ _) (dimL (D i)) (by kernel_rfl) (by rfl) (by rfl) (by rfl) (by rfl) ?_;rintro V2 XR hs2 hB2 hk2))
       have XD:=XR
       have hvb:w.heap.size<wr.heap.size:=XV.lt
       have GA:=Below.alloc (Below.refl wr.heap.size wr) (Nat.le_refl _) (.cells #[.int .i64 0,.int .i64 0,.int .i64 0,.int .i64 0,.int .i64 0,.int .i64 0,.int .i64 0,.int .i64 0,.int .i64 0,.int .i64 0,.int .i64 0,.int .i64 0,.int .i64 0,.int .i64 0] 30)
       replace XV:=hk2 _ _ _ (by omega) (XV.keeps GA)
       have GB:=hB2 _ _ GA (Nat.le_refl _)
       replace HB:=later HB GB
       replace g1:=keepsC GB g1 l1
       obtain⟨db,hdb⟩:∃db,db=wr.heap.size:=⟨_,rfl⟩
       rw [←hdb] at XD hvb ⊢
       clear XR hB2 hk2 hs2 hdb GA GB x0 x1 g0 l0
       try simp only [Act.put]
       have x0:=XV.cell 0 _ rfl
       have x1:=XV.cell 1 _ rfl
       have cD:∀W,Calls Try.prog 10 #[.agg #[.int .i64 (D i 0).1,.int .i64 (D i 0).2,.int .i64 (D i 1).1,.int .i64 (D i 1).2,.int .i64 (D i 2).1,.int .i64 (D i 2).2,.int .i64 (D i 3).1,.int .i64 (D i 3).2,.int .i64 (D i 4).1,.int .i64 (D i 4).2,.int .i64 (D i 5).1,.int .i64 (D i 5).2,.int .i64 (D i 6).1,.int .i64 (D i 6).2]] W fun r w'=>r=.returned (.bool (drK (D i) 7))∧Below W.heap.size W w':=fun W=>uright_w (D i) (HD.out i hin) W
       cases hG:G i with
       | false =>
         rw [hG] at g1
         have hall2:Hid (∀q,q<i+1→(!G q || drK (D q) 7)=true):=fun q hq=>by rcases Nat.lt_or_ge q i with h | h;exact hall.out q h;rw [show q=i by omega,hG];rfl
         clear hG hall cD
         go_wp2_with fail
         go_roundg (n1-i-1)
         case measure=>omega
         case rel=>exact⟨i+1,by omega,by go_num,HB,XV,hall2⟩
       | true =>
         rw [hG] at g1
         cases hd:drK (D i) 7 with
         | true =>
           rw [hd] at cD
           have hall2:Hid (∀q,q<i+1→(!G q || drK (D q) 7)=true):=fun q hq=>by rcases Nat.lt_or_ge q i with h | h;exact hall.out q h;rw [show q=i by omega,hd,Bool.or_true]
           clear hG hall hd
           go_wp2_with (first
             | (refine wpList_loadBig (by rfl) _ 30 (by rfl) Try.underlying30 (dimL (D i)) (by kernel_rfl) (by rfl) (XD.cell0) (dim_valU (D i)) ?_)
             | (go_at_call 10;(with_reducible refine (cD _).mono ?_);rintro _ W3 ⟨rfl,hb1⟩;replace HB:=later HB hb1;replace XV:=XV.keeps hb1;clear hb1 x0 x1 g1))
           go_roundg (n1-i-1)
           case measure=>omega
           case rel=>exact⟨i+1,by omega,by go_num,HB,XV,hall2⟩
         | false =>
           rw [hd] at cD
           have e1:Hid (false=R):=by have q:=hR2.out;unfold givenB at q;rw [all_not2 (i:=i) (by omega) (by rw [hG,hd];rfl)] at q;exact q
           clear hR2 hG hall hd
           go_wp2_with (first
             | (refine wpList_loadBig (by rfl) _ 30 (by rfl) Try.underlying30 (dimL (D i)) (by kernel_rfl) (by rfl) (XD.cell0) (dim_valU (D i)) ?_)
             | (go_at_call 10;(with_reducible refine (cD _).mono ?_);rintro _ W3 ⟨rfl,hb1⟩;replace HB:=later HB hb1;clear hb1 x0 x1 g1))
           go_ret
           exact⟨by have q:=e1.out;subst q;rfl,HB⟩
set_option maxRecDepth 4000 in
set_option maxHeartbeats 4000000 in
theorem uhave_w (A0 A1:Option Addr) (n0 C0 n1 C1:Nat) (S:Nat→Int×Int) (AN:Option Addr) (n CN:Nat) (X:Nat→Nd) (g0:Nat) (N:Nat→Bool) (hn:n≤4000) (w:World) (VN:Nds w AN n X) (VC:Cel w g0 n (fun i=>.bool (N i))) :
   Calls Try.prog 15 #[vrV (.slice A0 n0 C0) (.slice A1 n1 C1) S,.slice AN n CN,.slice (some ⟨g0,0,none⟩) n n] w fun r w'=>r=.returned (.bool (haveB X N n n0))∧Below w.heap.size w w':=by
 obtain⟨R,hR⟩:∃R,Hid (haveB X N n n0=R):=⟨_,rfl⟩
 rw [hR.out]
 show Calls Try.prog _ #[.agg #[.slice A0 n0 C0,.slice A1 n1 C1,.int .i64 (S 0).1,.int .i64 (S 0).2,.int .i64 (S 1).1,.int .i64 (S 1).2,.int .i64 (S 2).1,.int .i64 (S 2).2,.int .i64 (S 3).1,.int .i64 (S 3).2,.int .i64 (S 4).1,.int .i64 (S 4).2,.int .i64 (S 5).1,.int .i64 (S 5).2,.int .i64 (S 6).1,.int .i64 (S 6).2],_,_] w _
 obtain⟨XV,HB⟩:=blks1 w 43 [.slice A0 n0 C0,.slice A1 n1 C1,.int .i64 (S 0).1,.int .i64 (S 0).2,.int .i64 (S 1).1,.int .i64 (S 1).2,.int .i64 (S 2).1,.int .i64 (S 2).2,.int .i64 (S 3).1,.int .i64 (S 3).2,.int .i64 (S 4).1,.int .i64 (S 4).2,.int .i64 (S 5).1,.int .i64 (S 5).2,.int .i64 (S 6).1,.int .i64 (S 6).2]
 go_enter Try.func15,Try.ntmps15
 go_upto_region 1 with fail
 generalize (w.alloc (.cells #[.slice A0 n0 C0,.slice A1 n1 C1,.int .i64 (S 0).1,.int .i64 (S 0).2,.int .i64 (S 1).1,.int .i64 (S 1).2,.int .i64 (S 2).1,.int .i64 (S 2).2,.int .i64 (S 3).1,.int .i64 (S 3).2,.int .i64 (S 4).1,.int .i64 (S 4).2,.int .i64 (S 5).1,.int .i64 (S 5).2,.int .i64 (S 6).1,.int .i64 (S 6).2] 43))=V1 at *
 replace XV:BlkAt V1 w.heap.size 43 (vrL (.slice A0 n0 C0) (.slice A1 n1 C1) S):=XV
 go_wp2_with fail
 go_loopg [11] n (fun T s11 wx=>∃i:Nat,i+T=n∧s11=.int .i64 (i:Int)∧Below w.heap.size w wx∧BlkAt wx w.heap.size 43 (vrL (.slice A0 n0 C0) (.slice A1 n1 C1) S)∧Hid (∀q,q<i→(!(N q&&((X q).k==2&&decide ((n0:Int)≤(X q).v))))=true))
 case atStart=>exact⟨0,by omega,rfl,HB,XV,fun j hj=>absurd hj (by omega)⟩
 case round =>
   clear HB XV
   obtain⟨i,hi,rfl,HB,XV,hall⟩:=hrel
   by_cases ci:i=n
   · have e1:Hid (true=R):=by have q:=hR.out;subst ci;unfold haveB at q;rw [all_upto2.2 hall] at q;exact q
     clear hR hall
     subst ci
     go_wp2_with fail
     go_ret
     exact⟨by have q:=e1.out;subst q;rfl,HB⟩
   · have hin:i<n:=by omega
     have hlt:(i:Int)<(n:Int):=by omega
     obtain⟨b,o,hA,hb, -⟩:=(VN.keep HB) i hin
     subst hA
     obtain⟨x,hx⟩:∃x,x=X i:=⟨_,rfl⟩
     have xc:Hid (∀j c,(ndL x)[j]?=some c→wr.cell? ⟨b,o+i*22+j,none⟩=some c):=by rw [hx];exact ((VN.keep HB).at (i:=i) hin).2
     replace hx:Hid (x=X i):=hx
     go_upto_region 4 with (first
       | (refine wpList_loadBig (by rfl) _ 54 (by rfl) Try.underlying54 (ndL x) (by kernel_rfl) (by rfl) (xc.out) (nd_val x) ?_)
       | (refine wpList_storeBig (by rfl) _ _ 54 (by rfl) (blk_new _ _ _) (ndL x) (by kernel_rfl) (by rfl) (by rfl) (by rfl) (by rfl) ?_;rintro V2 XR hs2 hB2 hk2))
     have hvb:w.heap.size<wr.heap.size:=XV.lt
     have GA:=Below.refl wr.heap.size wr
     have grw:Below wr.heap.size wr V2:=hB2 _ _ (Below.alloc (Below.refl _ _) (Nat.le_refl _) _) (Nat.le_refl _)
     replace HB:=later HB grw
     replace XV:=XV.keeps grw
     have XN:=XR
     have cn:=((VC.keep HB).2 i hin).1
     obtain⟨xb,hxb⟩:∃xb,xb=wr.heap.size:=⟨_,rfl⟩
     rw [←hxb] at XN hvb ⊢
     clear hxb hB2 hk2 hs2 grw xc GA XR
     dsimp only at cn
     have x0:=XV.cell 0 _ rfl
     obtain⟨y0,y1,y2,y3,y4,y5,y6,y7⟩:=XN.nd.cells
     have hgood:Hid ((!(N i&&(x.k==2&&decide ((n0:Int)≤x.v))))=true→∀q,q<i+1→(!(N q&&((X q).k==2&&decide ((n0:Int)≤(X q).v))))=true):=fun h q hq=>by
       rcases Nat.lt_or_ge q i with h1 | h1
       · exact hall.out q h1
       · rw [show q=i by omega,←hx.out];exact h
     have hbad:Hid ((!(N i&&(x.k==2&&decide ((n0:Int)≤x.v))))=false→false=R):=fun q=>by
       have q2:=hR.out
       unfold haveB at q2
       rw [all_not2 (i:=i) (by omega) (by rw [←hx.out];exact q)] at q2
       exact q2
     clear hR hall
     generalize N i=Ni at *
     cases Ni with
     | false =>
       have g2:Hid _:=hgood.out rfl
       clear hgood hbad
       go_wp2_with fail
       go_roundg (n-i-1)
       case measure=>omega
       case rel=>exact⟨i+1,by omega,by go_num,HB,XV,g2⟩
     | true =>
       by_cases ck:¬x.k=2
       · have ck2:(x.k==2)=false:=beq_eq_false_iff_ne.2 ck
         have g2:Hid _:=hgood.out (by rw [ck2];rfl)
         clear hgood hbad
         go_wp2_with fail
         go_roundg (n-i-1)
         case measure=>omega
         case rel=>exact⟨i+1,by omega,by go_num,HB,XV,g2⟩
       · replace ck:x.k=2:=Decidable.not_not.1 ck
         have ck2:(x.k==2)=true:=by rw [ck];rfl
         replace ck:Hid (x.k=2):=ck
         by_cases cv:(n0:Int)≤x.v
         · have e1:Hid (false=R):=hbad.out (by rw [ck2,decide_eq_true cv];rfl)
           clear hgood hbad
           go_wp2_with fail
           go_ret
           exact⟨by have q:=e1.out;subst q;rfl,HB⟩
         · have g2:Hid _:=hgood.out (by rw [decide_eq_false cv,Bool.and_false];rfl)
           clear hgood hbad
           go_wp2_with fail
           go_roundg (n-i-1)
           case measure=>omega
           case rel=>exact⟨i+1,by omega,by go_num,HB,XV,g2⟩
theorem ndL_dim {x:Nd} (j:Nat) (v:Value) (h:(dimL x.E)[j]?=some v):(ndL x)[8+j]?=some v:=by
 rw [Nat.add_comm]
 exact h
def PrsAt (w:World) (A:Option Addr) (K:Nat→Prop) (Q:Nat→Pro):Prop:=∀i,K i→∃b o A' c,A=some ⟨b,o,none⟩∧b<w.heap.size∧(Q i).2.length≤c∧FacAt w A' (Q i).2∧∀j u,(proL (Q i).1 (.slice A' (Q i).2.length c))[j]?=some u→w.cell? ⟨b,o+i*15+j,none⟩=some u
set_option maxRecDepth 4000 in
set_option maxHeartbeats 4000000 in
theorem udim_const (x:Nd) (AN:Option Addr) (nn CN:Nat) (AP:Option Addr) (np CP:Nat) (A0 A1:Option Addr) (n0 C0 n1 C1:Nat) (S:Nat→Int×Int) (hh:Hid (x.k=1)) (w:World) :
   Calls Try.prog 38 #[x.val,.slice AN nn CN,.slice AP np CP,vrV (.slice A0 n0 C0) (.slice A1 n1 C1) S] w fun r w'=>PrAns r w' (some (x.E,[]))∧Below w.heap.size w w':=by
 have cE:=fun W=>uofKnown_w x.E W
 show Calls Try.prog _ #[.agg #[.int .i64 x.k,.int .i64 x.a,.int .i64 x.b,.int .i64 x.n,.int .i64 x.q,.int .i64 x.p,.int .i64 x.v,.int .i64 x.d,.int .i64 (x.E 0).1,.int .i64 (x.E 0).2,.int .i64 (x.E 1).1,.int .i64 (x.E 1).2,.int .i64 (x.E 2).1,.int .i64 (x.E 2).2,.int .i64 (x.E 3).1,.int .i64 (x.E 3).2,.int .i64 (x.E 4).1,.int .i64 (x.E 4).2,.int .i64 (x.E 5).1,.int .i64 (x.E 5).2,.int .i64 (x.E 6).1,.int .i64 (x.E 6).2],_,_,.agg #[.slice A0 n0 C0,.slice A1 n1 C1,.int .i64 (S 0).1,.int .i64 (S 0).2,.int .i64 (S 1).1,.int .i64 (S 1).2,.int .i64 (S 2).1,.int .i64 (S 2).2,.int .i64 (S 3).1,.int .i64 (S 3).2,.int .i64 (S 4).1,.int .i64 (S 4).2,.int .i64 (S 5).1,.int .i64 (S 5).2,.int .i64 (S 6).1,.int .i64 (S 6).2]] w _
 obtain⟨XN,XV,RB,HB⟩:=blks3 w 54 43 79 [.int .i64 x.k,.int .i64 x.a,.int .i64 x.b,.int .i64 x.n,.int .i64 x.q,.int .i64 x.p,.int .i64 x.v,.int .i64 x.d,.int .i64 (x.E 0).1,.int .i64 (x.E 0).2,.int .i64 (x.E 1).1,.int .i64 (x.E 1).2,.int .i64 (x.E 2).1,.int .i64 (x.E 2).2,.int .i64 (x.E 3).1,.int .i64 (x.E 3).2,.int .i64 (x.E 4).1,.int .i64 (x.E 4).2,.int .i64 (x.E 5).1,.int .i64 (x.E 5).2,.int .i64 (x.E 6).1,.int .i64 (x.E 6).2] [.slice A0 n0 C0,.slice A1 n1 C1,.int .i64 (S 0).1,.int .i64 (S 0).2,.int .i64 (S 1).1,.int .i64 (S 1).2,.int .i64 (S 2).1,.int .i64 (S 2).2,.int .i64 (S 3).1,.int .i64 (S 3).2,.int .i64 (S 4).1,.int .i64 (S 4).2,.int .i64 (S 5).1,.int .i64 (S 5).2,.int .i64 (S 6).1,.int .i64 (S 6).2] [.int .i64 0,.int .i64 0,.int .i64 0,.int .i64 0,.int .i64 0,.int .i64 0,.int .i64 0,.int .i64 0,.int .i64 0,.int .i64 0,.int .i64 0,.int .i64 0,.int .i64 0,.int .i64 0,.slice none 0 0]
 go_enter Try.func38,Try.ntmps38
 go_upto_region 1 with fail
 generalize (((w.alloc (.cells #[.int .i64 x.k,.int .i64 x.a,.int .i64 x.b,.int .i64 x.n,.int .i64 x.q,.int .i64 x.p,.int .i64 x.v,.int .i64 x.d,.int .i64 (x.E 0).1,.int .i64 (x.E 0).2,.int .i64 (x.E 1).1,.int .i64 (x.E 1).2,.int .i64 (x.E 2).1,.int .i64 (x.E 2).2,.int .i64 (x.E 3).1,.int .i64 (x.E 3).2,.int .i64 (x.E 4).1,.int .i64 (x.E 4).2,.int .i64 (x.E 5).1,.int .i64 (x.E 5).2,.int .i64 (x.E 6).1,.int .i64 (x.E 6).2] 54)).alloc (.cells #[.slice A0 n0 C0,.slice A1 n1 C1,.int .i64 (S 0).1,.int .i64 (S 0).2,.int .i64 (S 1).1,.int .i64 (S 1).2,.int .i64 (S 2).1,.int .i64 (S 2).2,.int .i64 (S 3).1,.int .i64 (S 3).2,.int .i64 (S 4).1,.int .i64 (S 4).2,.int .i64 (S 5).1,.int .i64 (S 5).2,.int .i64 (S 6).1,.int .i64 (S 6).2] 43)).alloc (.cells #[.int .i64 0,.int .i64 0,.int .i64 0,.int .i64 0,.int .i64 0,.int .i64 0,.int .i64 0,.int .i64 0,.int .i64 0,.int .i64 0,.int .i64 0,.int .i64 0,.int .i64 0,.int .i64 0,.slice none 0 0] 79))=V1 at *
 obtain⟨x0,x1,x2,x3,x4,x5,x6,x7⟩:=XN.nd.cells
 rw [hh.out] at x0
 go_wp2_with (first
   | (refine wpList_loadBig (by rfl) _ 30 (by rfl) Try.underlying30 (dimL x.E) (by kernel_rfl) (by rfl) (fun j c hj=>XN.cell (8+j) c (ndL_dim j c hj)) (dim_val x.E) ?_)
   | (go_at_call 63;(with_reducible refine (cE _).mono ?_);rintro _ W2 ⟨rfl,hb1⟩;replace HB:=later HB hb1;replace RB:=RB.keeps hb1;clear hb1)
   | (refine wpList_storeBig (by rfl) _ _ 79 (by rfl) (RB) (proL x.E (.slice none 0 0)) (by kernel_rfl) (by rfl) (by rfl) (by rfl) (by rfl) ?_;rintro V2 XR hs2 hB2 hk2))
 have fl2:=(fSl_nil W2).other RB (by decide) hk2
 exact bodyPost_ret (v:=proV x.E (.slice none 0 0)) (results_cell_row Try.results38 _ V2 (w.heap.size+1+1) 79 (proL x.E (.slice none 0 0)).toArray (0,0) _ (by rfl) XR Try.underlying79 (by rfl) (by kernel_rfl)) rfl ⟨Or.inl ⟨(x.E,[]),_,rfl,rfl,fl2⟩,hB2 _ _ HB (by omega)⟩
set_option maxRecDepth 4000 in
set_option maxHeartbeats 4000000 in
theorem udim_time (x:Nd) (AN:Option Addr) (nn CN:Nat) (AP:Option Addr) (np CP:Nat) (A0 A1:Option Addr) (n0 C0 n1 C1:Nat) (S:Nat→Int×Int) (hh:Hid (x.k=15)) (w:World) :
   Calls Try.prog 38 #[x.val,.slice AN nn CN,.slice AP np CP,vrV (.slice A0 n0 C0) (.slice A1 n1 C1) S] w fun r w'=>PrAns r w' (some (S,[]))∧Below w.heap.size w w':=by
 have cE:=fun W=>uofKnown_w S W
 show Calls Try.prog _ #[.agg #[.int .i64 x.k,.int .i64 x.a,.int .i64 x.b,.int .i64 x.n,.int .i64 x.q,.int .i64 x.p,.int .i64 x.v,.int .i64 x.d,.int .i64 (x.E 0).1,.int .i64 (x.E 0).2,.int .i64 (x.E 1).1,.int .i64 (x.E 1).2,.int .i64 (x.E 2).1,.int .i64 (x.E 2).2,.int .i64 (x.E 3).1,.int .i64 (x.E 3).2,.int .i64 (x.E 4).1,.int .i64 (x.E 4).2,.int .i64 (x.E 5).1,.int .i64 (x.E 5).2,.int .i64 (x.E 6).1,.int .i64 (x.E 6).2],_,_,.agg #[.slice A0 n0 C0,.slice A1 n1 C1,.int .i64 (S 0).1,.int .i64 (S 0).2,.int .i64 (S 1).1,.int .i64 (S 1).2,.int .i64 (S 2).1,.int .i64 (S 2).2,.int .i64 (S 3).1,.int .i64 (S 3).2,.int .i64 (S 4).1,.int .i64 (S 4).2,.int .i64 (S 5).1,.int .i64 (S 5).2,.int .i64 (S 6).1,.int .i64 (S 6).2]] w _
 obtain⟨XN,XV,RB,HB⟩:=blks3 w 54 43 79 [.int .i64 x.k,.int .i64 x.a,.int .i64 x.b,.int .i64 x.n,.int .i64 x.q,.int .i64 x.p,.int .i64 x.v,.int .i64 x.d,.int .i64 (x.E 0).1,.int .i64 (x.E 0).2,.int .i64 (x.E 1).1,.int .i64 (x.E 1).2,.int .i64 (x.E 2).1,.int .i64 (x.E 2).2,.int .i64 (x.E 3).1,.int .i64 (x.E 3).2,.int .i64 (x.E 4).1,.int .i64 (x.E 4).2,.int .i64 (x.E 5).1,.int .i64 (x.E 5).2,.int .i64 (x.E 6).1,.int .i64 (x.E 6).2] [.slice A0 n0 C0,.slice A1 n1 C1,.int .i64 (S 0).1,.int .i64 (S 0).2,.int .i64 (S 1).1,.int .i64 (S 1).2,.int .i64 (S 2).1,.int .i64 (S 2).2,.int .i64 (S 3).1,.int .i64 (S 3).2,.int .i64 (S 4).1,.int .i64 (S 4).2,.int .i64 (S 5).1,.int .i64 (S 5).2,.int .i64 (S 6).1,.int .i64 (S 6).2] [.int .i64 0,.int .i64 0,.int .i64 0,.int .i64 0,.int .i64 0,.int .i64 0,.int .i64 0,.int .i64 0,.int .i64 0,.int .i64 0,.int .i64 0,.int .i64 0,.int .i64 0,.int .i64 0,.slice none 0 0]
 go_enter Try.func38,Try.ntmps38
 go_upto_region 1 with fail
 generalize (((w.alloc (.cells #[.int .i64 x.k,.int .i64 x.a,.int .i64 x.b,.int .i64 x.n,.int .i64 x.q,.int .i64 x.p,.int .i64 x.v,.int .i64 x.d,.int .i64 (x.E 0).1,.int .i64 (x.E 0).2,.int .i64 (x.E 1).1,.int .i64 (x.E 1).2,.int .i64 (x.E 2).1,.int .i64 (x.E 2).2,.int .i64 (x.E 3).1,.int .i64 (x.E 3).2,.int .i64 (x.E 4).1,.int .i64 (x.E 4).2,.int .i64 (x.E 5).1,.int .i64 (x.E 5).2,.int .i64 (x.E 6).1,.int .i64 (x.E 6).2] 54)).alloc (.cells #[.slice A0 n0 C0,.slice A1 n1 C1,.int .i64 (S 0).1,.int .i64 (S 0).2,.int .i64 (S 1).1,.int .i64 (S 1).2,.int .i64 (S 2).1,.int .i64 (S 2).2,.int .i64 (S 3).1,.int .i64 (S 3).2,.int .i64 (S 4).1,.int .i64 (S 4).2,.int .i64 (S 5).1,.int .i64 (S 5).2,.int .i64 (S 6).1,.int .i64 (S 6).2] 43)).alloc (.cells #[.int .i64 0,.int .i64 0,.int .i64 0,.int .i64 0,.int .i64 0,.int .i64 0,.int .i64 0,.int .i64 0,.int .i64 0,.int .i64 0,.int .i64 0,.int .i64 0,.int .i64 0,.int .i64 0,.slice none 0 0] 79))=V1 at *
 obtain⟨x0,x1,x2,x3,x4,x5,x6,x7⟩:=XN.nd.cells
 rw [hh.out] at x0
 go_wp2_with (first
   | (refine wpList_loadBig (by rfl) _ 30 (by rfl) Try.underlying30 (dimL S) (by kernel_rfl) (by rfl) (fun j c hj=>XV.cell (2+j) c (vrL_dim j c hj)) (dim_val S) ?_)
   | (go_at_call 63;(with_reducible refine (cE _).mono ?_);rintro _ W2 ⟨rfl,hb1⟩;replace HB:=later HB hb1;replace RB:=RB.keeps hb1;clear hb1)
   | (refine wpList_storeBig (by rfl) _ _ 79 (by rfl) (RB) (proL S (.slice none 0 0)) (by kernel_rfl) (by rfl) (by rfl) (by rfl) (by rfl) ?_;rintro V2 XR hs2 hB2 hk2))
 have fl2:=(fSl_nil W2).other RB (by decide) hk2
 exact bodyPost_ret (v:=proV S (.slice none 0 0)) (results_cell_row Try.results38 _ V2 (w.heap.size+1+1) 79 (proL S (.slice none 0 0)).toArray (0,0) _ (by rfl) XR Try.underlying79 (by rfl) (by kernel_rfl)) rfl ⟨Or.inl ⟨(S,[]),_,rfl,rfl,fl2⟩,hB2 _ _ HB (by omega)⟩
set_option maxRecDepth 4000 in
set_option maxHeartbeats 4000000 in
theorem udim_var (x:Nd) (AN:Option Addr) (nn CN:Nat) (AP:Option Addr) (np CP:Nat) (A0 A1:Option Addr) (n0 C0 n1 C1:Nat) (S:Nat→Int×Int) (hh:Hid (x.k=2)) (D:Nat→Nat→Int×Int) (G:Nat→Bool) (hk:0≤x.d∧x.d≤6) (hS:Dim64 S) (rS:drK S 7=true) (hv:0≤x.v∧x.v<(n0:Int)) (hn:n1=n0) (hn2:(n0:Int)≤9223372036854775807) (hD:G x.v.toNat=true→Dim64 (D x.v.toNat)∧drK (D x.v.toNat) 7=true) (w:World) (VD:Dms w A0 n0 D) (VG:Bls w A1 n1 G) :
   Calls Try.prog 38 #[x.val,.slice AN nn CN,.slice AP np CP,vrV (.slice A0 n0 C0) (.slice A1 n1 C1) S] w fun r w'=>PrAns r w' (varP G D S x.v x.d)∧Below w.heap.size w w':=by
 subst hn
 have ct:=fun W vd vg=>uvarOf_w A0 A1 n1 C0 n1 C1 D G S x.v x.d hk hS rS hv rfl hn2 hD W vd vg
 clear hk hS rS hv hn2 hD
 obtain⟨R,hR⟩:∃R,Hid (varP G D S x.v x.d=R):=⟨_,rfl⟩
 rw [hR.out] at ct ⊢
 show Calls Try.prog _ #[.agg #[.int .i64 x.k,.int .i64 x.a,.int .i64 x.b,.int .i64 x.n,.int .i64 x.q,.int .i64 x.p,.int .i64 x.v,.int .i64 x.d,.int .i64 (x.E 0).1,.int .i64 (x.E 0).2,.int .i64 (x.E 1).1,.int .i64 (x.E 1).2,.int .i64 (x.E 2).1,.int .i64 (x.E 2).2,.int .i64 (x.E 3).1,.int .i64 (x.E 3).2,.int .i64 (x.E 4).1,.int .i64 (x.E 4).2,.int .i64 (x.E 5).1,.int .i64 (x.E 5).2,.int .i64 (x.E 6).1,.int .i64 (x.E 6).2],_,_,.agg #[.slice A0 n1 C0,.slice A1 n1 C1,.int .i64 (S 0).1,.int .i64 (S 0).2,.int .i64 (S 1).1,.int .i64 (S 1).2,.int .i64 (S 2).1,.int .i64 (S 2).2,.int .i64 (S 3).1,.int .i64 (S 3).2,.int .i64 (S 4).1,.int .i64 (S 4).2,.int .i64 (S 5).1,.int .i64 (S 5).2,.int .i64 (S 6).1,.int .i64 (S 6).2]] w _
 obtain⟨XN,XV,RB,HB⟩:=blks3 w 54 43 79 [.int .i64 x.k,.int .i64 x.a,.int .i64 x.b,.int .i64 x.n,.int .i64 x.q,.int .i64 x.p,.int .i64 x.v,.int .i64 x.d,.int .i64 (x.E 0).1,.int .i64 (x.E 0).2,.int .i64 (x.E 1).1,.int .i64 (x.E 1).2,.int .i64 (x.E 2).1,.int .i64 (x.E 2).2,.int .i64 (x.E 3).1,.int .i64 (x.E 3).2,.int .i64 (x.E 4).1,.int .i64 (x.E 4).2,.int .i64 (x.E 5).1,.int .i64 (x.E 5).2,.int .i64 (x.E 6).1,.int .i64 (x.E 6).2] [.slice A0 n1 C0,.slice A1 n1 C1,.int .i64 (S 0).1,.int .i64 (S 0).2,.int .i64 (S 1).1,.int .i64 (S 1).2,.int .i64 (S 2).1,.int .i64 (S 2).2,.int .i64 (S 3).1,.int .i64 (S 3).2,.int .i64 (S 4).1,.int .i64 (S 4).2,.int .i64 (S 5).1,.int .i64 (S 5).2,.int .i64 (S 6).1,.int .i64 (S 6).2] [.int .i64 0,.int .i64 0,.int .i64 0,.int .i64 0,.int .i64 0,.int .i64 0,.int .i64 0,.int .i64 0,.int .i64 0,.int .i64 0,.int .i64 0,.int .i64 0,.int .i64 0,.int .i64 0,.slice none 0 0]
 go_enter Try.func38,Try.ntmps38
 go_upto_region 1 with fail
 generalize (((w.alloc (.cells #[.int .i64 x.k,.int .i64 x.a,.int .i64 x.b,.int .i64 x.n,.int .i64 x.q,.int .i64 x.p,.int .i64 x.v,.int .i64 x.d,.int .i64 (x.E 0).1,.int .i64 (x.E 0).2,.int .i64 (x.E 1).1,.int .i64 (x.E 1).2,.int .i64 (x.E 2).1,.int .i64 (x.E 2).2,.int .i64 (x.E 3).1,.int .i64 (x.E 3).2,.int .i64 (x.E 4).1,.int .i64 (x.E 4).2,.int .i64 (x.E 5).1,.int .i64 (x.E 5).2,.int .i64 (x.E 6).1,.int .i64 (x.E 6).2] 54)).alloc (.cells #[.slice A0 n1 C0,.slice A1 n1 C1,.int .i64 (S 0).1,.int .i64 (S 0).2,.int .i64 (S 1).1,.int .i64 (S 1).2,.int .i64 (S 2).1,.int .i64 (S 2).2,.int .i64 (S 3).1,.int .i64 (S 3).2,.int .i64 (S 4).1,.int .i64 (S 4).2,.int .i64 (S 5).1,.int .i64 (S 5).2,.int .i64 (S 6).1,.int .i64 (S 6).2] 43)).alloc (.cells #[.int .i64 0,.int .i64 0,.int .i64 0,.int .i64 0,.int .i64 0,.int .i64 0,.int .i64 0,.int .i64 0,.int .i64 0,.int .i64 0,.int .i64 0,.int .i64 0,.int .i64 0,.int .i64 0,.slice none 0 0] 79))=V1 at *
 obtain⟨x0,x1,x2,x3,x4,x5,x6,x7⟩:=XN.nd.cells
 rw [hh.out] at x0
 cases R with
 | none =>
   have eR:Hid ((none:Option Pro)=none):=rfl
   go_wp2_with (first
     | (refine wpList_loadBig (by rfl) _ 43 (by rfl) Try.underlying43 (vrL (.slice A0 n1 C0) (.slice A1 n1 C1) S) (by kernel_rfl) (by rfl) (XV.cell0) (vr_val _ _ _) ?_)
     | (go_at_call 64;(with_reducible refine (ct _ (VD.keep HB) (VG.keep HB)).mono ?_);rintro r W2 ⟨hM,hb2⟩;have hr:=hM.no;subst hr;exact⟨rfl,Or.inr ⟨eR.out,rfl⟩,later HB hb2⟩))
 | some Y =>
   go_wp2_with (first
     | (refine wpList_loadBig (by rfl) _ 43 (by rfl) Try.underlying43 (vrL (.slice A0 n1 C0) (.slice A1 n1 C1) S) (by kernel_rfl) (by rfl) (XV.cell0) (vr_val _ _ _) ?_)
     | (go_at_call 64;(with_reducible refine (ct _ (VD.keep HB) (VG.keep HB)).mono ?_);rintro r W2 ⟨hM,hb2⟩;obtain⟨s,hr,A9,c9,rfl,hc9,fa9⟩:=hM.yes;subst hr;have fl:FSl W2 (.slice A9 Y.2.length c9) Y.2:=⟨A9,c9,rfl,hc9,fa9⟩;replace HB:=later HB hb2;replace RB:=RB.keeps hb2;clear hb2 hM)
     | (refine wpList_storeBig (by rfl) _ _ 79 (by rfl) (RB) (proL Y.1 (.slice A9 Y.2.length c9)) (by kernel_rfl) (by rfl) (by rfl) (by rfl) (by rfl) ?_;rintro V2 XR hs2 hB2 hk2))
   have fl2:=fl.other RB (by decide) hk2
   exact bodyPost_ret (v:=proV Y.1 (.slice A9 Y.2.length c9)) (results_cell_row Try.results38 _ V2 (w.heap.size+1+1) 79 (proL Y.1 (.slice A9 Y.2.length c9)).toArray (0,0) _ (by rfl) XR Try.underlying79 (by rfl) (by kernel_rfl)) rfl ⟨Or.inl ⟨Y,_,rfl,rfl,fl2⟩,hB2 _ _ HB (by omega)⟩
theorem PrsAt.at {w:World} {b o:Nat} {K:Nat→Prop} {Q:Nat→Pro} (h:PrsAt w (some ⟨b,o,none⟩) K Q) {i:Nat} (hi:K i):∃A' c,b<w.heap.size∧(Q i).2.length≤c∧FacAt w A' (Q i).2∧∀j u,(proL (Q i).1 (.slice A' (Q i).2.length c))[j]?=some u→w.cell? ⟨b,o+i*15+j,none⟩=some u:=by
 obtain⟨b',o',A',c,e,l,hc,f,g⟩:=h i hi
 injection e with e
 injection e with e1 e2 _
 subst e1 e2
 exact⟨A',c,l,hc,f,g⟩
set_option maxRecDepth 4000 in
set_option maxHeartbeats 4000000 in
theorem udim_neg (x:Nd) (AN:Option Addr) (nn CN:Nat) (AP:Option Addr) (np CP:Nat) (K:Nat→Prop) (Q:Nat→Pro) (A0 A1:Option Addr) (n0 C0 n1 C1:Nat) (S:Nat→Int×Int) (hh:Hid (x.k=7)) (ia:Nat) (hia:Hid (x.a=(ia:Int))) (hKa:K ia) (hna:ia<np) (w:World) (VP:PrsAt w AP K Q) :
   Calls Try.prog 38 #[x.val,.slice AN nn CN,.slice AP np CP,vrV (.slice A0 n0 C0) (.slice A1 n1 C1) S] w fun r w'=>PrAns r w' (some (Q ia))∧Below w.heap.size w w':=by
 obtain⟨b,o,Aa,ca,eA,la,hca,fa,ga⟩:=VP ia hKa
 subst eA
 show Calls Try.prog _ #[.agg #[.int .i64 x.k,.int .i64 x.a,.int .i64 x.b,.int .i64 x.n,.int .i64 x.q,.int .i64 x.p,.int .i64 x.v,.int .i64 x.d,.int .i64 (x.E 0).1,.int .i64 (x.E 0).2,.int .i64 (x.E 1).1,.int .i64 (x.E 1).2,.int .i64 (x.E 2).1,.int .i64 (x.E 2).2,.int .i64 (x.E 3).1,.int .i64 (x.E 3).2,.int .i64 (x.E 4).1,.int .i64 (x.E 4).2,.int .i64 (x.E 5).1,.int .i64 (x.E 5).2,.int .i64 (x.E 6).1,.int .i64 (x.E 6).2],_,_,.agg #[.slice A0 n0 C0,.slice A1 n1 C1,.int .i64 (S 0).1,.int .i64 (S 0).2,.int .i64 (S 1).1,.int .i64 (S 1).2,.int .i64 (S 2).1,.int .i64 (S 2).2,.int .i64 (S 3).1,.int .i64 (S 3).2,.int .i64 (S 4).1,.int .i64 (S 4).2,.int .i64 (S 5).1,.int .i64 (S 5).2,.int .i64 (S 6).1,.int .i64 (S 6).2]] w _
 obtain⟨XN,XV,RB,HB⟩:=blks3 w 54 43 79 [.int .i64 x.k,.int .i64 x.a,.int .i64 x.b,.int .i64 x.n,.int .i64 x.q,.int .i64 x.p,.int .i64 x.v,.int .i64 x.d,.int .i64 (x.E 0).1,.int .i64 (x.E 0).2,.int .i64 (x.E 1).1,.int .i64 (x.E 1).2,.int .i64 (x.E 2).1,.int .i64 (x.E 2).2,.int .i64 (x.E 3).1,.int .i64 (x.E 3).2,.int .i64 (x.E 4).1,.int .i64 (x.E 4).2,.int .i64 (x.E 5).1,.int .i64 (x.E 5).2,.int .i64 (x.E 6).1,.int .i64 (x.E 6).2] [.slice A0 n0 C0,.slice A1 n1 C1,.int .i64 (S 0).1,.int .i64 (S 0).2,.int .i64 (S 1).1,.int .i64 (S 1).2,.int .i64 (S 2).1,.int .i64 (S 2).2,.int .i64 (S 3).1,.int .i64 (S 3).2,.int .i64 (S 4).1,.int .i64 (S 4).2,.int .i64 (S 5).1,.int .i64 (S 5).2,.int .i64 (S 6).1,.int .i64 (S 6).2] [.int .i64 0,.int .i64 0,.int .i64 0,.int .i64 0,.int .i64 0,.int .i64 0,.int .i64 0,.int .i64 0,.int .i64 0,.int .i64 0,.int .i64 0,.int .i64 0,.int .i64 0,.int .i64 0,.slice none 0 0]
 go_enter Try.func38,Try.ntmps38
 go_upto_region 1 with fail
 generalize (((w.alloc (.cells #[.int .i64 x.k,.int .i64 x.a,.int .i64 x.b,.int .i64 x.n,.int .i64 x.q,.int .i64 x.p,.int .i64 x.v,.int .i64 x.d,.int .i64 (x.E 0).1,.int .i64 (x.E 0).2,.int .i64 (x.E 1).1,.int .i64 (x.E 1).2,.int .i64 (x.E 2).1,.int .i64 (x.E 2).2,.int .i64 (x.E 3).1,.int .i64 (x.E 3).2,.int .i64 (x.E 4).1,.int .i64 (x.E 4).2,.int .i64 (x.E 5).1,.int .i64 (x.E 5).2,.int .i64 (x.E 6).1,.int .i64 (x.E 6).2] 54)).alloc (.cells #[.slice A0 n0 C0,.slice A1 n1 C1,.int .i64 (S 0).1,.int .i64 (S 0).2,.int .i64 (S 1).1,.int .i64 (S 1).2,.int .i64 (S 2).1,.int .i64 (S 2).2,.int .i64 (S 3).1,.int .i64 (S 3).2,.int .i64 (S 4).1,.int .i64 (S 4).2,.int .i64 (S 5).1,.int .i64 (S 5).2,.int .i64 (S 6).1,.int .i64 (S 6).2] 43)).alloc (.cells #[.int .i64 0,.int .i64 0,.int .i64 0,.int .i64 0,.int .i64 0,.int .i64 0,.int .i64 0,.int .i64 0,.int .i64 0,.int .i64 0,.int .i64 0,.int .i64 0,.int .i64 0,.int .i64 0,.slice none 0 0] 79))=V1 at *
 obtain⟨x0,x1,x2,x3,x4,x5,x6,x7⟩:=XN.nd.cells
 rw [hh.out] at x0
 have ga1:∀j u,(proL (Q ia).1 (.slice Aa (Q ia).2.length ca))[j]?=some u→V1.cell? ⟨b,o+ia*15+j,none⟩=some u:=fun j u hj=>keepsC HB (ga j u hj) la
 have la1:b<V1.heap.size:=Nat.lt_of_lt_of_le la HB.size
 rw [hia.out] at x1
 have hna2:(ia:Int)<(np:Int):=by omega
 go_wp2_with (first
   | (refine wpList_loadBig (by rfl) _ 79 (by rfl) Try.underlying79 (proL (Q ia).1 (.slice Aa (Q ia).2.length ca)) (by kernel_rfl) (by rfl) (ga1) (pro_val (Q ia).1 (.slice Aa (Q ia).2.length ca)) ?_)
   | (refine wpList_storeBig (by rfl) _ _ 79 (by rfl) (RB) (proL (Q ia).1 (.slice Aa (Q ia).2.length ca)) (by kernel_rfl) (by rfl) (by rfl) (by rfl) (by rfl) ?_;rintro V2 XR hs2 hB2 hk2))
 have fl:=FSl.keep (show FSl w (.slice Aa (Q ia).2.length ca) (Q ia).2 from ⟨Aa,ca,rfl,hca,fa⟩) HB
 have fl2:=fl.other RB (by decide) hk2
 exact bodyPost_ret (v:=proV (Q ia).1 (.slice Aa (Q ia).2.length ca)) (results_cell_row Try.results38 _ V2 (w.heap.size+1+1) 79 (proL (Q ia).1 (.slice Aa (Q ia).2.length ca)).toArray (0,0) _ (by rfl) XR Try.underlying79 (by rfl) (by kernel_rfl)) rfl ⟨Or.inl ⟨Q ia,_,rfl,rfl,fl2⟩,hB2 _ _ HB (by omega)⟩
set_option maxRecDepth 4000 in
set_option maxHeartbeats 4000000 in
theorem udim_add (x:Nd) (AN:Option Addr) (nn CN:Nat) (AP:Option Addr) (np CP:Nat) (K:Nat→Prop) (Q:Nat→Pro) (A0 A1:Option Addr) (n0 C0 n1 C1:Nat) (S:Nat→Int×Int) (hh:Hid (x.k=3)) (X:Nat→Nd) (ia:Nat) (hia:Hid (x.a=(ia:Int))) (hKa:K ia) (hna:ia<np) (ib:Nat) (hib:Hid (x.b=(ib:Int))) (hKb:K ib) (hnb:ib<np) (hia2:ia<nn) (w:World) (VP:PrsAt w AP K Q) (VN:Nds w AN nn X) :
   Calls Try.prog 38 #[x.val,.slice AN nn CN,.slice AP np CP,vrV (.slice A0 n0 C0) (.slice A1 n1 C1) S] w fun r w'=>PrAns r w' (some (if frB (X ia) then Q ib else Q ia))∧Below w.heap.size w w':=by
 obtain⟨bn,on,eN,ln,gn⟩:=VN ia hia2
 subst eN
 obtain⟨y,hy⟩:∃y,y=X ia:=⟨_,rfl⟩
 rw [←hy] at gn ⊢
 have cf:=fun W=>uisFree_w y W
 obtain⟨R,hR⟩:∃R,Hid (some (if frB y then Q ib else Q ia)=R):=⟨_,rfl⟩
 rw [hR.out]
 clear hy
 obtain⟨b,o,Aa,ca,eA,la,hca,fa,ga⟩:=VP ia hKa
 subst eA
 obtain⟨Ab,cb,lb,hcb,fb,gb⟩:=VP.at hKb
 show Calls Try.prog _ #[.agg #[.int .i64 x.k,.int .i64 x.a,.int .i64 x.b,.int .i64 x.n,.int .i64 x.q,.int .i64 x.p,.int .i64 x.v,.int .i64 x.d,.int .i64 (x.E 0).1,.int .i64 (x.E 0).2,.int .i64 (x.E 1).1,.int .i64 (x.E 1).2,.int .i64 (x.E 2).1,.int .i64 (x.E 2).2,.int .i64 (x.E 3).1,.int .i64 (x.E 3).2,.int .i64 (x.E 4).1,.int .i64 (x.E 4).2,.int .i64 (x.E 5).1,.int .i64 (x.E 5).2,.int .i64 (x.E 6).1,.int .i64 (x.E 6).2],_,_,.agg #[.slice A0 n0 C0,.slice A1 n1 C1,.int .i64 (S 0).1,.int .i64 (S 0).2,.int .i64 (S 1).1,.int .i64 (S 1).2,.int .i64 (S 2).1,.int .i64 (S 2).2,.int .i64 (S 3).1,.int .i64 (S 3).2,.int .i64 (S 4).1,.int .i64 (S 4).2,.int .i64 (S 5).1,.int .i64 (S 5).2,.int .i64 (S 6).1,.int .i64 (S 6).2]] w _
 obtain⟨XN,XV,RB,HB⟩:=blks3 w 54 43 79 [.int .i64 x.k,.int .i64 x.a,.int .i64 x.b,.int .i64 x.n,.int .i64 x.q,.int .i64 x.p,.int .i64 x.v,.int .i64 x.d,.int .i64 (x.E 0).1,.int .i64 (x.E 0).2,.int .i64 (x.E 1).1,.int .i64 (x.E 1).2,.int .i64 (x.E 2).1,.int .i64 (x.E 2).2,.int .i64 (x.E 3).1,.int .i64 (x.E 3).2,.int .i64 (x.E 4).1,.int .i64 (x.E 4).2,.int .i64 (x.E 5).1,.int .i64 (x.E 5).2,.int .i64 (x.E 6).1,.int .i64 (x.E 6).2] [.slice A0 n0 C0,.slice A1 n1 C1,.int .i64 (S 0).1,.int .i64 (S 0).2,.int .i64 (S 1).1,.int .i64 (S 1).2,.int .i64 (S 2).1,.int .i64 (S 2).2,.int .i64 (S 3).1,.int .i64 (S 3).2,.int .i64 (S 4).1,.int .i64 (S 4).2,.int .i64 (S 5).1,.int .i64 (S 5).2,.int .i64 (S 6).1,.int .i64 (S 6).2] [.int .i64 0,.int .i64 0,.int .i64 0,.int .i64 0,.int .i64 0,.int .i64 0,.int .i64 0,.int .i64 0,.int .i64 0,.int .i64 0,.int .i64 0,.int .i64 0,.int .i64 0,.int .i64 0,.slice none 0 0]
 go_enter Try.func38,Try.ntmps38
 go_upto_region 1 with fail
 generalize (((w.alloc (.cells #[.int .i64 x.k,.int .i64 x.a,.int .i64 x.b,.int .i64 x.n,.int .i64 x.q,.int .i64 x.p,.int .i64 x.v,.int .i64 x.d,.int .i64 (x.E 0).1,.int .i64 (x.E 0).2,.int .i64 (x.E 1).1,.int .i64 (x.E 1).2,.int .i64 (x.E 2).1,.int .i64 (x.E 2).2,.int .i64 (x.E 3).1,.int .i64 (x.E 3).2,.int .i64 (x.E 4).1,.int .i64 (x.E 4).2,.int .i64 (x.E 5).1,.int .i64 (x.E 5).2,.int .i64 (x.E 6).1,.int .i64 (x.E 6).2] 54)).alloc (.cells #[.slice A0 n0 C0,.slice A1 n1 C1,.int .i64 (S 0).1,.int .i64 (S 0).2,.int .i64 (S 1).1,.int .i64 (S 1).2,.int .i64 (S 2).1,.int .i64 (S 2).2,.int .i64 (S 3).1,.int .i64 (S 3).2,.int .i64 (S 4).1,.int .i64 (S 4).2,.int .i64 (S 5).1,.int .i64 (S 5).2,.int .i64 (S 6).1,.int .i64 (S 6).2] 43)).alloc (.cells #[.int .i64 0,.int .i64 0,.int .i64 0,.int .i64 0,.int .i64 0,.int .i64 0,.int .i64 0,.int .i64 0,.int .i64 0,.int .i64 0,.int .i64 0,.int .i64 0,.int .i64 0,.int .i64 0,.slice none 0 0] 79))=V1 at *
 obtain⟨x0,x1,x2,x3,x4,x5,x6,x7⟩:=XN.nd.cells
 rw [hh.out] at x0
 have ga1:∀j u,(proL (Q ia).1 (.slice Aa (Q ia).2.length ca))[j]?=some u→V1.cell? ⟨b,o+ia*15+j,none⟩=some u:=fun j u hj=>keepsC HB (ga j u hj) la
 have la1:b<V1.heap.size:=Nat.lt_of_lt_of_le la HB.size
 rw [hia.out] at x1
 have gb1:∀j u,(proL (Q ib).1 (.slice Ab (Q ib).2.length cb))[j]?=some u→V1.cell? ⟨b,o+ib*15+j,none⟩=some u:=fun j u hj=>keepsC HB (gb j u hj) la
 rw [hib.out] at x2
 have hna2:(ia:Int)<(np:Int):=by omega
 have hnb2:(ib:Int)<(np:Int):=by omega
 have hia3:(ia:Int)<(nn:Int):=by omega
 have gn1:∀j u,(ndL y)[j]?=some u→V1.cell? ⟨bn,on+ia*22+j,none⟩=some u:=fun j u hj=>keepsC HB (gn j u hj) ln
 cases hf:frB y with
 | true =>
   have eR:R=some (Q ib):=by have q:=hR.out;rw [hf] at q;exact q.symm
   subst eR
   rw [hf] at cf
   clear hf hR
   go_wp2_with (first
     | (refine wpList_loadBig (by rfl) _ 54 (by rfl) Try.underlying54 (ndL y) (by kernel_rfl) (by rfl) (gn1) (nd_val y) ?_)
     | (go_at_call 65;(with_reducible refine (cf _).mono ?_);rintro _ W2 ⟨rfl,hb1⟩;replace HB:=later HB hb1;replace RB:=RB.keeps hb1;replace XN:=XN.keeps hb1;clear hb1 x0 x1 x2 x3 x4 x5 x6 x7;obtain⟨x0,x1,x2,x3,x4,x5,x6,x7⟩:=XN.nd.cells;rw [hia.out] at x1;rw [hib.out] at x2)
     | (refine wpList_loadBig (by rfl) _ 79 (by rfl) Try.underlying79 (proL (Q ib).1 (.slice Ab (Q ib).2.length cb)) (by kernel_rfl) (by rfl) (fun j u hj=>keepsC HB (gb j u hj) la) (pro_val (Q ib).1 (.slice Ab (Q ib).2.length cb)) ?_)
     | (refine wpList_storeBig (by rfl) _ _ 79 (by rfl) (RB) (proL (Q ib).1 (.slice Ab (Q ib).2.length cb)) (by kernel_rfl) (by rfl) (by rfl) (by rfl) (by rfl) ?_;rintro V2 XR hs2 hB2 hk2))
   have fl:=FSl.keep (show FSl w (.slice Ab (Q ib).2.length cb) (Q ib).2 from ⟨Ab,cb,rfl,hcb,fb⟩) HB
   have fl2:=fl.other RB (by decide) hk2
   exact bodyPost_ret (v:=proV (Q ib).1 (.slice Ab (Q ib).2.length cb)) (results_cell_row Try.results38 _ V2 (w.heap.size+1+1) 79 (proL (Q ib).1 (.slice Ab (Q ib).2.length cb)).toArray (0,0) _ (by rfl) XR Try.underlying79 (by rfl) (by kernel_rfl)) rfl ⟨Or.inl ⟨Q ib,_,rfl,rfl,fl2⟩,hB2 _ _ HB (by omega)⟩
 | false =>
   have eR:R=some (Q ia):=by have q:=hR.out;rw [hf] at q;exact q.symm
   subst eR
   rw [hf] at cf
   clear hf hR
   go_wp2_with (first
     | (refine wpList_loadBig (by rfl) _ 54 (by rfl) Try.underlying54 (ndL y) (by kernel_rfl) (by rfl) (gn1) (nd_val y) ?_)
     | (go_at_call 65;(with_reducible refine (cf _).mono ?_);rintro _ W2 ⟨rfl,hb1⟩;replace HB:=later HB hb1;replace RB:=RB.keeps hb1;replace XN:=XN.keeps hb1;clear hb1 x0 x1 x2 x3 x4 x5 x6 x7;obtain⟨x0,x1,x2,x3,x4,x5,x6,x7⟩:=XN.nd.cells;rw [hia.out] at x1;rw [hib.out] at x2)
     | (refine wpList_loadBig (by rfl) _ 79 (by rfl) Try.underlying79 (proL (Q ia).1 (.slice Aa (Q ia).2.length ca)) (by kernel_rfl) (by rfl) (fun j u hj=>keepsC HB (ga j u hj) la) (pro_val (Q ia).1 (.slice Aa (Q ia).2.length ca)) ?_)
     | (refine wpList_storeBig (by rfl) _ _ 79 (by rfl) (RB) (proL (Q ia).1 (.slice Aa (Q ia).2.length ca)) (by kernel_rfl) (by rfl) (by rfl) (by rfl) (by rfl) ?_;rintro V2 XR hs2 hB2 hk2))
   have fl:=FSl.keep (show FSl w (.slice Aa (Q ia).2.length ca) (Q ia).2 from ⟨Aa,ca,rfl,hca,fa⟩) HB
   have fl2:=fl.other RB (by decide) hk2
   exact bodyPost_ret (v:=proV (Q ia).1 (.slice Aa (Q ia).2.length ca)) (results_cell_row Try.results38 _ V2 (w.heap.size+1+1) 79 (proL (Q ia).1 (.slice Aa (Q ia).2.length ca)).toArray (0,0) _ (by rfl) XR Try.underlying79 (by rfl) (by kernel_rfl)) rfl ⟨Or.inl ⟨Q ia,_,rfl,rfl,fl2⟩,hB2 _ _ HB (by omega)⟩
set_option maxRecDepth 4000 in
set_option maxHeartbeats 4000000 in
theorem udim_sub (x:Nd) (AN:Option Addr) (nn CN:Nat) (AP:Option Addr) (np CP:Nat) (K:Nat→Prop) (Q:Nat→Pro) (A0 A1:Option Addr) (n0 C0 n1 C1:Nat) (S:Nat→Int×Int) (hh:Hid (x.k=4)) (X:Nat→Nd) (ia:Nat) (hia:Hid (x.a=(ia:Int))) (hKa:K ia) (hna:ia<np) (ib:Nat) (hib:Hid (x.b=(ib:Int))) (hKb:K ib) (hnb:ib<np) (hia2:ia<nn) (w:World) (VP:PrsAt w AP K Q) (VN:Nds w AN nn X) :
   Calls Try.prog 38 #[x.val,.slice AN nn CN,.slice AP np CP,vrV (.slice A0 n0 C0) (.slice A1 n1 C1) S] w fun r w'=>PrAns r w' (some (if frB (X ia) then Q ib else Q ia))∧Below w.heap.size w w':=by
 obtain⟨bn,on,eN,ln,gn⟩:=VN ia hia2
 subst eN
 obtain⟨y,hy⟩:∃y,y=X ia:=⟨_,rfl⟩
 rw [←hy] at gn ⊢
 have cf:=fun W=>uisFree_w y W
 obtain⟨R,hR⟩:∃R,Hid (some (if frB y then Q ib else Q ia)=R):=⟨_,rfl⟩
 rw [hR.out]
 clear hy
 obtain⟨b,o,Aa,ca,eA,la,hca,fa,ga⟩:=VP ia hKa
 subst eA
 obtain⟨Ab,cb,lb,hcb,fb,gb⟩:=VP.at hKb
 show Calls Try.prog _ #[.agg #[.int .i64 x.k,.int .i64 x.a,.int .i64 x.b,.int .i64 x.n,.int .i64 x.q,.int .i64 x.p,.int .i64 x.v,.int .i64 x.d,.int .i64 (x.E 0).1,.int .i64 (x.E 0).2,.int .i64 (x.E 1).1,.int .i64 (x.E 1).2,.int .i64 (x.E 2).1,.int .i64 (x.E 2).2,.int .i64 (x.E 3).1,.int .i64 (x.E 3).2,.int .i64 (x.E 4).1,.int .i64 (x.E 4).2,.int .i64 (x.E 5).1,.int .i64 (x.E 5).2,.int .i64 (x.E 6).1,.int .i64 (x.E 6).2],_,_,.agg #[.slice A0 n0 C0,.slice A1 n1 C1,.int .i64 (S 0).1,.int .i64 (S 0).2,.int .i64 (S 1).1,.int .i64 (S 1).2,.int .i64 (S 2).1,.int .i64 (S 2).2,.int .i64 (S 3).1,.int .i64 (S 3).2,.int .i64 (S 4).1,.int .i64 (S 4).2,.int .i64 (S 5).1,.int .i64 (S 5).2,.int .i64 (S 6).1,.int .i64 (S 6).2]] w _
 obtain⟨XN,XV,RB,HB⟩:=blks3 w 54 43 79 [.int .i64 x.k,.int .i64 x.a,.int .i64 x.b,.int .i64 x.n,.int .i64 x.q,.int .i64 x.p,.int .i64 x.v,.int .i64 x.d,.int .i64 (x.E 0).1,.int .i64 (x.E 0).2,.int .i64 (x.E 1).1,.int .i64 (x.E 1).2,.int .i64 (x.E 2).1,.int .i64 (x.E 2).2,.int .i64 (x.E 3).1,.int .i64 (x.E 3).2,.int .i64 (x.E 4).1,.int .i64 (x.E 4).2,.int .i64 (x.E 5).1,.int .i64 (x.E 5).2,.int .i64 (x.E 6).1,.int .i64 (x.E 6).2] [.slice A0 n0 C0,.slice A1 n1 C1,.int .i64 (S 0).1,.int .i64 (S 0).2,.int .i64 (S 1).1,.int .i64 (S 1).2,.int .i64 (S 2).1,.int .i64 (S 2).2,.int .i64 (S 3).1,.int .i64 (S 3).2,.int .i64 (S 4).1,.int .i64 (S 4).2,.int .i64 (S 5).1,.int .i64 (S 5).2,.int .i64 (S 6).1,.int .i64 (S 6).2] [.int .i64 0,.int .i64 0,.int .i64 0,.int .i64 0,.int .i64 0,.int .i64 0,.int .i64 0,.int .i64 0,.int .i64 0,.int .i64 0,.int .i64 0,.int .i64 0,.int .i64 0,.int .i64 0,.slice none 0 0]
 go_enter Try.func38,Try.ntmps38
 go_upto_region 1 with fail
 generalize (((w.alloc (.cells #[.int .i64 x.k,.int .i64 x.a,.int .i64 x.b,.int .i64 x.n,.int .i64 x.q,.int .i64 x.p,.int .i64 x.v,.int .i64 x.d,.int .i64 (x.E 0).1,.int .i64 (x.E 0).2,.int .i64 (x.E 1).1,.int .i64 (x.E 1).2,.int .i64 (x.E 2).1,.int .i64 (x.E 2).2,.int .i64 (x.E 3).1,.int .i64 (x.E 3).2,.int .i64 (x.E 4).1,.int .i64 (x.E 4).2,.int .i64 (x.E 5).1,.int .i64 (x.E 5).2,.int .i64 (x.E 6).1,.int .i64 (x.E 6).2] 54)).alloc (.cells #[.slice A0 n0 C0,.slice A1 n1 C1,.int .i64 (S 0).1,.int .i64 (S 0).2,.int .i64 (S 1).1,.int .i64 (S 1).2,.int .i64 (S 2).1,.int .i64 (S 2).2,.int .i64 (S 3).1,.int .i64 (S 3).2,.int .i64 (S 4).1,.int .i64 (S 4).2,.int .i64 (S 5).1,.int .i64 (S 5).2,.int .i64 (S 6).1,.int .i64 (S 6).2] 43)).alloc (.cells #[.int .i64 0,.int .i64 0,.int .i64 0,.int .i64 0,.int .i64 0,.int .i64 0,.int .i64 0,.int .i64 0,.int .i64 0,.int .i64 0,.int .i64 0,.int .i64 0,.int .i64 0,.int .i64 0,.slice none 0 0] 79))=V1 at *
 obtain⟨x0,x1,x2,x3,x4,x5,x6,x7⟩:=XN.nd.cells
 rw [hh.out] at x0
 have ga1:∀j u,(proL (Q ia).1 (.slice Aa (Q ia).2.length ca))[j]?=some u→V1.cell? ⟨b,o+ia*15+j,none⟩=some u:=fun j u hj=>keepsC HB (ga j u hj) la
 have la1:b<V1.heap.size:=Nat.lt_of_lt_of_le la HB.size
 rw [hia.out] at x1
 have gb1:∀j u,(proL (Q ib).1 (.slice Ab (Q ib).2.length cb))[j]?=some u→V1.cell? ⟨b,o+ib*15+j,none⟩=some u:=fun j u hj=>keepsC HB (gb j u hj) la
 rw [hib.out] at x2
 have hna2:(ia:Int)<(np:Int):=by omega
 have hnb2:(ib:Int)<(np:Int):=by omega
 have hia3:(ia:Int)<(nn:Int):=by omega
 have gn1:∀j u,(ndL y)[j]?=some u→V1.cell? ⟨bn,on+ia*22+j,none⟩=some u:=fun j u hj=>keepsC HB (gn j u hj) ln
 cases hf:frB y with
 | true =>
   have eR:R=some (Q ib):=by have q:=hR.out;rw [hf] at q;exact q.symm
   subst eR
   rw [hf] at cf
   clear hf hR
   go_wp2_with (first
     | (refine wpList_loadBig (by rfl) _ 54 (by rfl) Try.underlying54 (ndL y) (by kernel_rfl) (by rfl) (gn1) (nd_val y) ?_)
     | (go_at_call 65;(with_reducible refine (cf _).mono ?_);rintro _ W2 ⟨rfl,hb1⟩;replace HB:=later HB hb1;replace RB:=RB.keeps hb1;replace XN:=XN.keeps hb1;clear hb1 x0 x1 x2 x3 x4 x5 x6 x7;obtain⟨x0,x1,x2,x3,x4,x5,x6,x7⟩:=XN.nd.cells;rw [hia.out] at x1;rw [hib.out] at x2)
     | (refine wpList_loadBig (by rfl) _ 79 (by rfl) Try.underlying79 (proL (Q ib).1 (.slice Ab (Q ib).2.length cb)) (by kernel_rfl) (by rfl) (fun j u hj=>keepsC HB (gb j u hj) la) (pro_val (Q ib).1 (.slice Ab (Q ib).2.length cb)) ?_)
     | (refine wpList_storeBig (by rfl) _ _ 79 (by rfl) (RB) (proL (Q ib).1 (.slice Ab (Q ib).2.length cb)) (by kernel_rfl) (by rfl) (by rfl) (by rfl) (by rfl) ?_;rintro V2 XR hs2 hB2 hk2))
   have fl:=FSl.keep (show FSl w (.slice Ab (Q ib).2.length cb) (Q ib).2 from ⟨Ab,cb,rfl,hcb,fb⟩) HB
   have fl2:=fl.other RB (by decide) hk2
   exact bodyPost_ret (v:=proV (Q ib).1 (.slice Ab (Q ib).2.length cb)) (results_cell_row Try.results38 _ V2 (w.heap.size+1+1) 79 (proL (Q ib).1 (.slice Ab (Q ib).2.length cb)).toArray (0,0) _ (by rfl) XR Try.underlying79 (by rfl) (by kernel_rfl)) rfl ⟨Or.inl ⟨Q ib,_,rfl,rfl,fl2⟩,hB2 _ _ HB (by omega)⟩
 | false =>
   have eR:R=some (Q ia):=by have q:=hR.out;rw [hf] at q;exact q.symm
   subst eR
   rw [hf] at cf
   clear hf hR
   go_wp2_with (first
     | (refine wpList_loadBig (by rfl) _ 54 (by rfl) Try.underlying54 (ndL y) (by kernel_rfl) (by rfl) (gn1) (nd_val y) ?_)
     | (go_at_call 65;(with_reducible refine (cf _).mono ?_);rintro _ W2 ⟨rfl,hb1⟩;replace HB:=later HB hb1;replace RB:=RB.keeps hb1;replace XN:=XN.keeps hb1;clear hb1 x0 x1 x2 x3 x4 x5 x6 x7;obtain⟨x0,x1,x2,x3,x4,x5,x6,x7⟩:=XN.nd.cells;rw [hia.out] at x1;rw [hib.out] at x2)
     | (refine wpList_loadBig (by rfl) _ 79 (by rfl) Try.underlying79 (proL (Q ia).1 (.slice Aa (Q ia).2.length ca)) (by kernel_rfl) (by rfl) (fun j u hj=>keepsC HB (ga j u hj) la) (pro_val (Q ia).1 (.slice Aa (Q ia).2.length ca)) ?_)
     | (refine wpList_storeBig (by rfl) _ _ 79 (by rfl) (RB) (proL (Q ia).1 (.slice Aa (Q ia).2.length ca)) (by kernel_rfl) (by rfl) (by rfl) (by rfl) (by rfl) ?_;rintro V2 XR hs2 hB2 hk2))
   have fl:=FSl.keep (show FSl w (.slice Aa (Q ia).2.length ca) (Q ia).2 from ⟨Aa,ca,rfl,hca,fa⟩) HB
   have fl2:=fl.other RB (by decide) hk2
   exact bodyPost_ret (v:=proV (Q ia).1 (.slice Aa (Q ia).2.length ca)) (results_cell_row Try.results38 _ V2 (w.heap.size+1+1) 79 (proL (Q ia).1 (.slice Aa (Q ia).2.length ca)).toArray (0,0) _ (by rfl) XR Try.underlying79 (by rfl) (by kernel_rfl)) rfl ⟨Or.inl ⟨Q ia,_,rfl,rfl,fl2⟩,hB2 _ _ HB (by omega)⟩
set_option maxRecDepth 4000 in
set_option maxHeartbeats 4000000 in
theorem udim_mul (x:Nd) (AN:Option Addr) (nn CN:Nat) (AP:Option Addr) (np CP:Nat) (K:Nat→Prop) (Q:Nat→Pro) (A0 A1:Option Addr) (n0 C0 n1 C1:Nat) (S:Nat→Int×Int) (hh:Hid (x.k=5)) (ia:Nat) (hia:Hid (x.a=(ia:Int))) (hKa:K ia) (hna:ia<np) (ib:Nat) (hib:Hid (x.b=(ib:Int))) (hKb:K ib) (hnb:ib<np) (V:Int) (hV:0≤V∧V≤500) (pa:POk V (Q ia)) (pb:POk V (Q ib)) (w:World) (VP:PrsAt w AP K Q) :
   Calls Try.prog 38 #[x.val,.slice AN nn CN,.slice AP np CP,vrV (.slice A0 n0 C0) (.slice A1 n1 C1) S] w fun r w'=>PrAns r w' (timesP (Q ia) (Q ib) (1,1))∧Below w.heap.size w w':=by
 have hl1:=pa.s.length hV.1
 have hl2:=pb.s.length hV.1
 have cw:=fun W=>uwhole_w (1) W
 obtain⟨b,o,Aa,ca,eA,la,hca,fa,ga⟩:=VP ia hKa
 subst eA
 obtain⟨Ab,cb,lb,hcb,fb,gb⟩:=VP.at hKb
 have ct:=fun W f1 f2=>uptimes_w (Q ia).1 (Q ib).1 (Q ia).2 (Q ib).2 (.slice Aa (Q ia).2.length ca) (.slice Ab (Q ib).2.length cb) (1,1) pa.d pb.d pa.r pb.r (rok_one (by constructor <;> decide) (by decide)) pa.f pb.f (by omega) W f1 f2
 obtain⟨R,hR⟩:∃R,Hid (timesP (Q ia) (Q ib) (1,1)=R):=⟨_,rfl⟩
 rw [hR.out] at ⊢
 have hR2:=hR.out
 rw [hR2] at ct
 have f1:=(show FSl w (.slice Aa (Q ia).2.length ca) (Q ia).2 from ⟨Aa,ca,rfl,hca,fa⟩)
 have f2:=(show FSl w (.slice Ab (Q ib).2.length cb) (Q ib).2 from ⟨Ab,cb,rfl,hcb,fb⟩)
 clear pa pb hl1 hl2 hR hR2 hV
 show Calls Try.prog _ #[.agg #[.int .i64 x.k,.int .i64 x.a,.int .i64 x.b,.int .i64 x.n,.int .i64 x.q,.int .i64 x.p,.int .i64 x.v,.int .i64 x.d,.int .i64 (x.E 0).1,.int .i64 (x.E 0).2,.int .i64 (x.E 1).1,.int .i64 (x.E 1).2,.int .i64 (x.E 2).1,.int .i64 (x.E 2).2,.int .i64 (x.E 3).1,.int .i64 (x.E 3).2,.int .i64 (x.E 4).1,.int .i64 (x.E 4).2,.int .i64 (x.E 5).1,.int .i64 (x.E 5).2,.int .i64 (x.E 6).1,.int .i64 (x.E 6).2],_,_,.agg #[.slice A0 n0 C0,.slice A1 n1 C1,.int .i64 (S 0).1,.int .i64 (S 0).2,.int .i64 (S 1).1,.int .i64 (S 1).2,.int .i64 (S 2).1,.int .i64 (S 2).2,.int .i64 (S 3).1,.int .i64 (S 3).2,.int .i64 (S 4).1,.int .i64 (S 4).2,.int .i64 (S 5).1,.int .i64 (S 5).2,.int .i64 (S 6).1,.int .i64 (S 6).2]] w _
 obtain⟨XN,XV,RB,HB⟩:=blks3 w 54 43 79 [.int .i64 x.k,.int .i64 x.a,.int .i64 x.b,.int .i64 x.n,.int .i64 x.q,.int .i64 x.p,.int .i64 x.v,.int .i64 x.d,.int .i64 (x.E 0).1,.int .i64 (x.E 0).2,.int .i64 (x.E 1).1,.int .i64 (x.E 1).2,.int .i64 (x.E 2).1,.int .i64 (x.E 2).2,.int .i64 (x.E 3).1,.int .i64 (x.E 3).2,.int .i64 (x.E 4).1,.int .i64 (x.E 4).2,.int .i64 (x.E 5).1,.int .i64 (x.E 5).2,.int .i64 (x.E 6).1,.int .i64 (x.E 6).2] [.slice A0 n0 C0,.slice A1 n1 C1,.int .i64 (S 0).1,.int .i64 (S 0).2,.int .i64 (S 1).1,.int .i64 (S 1).2,.int .i64 (S 2).1,.int .i64 (S 2).2,.int .i64 (S 3).1,.int .i64 (S 3).2,.int .i64 (S 4).1,.int .i64 (S 4).2,.int .i64 (S 5).1,.int .i64 (S 5).2,.int .i64 (S 6).1,.int .i64 (S 6).2] [.int .i64 0,.int .i64 0,.int .i64 0,.int .i64 0,.int .i64 0,.int .i64 0,.int .i64 0,.int .i64 0,.int .i64 0,.int .i64 0,.int .i64 0,.int .i64 0,.int .i64 0,.int .i64 0,.slice none 0 0]
 go_enter Try.func38,Try.ntmps38
 go_upto_region 1 with fail
 generalize (((w.alloc (.cells #[.int .i64 x.k,.int .i64 x.a,.int .i64 x.b,.int .i64 x.n,.int .i64 x.q,.int .i64 x.p,.int .i64 x.v,.int .i64 x.d,.int .i64 (x.E 0).1,.int .i64 (x.E 0).2,.int .i64 (x.E 1).1,.int .i64 (x.E 1).2,.int .i64 (x.E 2).1,.int .i64 (x.E 2).2,.int .i64 (x.E 3).1,.int .i64 (x.E 3).2,.int .i64 (x.E 4).1,.int .i64 (x.E 4).2,.int .i64 (x.E 5).1,.int .i64 (x.E 5).2,.int .i64 (x.E 6).1,.int .i64 (x.E 6).2] 54)).alloc (.cells #[.slice A0 n0 C0,.slice A1 n1 C1,.int .i64 (S 0).1,.int .i64 (S 0).2,.int .i64 (S 1).1,.int .i64 (S 1).2,.int .i64 (S 2).1,.int .i64 (S 2).2,.int .i64 (S 3).1,.int .i64 (S 3).2,.int .i64 (S 4).1,.int .i64 (S 4).2,.int .i64 (S 5).1,.int .i64 (S 5).2,.int .i64 (S 6).1,.int .i64 (S 6).2] 43)).alloc (.cells #[.int .i64 0,.int .i64 0,.int .i64 0,.int .i64 0,.int .i64 0,.int .i64 0,.int .i64 0,.int .i64 0,.int .i64 0,.int .i64 0,.int .i64 0,.int .i64 0,.int .i64 0,.int .i64 0,.slice none 0 0] 79))=V1 at *
 obtain⟨x0,x1,x2,x3,x4,x5,x6,x7⟩:=XN.nd.cells
 rw [hh.out] at x0
 have ga1:∀j u,(proL (Q ia).1 (.slice Aa (Q ia).2.length ca))[j]?=some u→V1.cell? ⟨b,o+ia*15+j,none⟩=some u:=fun j u hj=>keepsC HB (ga j u hj) la
 have la1:b<V1.heap.size:=Nat.lt_of_lt_of_le la HB.size
 rw [hia.out] at x1
 have gb1:∀j u,(proL (Q ib).1 (.slice Ab (Q ib).2.length cb))[j]?=some u→V1.cell? ⟨b,o+ib*15+j,none⟩=some u:=fun j u hj=>keepsC HB (gb j u hj) la
 rw [hib.out] at x2
 have hna2:(ia:Int)<(np:Int):=by omega
 have hnb2:(ib:Int)<(np:Int):=by omega
 go_upto_region 14 with fail
 have k1:=fun n:Behind V1=>n.cell x1 XN.lt
 have k2:=fun n:Behind V1=>n.cell x2 XN.lt
 refine tail_behind 11 (by kernel_rfl) (by kernel_rfl) ?_
 simp only [List.take_succ_cons,List.take_zero,List.drop_succ_cons,List.drop_zero]
 repeat (first
   | (go_big_quiet_want;refine quiet_loadBig _ 79 (by rfl) Try.underlying79 (proL (Q ia).1 (.slice Aa (Q ia).2.length ca)) (by kernel_rfl) (by rfl) (fun W hW j u hj=>by obtain⟨n,rfl⟩:=hW;exact keepsC n.bel (ga1 j u hj) la1) (pro_val (Q ia).1 (.slice Aa (Q ia).2.length ca)) ?_;simp only [Act.put,List.setIfInBounds_toArray,List.set_cons_zero,List.set_cons_succ];go_big_quiet_on)
   | (go_big_quiet_want;refine quiet_loadBig _ 79 (by rfl) Try.underlying79 (proL (Q ib).1 (.slice Ab (Q ib).2.length cb)) (by kernel_rfl) (by rfl) (fun W hW j u hj=>by obtain⟨n,rfl⟩:=hW;exact keepsC n.bel (gb1 j u hj) la1) (pro_val (Q ib).1 (.slice Ab (Q ib).2.length cb)) ?_;simp only [Act.put,List.setIfInBounds_toArray,List.set_cons_zero,List.set_cons_succ];go_big_quiet_on)
   | (go_big_quiet_step (first | (go_at_call 56;with_reducible refine Behind.call (cw _)))))
 refine wpQuiet_nil ?_
 rintro _ ⟨q,rfl⟩
 obtain⟨W,hb1⟩:=q
 dsimp only
 clear k1 k2 x0 x1 x2 x3 x4 x5 x6 x7
 replace HB:=later HB hb1
 replace RB:=RB.keeps hb1
 clear hb1
 cases R with
 | none =>
   have eR:Hid ((none:Option Pro)=none):=rfl
   go_wp2_with (first
     | (go_at_call 57;(with_reducible refine (ct _ (f1.keep HB) (f2.keep HB)).mono ?_);rintro r W2 ⟨hM,hb2⟩;have hr:=hM.no;subst hr;exact⟨rfl,Or.inr ⟨eR.out,rfl⟩,later HB hb2⟩))
 | some Y =>
   go_wp2_with (first
     | (go_at_call 57;(with_reducible refine (ct _ (f1.keep HB) (f2.keep HB)).mono ?_);rintro r W2 ⟨hM,hb2⟩;obtain⟨s,hr,A9,c9,rfl,hc9,fa9⟩:=hM.yes;subst hr;have fl:FSl W2 (.slice A9 Y.2.length c9) Y.2:=⟨A9,c9,rfl,hc9,fa9⟩;replace HB:=later HB hb2;replace RB:=RB.keeps hb2;clear hb2 hM)
     | (refine wpList_storeBig (by rfl) _ _ 79 (by rfl) (RB) (proL Y.1 (.slice A9 Y.2.length c9)) (by kernel_rfl) (by rfl) (by rfl) (by rfl) (by rfl) ?_;rintro V2 XR hs2 hB2 hk2))
   have fl2:=fl.other RB (by decide) hk2
   exact bodyPost_ret (v:=proV Y.1 (.slice A9 Y.2.length c9)) (results_cell_row Try.results38 _ V2 (w.heap.size+1+1) 79 (proL Y.1 (.slice A9 Y.2.length c9)).toArray (0,0) _ (by rfl) XR Try.underlying79 (by rfl) (by kernel_rfl)) rfl ⟨Or.inl ⟨Y,_,rfl,rfl,fl2⟩,hB2 _ _ HB (by omega)⟩
set_option maxRecDepth 4000 in
set_option maxHeartbeats 4000000 in
theorem udim_div (x:Nd) (AN:Option Addr) (nn CN:Nat) (AP:Option Addr) (np CP:Nat) (K:Nat→Prop) (Q:Nat→Pro) (A0 A1:Option Addr) (n0 C0 n1 C1:Nat) (S:Nat→Int×Int) (hh:Hid (x.k=6)) (ia:Nat) (hia:Hid (x.a=(ia:Int))) (hKa:K ia) (hna:ia<np) (ib:Nat) (hib:Hid (x.b=(ib:Int))) (hKb:K ib) (hnb:ib<np) (V:Int) (hV:0≤V∧V≤500) (pa:POk V (Q ia)) (pb:POk V (Q ib)) (w:World) (VP:PrsAt w AP K Q) :
   Calls Try.prog 38 #[x.val,.slice AN nn CN,.slice AP np CP,vrV (.slice A0 n0 C0) (.slice A1 n1 C1) S] w fun r w'=>PrAns r w' (timesP (Q ia) (Q ib) (-1,1))∧Below w.heap.size w w':=by
 have hl1:=pa.s.length hV.1
 have hl2:=pb.s.length hV.1
 have cw:=fun W=>uwhole_w (-1) W
 obtain⟨b,o,Aa,ca,eA,la,hca,fa,ga⟩:=VP ia hKa
 subst eA
 obtain⟨Ab,cb,lb,hcb,fb,gb⟩:=VP.at hKb
 have ct:=fun W f1 f2=>uptimes_w (Q ia).1 (Q ib).1 (Q ia).2 (Q ib).2 (.slice Aa (Q ia).2.length ca) (.slice Ab (Q ib).2.length cb) (-1,1) pa.d pb.d pa.r pb.r (rok_one (by constructor <;> decide) (by decide)) pa.f pb.f (by omega) W f1 f2
 obtain⟨R,hR⟩:∃R,Hid (timesP (Q ia) (Q ib) (-1,1)=R):=⟨_,rfl⟩
 rw [hR.out] at ⊢
 have hR2:=hR.out
 rw [hR2] at ct
 have f1:=(show FSl w (.slice Aa (Q ia).2.length ca) (Q ia).2 from ⟨Aa,ca,rfl,hca,fa⟩)
 have f2:=(show FSl w (.slice Ab (Q ib).2.length cb) (Q ib).2 from ⟨Ab,cb,rfl,hcb,fb⟩)
 clear pa pb hl1 hl2 hR hR2 hV
 show Calls Try.prog _ #[.agg #[.int .i64 x.k,.int .i64 x.a,.int .i64 x.b,.int .i64 x.n,.int .i64 x.q,.int .i64 x.p,.int .i64 x.v,.int .i64 x.d,.int .i64 (x.E 0).1,.int .i64 (x.E 0).2,.int .i64 (x.E 1).1,.int .i64 (x.E 1).2,.int .i64 (x.E 2).1,.int .i64 (x.E 2).2,.int .i64 (x.E 3).1,.int .i64 (x.E 3).2,.int .i64 (x.E 4).1,.int .i64 (x.E 4).2,.int .i64 (x.E 5).1,.int .i64 (x.E 5).2,.int .i64 (x.E 6).1,.int .i64 (x.E 6).2],_,_,.agg #[.slice A0 n0 C0,.slice A1 n1 C1,.int .i64 (S 0).1,.int .i64 (S 0).2,.int .i64 (S 1).1,.int .i64 (S 1).2,.int .i64 (S 2).1,.int .i64 (S 2).2,.int .i64 (S 3).1,.int .i64 (S 3).2,.int .i64 (S 4).1,.int .i64 (S 4).2,.int .i64 (S 5).1,.int .i64 (S 5).2,.int .i64 (S 6).1,.int .i64 (S 6).2]] w _
 obtain⟨XN,XV,RB,HB⟩:=blks3 w 54 43 79 [.int .i64 x.k,.int .i64 x.a,.int .i64 x.b,.int .i64 x.n,.int .i64 x.q,.int .i64 x.p,.int .i64 x.v,.int .i64 x.d,.int .i64 (x.E 0).1,.int .i64 (x.E 0).2,.int .i64 (x.E 1).1,.int .i64 (x.E 1).2,.int .i64 (x.E 2).1,.int .i64 (x.E 2).2,.int .i64 (x.E 3).1,.int .i64 (x.E 3).2,.int .i64 (x.E 4).1,.int .i64 (x.E 4).2,.int .i64 (x.E 5).1,.int .i64 (x.E 5).2,.int .i64 (x.E 6).1,.int .i64 (x.E 6).2] [.slice A0 n0 C0,.slice A1 n1 C1,.int .i64 (S 0).1,.int .i64 (S 0).2,.int .i64 (S 1).1,.int .i64 (S 1).2,.int .i64 (S 2).1,.int .i64 (S 2).2,.int .i64 (S 3).1,.int .i64 (S 3).2,.int .i64 (S 4).1,.int .i64 (S 4).2,.int .i64 (S 5).1,.int .i64 (S 5).2,.int .i64 (S 6).1,.int .i64 (S 6).2] [.int .i64 0,.int .i64 0,.int .i64 0,.int .i64 0,.int .i64 0,.int .i64 0,.int .i64 0,.int .i64 0,.int .i64 0,.int .i64 0,.int .i64 0,.int .i64 0,.int .i64 0,.int .i64 0,.slice none 0 0]
 go_enter Try.func38,Try.ntmps38
 go_upto_region 1 with fail
 generalize (((w.alloc (.cells #[.int .i64 x.k,.int .i64 x.a,.int .i64 x.b,.int .i64 x.n,.int .i64 x.q,.int .i64 x.p,.int .i64 x.v,.int .i64 x.d,.int .i64 (x.E 0).1,.int .i64 (x.E 0).2,.int .i64 (x.E 1).1,.int .i64 (x.E 1).2,.int .i64 (x.E 2).1,.int .i64 (x.E 2).2,.int .i64 (x.E 3).1,.int .i64 (x.E 3).2,.int .i64 (x.E 4).1,.int .i64 (x.E 4).2,.int .i64 (x.E 5).1,.int .i64 (x.E 5).2,.int .i64 (x.E 6).1,.int .i64 (x.E 6).2] 54)).alloc (.cells #[.slice A0 n0 C0,.slice A1 n1 C1,.int .i64 (S 0).1,.int .i64 (S 0).2,.int .i64 (S 1).1,.int .i64 (S 1).2,.int .i64 (S 2).1,.int .i64 (S 2).2,.int .i64 (S 3).1,.int .i64 (S 3).2,.int .i64 (S 4).1,.int .i64 (S 4).2,.int .i64 (S 5).1,.int .i64 (S 5).2,.int .i64 (S 6).1,.int .i64 (S 6).2] 43)).alloc (.cells #[.int .i64 0,.int .i64 0,.int .i64 0,.int .i64 0,.int .i64 0,.int .i64 0,.int .i64 0,.int .i64 0,.int .i64 0,.int .i64 0,.int .i64 0,.int .i64 0,.int .i64 0,.int .i64 0,.slice none 0 0] 79))=V1 at *
 obtain⟨x0,x1,x2,x3,x4,x5,x6,x7⟩:=XN.nd.cells
 rw [hh.out] at x0
 have ga1:∀j u,(proL (Q ia).1 (.slice Aa (Q ia).2.length ca))[j]?=some u→V1.cell? ⟨b,o+ia*15+j,none⟩=some u:=fun j u hj=>keepsC HB (ga j u hj) la
 have la1:b<V1.heap.size:=Nat.lt_of_lt_of_le la HB.size
 rw [hia.out] at x1
 have gb1:∀j u,(proL (Q ib).1 (.slice Ab (Q ib).2.length cb))[j]?=some u→V1.cell? ⟨b,o+ib*15+j,none⟩=some u:=fun j u hj=>keepsC HB (gb j u hj) la
 rw [hib.out] at x2
 have hna2:(ia:Int)<(np:Int):=by omega
 have hnb2:(ib:Int)<(np:Int):=by omega
 go_upto_region 16 with fail
 have k1:=fun n:Behind V1=>n.cell x1 XN.lt
 have k2:=fun n:Behind V1=>n.cell x2 XN.lt
 refine tail_behind 11 (by kernel_rfl) (by kernel_rfl) ?_
 simp only [List.take_succ_cons,List.take_zero,List.drop_succ_cons,List.drop_zero]
 repeat (first
   | (go_big_quiet_want;refine quiet_loadBig _ 79 (by rfl) Try.underlying79 (proL (Q ia).1 (.slice Aa (Q ia).2.length ca)) (by kernel_rfl) (by rfl) (fun W hW j u hj=>by obtain⟨n,rfl⟩:=hW;exact keepsC n.bel (ga1 j u hj) la1) (pro_val (Q ia).1 (.slice Aa (Q ia).2.length ca)) ?_;simp only [Act.put,List.setIfInBounds_toArray,List.set_cons_zero,List.set_cons_succ];go_big_quiet_on)
   | (go_big_quiet_want;refine quiet_loadBig _ 79 (by rfl) Try.underlying79 (proL (Q ib).1 (.slice Ab (Q ib).2.length cb)) (by kernel_rfl) (by rfl) (fun W hW j u hj=>by obtain⟨n,rfl⟩:=hW;exact keepsC n.bel (gb1 j u hj) la1) (pro_val (Q ib).1 (.slice Ab (Q ib).2.length cb)) ?_;simp only [Act.put,List.setIfInBounds_toArray,List.set_cons_zero,List.set_cons_succ];go_big_quiet_on)
   | (go_big_quiet_step (first | (go_at_call 56;with_reducible refine Behind.call (cw _)))))
 refine wpQuiet_nil ?_
 rintro _ ⟨q,rfl⟩
 obtain⟨W,hb1⟩:=q
 dsimp only
 clear k1 k2 x0 x1 x2 x3 x4 x5 x6 x7
 replace HB:=later HB hb1
 replace RB:=RB.keeps hb1
 clear hb1
 cases R with
 | none =>
   have eR:Hid ((none:Option Pro)=none):=rfl
   go_wp2_with (first
     | (go_at_call 57;(with_reducible refine (ct _ (f1.keep HB) (f2.keep HB)).mono ?_);rintro r W2 ⟨hM,hb2⟩;have hr:=hM.no;subst hr;exact⟨rfl,Or.inr ⟨eR.out,rfl⟩,later HB hb2⟩))
 | some Y =>
   go_wp2_with (first
     | (go_at_call 57;(with_reducible refine (ct _ (f1.keep HB) (f2.keep HB)).mono ?_);rintro r W2 ⟨hM,hb2⟩;obtain⟨s,hr,A9,c9,rfl,hc9,fa9⟩:=hM.yes;subst hr;have fl:FSl W2 (.slice A9 Y.2.length c9) Y.2:=⟨A9,c9,rfl,hc9,fa9⟩;replace HB:=later HB hb2;replace RB:=RB.keeps hb2;clear hb2 hM)
     | (refine wpList_storeBig (by rfl) _ _ 79 (by rfl) (RB) (proL Y.1 (.slice A9 Y.2.length c9)) (by kernel_rfl) (by rfl) (by rfl) (by rfl) (by rfl) ?_;rintro V2 XR hs2 hB2 hk2))
   have fl2:=fl.other RB (by decide) hk2
   exact bodyPost_ret (v:=proV Y.1 (.slice A9 Y.2.length c9)) (results_cell_row Try.results38 _ V2 (w.heap.size+1+1) 79 (proL Y.1 (.slice A9 Y.2.length c9)).toArray (0,0) _ (by rfl) XR Try.underlying79 (by rfl) (by kernel_rfl)) rfl ⟨Or.inl ⟨Y,_,rfl,rfl,fl2⟩,hB2 _ _ HB (by omega)⟩
set_option maxRecDepth 4000 in
set_option maxHeartbeats 4000000 in
theorem udim_pow (x:Nd) (AN:Option Addr) (nn CN:Nat) (AP:Option Addr) (np CP:Nat) (K:Nat→Prop) (Q:Nat→Pro) (A0 A1:Option Addr) (n0 C0 n1 C1:Nat) (S:Nat→Int×Int) (hh:Hid (x.k=8)) (ia:Nat) (hia:Hid (x.a=(ia:Int))) (hKa:K ia) (hna:ia<np) (V:Int) (hV:0≤V∧V≤500) (pa:POk V (Q ia)) (hN:-64≤x.n∧x.n≤64) (w:World) (VP:PrsAt w AP K Q) :
   Calls Try.prog 38 #[x.val,.slice AN nn CN,.slice AP np CP,vrV (.slice A0 n0 C0) (.slice A1 n1 C1) S] w fun r w'=>PrAns r w' (powerP (Q ia) (x.n,1))∧Below w.heap.size w w':=by
 have hl1:=pa.s.length hV.1
 have cw:=fun W=>uwhole_w x.n W
 obtain⟨b,o,Aa,ca,eA,la,hca,fa,ga⟩:=VP ia hKa
 subst eA
 have ct:=fun W f1=>upower_w (Q ia).1 (Q ia).2 (.slice Aa (Q ia).2.length ca) (x.n,1) pa.d pa.r (rok_one (by constructor <;> omega) (by omega)) pa.f (by omega) W f1
 obtain⟨R,hR⟩:∃R,Hid (powerP (Q ia) (x.n,1)=R):=⟨_,rfl⟩
 rw [hR.out]
 have hR2:=hR.out
 rw [hR2] at ct
 have f1:=(show FSl w (.slice Aa (Q ia).2.length ca) (Q ia).2 from ⟨Aa,ca,rfl,hca,fa⟩)
 clear pa hl1 hR hR2 hV hN
 show Calls Try.prog _ #[.agg #[.int .i64 x.k,.int .i64 x.a,.int .i64 x.b,.int .i64 x.n,.int .i64 x.q,.int .i64 x.p,.int .i64 x.v,.int .i64 x.d,.int .i64 (x.E 0).1,.int .i64 (x.E 0).2,.int .i64 (x.E 1).1,.int .i64 (x.E 1).2,.int .i64 (x.E 2).1,.int .i64 (x.E 2).2,.int .i64 (x.E 3).1,.int .i64 (x.E 3).2,.int .i64 (x.E 4).1,.int .i64 (x.E 4).2,.int .i64 (x.E 5).1,.int .i64 (x.E 5).2,.int .i64 (x.E 6).1,.int .i64 (x.E 6).2],_,_,.agg #[.slice A0 n0 C0,.slice A1 n1 C1,.int .i64 (S 0).1,.int .i64 (S 0).2,.int .i64 (S 1).1,.int .i64 (S 1).2,.int .i64 (S 2).1,.int .i64 (S 2).2,.int .i64 (S 3).1,.int .i64 (S 3).2,.int .i64 (S 4).1,.int .i64 (S 4).2,.int .i64 (S 5).1,.int .i64 (S 5).2,.int .i64 (S 6).1,.int .i64 (S 6).2]] w _
 obtain⟨XN,XV,RB,HB⟩:=blks3 w 54 43 79 [.int .i64 x.k,.int .i64 x.a,.int .i64 x.b,.int .i64 x.n,.int .i64 x.q,.int .i64 x.p,.int .i64 x.v,.int .i64 x.d,.int .i64 (x.E 0).1,.int .i64 (x.E 0).2,.int .i64 (x.E 1).1,.int .i64 (x.E 1).2,.int .i64 (x.E 2).1,.int .i64 (x.E 2).2,.int .i64 (x.E 3).1,.int .i64 (x.E 3).2,.int .i64 (x.E 4).1,.int .i64 (x.E 4).2,.int .i64 (x.E 5).1,.int .i64 (x.E 5).2,.int .i64 (x.E 6).1,.int .i64 (x.E 6).2] [.slice A0 n0 C0,.slice A1 n1 C1,.int .i64 (S 0).1,.int .i64 (S 0).2,.int .i64 (S 1).1,.int .i64 (S 1).2,.int .i64 (S 2).1,.int .i64 (S 2).2,.int .i64 (S 3).1,.int .i64 (S 3).2,.int .i64 (S 4).1,.int .i64 (S 4).2,.int .i64 (S 5).1,.int .i64 (S 5).2,.int .i64 (S 6).1,.int .i64 (S 6).2] [.int .i64 0,.int .i64 0,.int .i64 0,.int .i64 0,.int .i64 0,.int .i64 0,.int .i64 0,.int .i64 0,.int .i64 0,.int .i64 0,.int .i64 0,.int .i64 0,.int .i64 0,.int .i64 0,.slice none 0 0]
 go_enter Try.func38,Try.ntmps38
 go_upto_region 1 with fail
 generalize (((w.alloc (.cells #[.int .i64 x.k,.int .i64 x.a,.int .i64 x.b,.int .i64 x.n,.int .i64 x.q,.int .i64 x.p,.int .i64 x.v,.int .i64 x.d,.int .i64 (x.E 0).1,.int .i64 (x.E 0).2,.int .i64 (x.E 1).1,.int .i64 (x.E 1).2,.int .i64 (x.E 2).1,.int .i64 (x.E 2).2,.int .i64 (x.E 3).1,.int .i64 (x.E 3).2,.int .i64 (x.E 4).1,.int .i64 (x.E 4).2,.int .i64 (x.E 5).1,.int .i64 (x.E 5).2,.int .i64 (x.E 6).1,.int .i64 (x.E 6).2] 54)).alloc (.cells #[.slice A0 n0 C0,.slice A1 n1 C1,.int .i64 (S 0).1,.int .i64 (S 0).2,.int .i64 (S 1).1,.int .i64 (S 1).2,.int .i64 (S 2).1,.int .i64 (S 2).2,.int .i64 (S 3).1,.int .i64 (S 3).2,.int .i64 (S 4).1,.int .i64 (S 4).2,.int .i64 (S 5).1,.int .i64 (S 5).2,.int .i64 (S 6).1,.int .i64 (S 6).2] 43)).alloc (.cells #[.int .i64 0,.int .i64 0,.int .i64 0,.int .i64 0,.int .i64 0,.int .i64 0,.int .i64 0,.int .i64 0,.int .i64 0,.int .i64 0,.int .i64 0,.int .i64 0,.int .i64 0,.int .i64 0,.slice none 0 0] 79))=V1 at *
 obtain⟨x0,x1,x2,x3,x4,x5,x6,x7⟩:=XN.nd.cells
 rw [hh.out] at x0
 have ga1:∀j u,(proL (Q ia).1 (.slice Aa (Q ia).2.length ca))[j]?=some u→V1.cell? ⟨b,o+ia*15+j,none⟩=some u:=fun j u hj=>keepsC HB (ga j u hj) la
 have la1:b<V1.heap.size:=Nat.lt_of_lt_of_le la HB.size
 rw [hia.out] at x1
 have hna2:(ia:Int)<(np:Int):=by omega
 go_upto_region 20 with fail
 have k1:=fun n:Behind V1=>n.cell x1 XN.lt
 have k2:=fun n:Behind V1=>n.cell x3 XN.lt
 refine tail_behind 8 (by kernel_rfl) (by kernel_rfl) ?_
 simp only [List.take_succ_cons,List.take_zero,List.drop_succ_cons,List.drop_zero]
 repeat (first
   | (go_big_quiet_want;refine quiet_loadBig _ 79 (by rfl) Try.underlying79 (proL (Q ia).1 (.slice Aa (Q ia).2.length ca)) (by kernel_rfl) (by rfl) (fun W hW j u hj=>by obtain⟨n,rfl⟩:=hW;exact keepsC n.bel (ga1 j u hj) la1) (pro_val (Q ia).1 (.slice Aa (Q ia).2.length ca)) ?_;simp only [Act.put,List.setIfInBounds_toArray,List.set_cons_zero,List.set_cons_succ];go_big_quiet_on)
   | (go_big_quiet_step (first | (go_at_call 56;with_reducible refine Behind.call (cw _)))))
 refine wpQuiet_nil ?_
 rintro _ ⟨q,rfl⟩
 obtain⟨W,hb1⟩:=q
 dsimp only
 clear k1 k2 x0 x1 x2 x3 x4 x5 x6 x7
 replace HB:=later HB hb1
 replace RB:=RB.keeps hb1
 clear hb1
 cases R with
 | none =>
   have eR:Hid ((none:Option Pro)=none):=rfl
   go_wp2_with (first
     | (go_at_call 60;(with_reducible refine (ct _ (f1.keep HB)).mono ?_);rintro r W2 ⟨hM,hb2⟩;have hr:=hM.no;subst hr;exact⟨rfl,Or.inr ⟨eR.out,rfl⟩,later HB hb2⟩))
 | some Y =>
   go_wp2_with (first
     | (go_at_call 60;(with_reducible refine (ct _ (f1.keep HB)).mono ?_);rintro r W2 ⟨hM,hb2⟩;obtain⟨s,hr,A9,c9,rfl,hc9,fa9⟩:=hM.yes;subst hr;have fl:FSl W2 (.slice A9 Y.2.length c9) Y.2:=⟨A9,c9,rfl,hc9,fa9⟩;replace HB:=later HB hb2;replace RB:=RB.keeps hb2;clear hb2 hM)
     | (refine wpList_storeBig (by rfl) _ _ 79 (by rfl) (RB) (proL Y.1 (.slice A9 Y.2.length c9)) (by kernel_rfl) (by rfl) (by rfl) (by rfl) (by rfl) ?_;rintro V2 XR hs2 hB2 hk2))
   have fl2:=fl.other RB (by decide) hk2
   exact bodyPost_ret (v:=proV Y.1 (.slice A9 Y.2.length c9)) (results_cell_row Try.results38 _ V2 (w.heap.size+1+1) 79 (proL Y.1 (.slice A9 Y.2.length c9)).toArray (0,0) _ (by rfl) XR Try.underlying79 (by rfl) (by kernel_rfl)) rfl ⟨Or.inl ⟨Y,_,rfl,rfl,fl2⟩,hB2 _ _ HB (by omega)⟩
set_option maxRecDepth 4000 in
set_option maxHeartbeats 4000000 in
theorem udim_sqrt (x:Nd) (AN:Option Addr) (nn CN:Nat) (AP:Option Addr) (np CP:Nat) (K:Nat→Prop) (Q:Nat→Pro) (A0 A1:Option Addr) (n0 C0 n1 C1:Nat) (S:Nat→Int×Int) (hh:Hid (x.k=9)) (ia:Nat) (hia:Hid (x.a=(ia:Int))) (hKa:K ia) (hna:ia<np) (V:Int) (hV:0≤V∧V≤500) (pa:POk V (Q ia)) (w:World) (VP:PrsAt w AP K Q) :
   Calls Try.prog 38 #[x.val,.slice AN nn CN,.slice AP np CP,vrV (.slice A0 n0 C0) (.slice A1 n1 C1) S] w fun r w'=>PrAns r w' (powerP (Q ia) (1,2))∧Below w.heap.size w w':=by
 have hl1:=pa.s.length hV.1
 obtain⟨b,o,Aa,ca,eA,la,hca,fa,ga⟩:=VP ia hKa
 subst eA
 have ct:=fun W f1=>upower_w (Q ia).1 (Q ia).2 (.slice Aa (Q ia).2.length ca) (1,2) pa.d pa.r ⟨by decide,⟨by decide,by decide⟩,⟨by decide,by decide⟩⟩ pa.f (by omega) W f1
 obtain⟨R,hR⟩:∃R,Hid (powerP (Q ia) (1,2)=R):=⟨_,rfl⟩
 rw [hR.out]
 have hR2:=hR.out
 rw [hR2] at ct
 have f1:=(show FSl w (.slice Aa (Q ia).2.length ca) (Q ia).2 from ⟨Aa,ca,rfl,hca,fa⟩)
 clear pa hl1 hR hR2 hV
 show Calls Try.prog _ #[.agg #[.int .i64 x.k,.int .i64 x.a,.int .i64 x.b,.int .i64 x.n,.int .i64 x.q,.int .i64 x.p,.int .i64 x.v,.int .i64 x.d,.int .i64 (x.E 0).1,.int .i64 (x.E 0).2,.int .i64 (x.E 1).1,.int .i64 (x.E 1).2,.int .i64 (x.E 2).1,.int .i64 (x.E 2).2,.int .i64 (x.E 3).1,.int .i64 (x.E 3).2,.int .i64 (x.E 4).1,.int .i64 (x.E 4).2,.int .i64 (x.E 5).1,.int .i64 (x.E 5).2,.int .i64 (x.E 6).1,.int .i64 (x.E 6).2],_,_,.agg #[.slice A0 n0 C0,.slice A1 n1 C1,.int .i64 (S 0).1,.int .i64 (S 0).2,.int .i64 (S 1).1,.int .i64 (S 1).2,.int .i64 (S 2).1,.int .i64 (S 2).2,.int .i64 (S 3).1,.int .i64 (S 3).2,.int .i64 (S 4).1,.int .i64 (S 4).2,.int .i64 (S 5).1,.int .i64 (S 5).2,.int .i64 (S 6).1,.int .i64 (S 6).2]] w _
 obtain⟨XN,XV,RB,HB⟩:=blks3 w 54 43 79 [.int .i64 x.k,.int .i64 x.a,.int .i64 x.b,.int .i64 x.n,.int .i64 x.q,.int .i64 x.p,.int .i64 x.v,.int .i64 x.d,.int .i64 (x.E 0).1,.int .i64 (x.E 0).2,.int .i64 (x.E 1).1,.int .i64 (x.E 1).2,.int .i64 (x.E 2).1,.int .i64 (x.E 2).2,.int .i64 (x.E 3).1,.int .i64 (x.E 3).2,.int .i64 (x.E 4).1,.int .i64 (x.E 4).2,.int .i64 (x.E 5).1,.int .i64 (x.E 5).2,.int .i64 (x.E 6).1,.int .i64 (x.E 6).2] [.slice A0 n0 C0,.slice A1 n1 C1,.int .i64 (S 0).1,.int .i64 (S 0).2,.int .i64 (S 1).1,.int .i64 (S 1).2,.int .i64 (S 2).1,.int .i64 (S 2).2,.int .i64 (S 3).1,.int .i64 (S 3).2,.int .i64 (S 4).1,.int .i64 (S 4).2,.int .i64 (S 5).1,.int .i64 (S 5).2,.int .i64 (S 6).1,.int .i64 (S 6).2] [.int .i64 0,.int .i64 0,.int .i64 0,.int .i64 0,.int .i64 0,.int .i64 0,.int .i64 0,.int .i64 0,.int .i64 0,.int .i64 0,.int .i64 0,.int .i64 0,.int .i64 0,.int .i64 0,.slice none 0 0]
 go_enter Try.func38,Try.ntmps38
 go_upto_region 1 with fail
 generalize (((w.alloc (.cells #[.int .i64 x.k,.int .i64 x.a,.int .i64 x.b,.int .i64 x.n,.int .i64 x.q,.int .i64 x.p,.int .i64 x.v,.int .i64 x.d,.int .i64 (x.E 0).1,.int .i64 (x.E 0).2,.int .i64 (x.E 1).1,.int .i64 (x.E 1).2,.int .i64 (x.E 2).1,.int .i64 (x.E 2).2,.int .i64 (x.E 3).1,.int .i64 (x.E 3).2,.int .i64 (x.E 4).1,.int .i64 (x.E 4).2,.int .i64 (x.E 5).1,.int .i64 (x.E 5).2,.int .i64 (x.E 6).1,.int .i64 (x.E 6).2] 54)).alloc (.cells #[.slice A0 n0 C0,.slice A1 n1 C1,.int .i64 (S 0).1,.int .i64 (S 0).2,.int .i64 (S 1).1,.int .i64 (S 1).2,.int .i64 (S 2).1,.int .i64 (S 2).2,.int .i64 (S 3).1,.int .i64 (S 3).2,.int .i64 (S 4).1,.int .i64 (S 4).2,.int .i64 (S 5).1,.int .i64 (S 5).2,.int .i64 (S 6).1,.int .i64 (S 6).2] 43)).alloc (.cells #[.int .i64 0,.int .i64 0,.int .i64 0,.int .i64 0,.int .i64 0,.int .i64 0,.int .i64 0,.int .i64 0,.int .i64 0,.int .i64 0,.int .i64 0,.int .i64 0,.int .i64 0,.int .i64 0,.slice none 0 0] 79))=V1 at *
 obtain⟨x0,x1,x2,x3,x4,x5,x6,x7⟩:=XN.nd.cells
 rw [hh.out] at x0
 have ga1:∀j u,(proL (Q ia).1 (.slice Aa (Q ia).2.length ca))[j]?=some u→V1.cell? ⟨b,o+ia*15+j,none⟩=some u:=fun j u hj=>keepsC HB (ga j u hj) la
 have la1:b<V1.heap.size:=Nat.lt_of_lt_of_le la HB.size
 rw [hia.out] at x1
 have hna2:(ia:Int)<(np:Int):=by omega
 cases R with
 | none =>
   have eR:Hid ((none:Option Pro)=none):=rfl
   go_wp2_with (first
     | (refine wpList_loadBig (by rfl) _ 79 (by rfl) Try.underlying79 (proL (Q ia).1 (.slice Aa (Q ia).2.length ca)) (by kernel_rfl) (by rfl) (ga1) (pro_val (Q ia).1 (.slice Aa (Q ia).2.length ca)) ?_)
     | (go_at_call 60;(with_reducible refine (ct _ (f1.keep HB)).mono ?_);rintro r W2 ⟨hM,hb2⟩;have hr:=hM.no;subst hr;exact⟨rfl,Or.inr ⟨eR.out,rfl⟩,later HB hb2⟩))
 | some Y =>
   go_wp2_with (first
     | (refine wpList_loadBig (by rfl) _ 79 (by rfl) Try.underlying79 (proL (Q ia).1 (.slice Aa (Q ia).2.length ca)) (by kernel_rfl) (by rfl) (ga1) (pro_val (Q ia).1 (.slice Aa (Q ia).2.length ca)) ?_)
     | (go_at_call 60;(with_reducible refine (ct _ (f1.keep HB)).mono ?_);rintro r W2 ⟨hM,hb2⟩;obtain⟨s,hr,A9,c9,rfl,hc9,fa9⟩:=hM.yes;subst hr;have fl:FSl W2 (.slice A9 Y.2.length c9) Y.2:=⟨A9,c9,rfl,hc9,fa9⟩;replace HB:=later HB hb2;replace RB:=RB.keeps hb2;clear hb2 hM)
     | (refine wpList_storeBig (by rfl) _ _ 79 (by rfl) (RB) (proL Y.1 (.slice A9 Y.2.length c9)) (by kernel_rfl) (by rfl) (by rfl) (by rfl) (by rfl) ?_;rintro V2 XR hs2 hB2 hk2))
   have fl2:=fl.other RB (by decide) hk2
   exact bodyPost_ret (v:=proV Y.1 (.slice A9 Y.2.length c9)) (results_cell_row Try.results38 _ V2 (w.heap.size+1+1) 79 (proL Y.1 (.slice A9 Y.2.length c9)).toArray (0,0) _ (by rfl) XR Try.underlying79 (by rfl) (by kernel_rfl)) rfl ⟨Or.inl ⟨Y,_,rfl,rfl,fl2⟩,hB2 _ _ HB (by omega)⟩
set_option maxRecDepth 4000 in
set_option maxHeartbeats 4000000 in
theorem udim_rest (x:Nd) (AN:Option Addr) (nn CN:Nat) (AP:Option Addr) (np CP:Nat) (A0 A1:Option Addr) (n0 C0 n1 C1:Nat) (S:Nat→Int×Int) (hh:10≤x.k∧x.k≤14) (w:World) :
   Calls Try.prog 38 #[x.val,.slice AN nn CN,.slice AP np CP,vrV (.slice A0 n0 C0) (.slice A1 n1 C1) S] w fun r w'=>PrAns r w' (some (plE,[]))∧Below w.heap.size w w':=by
 have cE:=fun W=>uofKnown_w plE W
 have cp:=fun W=>uplain_w W
 obtain⟨n1k,n2k⟩:=hh
 show Calls Try.prog _ #[.agg #[.int .i64 x.k,.int .i64 x.a,.int .i64 x.b,.int .i64 x.n,.int .i64 x.q,.int .i64 x.p,.int .i64 x.v,.int .i64 x.d,.int .i64 (x.E 0).1,.int .i64 (x.E 0).2,.int .i64 (x.E 1).1,.int .i64 (x.E 1).2,.int .i64 (x.E 2).1,.int .i64 (x.E 2).2,.int .i64 (x.E 3).1,.int .i64 (x.E 3).2,.int .i64 (x.E 4).1,.int .i64 (x.E 4).2,.int .i64 (x.E 5).1,.int .i64 (x.E 5).2,.int .i64 (x.E 6).1,.int .i64 (x.E 6).2],_,_,.agg #[.slice A0 n0 C0,.slice A1 n1 C1,.int .i64 (S 0).1,.int .i64 (S 0).2,.int .i64 (S 1).1,.int .i64 (S 1).2,.int .i64 (S 2).1,.int .i64 (S 2).2,.int .i64 (S 3).1,.int .i64 (S 3).2,.int .i64 (S 4).1,.int .i64 (S 4).2,.int .i64 (S 5).1,.int .i64 (S 5).2,.int .i64 (S 6).1,.int .i64 (S 6).2]] w _
 obtain⟨XN,XV,RB,HB⟩:=blks3 w 54 43 79 [.int .i64 x.k,.int .i64 x.a,.int .i64 x.b,.int .i64 x.n,.int .i64 x.q,.int .i64 x.p,.int .i64 x.v,.int .i64 x.d,.int .i64 (x.E 0).1,.int .i64 (x.E 0).2,.int .i64 (x.E 1).1,.int .i64 (x.E 1).2,.int .i64 (x.E 2).1,.int .i64 (x.E 2).2,.int .i64 (x.E 3).1,.int .i64 (x.E 3).2,.int .i64 (x.E 4).1,.int .i64 (x.E 4).2,.int .i64 (x.E 5).1,.int .i64 (x.E 5).2,.int .i64 (x.E 6).1,.int .i64 (x.E 6).2] [.slice A0 n0 C0,.slice A1 n1 C1,.int .i64 (S 0).1,.int .i64 (S 0).2,.int .i64 (S 1).1,.int .i64 (S 1).2,.int .i64 (S 2).1,.int .i64 (S 2).2,.int .i64 (S 3).1,.int .i64 (S 3).2,.int .i64 (S 4).1,.int .i64 (S 4).2,.int .i64 (S 5).1,.int .i64 (S 5).2,.int .i64 (S 6).1,.int .i64 (S 6).2] [.int .i64 0,.int .i64 0,.int .i64 0,.int .i64 0,.int .i64 0,.int .i64 0,.int .i64 0,.int .i64 0,.int .i64 0,.int .i64 0,.int .i64 0,.int .i64 0,.int .i64 0,.int .i64 0,.slice none 0 0]
 go_enter Try.func38,Try.ntmps38
 go_upto_region 1 with fail
 generalize (((w.alloc (.cells #[.int .i64 x.k,.int .i64 x.a,.int .i64 x.b,.int .i64 x.n,.int .i64 x.q,.int .i64 x.p,.int .i64 x.v,.int .i64 x.d,.int .i64 (x.E 0).1,.int .i64 (x.E 0).2,.int .i64 (x.E 1).1,.int .i64 (x.E 1).2,.int .i64 (x.E 2).1,.int .i64 (x.E 2).2,.int .i64 (x.E 3).1,.int .i64 (x.E 3).2,.int .i64 (x.E 4).1,.int .i64 (x.E 4).2,.int .i64 (x.E 5).1,.int .i64 (x.E 5).2,.int .i64 (x.E 6).1,.int .i64 (x.E 6).2] 54)).alloc (.cells #[.slice A0 n0 C0,.slice A1 n1 C1,.int .i64 (S 0).1,.int .i64 (S 0).2,.int .i64 (S 1).1,.int .i64 (S 1).2,.int .i64 (S 2).1,.int .i64 (S 2).2,.int .i64 (S 3).1,.int .i64 (S 3).2,.int .i64 (S 4).1,.int .i64 (S 4).2,.int .i64 (S 5).1,.int .i64 (S 5).2,.int .i64 (S 6).1,.int .i64 (S 6).2] 43)).alloc (.cells #[.int .i64 0,.int .i64 0,.int .i64 0,.int .i64 0,.int .i64 0,.int .i64 0,.int .i64 0,.int .i64 0,.int .i64 0,.int .i64 0,.int .i64 0,.int .i64 0,.int .i64 0,.int .i64 0,.slice none 0 0] 79))=V1 at *
 obtain⟨x0,x1,x2,x3,x4,x5,x6,x7⟩:=XN.nd.cells
 have m1:(x.k==1)=false:=by simp;omega
 have m2:(x.k==2)=false:=by simp;omega
 have m15:(x.k==15)=false:=by simp;omega
 have m3:(x.k==3)=false:=by simp;omega
 have m4:(x.k==4)=false:=by simp;omega
 have m5:(x.k==5)=false:=by simp;omega
 have m6:(x.k==6)=false:=by simp;omega
 have m7:(x.k==7)=false:=by simp;omega
 have m8:(x.k==8)=false:=by simp;omega
 have m9:(x.k==9)=false:=by simp;omega
 clear n1k n2k
 go_wp2_with (first
   | (go_at_call 40;(with_reducible refine (cp _).mono ?_);rintro _ W1 ⟨rfl,hb1⟩;replace HB:=later HB hb1;replace RB:=RB.keeps hb1;clear hb1)
   | (go_at_call 63;(with_reducible refine (cE _).mono ?_);rintro _ W2 ⟨rfl,hb1⟩;replace HB:=later HB hb1;replace RB:=RB.keeps hb1;clear hb1)
   | (refine wpList_storeBig (by rfl) _ _ 79 (by rfl) (RB) (proL plE (.slice none 0 0)) (by kernel_rfl) (by rfl) (by rfl) (by rfl) (by rfl) ?_;rintro V2 XR hs2 hB2 hk2))
 have fl2:=(fSl_nil W2).other RB (by decide) hk2
 exact bodyPost_ret (v:=proV plE (.slice none 0 0)) (results_cell_row Try.results38 _ V2 (w.heap.size+1+1) 79 (proL plE (.slice none 0 0)).toArray (0,0) _ (by rfl) XR Try.underlying79 (by rfl) (by kernel_rfl)) rfl ⟨Or.inl ⟨(plE,[]),_,rfl,rfl,fl2⟩,hB2 _ _ HB (by omega)⟩
theorem pro_valU (E:Nat→Int×Int) (s:Value):(.agg #[.int .i64 (E 0).1,.int .i64 (E 0).2,.int .i64 (E 1).1,.int .i64 (E 1).2,.int .i64 (E 2).1,.int .i64 (E 2).2,.int .i64 (E 3).1,.int .i64 (E 3).2,.int .i64 (E 4).1,.int .i64 (E 4).2,.int .i64 (E 5).1,.int .i64 (E 5).2,.int .i64 (E 6).1,.int .i64 (E 6).2,s]:Value)=.agg (proL E s).toArray:=rfl
abbrev PV:=Pro×Value
def proLs:List PV→List Value
 | []=>[]
 | x :: L=>proL x.1.1 x.2++proLs L
def PvOk (w:World) (L:List PV):Prop:=∀x,x∈L→FSl w x.2 x.1.2
theorem PvOk.keep {w W:World} {L:List PV} (h:PvOk w L) (k:Below w.heap.size w W):PvOk W L:=fun x hx=>(h x hx).keep k
theorem pvOk_nil (w:World):PvOk w []:=fun x hx=>by cases hx
def RlAns (r:Ending) (w:World) (R:Option (List Pro)):Prop:=(∃(L:List PV) (A:Option Addr) (C:Nat),R=some (L.map (·.1))∧r=.returned (.slice A L.length C)∧PvOk w L∧(L≠[]→∃b,A=some ⟨b,0,none⟩∧BlkAt w b 79 (proLs L)))∨(R=none∧r=.panicked (stopP 3))
theorem rlAns_nil (w:World):RlAns (.returned (.slice none 0 0)) w (some []):=Or.inl ⟨[],none,0,rfl,rfl,pvOk_nil w,fun h=>absurd rfl h⟩
set_option maxRecDepth 4000 in
set_option maxHeartbeats 4000000 in
theorem urule_none (x:Nd) (AN:Option Addr) (nn CN:Nat) (AP:Option Addr) (np CP:Nat) (h1:x.k≠3) (h2:x.k≠4) (h3:¬(10≤x.k∧x.k≤14)) (w:World) :
   Calls Try.prog 39 #[x.val,.slice AN nn CN,.slice AP np CP] w fun r w'=>RlAns r w' (some [])∧Below w.heap.size w w':=by
 show Calls Try.prog _ #[.agg #[.int .i64 x.k,.int .i64 x.a,.int .i64 x.b,.int .i64 x.n,.int .i64 x.q,.int .i64 x.p,.int .i64 x.v,.int .i64 x.d,.int .i64 (x.E 0).1,.int .i64 (x.E 0).2,.int .i64 (x.E 1).1,.int .i64 (x.E 1).2,.int .i64 (x.E 2).1,.int .i64 (x.E 2).2,.int .i64 (x.E 3).1,.int .i64 (x.E 3).2,.int .i64 (x.E 4).1,.int .i64 (x.E 4).2,.int .i64 (x.E 5).1,.int .i64 (x.E 5).2,.int .i64 (x.E 6).1,.int .i64 (x.E 6).2],_,_] w _
 obtain⟨XN,HB⟩:=blks1 w 54 [.int .i64 x.k,.int .i64 x.a,.int .i64 x.b,.int .i64 x.n,.int .i64 x.q,.int .i64 x.p,.int .i64 x.v,.int .i64 x.d,.int .i64 (x.E 0).1,.int .i64 (x.E 0).2,.int .i64 (x.E 1).1,.int .i64 (x.E 1).2,.int .i64 (x.E 2).1,.int .i64 (x.E 2).2,.int .i64 (x.E 3).1,.int .i64 (x.E 3).2,.int .i64 (x.E 4).1,.int .i64 (x.E 4).2,.int .i64 (x.E 5).1,.int .i64 (x.E 5).2,.int .i64 (x.E 6).1,.int .i64 (x.E 6).2]
 go_enter Try.func39,Try.ntmps39
 go_upto_region 1 with fail
 generalize (w.alloc (.cells #[.int .i64 x.k,.int .i64 x.a,.int .i64 x.b,.int .i64 x.n,.int .i64 x.q,.int .i64 x.p,.int .i64 x.v,.int .i64 x.d,.int .i64 (x.E 0).1,.int .i64 (x.E 0).2,.int .i64 (x.E 1).1,.int .i64 (x.E 1).2,.int .i64 (x.E 2).1,.int .i64 (x.E 2).2,.int .i64 (x.E 3).1,.int .i64 (x.E 3).2,.int .i64 (x.E 4).1,.int .i64 (x.E 4).2,.int .i64 (x.E 5).1,.int .i64 (x.E 5).2,.int .i64 (x.E 6).1,.int .i64 (x.E 6).2] 54))=V1 at *
 obtain⟨x0,x1,x2,x3,x4,x5,x6,x7⟩:=XN.nd.cells
 have m3:(x.k==3)=false:=by simp;omega
 have m4:(x.k==4)=false:=by simp;omega
 have m10:(x.k==10)=false:=by simp;omega
 have m11:(x.k==11)=false:=by simp;omega
 have m12:(x.k==12)=false:=by simp;omega
 have m13:(x.k==13)=false:=by simp;omega
 have m14:(x.k==14)=false:=by simp;omega
 clear h1 h2 h3
 go_wp2_with fail
 go_ret
 exact⟨rlAns_nil _,HB⟩
set_option maxRecDepth 4000 in
set_option maxHeartbeats 4000000 in
theorem urule_one10 (x:Nd) (AN:Option Addr) (nn CN:Nat) (AP:Option Addr) (np CP:Nat) (hh:Hid (x.k=10)) (X:Nat→Nd) (K:Nat→Prop) (Q:Nat→Pro) (ia:Nat) (hia:Hid (x.a=(ia:Int))) (hKa:K ia) (hna:ia<np) (hia2:ia<nn) (w:World) (VN:Nds w AN nn X) (VP:PrsAt w AP K Q) :
   Calls Try.prog 39 #[x.val,.slice AN nn CN,.slice AP np CP] w fun r w'=>RlAns r w' (some (if frB (X ia) then [] else [Q ia]))∧Below w.heap.size w w':=by
 obtain⟨bn,on,eN,ln,gn⟩:=VN ia hia2
 subst eN
 obtain⟨y,hy⟩:∃y,y=X ia:=⟨_,rfl⟩
 rw [←hy] at gn ⊢
 have cf:=fun W=>uisFree_w y W
 obtain⟨R,hR⟩:∃R,Hid (some (if frB y then [] else [Q ia])=R):=⟨_,rfl⟩
 rw [hR.out]
 clear hy
 obtain⟨b,o,Aa,ca,eA,la,hca,fa,ga⟩:=VP ia hKa
 subst eA
 show Calls Try.prog _ #[.agg #[.int .i64 x.k,.int .i64 x.a,.int .i64 x.b,.int .i64 x.n,.int .i64 x.q,.int .i64 x.p,.int .i64 x.v,.int .i64 x.d,.int .i64 (x.E 0).1,.int .i64 (x.E 0).2,.int .i64 (x.E 1).1,.int .i64 (x.E 1).2,.int .i64 (x.E 2).1,.int .i64 (x.E 2).2,.int .i64 (x.E 3).1,.int .i64 (x.E 3).2,.int .i64 (x.E 4).1,.int .i64 (x.E 4).2,.int .i64 (x.E 5).1,.int .i64 (x.E 5).2,.int .i64 (x.E 6).1,.int .i64 (x.E 6).2],_,_] w _
 obtain⟨XN,HB⟩:=blks1 w 54 [.int .i64 x.k,.int .i64 x.a,.int .i64 x.b,.int .i64 x.n,.int .i64 x.q,.int .i64 x.p,.int .i64 x.v,.int .i64 x.d,.int .i64 (x.E 0).1,.int .i64 (x.E 0).2,.int .i64 (x.E 1).1,.int .i64 (x.E 1).2,.int .i64 (x.E 2).1,.int .i64 (x.E 2).2,.int .i64 (x.E 3).1,.int .i64 (x.E 3).2,.int .i64 (x.E 4).1,.int .i64 (x.E 4).2,.int .i64 (x.E 5).1,.int .i64 (x.E 5).2,.int .i64 (x.E 6).1,.int .i64 (x.E 6).2]
 go_enter Try.func39,Try.ntmps39
 go_upto_region 1 with fail
 generalize (w.alloc (.cells #[.int .i64 x.k,.int .i64 x.a,.int .i64 x.b,.int .i64 x.n,.int .i64 x.q,.int .i64 x.p,.int .i64 x.v,.int .i64 x.d,.int .i64 (x.E 0).1,.int .i64 (x.E 0).2,.int .i64 (x.E 1).1,.int .i64 (x.E 1).2,.int .i64 (x.E 2).1,.int .i64 (x.E 2).2,.int .i64 (x.E 3).1,.int .i64 (x.E 3).2,.int .i64 (x.E 4).1,.int .i64 (x.E 4).2,.int .i64 (x.E 5).1,.int .i64 (x.E 5).2,.int .i64 (x.E 6).1,.int .i64 (x.E 6).2] 54))=V1 at *
 obtain⟨x0,x1,x2,x3,x4,x5,x6,x7⟩:=XN.nd.cells
 rw [hh.out] at x0
 have ga1:∀j u,(proL (Q ia).1 (.slice Aa (Q ia).2.length ca))[j]?=some u→V1.cell? ⟨b,o+ia*15+j,none⟩=some u:=fun j u hj=>keepsC HB (ga j u hj) la
 have la1:b<V1.heap.size:=Nat.lt_of_lt_of_le la HB.size
 rw [hia.out] at x1
 have hna2:(ia:Int)<(np:Int):=by omega
 have hia3:(ia:Int)<(nn:Int):=by omega
 have gn1:∀j u,(ndL y)[j]?=some u→V1.cell? ⟨bn,on+ia*22+j,none⟩=some u:=fun j u hj=>keepsC HB (gn j u hj) ln
 cases hf:frB y with
 | true =>
   have eR:R=some []:=by have q:=hR.out;rw [hf] at q;exact q.symm
   subst eR
   rw [hf] at cf
   clear hf hR
   go_wp2_with (first
     | (refine wpList_loadBig (by rfl) _ 54 (by rfl) Try.underlying54 (ndL y) (by kernel_rfl) (by rfl) (gn1) (nd_val y) ?_)
     | (go_at_call 65;(with_reducible refine (cf _).mono ?_);rintro _ W2 ⟨rfl,hb1⟩;replace HB:=later HB hb1;replace XN:=XN.keeps hb1;clear hb1 x0 x1 x2 x3 x4 x5 x6 x7;obtain⟨x0,x1,x2,x3,x4,x5,x6,x7⟩:=XN.nd.cells;rw [hia.out] at x1))
   go_ret
   exact⟨rlAns_nil _,HB⟩
 | false =>
   have eR:R=some [Q ia]:=by have q:=hR.out;rw [hf] at q;exact q.symm
   subst eR
   rw [hf] at cf
   clear hf hR
   go_wp2_with (first
     | (refine wpList_loadBig (by rfl) _ 54 (by rfl) Try.underlying54 (ndL y) (by kernel_rfl) (by rfl) (gn1) (nd_val y) ?_)
     | (go_at_call 65;(with_reducible refine (cf _).mono ?_);rintro _ W2 ⟨rfl,hb1⟩;replace HB:=later HB hb1;replace XN:=XN.keeps hb1;clear hb1 x0 x1 x2 x3 x4 x5 x6 x7;obtain⟨x0,x1,x2,x3,x4,x5,x6,x7⟩:=XN.nd.cells;rw [hia.out] at x1)
     | (refine wpList_loadBig (by rfl) _ 79 (by rfl) Try.underlying79 (proL (Q ia).1 (.slice Aa (Q ia).2.length ca)) (by kernel_rfl) (by rfl) (fun j u hj=>keepsC HB (ga j u hj) la) (pro_valU (Q ia).1 (.slice Aa (Q ia).2.length ca)) ?_))
   go_ret
   have fl:=FSl.keep (FSl.keep (show FSl w (.slice Aa (Q ia).2.length ca) (Q ia).2 from ⟨Aa,ca,rfl,hca,fa⟩) HB) (Below.alloc (Below.refl _ _) (Nat.le_refl _) (.cells (proL (Q ia).1 (.slice Aa (Q ia).2.length ca)).toArray 79))
   refine⟨Or.inl ⟨[(Q ia,.slice Aa (Q ia).2.length ca)],_,_,rfl,rfl,fun y hy=>?_,fun _=>⟨_,rfl, ?_⟩⟩,Below.alloc HB HB.size _⟩
   · rw [List.mem_singleton.1 hy];exact fl
   · exact blk_new _ _ _
set_option maxRecDepth 4000 in
set_option maxHeartbeats 4000000 in
theorem urule_one11 (x:Nd) (AN:Option Addr) (nn CN:Nat) (AP:Option Addr) (np CP:Nat) (hh:Hid (x.k=11)) (X:Nat→Nd) (K:Nat→Prop) (Q:Nat→Pro) (ia:Nat) (hia:Hid (x.a=(ia:Int))) (hKa:K ia) (hna:ia<np) (hia2:ia<nn) (w:World) (VN:Nds w AN nn X) (VP:PrsAt w AP K Q) :
   Calls Try.prog 39 #[x.val,.slice AN nn CN,.slice AP np CP] w fun r w'=>RlAns r w' (some (if frB (X ia) then [] else [Q ia]))∧Below w.heap.size w w':=by
 obtain⟨bn,on,eN,ln,gn⟩:=VN ia hia2
 subst eN
 obtain⟨y,hy⟩:∃y,y=X ia:=⟨_,rfl⟩
 rw [←hy] at gn ⊢
 have cf:=fun W=>uisFree_w y W
 obtain⟨R,hR⟩:∃R,Hid (some (if frB y then [] else [Q ia])=R):=⟨_,rfl⟩
 rw [hR.out]
 clear hy
 obtain⟨b,o,Aa,ca,eA,la,hca,fa,ga⟩:=VP ia hKa
 subst eA
 show Calls Try.prog _ #[.agg #[.int .i64 x.k,.int .i64 x.a,.int .i64 x.b,.int .i64 x.n,.int .i64 x.q,.int .i64 x.p,.int .i64 x.v,.int .i64 x.d,.int .i64 (x.E 0).1,.int .i64 (x.E 0).2,.int .i64 (x.E 1).1,.int .i64 (x.E 1).2,.int .i64 (x.E 2).1,.int .i64 (x.E 2).2,.int .i64 (x.E 3).1,.int .i64 (x.E 3).2,.int .i64 (x.E 4).1,.int .i64 (x.E 4).2,.int .i64 (x.E 5).1,.int .i64 (x.E 5).2,.int .i64 (x.E 6).1,.int .i64 (x.E 6).2],_,_] w _
 obtain⟨XN,HB⟩:=blks1 w 54 [.int .i64 x.k,.int .i64 x.a,.int .i64 x.b,.int .i64 x.n,.int .i64 x.q,.int .i64 x.p,.int .i64 x.v,.int .i64 x.d,.int .i64 (x.E 0).1,.int .i64 (x.E 0).2,.int .i64 (x.E 1).1,.int .i64 (x.E 1).2,.int .i64 (x.E 2).1,.int .i64 (x.E 2).2,.int .i64 (x.E 3).1,.int .i64 (x.E 3).2,.int .i64 (x.E 4).1,.int .i64 (x.E 4).2,.int .i64 (x.E 5).1,.int .i64 (x.E 5).2,.int .i64 (x.E 6).1,.int .i64 (x.E 6).2]
 go_enter Try.func39,Try.ntmps39
 go_upto_region 1 with fail
 generalize (w.alloc (.cells #[.int .i64 x.k,.int .i64 x.a,.int .i64 x.b,.int .i64 x.n,.int .i64 x.q,.int .i64 x.p,.int .i64 x.v,.int .i64 x.d,.int .i64 (x.E 0).1,.int .i64 (x.E 0).2,.int .i64 (x.E 1).1,.int .i64 (x.E 1).2,.int .i64 (x.E 2).1,.int .i64 (x.E 2).2,.int .i64 (x.E 3).1,.int .i64 (x.E 3).2,.int .i64 (x.E 4).1,.int .i64 (x.E 4).2,.int .i64 (x.E 5).1,.int .i64 (x.E 5).2,.int .i64 (x.E 6).1,.int .i64 (x.E 6).2] 54))=V1 at *
 obtain⟨x0,x1,x2,x3,x4,x5,x6,x7⟩:=XN.nd.cells
 rw [hh.out] at x0
 have ga1:∀j u,(proL (Q ia).1 (.slice Aa (Q ia).2.length ca))[j]?=some u→V1.cell? ⟨b,o+ia*15+j,none⟩=some u:=fun j u hj=>keepsC HB (ga j u hj) la
 have la1:b<V1.heap.size:=Nat.lt_of_lt_of_le la HB.size
 rw [hia.out] at x1
 have hna2:(ia:Int)<(np:Int):=by omega
 have hia3:(ia:Int)<(nn:Int):=by omega
 have gn1:∀j u,(ndL y)[j]?=some u→V1.cell? ⟨bn,on+ia*22+j,none⟩=some u:=fun j u hj=>keepsC HB (gn j u hj) ln
 cases hf:frB y with
 | true =>
   have eR:R=some []:=by have q:=hR.out;rw [hf] at q;exact q.symm
   subst eR
   rw [hf] at cf
   clear hf hR
   go_wp2_with (first
     | (refine wpList_loadBig (by rfl) _ 54 (by rfl) Try.underlying54 (ndL y) (by kernel_rfl) (by rfl) (gn1) (nd_val y) ?_)
     | (go_at_call 65;(with_reducible refine (cf _).mono ?_);rintro _ W2 ⟨rfl,hb1⟩;replace HB:=later HB hb1;replace XN:=XN.keeps hb1;clear hb1 x0 x1 x2 x3 x4 x5 x6 x7;obtain⟨x0,x1,x2,x3,x4,x5,x6,x7⟩:=XN.nd.cells;rw [hia.out] at x1))
   go_ret
   exact⟨rlAns_nil _,HB⟩
 | false =>
   have eR:R=some [Q ia]:=by have q:=hR.out;rw [hf] at q;exact q.symm
   subst eR
   rw [hf] at cf
   clear hf hR
   go_wp2_with (first
     | (refine wpList_loadBig (by rfl) _ 54 (by rfl) Try.underlying54 (ndL y) (by kernel_rfl) (by rfl) (gn1) (nd_val y) ?_)
     | (go_at_call 65;(with_reducible refine (cf _).mono ?_);rintro _ W2 ⟨rfl,hb1⟩;replace HB:=later HB hb1;replace XN:=XN.keeps hb1;clear hb1 x0 x1 x2 x3 x4 x5 x6 x7;obtain⟨x0,x1,x2,x3,x4,x5,x6,x7⟩:=XN.nd.cells;rw [hia.out] at x1)
     | (refine wpList_loadBig (by rfl) _ 79 (by rfl) Try.underlying79 (proL (Q ia).1 (.slice Aa (Q ia).2.length ca)) (by kernel_rfl) (by rfl) (fun j u hj=>keepsC HB (ga j u hj) la) (pro_valU (Q ia).1 (.slice Aa (Q ia).2.length ca)) ?_))
   go_ret
   have fl:=FSl.keep (FSl.keep (show FSl w (.slice Aa (Q ia).2.length ca) (Q ia).2 from ⟨Aa,ca,rfl,hca,fa⟩) HB) (Below.alloc (Below.refl _ _) (Nat.le_refl _) (.cells (proL (Q ia).1 (.slice Aa (Q ia).2.length ca)).toArray 79))
   refine⟨Or.inl ⟨[(Q ia,.slice Aa (Q ia).2.length ca)],_,_,rfl,rfl,fun y hy=>?_,fun _=>⟨_,rfl, ?_⟩⟩,Below.alloc HB HB.size _⟩
   · rw [List.mem_singleton.1 hy];exact fl
   · exact blk_new _ _ _
set_option maxRecDepth 4000 in
set_option maxHeartbeats 4000000 in
theorem urule_one12 (x:Nd) (AN:Option Addr) (nn CN:Nat) (AP:Option Addr) (np CP:Nat) (hh:Hid (x.k=12)) (X:Nat→Nd) (K:Nat→Prop) (Q:Nat→Pro) (ia:Nat) (hia:Hid (x.a=(ia:Int))) (hKa:K ia) (hna:ia<np) (hia2:ia<nn) (w:World) (VN:Nds w AN nn X) (VP:PrsAt w AP K Q) :
   Calls Try.prog 39 #[x.val,.slice AN nn CN,.slice AP np CP] w fun r w'=>RlAns r w' (some (if frB (X ia) then [] else [Q ia]))∧Below w.heap.size w w':=by
 obtain⟨bn,on,eN,ln,gn⟩:=VN ia hia2
 subst eN
 obtain⟨y,hy⟩:∃y,y=X ia:=⟨_,rfl⟩
 rw [←hy] at gn ⊢
 have cf:=fun W=>uisFree_w y W
 obtain⟨R,hR⟩:∃R,Hid (some (if frB y then [] else [Q ia])=R):=⟨_,rfl⟩
 rw [hR.out]
 clear hy
 obtain⟨b,o,Aa,ca,eA,la,hca,fa,ga⟩:=VP ia hKa
 subst eA
 show Calls Try.prog _ #[.agg #[.int .i64 x.k,.int .i64 x.a,.int .i64 x.b,.int .i64 x.n,.int .i64 x.q,.int .i64 x.p,.int .i64 x.v,.int .i64 x.d,.int .i64 (x.E 0).1,.int .i64 (x.E 0).2,.int .i64 (x.E 1).1,.int .i64 (x.E 1).2,.int .i64 (x.E 2).1,.int .i64 (x.E 2).2,.int .i64 (x.E 3).1,.int .i64 (x.E 3).2,.int .i64 (x.E 4).1,.int .i64 (x.E 4).2,.int .i64 (x.E 5).1,.int .i64 (x.E 5).2,.int .i64 (x.E 6).1,.int .i64 (x.E 6).2],_,_] w _
 obtain⟨XN,HB⟩:=blks1 w 54 [.int .i64 x.k,.int .i64 x.a,.int .i64 x.b,.int .i64 x.n,.int .i64 x.q,.int .i64 x.p,.int .i64 x.v,.int .i64 x.d,.int .i64 (x.E 0).1,.int .i64 (x.E 0).2,.int .i64 (x.E 1).1,.int .i64 (x.E 1).2,.int .i64 (x.E 2).1,.int .i64 (x.E 2).2,.int .i64 (x.E 3).1,.int .i64 (x.E 3).2,.int .i64 (x.E 4).1,.int .i64 (x.E 4).2,.int .i64 (x.E 5).1,.int .i64 (x.E 5).2,.int .i64 (x.E 6).1,.int .i64 (x.E 6).2]
 go_enter Try.func39,Try.ntmps39
 go_upto_region 1 with fail
 generalize (w.alloc (.cells #[.int .i64 x.k,.int .i64 x.a,.int .i64 x.b,.int .i64 x.n,.int .i64 x.q,.int .i64 x.p,.int .i64 x.v,.int .i64 x.d,.int .i64 (x.E 0).1,.int .i64 (x.E 0).2,.int .i64 (x.E 1).1,.int .i64 (x.E 1).2,.int .i64 (x.E 2).1,.int .i64 (x.E 2).2,.int .i64 (x.E 3).1,.int .i64 (x.E 3).2,.int .i64 (x.E 4).1,.int .i64 (x.E 4).2,.int .i64 (x.E 5).1,.int .i64 (x.E 5).2,.int .i64 (x.E 6).1,.int .i64 (x.E 6).2] 54))=V1 at *
 obtain⟨x0,x1,x2,x3,x4,x5,x6,x7⟩:=XN.nd.cells
 rw [hh.out] at x0
 have ga1:∀j u,(proL (Q ia).1 (.slice Aa (Q ia).2.length ca))[j]?=some u→V1.cell? ⟨b,o+ia*15+j,none⟩=some u:=fun j u hj=>keepsC HB (ga j u hj) la
 have la1:b<V1.heap.size:=Nat.lt_of_lt_of_le la HB.size
 rw [hia.out] at x1
 have hna2:(ia:Int)<(np:Int):=by omega
 have hia3:(ia:Int)<(nn:Int):=by omega
 have gn1:∀j u,(ndL y)[j]?=some u→V1.cell? ⟨bn,on+ia*22+j,none⟩=some u:=fun j u hj=>keepsC HB (gn j u hj) ln
 cases hf:frB y with
 | true =>
   have eR:R=some []:=by have q:=hR.out;rw [hf] at q;exact q.symm
   subst eR
   rw [hf] at cf
   clear hf hR
   go_wp2_with (first
     | (refine wpList_loadBig (by rfl) _ 54 (by rfl) Try.underlying54 (ndL y) (by kernel_rfl) (by rfl) (gn1) (nd_val y) ?_)
     | (go_at_call 65;(with_reducible refine (cf _).mono ?_);rintro _ W2 ⟨rfl,hb1⟩;replace HB:=later HB hb1;replace XN:=XN.keeps hb1;clear hb1 x0 x1 x2 x3 x4 x5 x6 x7;obtain⟨x0,x1,x2,x3,x4,x5,x6,x7⟩:=XN.nd.cells;rw [hia.out] at x1))
   go_ret
   exact⟨rlAns_nil _,HB⟩
 | false =>
   have eR:R=some [Q ia]:=by have q:=hR.out;rw [hf] at q;exact q.symm
   subst eR
   rw [hf] at cf
   clear hf hR
   go_wp2_with (first
     | (refine wpList_loadBig (by rfl) _ 54 (by rfl) Try.underlying54 (ndL y) (by kernel_rfl) (by rfl) (gn1) (nd_val y) ?_)
     | (go_at_call 65;(with_reducible refine (cf _).mono ?_);rintro _ W2 ⟨rfl,hb1⟩;replace HB:=later HB hb1;replace XN:=XN.keeps hb1;clear hb1 x0 x1 x2 x3 x4 x5 x6 x7;obtain⟨x0,x1,x2,x3,x4,x5,x6,x7⟩:=XN.nd.cells;rw [hia.out] at x1)
     | (refine wpList_loadBig (by rfl) _ 79 (by rfl) Try.underlying79 (proL (Q ia).1 (.slice Aa (Q ia).2.length ca)) (by kernel_rfl) (by rfl) (fun j u hj=>keepsC HB (ga j u hj) la) (pro_valU (Q ia).1 (.slice Aa (Q ia).2.length ca)) ?_))
   go_ret
   have fl:=FSl.keep (FSl.keep (show FSl w (.slice Aa (Q ia).2.length ca) (Q ia).2 from ⟨Aa,ca,rfl,hca,fa⟩) HB) (Below.alloc (Below.refl _ _) (Nat.le_refl _) (.cells (proL (Q ia).1 (.slice Aa (Q ia).2.length ca)).toArray 79))
   refine⟨Or.inl ⟨[(Q ia,.slice Aa (Q ia).2.length ca)],_,_,rfl,rfl,fun y hy=>?_,fun _=>⟨_,rfl, ?_⟩⟩,Below.alloc HB HB.size _⟩
   · rw [List.mem_singleton.1 hy];exact fl
   · exact blk_new _ _ _
set_option maxRecDepth 4000 in
set_option maxHeartbeats 4000000 in
theorem urule_one13 (x:Nd) (AN:Option Addr) (nn CN:Nat) (AP:Option Addr) (np CP:Nat) (hh:Hid (x.k=13)) (X:Nat→Nd) (K:Nat→Prop) (Q:Nat→Pro) (ia:Nat) (hia:Hid (x.a=(ia:Int))) (hKa:K ia) (hna:ia<np) (hia2:ia<nn) (w:World) (VN:Nds w AN nn X) (VP:PrsAt w AP K Q) :
   Calls Try.prog 39 #[x.val,.slice AN nn CN,.slice AP np CP] w fun r w'=>RlAns r w' (some (if frB (X ia) then [] else [Q ia]))∧Below w.heap.size w w':=by
 obtain⟨bn,on,eN,ln,gn⟩:=VN ia hia2
 subst eN
 obtain⟨y,hy⟩:∃y,y=X ia:=⟨_,rfl⟩
 rw [←hy] at gn ⊢
 have cf:=fun W=>uisFree_w y W
 obtain⟨R,hR⟩:∃R,Hid (some (if frB y then [] else [Q ia])=R):=⟨_,rfl⟩
 rw [hR.out]
 clear hy
 obtain⟨b,o,Aa,ca,eA,la,hca,fa,ga⟩:=VP ia hKa
 subst eA
 show Calls Try.prog _ #[.agg #[.int .i64 x.k,.int .i64 x.a,.int .i64 x.b,.int .i64 x.n,.int .i64 x.q,.int .i64 x.p,.int .i64 x.v,.int .i64 x.d,.int .i64 (x.E 0).1,.int .i64 (x.E 0).2,.int .i64 (x.E 1).1,.int .i64 (x.E 1).2,.int .i64 (x.E 2).1,.int .i64 (x.E 2).2,.int .i64 (x.E 3).1,.int .i64 (x.E 3).2,.int .i64 (x.E 4).1,.int .i64 (x.E 4).2,.int .i64 (x.E 5).1,.int .i64 (x.E 5).2,.int .i64 (x.E 6).1,.int .i64 (x.E 6).2],_,_] w _
 obtain⟨XN,HB⟩:=blks1 w 54 [.int .i64 x.k,.int .i64 x.a,.int .i64 x.b,.int .i64 x.n,.int .i64 x.q,.int .i64 x.p,.int .i64 x.v,.int .i64 x.d,.int .i64 (x.E 0).1,.int .i64 (x.E 0).2,.int .i64 (x.E 1).1,.int .i64 (x.E 1).2,.int .i64 (x.E 2).1,.int .i64 (x.E 2).2,.int .i64 (x.E 3).1,.int .i64 (x.E 3).2,.int .i64 (x.E 4).1,.int .i64 (x.E 4).2,.int .i64 (x.E 5).1,.int .i64 (x.E 5).2,.int .i64 (x.E 6).1,.int .i64 (x.E 6).2]
 go_enter Try.func39,Try.ntmps39
 go_upto_region 1 with fail
 generalize (w.alloc (.cells #[.int .i64 x.k,.int .i64 x.a,.int .i64 x.b,.int .i64 x.n,.int .i64 x.q,.int .i64 x.p,.int .i64 x.v,.int .i64 x.d,.int .i64 (x.E 0).1,.int .i64 (x.E 0).2,.int .i64 (x.E 1).1,.int .i64 (x.E 1).2,.int .i64 (x.E 2).1,.int .i64 (x.E 2).2,.int .i64 (x.E 3).1,.int .i64 (x.E 3).2,.int .i64 (x.E 4).1,.int .i64 (x.E 4).2,.int .i64 (x.E 5).1,.int .i64 (x.E 5).2,.int .i64 (x.E 6).1,.int .i64 (x.E 6).2] 54))=V1 at *
 obtain⟨x0,x1,x2,x3,x4,x5,x6,x7⟩:=XN.nd.cells
 rw [hh.out] at x0
 have ga1:∀j u,(proL (Q ia).1 (.slice Aa (Q ia).2.length ca))[j]?=some u→V1.cell? ⟨b,o+ia*15+j,none⟩=some u:=fun j u hj=>keepsC HB (ga j u hj) la
 have la1:b<V1.heap.size:=Nat.lt_of_lt_of_le la HB.size
 rw [hia.out] at x1
 have hna2:(ia:Int)<(np:Int):=by omega
 have hia3:(ia:Int)<(nn:Int):=by omega
 have gn1:∀j u,(ndL y)[j]?=some u→V1.cell? ⟨bn,on+ia*22+j,none⟩=some u:=fun j u hj=>keepsC HB (gn j u hj) ln
 cases hf:frB y with
 | true =>
   have eR:R=some []:=by have q:=hR.out;rw [hf] at q;exact q.symm
   subst eR
   rw [hf] at cf
   clear hf hR
   go_wp2_with (first
     | (refine wpList_loadBig (by rfl) _ 54 (by rfl) Try.underlying54 (ndL y) (by kernel_rfl) (by rfl) (gn1) (nd_val y) ?_)
     | (go_at_call 65;(with_reducible refine (cf _).mono ?_);rintro _ W2 ⟨rfl,hb1⟩;replace HB:=later HB hb1;replace XN:=XN.keeps hb1;clear hb1 x0 x1 x2 x3 x4 x5 x6 x7;obtain⟨x0,x1,x2,x3,x4,x5,x6,x7⟩:=XN.nd.cells;rw [hia.out] at x1))
   go_ret
   exact⟨rlAns_nil _,HB⟩
 | false =>
   have eR:R=some [Q ia]:=by have q:=hR.out;rw [hf] at q;exact q.symm
   subst eR
   rw [hf] at cf
   clear hf hR
   go_wp2_with (first
     | (refine wpList_loadBig (by rfl) _ 54 (by rfl) Try.underlying54 (ndL y) (by kernel_rfl) (by rfl) (gn1) (nd_val y) ?_)
     | (go_at_call 65;(with_reducible refine (cf _).mono ?_);rintro _ W2 ⟨rfl,hb1⟩;replace HB:=later HB hb1;replace XN:=XN.keeps hb1;clear hb1 x0 x1 x2 x3 x4 x5 x6 x7;obtain⟨x0,x1,x2,x3,x4,x5,x6,x7⟩:=XN.nd.cells;rw [hia.out] at x1)
     | (refine wpList_loadBig (by rfl) _ 79 (by rfl) Try.underlying79 (proL (Q ia).1 (.slice Aa (Q ia).2.length ca)) (by kernel_rfl) (by rfl) (fun j u hj=>keepsC HB (ga j u hj) la) (pro_valU (Q ia).1 (.slice Aa (Q ia).2.length ca)) ?_))
   go_ret
   have fl:=FSl.keep (FSl.keep (show FSl w (.slice Aa (Q ia).2.length ca) (Q ia).2 from ⟨Aa,ca,rfl,hca,fa⟩) HB) (Below.alloc (Below.refl _ _) (Nat.le_refl _) (.cells (proL (Q ia).1 (.slice Aa (Q ia).2.length ca)).toArray 79))
   refine⟨Or.inl ⟨[(Q ia,.slice Aa (Q ia).2.length ca)],_,_,rfl,rfl,fun y hy=>?_,fun _=>⟨_,rfl, ?_⟩⟩,Below.alloc HB HB.size _⟩
   · rw [List.mem_singleton.1 hy];exact fl
   · exact blk_new _ _ _
set_option maxRecDepth 4000 in
set_option maxHeartbeats 4000000 in
theorem urule_one14 (x:Nd) (AN:Option Addr) (nn CN:Nat) (AP:Option Addr) (np CP:Nat) (hh:Hid (x.k=14)) (X:Nat→Nd) (K:Nat→Prop) (Q:Nat→Pro) (ia:Nat) (hia:Hid (x.a=(ia:Int))) (hKa:K ia) (hna:ia<np) (hia2:ia<nn) (w:World) (VN:Nds w AN nn X) (VP:PrsAt w AP K Q) :
   Calls Try.prog 39 #[x.val,.slice AN nn CN,.slice AP np CP] w fun r w'=>RlAns r w' (some (if frB (X ia) then [] else [Q ia]))∧Below w.heap.size w w':=by
 obtain⟨bn,on,eN,ln,gn⟩:=VN ia hia2
 subst eN
 obtain⟨y,hy⟩:∃y,y=X ia:=⟨_,rfl⟩
 rw [←hy] at gn ⊢
 have cf:=fun W=>uisFree_w y W
 obtain⟨R,hR⟩:∃R,Hid (some (if frB y then [] else [Q ia])=R):=⟨_,rfl⟩
 rw [hR.out]
 clear hy
 obtain⟨b,o,Aa,ca,eA,la,hca,fa,ga⟩:=VP ia hKa
 subst eA
 show Calls Try.prog _ #[.agg #[.int .i64 x.k,.int .i64 x.a,.int .i64 x.b,.int .i64 x.n,.int .i64 x.q,.int .i64 x.p,.int .i64 x.v,.int .i64 x.d,.int .i64 (x.E 0).1,.int .i64 (x.E 0).2,.int .i64 (x.E 1).1,.int .i64 (x.E 1).2,.int .i64 (x.E 2).1,.int .i64 (x.E 2).2,.int .i64 (x.E 3).1,.int .i64 (x.E 3).2,.int .i64 (x.E 4).1,.int .i64 (x.E 4).2,.int .i64 (x.E 5).1,.int .i64 (x.E 5).2,.int .i64 (x.E 6).1,.int .i64 (x.E 6).2],_,_] w _
 obtain⟨XN,HB⟩:=blks1 w 54 [.int .i64 x.k,.int .i64 x.a,.int .i64 x.b,.int .i64 x.n,.int .i64 x.q,.int .i64 x.p,.int .i64 x.v,.int .i64 x.d,.int .i64 (x.E 0).1,.int .i64 (x.E 0).2,.int .i64 (x.E 1).1,.int .i64 (x.E 1).2,.int .i64 (x.E 2).1,.int .i64 (x.E 2).2,.int .i64 (x.E 3).1,.int .i64 (x.E 3).2,.int .i64 (x.E 4).1,.int .i64 (x.E 4).2,.int .i64 (x.E 5).1,.int .i64 (x.E 5).2,.int .i64 (x.E 6).1,.int .i64 (x.E 6).2]
 go_enter Try.func39,Try.ntmps39
 go_upto_region 1 with fail
 generalize (w.alloc (.cells #[.int .i64 x.k,.int .i64 x.a,.int .i64 x.b,.int .i64 x.n,.int .i64 x.q,.int .i64 x.p,.int .i64 x.v,.int .i64 x.d,.int .i64 (x.E 0).1,.int .i64 (x.E 0).2,.int .i64 (x.E 1).1,.int .i64 (x.E 1).2,.int .i64 (x.E 2).1,.int .i64 (x.E 2).2,.int .i64 (x.E 3).1,.int .i64 (x.E 3).2,.int .i64 (x.E 4).1,.int .i64 (x.E 4).2,.int .i64 (x.E 5).1,.int .i64 (x.E 5).2,.int .i64 (x.E 6).1,.int .i64 (x.E 6).2] 54))=V1 at *
 obtain⟨x0,x1,x2,x3,x4,x5,x6,x7⟩:=XN.nd.cells
 rw [hh.out] at x0
 have ga1:∀j u,(proL (Q ia).1 (.slice Aa (Q ia).2.length ca))[j]?=some u→V1.cell? ⟨b,o+ia*15+j,none⟩=some u:=fun j u hj=>keepsC HB (ga j u hj) la
 have la1:b<V1.heap.size:=Nat.lt_of_lt_of_le la HB.size
 rw [hia.out] at x1
 have hna2:(ia:Int)<(np:Int):=by omega
 have hia3:(ia:Int)<(nn:Int):=by omega
 have gn1:∀j u,(ndL y)[j]?=some u→V1.cell? ⟨bn,on+ia*22+j,none⟩=some u:=fun j u hj=>keepsC HB (gn j u hj) ln
 cases hf:frB y with
 | true =>
   have eR:R=some []:=by have q:=hR.out;rw [hf] at q;exact q.symm
   subst eR
   rw [hf] at cf
   clear hf hR
   go_wp2_with (first
     | (refine wpList_loadBig (by rfl) _ 54 (by rfl) Try.underlying54 (ndL y) (by kernel_rfl) (by rfl) (gn1) (nd_val y) ?_)
     | (go_at_call 65;(with_reducible refine (cf _).mono ?_);rintro _ W2 ⟨rfl,hb1⟩;replace HB:=later HB hb1;replace XN:=XN.keeps hb1;clear hb1 x0 x1 x2 x3 x4 x5 x6 x7;obtain⟨x0,x1,x2,x3,x4,x5,x6,x7⟩:=XN.nd.cells;rw [hia.out] at x1))
   go_ret
   exact⟨rlAns_nil _,HB⟩
 | false =>
   have eR:R=some [Q ia]:=by have q:=hR.out;rw [hf] at q;exact q.symm
   subst eR
   rw [hf] at cf
   clear hf hR
   go_wp2_with (first
     | (refine wpList_loadBig (by rfl) _ 54 (by rfl) Try.underlying54 (ndL y) (by kernel_rfl) (by rfl) (gn1) (nd_val y) ?_)
     | (go_at_call 65;(with_reducible refine (cf _).mono ?_);rintro _ W2 ⟨rfl,hb1⟩;replace HB:=later HB hb1;replace XN:=XN.keeps hb1;clear hb1 x0 x1 x2 x3 x4 x5 x6 x7;obtain⟨x0,x1,x2,x3,x4,x5,x6,x7⟩:=XN.nd.cells;rw [hia.out] at x1)
     | (refine wpList_loadBig (by rfl) _ 79 (by rfl) Try.underlying79 (proL (Q ia).1 (.slice Aa (Q ia).2.length ca)) (by kernel_rfl) (by rfl) (fun j u hj=>keepsC HB (ga j u hj) la) (pro_valU (Q ia).1 (.slice Aa (Q ia).2.length ca)) ?_))
   go_ret
   have fl:=FSl.keep (FSl.keep (show FSl w (.slice Aa (Q ia).2.length ca) (Q ia).2 from ⟨Aa,ca,rfl,hca,fa⟩) HB) (Below.alloc (Below.refl _ _) (Nat.le_refl _) (.cells (proL (Q ia).1 (.slice Aa (Q ia).2.length ca)).toArray 79))
   refine⟨Or.inl ⟨[(Q ia,.slice Aa (Q ia).2.length ca)],_,_,rfl,rfl,fun y hy=>?_,fun _=>⟨_,rfl, ?_⟩⟩,Below.alloc HB HB.size _⟩
   · rw [List.mem_singleton.1 hy];exact fl
   · exact blk_new _ _ _
set_option maxRecDepth 4000 in
set_option maxHeartbeats 4000000 in
theorem urule_add (x:Nd) (AN:Option Addr) (nn CN:Nat) (AP:Option Addr) (np CP:Nat) (hh:Hid (x.k=3)) (X:Nat→Nd) (K:Nat→Prop) (Q:Nat→Pro) (ia:Nat) (hia:Hid (x.a=(ia:Int))) (hKa:K ia) (hna:ia<np) (ib:Nat) (hib:Hid (x.b=(ib:Int))) (hKb:K ib) (hnb:ib<np) (hia2:ia<nn) (hib2:ib<nn) (V:Int) (hV:0≤V∧V≤500) (pa:POk V (Q ia)) (pb:POk V (Q ib)) (w:World) (VN:Nds w AN nn X) (VP:PrsAt w AP K Q) :
   Calls Try.prog 39 #[x.val,.slice AN nn CN,.slice AP np CP] w fun r w'=>RlAns r w' (if frB (X ia) then some [] else if frB (X ib) then some [] else (timesP (Q ia) (Q ib) (-1,1)).map fun Y=>[Y])∧Below w.heap.size w w':=by
 obtain⟨bn,on,eN,ln,gn⟩:=VN ia hia2
 subst eN
 have gm:=(VN.at hib2).2
 obtain⟨y,hy⟩:∃y,y=X ia:=⟨_,rfl⟩
 obtain⟨z,hz⟩:∃z,z=X ib:=⟨_,rfl⟩
 rw [←hy] at gn ⊢
 rw [←hz] at gm ⊢
 have cf:=fun W=>uisFree_w y W
 have cg:=fun W=>uisFree_w z W
 have hl1:=pa.s.length hV.1
 have hl2:=pb.s.length hV.1
 have cw:=fun W=>uwhole_w (-1) W
 obtain⟨b,o,Aa,ca,eA,la,hca,fa,ga⟩:=VP ia hKa
 subst eA
 obtain⟨Ab,cb,lb,hcb,fb,gb⟩:=VP.at hKb
 have ct:=fun W f1 f2=>uptimes_w (Q ia).1 (Q ib).1 (Q ia).2 (Q ib).2 (.slice Aa (Q ia).2.length ca) (.slice Ab (Q ib).2.length cb) (-1,1) pa.d pb.d pa.r pb.r (rok_one (by constructor <;> decide) (by decide)) pa.f pb.f (by omega) W f1 f2
 obtain⟨T,hT⟩:∃T,Hid (timesP (Q ia) (Q ib) (-1,1)=T):=⟨_,rfl⟩
 have hT2:=hT.out
 rw [hT2] at ct ⊢
 have f1:=(show FSl w (.slice Aa (Q ia).2.length ca) (Q ia).2 from ⟨Aa,ca,rfl,hca,fa⟩)
 have f2:=(show FSl w (.slice Ab (Q ib).2.length cb) (Q ib).2 from ⟨Ab,cb,rfl,hcb,fb⟩)
 obtain⟨R,hR⟩:∃R,Hid ((if frB y then some [] else if frB z then some [] else T.map fun Y=>[Y])=R):=⟨_,rfl⟩
 rw [hR.out]
 clear pa pb hl1 hl2 hT hT2 hV hy hz
 show Calls Try.prog _ #[.agg #[.int .i64 x.k,.int .i64 x.a,.int .i64 x.b,.int .i64 x.n,.int .i64 x.q,.int .i64 x.p,.int .i64 x.v,.int .i64 x.d,.int .i64 (x.E 0).1,.int .i64 (x.E 0).2,.int .i64 (x.E 1).1,.int .i64 (x.E 1).2,.int .i64 (x.E 2).1,.int .i64 (x.E 2).2,.int .i64 (x.E 3).1,.int .i64 (x.E 3).2,.int .i64 (x.E 4).1,.int .i64 (x.E 4).2,.int .i64 (x.E 5).1,.int .i64 (x.E 5).2,.int .i64 (x.E 6).1,.int .i64 (x.E 6).2],_,_] w _
 obtain⟨XN,HB⟩:=blks1 w 54 [.int .i64 x.k,.int .i64 x.a,.int .i64 x.b,.int .i64 x.n,.int .i64 x.q,.int .i64 x.p,.int .i64 x.v,.int .i64 x.d,.int .i64 (x.E 0).1,.int .i64 (x.E 0).2,.int .i64 (x.E 1).1,.int .i64 (x.E 1).2,.int .i64 (x.E 2).1,.int .i64 (x.E 2).2,.int .i64 (x.E 3).1,.int .i64 (x.E 3).2,.int .i64 (x.E 4).1,.int .i64 (x.E 4).2,.int .i64 (x.E 5).1,.int .i64 (x.E 5).2,.int .i64 (x.E 6).1,.int .i64 (x.E 6).2]
 go_enter Try.func39,Try.ntmps39
 go_upto_region 1 with fail
 generalize (w.alloc (.cells #[.int .i64 x.k,.int .i64 x.a,.int .i64 x.b,.int .i64 x.n,.int .i64 x.q,.int .i64 x.p,.int .i64 x.v,.int .i64 x.d,.int .i64 (x.E 0).1,.int .i64 (x.E 0).2,.int .i64 (x.E 1).1,.int .i64 (x.E 1).2,.int .i64 (x.E 2).1,.int .i64 (x.E 2).2,.int .i64 (x.E 3).1,.int .i64 (x.E 3).2,.int .i64 (x.E 4).1,.int .i64 (x.E 4).2,.int .i64 (x.E 5).1,.int .i64 (x.E 5).2,.int .i64 (x.E 6).1,.int .i64 (x.E 6).2] 54))=V1 at *
 obtain⟨x0,x1,x2,x3,x4,x5,x6,x7⟩:=XN.nd.cells
 rw [hh.out] at x0
 have ga1:∀j u,(proL (Q ia).1 (.slice Aa (Q ia).2.length ca))[j]?=some u→V1.cell? ⟨b,o+ia*15+j,none⟩=some u:=fun j u hj=>keepsC HB (ga j u hj) la
 have la1:b<V1.heap.size:=Nat.lt_of_lt_of_le la HB.size
 rw [hia.out] at x1
 have gb1:∀j u,(proL (Q ib).1 (.slice Ab (Q ib).2.length cb))[j]?=some u→V1.cell? ⟨b,o+ib*15+j,none⟩=some u:=fun j u hj=>keepsC HB (gb j u hj) la
 rw [hib.out] at x2
 have hna2:(ia:Int)<(np:Int):=by omega
 have hnb2:(ib:Int)<(np:Int):=by omega
 have hia3:(ia:Int)<(nn:Int):=by omega
 have hib3:(ib:Int)<(nn:Int):=by omega
 have gn1:∀j u,(ndL y)[j]?=some u→V1.cell? ⟨bn,on+ia*22+j,none⟩=some u:=fun j u hj=>keepsC HB (gn j u hj) ln
 have hln:bn<w.heap.size:=ln
 cases hf:frB y with
 | true =>
   have eR:R=some []:=by have q:=hR.out;rw [hf] at q;exact q.symm
   subst eR
   rw [hf] at cf
   clear hf hR
   go_wp2_with (first
     | (refine wpList_loadBig (by rfl) _ 54 (by rfl) Try.underlying54 (ndL y) (by kernel_rfl) (by rfl) (gn1) (nd_val y) ?_)
     | (go_at_call 65;(with_reducible refine (cf _).mono ?_);rintro _ W2 ⟨rfl,hb1⟩;replace HB:=later HB hb1;replace XN:=XN.keeps hb1;clear hb1 x0 x1 x2 x3 x4 x5 x6 x7;obtain⟨x0,x1,x2,x3,x4,x5,x6,x7⟩:=XN.nd.cells;rw [hia.out] at x1;rw [hib.out] at x2))
   go_ret
   exact⟨rlAns_nil _,HB⟩
 | false =>
   rw [hf] at cf
   have hR2:Hid ((if frB z then some [] else T.map fun Y=>[Y])=R):=by have q:=hR.out;rw [hf] at q;exact q
   clear hf hR
   cases hg:frB z with
   | true =>
     have eR:R=some []:=by have q:=hR2.out;rw [hg] at q;exact q.symm
     subst eR
     rw [hg] at cg
     clear hg hR2
     go_wp2_with (first
       | (refine wpList_loadBig (by rfl) _ 54 (by rfl) Try.underlying54 (ndL y) (by kernel_rfl) (by rfl) (gn1) (nd_val y) ?_)
       | (refine wpList_loadBig (by rfl) _ 54 (by rfl) Try.underlying54 (ndL z) (by kernel_rfl) (by rfl) (fun j u hj=>keepsC HB (gm j u hj) ln) (nd_val z) ?_)
       | (go_at_call 65;(with_reducible refine (cf _).mono ?_);rintro _ W2 ⟨rfl,hb1⟩;replace HB:=later HB hb1;replace XN:=XN.keeps hb1;clear hb1 x0 x1 x2 x3 x4 x5 x6 x7;obtain⟨x0,x1,x2,x3,x4,x5,x6,x7⟩:=XN.nd.cells;rw [hia.out] at x1;rw [hib.out] at x2)
       | (go_at_call 65;(with_reducible refine (cg _).mono ?_);rintro _ W3 ⟨rfl,hb1⟩;replace HB:=later HB hb1;replace XN:=XN.keeps hb1;clear hb1 x0 x1 x2 x3 x4 x5 x6 x7;obtain⟨x0,x1,x2,x3,x4,x5,x6,x7⟩:=XN.nd.cells;rw [hia.out] at x1;rw [hib.out] at x2))
     go_ret
     exact⟨rlAns_nil _,HB⟩
   | false =>
     have hR3:Hid ((T.map fun Y=>[Y])=R):=by have q:=hR2.out;rw [hg] at q;exact q
     rw [hg] at cg
     clear hg hR2
     go_upto_region 5 with (first
       | (refine wpList_loadBig (by rfl) _ 54 (by rfl) Try.underlying54 (ndL y) (by kernel_rfl) (by rfl) (gn1) (nd_val y) ?_)
       | (refine wpList_loadBig (by rfl) _ 54 (by rfl) Try.underlying54 (ndL z) (by kernel_rfl) (by rfl) (fun j u hj=>keepsC HB (gm j u hj) ln) (nd_val z) ?_)
       | (go_at_call 65;(with_reducible refine (cf _).mono ?_);rintro _ W2 ⟨rfl,hb1⟩;replace HB:=later HB hb1;replace XN:=XN.keeps hb1;clear hb1 x0 x1 x2 x3 x4 x5 x6 x7;obtain⟨x0,x1,x2,x3,x4,x5,x6,x7⟩:=XN.nd.cells;rw [hia.out] at x1;rw [hib.out] at x2)
       | (go_at_call 65;(with_reducible refine (cg _).mono ?_);rintro _ W3 ⟨rfl,hb1⟩;replace HB:=later HB hb1;replace XN:=XN.keeps hb1;clear hb1 x0 x1 x2 x3 x4 x5 x6 x7;obtain⟨x0,x1,x2,x3,x4,x5,x6,x7⟩:=XN.nd.cells;rw [hia.out] at x1;rw [hib.out] at x2))
     have ga3:∀j u,(proL (Q ia).1 (.slice Aa (Q ia).2.length ca))[j]?=some u→W3.cell? ⟨b,o+ia*15+j,none⟩=some u:=fun j u hj=>keepsC HB (ga j u hj) la
     have gb3:∀j u,(proL (Q ib).1 (.slice Ab (Q ib).2.length cb))[j]?=some u→W3.cell? ⟨b,o+ib*15+j,none⟩=some u:=fun j u hj=>keepsC HB (gb j u hj) la
     have la3:b<W3.heap.size:=Nat.lt_of_lt_of_le la HB.size
     have k1:=fun n:Behind W3=>n.cell x1 XN.lt
     have k2:=fun n:Behind W3=>n.cell x2 XN.lt
     refine tail_behind 11 (by kernel_rfl) (by kernel_rfl) ?_
     simp only [List.take_succ_cons,List.take_zero,List.drop_succ_cons,List.drop_zero]
     repeat (first
       | (go_big_quiet_want;refine quiet_loadBig _ 79 (by rfl) Try.underlying79 (proL (Q ia).1 (.slice Aa (Q ia).2.length ca)) (by kernel_rfl) (by rfl) (fun W hW j u hj=>by obtain⟨n,rfl⟩:=hW;exact keepsC n.bel (ga3 j u hj) la3) (pro_val (Q ia).1 (.slice Aa (Q ia).2.length ca)) ?_;simp only [Act.put,List.setIfInBounds_toArray,List.set_cons_zero,List.set_cons_succ];go_big_quiet_on)
       | (go_big_quiet_want;refine quiet_loadBig _ 79 (by rfl) Try.underlying79 (proL (Q ib).1 (.slice Ab (Q ib).2.length cb)) (by kernel_rfl) (by rfl) (fun W hW j u hj=>by obtain⟨n,rfl⟩:=hW;exact keepsC n.bel (gb3 j u hj) la3) (pro_val (Q ib).1 (.slice Ab (Q ib).2.length cb)) ?_;simp only [Act.put,List.setIfInBounds_toArray,List.set_cons_zero,List.set_cons_succ];go_big_quiet_on)
       | (go_big_quiet_step (first | (go_at_call 56;with_reducible refine Behind.call (cw _)))))
     refine wpQuiet_nil ?_
     rintro _ ⟨q,rfl⟩
     obtain⟨W,hb1⟩:=q
     dsimp only
     clear k1 k2 x0 x1 x2 x3 x4 x5 x6 x7
     replace HB:=later HB hb1
     clear hb1
     cases T with
     | none =>
       have eR:Hid (R=none):=hR3.out.symm
       go_wp2_with (first
         | (go_at_call 57;(with_reducible refine (ct _ (f1.keep HB) (f2.keep HB)).mono ?_);rintro r W2 ⟨hM,hb2⟩;have hr:=hM.no;subst hr;exact⟨rfl,Or.inr ⟨eR.out,rfl⟩,later HB hb2⟩))
     | some Y =>
       have eR:R=some [Y]:=hR3.out.symm
       subst eR
       go_wp2_with (first
         | (go_at_call 57;(with_reducible refine (ct _ (f1.keep HB) (f2.keep HB)).mono ?_);rintro r W5 ⟨hM,hb2⟩;obtain⟨s,hr,A9,c9,rfl,hc9,fa9⟩:=hM.yes;replace hr:r=.returned (.agg #[.int .i64 (Y.1 0).1,.int .i64 (Y.1 0).2,.int .i64 (Y.1 1).1,.int .i64 (Y.1 1).2,.int .i64 (Y.1 2).1,.int .i64 (Y.1 2).2,.int .i64 (Y.1 3).1,.int .i64 (Y.1 3).2,.int .i64 (Y.1 4).1,.int .i64 (Y.1 4).2,.int .i64 (Y.1 5).1,.int .i64 (Y.1 5).2,.int .i64 (Y.1 6).1,.int .i64 (Y.1 6).2,.slice A9 Y.2.length c9]):=hr;subst hr;have fl:FSl W5 (.slice A9 Y.2.length c9) Y.2:=⟨A9,c9,rfl,hc9,fa9⟩;replace HB:=later HB hb2;clear hb2 hM))
       go_ret
       have fl2:=FSl.keep fl (Below.alloc (Below.refl _ _) (Nat.le_refl _) (.cells (proL Y.1 (.slice A9 Y.2.length c9)).toArray 79))
       refine⟨Or.inl ⟨[(Y,.slice A9 Y.2.length c9)],_,_,rfl,rfl,fun y hy=>?_,fun _=>⟨_,rfl, ?_⟩⟩,Below.alloc HB HB.size _⟩
       · rw [List.mem_singleton.1 hy];exact fl2
       · exact blk_new _ _ _
set_option maxRecDepth 4000 in
set_option maxHeartbeats 4000000 in
theorem urule_sub (x:Nd) (AN:Option Addr) (nn CN:Nat) (AP:Option Addr) (np CP:Nat) (hh:Hid (x.k=4)) (X:Nat→Nd) (K:Nat→Prop) (Q:Nat→Pro) (ia:Nat) (hia:Hid (x.a=(ia:Int))) (hKa:K ia) (hna:ia<np) (ib:Nat) (hib:Hid (x.b=(ib:Int))) (hKb:K ib) (hnb:ib<np) (hia2:ia<nn) (hib2:ib<nn) (V:Int) (hV:0≤V∧V≤500) (pa:POk V (Q ia)) (pb:POk V (Q ib)) (w:World) (VN:Nds w AN nn X) (VP:PrsAt w AP K Q) :
   Calls Try.prog 39 #[x.val,.slice AN nn CN,.slice AP np CP] w fun r w'=>RlAns r w' (if frB (X ia) then some [] else if frB (X ib) then some [] else (timesP (Q ia) (Q ib) (-1,1)).map fun Y=>[Y])∧Below w.heap.size w w':=by
 obtain⟨bn,on,eN,ln,gn⟩:=VN ia hia2
 subst eN
 have gm:=(VN.at hib2).2
 obtain⟨y,hy⟩:∃y,y=X ia:=⟨_,rfl⟩
 obtain⟨z,hz⟩:∃z,z=X ib:=⟨_,rfl⟩
 rw [←hy] at gn ⊢
 rw [←hz] at gm ⊢
 have cf:=fun W=>uisFree_w y W
 have cg:=fun W=>uisFree_w z W
 have hl1:=pa.s.length hV.1
 have hl2:=pb.s.length hV.1
 have cw:=fun W=>uwhole_w (-1) W
 obtain⟨b,o,Aa,ca,eA,la,hca,fa,ga⟩:=VP ia hKa
 subst eA
 obtain⟨Ab,cb,lb,hcb,fb,gb⟩:=VP.at hKb
 have ct:=fun W f1 f2=>uptimes_w (Q ia).1 (Q ib).1 (Q ia).2 (Q ib).2 (.slice Aa (Q ia).2.length ca) (.slice Ab (Q ib).2.length cb) (-1,1) pa.d pb.d pa.r pb.r (rok_one (by constructor <;> decide) (by decide)) pa.f pb.f (by omega) W f1 f2
 obtain⟨T,hT⟩:∃T,Hid (timesP (Q ia) (Q ib) (-1,1)=T):=⟨_,rfl⟩
 have hT2:=hT.out
 rw [hT2] at ct ⊢
 have f1:=(show FSl w (.slice Aa (Q ia).2.length ca) (Q ia).2 from ⟨Aa,ca,rfl,hca,fa⟩)
 have f2:=(show FSl w (.slice Ab (Q ib).2.length cb) (Q ib).2 from ⟨Ab,cb,rfl,hcb,fb⟩)
 obtain⟨R,hR⟩:∃R,Hid ((if frB y then some [] else if frB z then some [] else T.map fun Y=>[Y])=R):=⟨_,rfl⟩
 rw [hR.out]
 clear pa pb hl1 hl2 hT hT2 hV hy hz
 show Calls Try.prog _ #[.agg #[.int .i64 x.k,.int .i64 x.a,.int .i64 x.b,.int .i64 x.n,.int .i64 x.q,.int .i64 x.p,.int .i64 x.v,.int .i64 x.d,.int .i64 (x.E 0).1,.int .i64 (x.E 0).2,.int .i64 (x.E 1).1,.int .i64 (x.E 1).2,.int .i64 (x.E 2).1,.int .i64 (x.E 2).2,.int .i64 (x.E 3).1,.int .i64 (x.E 3).2,.int .i64 (x.E 4).1,.int .i64 (x.E 4).2,.int .i64 (x.E 5).1,.int .i64 (x.E 5).2,.int .i64 (x.E 6).1,.int .i64 (x.E 6).2],_,_] w _
 obtain⟨XN,HB⟩:=blks1 w 54 [.int .i64 x.k,.int .i64 x.a,.int .i64 x.b,.int .i64 x.n,.int .i64 x.q,.int .i64 x.p,.int .i64 x.v,.int .i64 x.d,.int .i64 (x.E 0).1,.int .i64 (x.E 0).2,.int .i64 (x.E 1).1,.int .i64 (x.E 1).2,.int .i64 (x.E 2).1,.int .i64 (x.E 2).2,.int .i64 (x.E 3).1,.int .i64 (x.E 3).2,.int .i64 (x.E 4).1,.int .i64 (x.E 4).2,.int .i64 (x.E 5).1,.int .i64 (x.E 5).2,.int .i64 (x.E 6).1,.int .i64 (x.E 6).2]
 go_enter Try.func39,Try.ntmps39
 go_upto_region 1 with fail
 generalize (w.alloc (.cells #[.int .i64 x.k,.int .i64 x.a,.int .i64 x.b,.int .i64 x.n,.int .i64 x.q,.int .i64 x.p,.int .i64 x.v,.int .i64 x.d,.int .i64 (x.E 0).1,.int .i64 (x.E 0).2,.int .i64 (x.E 1).1,.int .i64 (x.E 1).2,.int .i64 (x.E 2).1,.int .i64 (x.E 2).2,.int .i64 (x.E 3).1,.int .i64 (x.E 3).2,.int .i64 (x.E 4).1,.int .i64 (x.E 4).2,.int .i64 (x.E 5).1,.int .i64 (x.E 5).2,.int .i64 (x.E 6).1,.int .i64 (x.E 6).2] 54))=V1 at *
 obtain⟨x0,x1,x2,x3,x4,x5,x6,x7⟩:=XN.nd.cells
 rw [hh.out] at x0
 have ga1:∀j u,(proL (Q ia).1 (.slice Aa (Q ia).2.length ca))[j]?=some u→V1.cell? ⟨b,o+ia*15+j,none⟩=some u:=fun j u hj=>keepsC HB (ga j u hj) la
 have la1:b<V1.heap.size:=Nat.lt_of_lt_of_le la HB.size
 rw [hia.out] at x1
 have gb1:∀j u,(proL (Q ib).1 (.slice Ab (Q ib).2.length cb))[j]?=some u→V1.cell? ⟨b,o+ib*15+j,none⟩=some u:=fun j u hj=>keepsC HB (gb j u hj) la
 rw [hib.out] at x2
 have hna2:(ia:Int)<(np:Int):=by omega
 have hnb2:(ib:Int)<(np:Int):=by omega
 have hia3:(ia:Int)<(nn:Int):=by omega
 have hib3:(ib:Int)<(nn:Int):=by omega
 have gn1:∀j u,(ndL y)[j]?=some u→V1.cell? ⟨bn,on+ia*22+j,none⟩=some u:=fun j u hj=>keepsC HB (gn j u hj) ln
 have hln:bn<w.heap.size:=ln
 cases hf:frB y with
 | true =>
   have eR:R=some []:=by have q:=hR.out;rw [hf] at q;exact q.symm
   subst eR
   rw [hf] at cf
   clear hf hR
   go_wp2_with (first
     | (refine wpList_loadBig (by rfl) _ 54 (by rfl) Try.underlying54 (ndL y) (by kernel_rfl) (by rfl) (gn1) (nd_val y) ?_)
     | (go_at_call 65;(with_reducible refine (cf _).mono ?_);rintro _ W2 ⟨rfl,hb1⟩;replace HB:=later HB hb1;replace XN:=XN.keeps hb1;clear hb1 x0 x1 x2 x3 x4 x5 x6 x7;obtain⟨x0,x1,x2,x3,x4,x5,x6,x7⟩:=XN.nd.cells;rw [hia.out] at x1;rw [hib.out] at x2))
   go_ret
   exact⟨rlAns_nil _,HB⟩
 | false =>
   rw [hf] at cf
   have hR2:Hid ((if frB z then some [] else T.map fun Y=>[Y])=R):=by have q:=hR.out;rw [hf] at q;exact q
   clear hf hR
   cases hg:frB z with
   | true =>
     have eR:R=some []:=by have q:=hR2.out;rw [hg] at q;exact q.symm
     subst eR
     rw [hg] at cg
     clear hg hR2
     go_wp2_with (first
       | (refine wpList_loadBig (by rfl) _ 54 (by rfl) Try.underlying54 (ndL y) (by kernel_rfl) (by rfl) (gn1) (nd_val y) ?_)
       | (refine wpList_loadBig (by rfl) _ 54 (by rfl) Try.underlying54 (ndL z) (by kernel_rfl) (by rfl) (fun j u hj=>keepsC HB (gm j u hj) ln) (nd_val z) ?_)
       | (go_at_call 65;(with_reducible refine (cf _).mono ?_);rintro _ W2 ⟨rfl,hb1⟩;replace HB:=later HB hb1;replace XN:=XN.keeps hb1;clear hb1 x0 x1 x2 x3 x4 x5 x6 x7;obtain⟨x0,x1,x2,x3,x4,x5,x6,x7⟩:=XN.nd.cells;rw [hia.out] at x1;rw [hib.out] at x2)
       | (go_at_call 65;(with_reducible refine (cg _).mono ?_);rintro _ W3 ⟨rfl,hb1⟩;replace HB:=later HB hb1;replace XN:=XN.keeps hb1;clear hb1 x0 x1 x2 x3 x4 x5 x6 x7;obtain⟨x0,x1,x2,x3,x4,x5,x6,x7⟩:=XN.nd.cells;rw [hia.out] at x1;rw [hib.out] at x2))
     go_ret
     exact⟨rlAns_nil _,HB⟩
   | false =>
     have hR3:Hid ((T.map fun Y=>[Y])=R):=by have q:=hR2.out;rw [hg] at q;exact q
     rw [hg] at cg
     clear hg hR2
     go_upto_region 5 with (first
       | (refine wpList_loadBig (by rfl) _ 54 (by rfl) Try.underlying54 (ndL y) (by kernel_rfl) (by rfl) (gn1) (nd_val y) ?_)
       | (refine wpList_loadBig (by rfl) _ 54 (by rfl) Try.underlying54 (ndL z) (by kernel_rfl) (by rfl) (fun j u hj=>keepsC HB (gm j u hj) ln) (nd_val z) ?_)
       | (go_at_call 65;(with_reducible refine (cf _).mono ?_);rintro _ W2 ⟨rfl,hb1⟩;replace HB:=later HB hb1;replace XN:=XN.keeps hb1;clear hb1 x0 x1 x2 x3 x4 x5 x6 x7;obtain⟨x0,x1,x2,x3,x4,x5,x6,x7⟩:=XN.nd.cells;rw [hia.out] at x1;rw [hib.out] at x2)
       | (go_at_call 65;(with_reducible refine (cg _).mono ?_);rintro _ W3 ⟨rfl,hb1⟩;replace HB:=later HB hb1;replace XN:=XN.keeps hb1;clear hb1 x0 x1 x2 x3 x4 x5 x6 x7;obtain⟨x0,x1,x2,x3,x4,x5,x6,x7⟩:=XN.nd.cells;rw [hia.out] at x1;rw [hib.out] at x2))
     have ga3:∀j u,(proL (Q ia).1 (.slice Aa (Q ia).2.length ca))[j]?=some u→W3.cell? ⟨b,o+ia*15+j,none⟩=some u:=fun j u hj=>keepsC HB (ga j u hj) la
     have gb3:∀j u,(proL (Q ib).1 (.slice Ab (Q ib).2.length cb))[j]?=some u→W3.cell? ⟨b,o+ib*15+j,none⟩=some u:=fun j u hj=>keepsC HB (gb j u hj) la
     have la3:b<W3.heap.size:=Nat.lt_of_lt_of_le la HB.size
     have k1:=fun n:Behind W3=>n.cell x1 XN.lt
     have k2:=fun n:Behind W3=>n.cell x2 XN.lt
     refine tail_behind 11 (by kernel_rfl) (by kernel_rfl) ?_
     simp only [List.take_succ_cons,List.take_zero,List.drop_succ_cons,List.drop_zero]
     repeat (first
       | (go_big_quiet_want;refine quiet_loadBig _ 79 (by rfl) Try.underlying79 (proL (Q ia).1 (.slice Aa (Q ia).2.length ca)) (by kernel_rfl) (by rfl) (fun W hW j u hj=>by obtain⟨n,rfl⟩:=hW;exact keepsC n.bel (ga3 j u hj) la3) (pro_val (Q ia).1 (.slice Aa (Q ia).2.length ca)) ?_;simp only [Act.put,List.setIfInBounds_toArray,List.set_cons_zero,List.set_cons_succ];go_big_quiet_on)
       | (go_big_quiet_want;refine quiet_loadBig _ 79 (by rfl) Try.underlying79 (proL (Q ib).1 (.slice Ab (Q ib).2.length cb)) (by kernel_rfl) (by rfl) (fun W hW j u hj=>by obtain⟨n,rfl⟩:=hW;exact keepsC n.bel (gb3 j u hj) la3) (pro_val (Q ib).1 (.slice Ab (Q ib).2.length cb)) ?_;simp only [Act.put,List.setIfInBounds_toArray,List.set_cons_zero,List.set_cons_succ];go_big_quiet_on)
       | (go_big_quiet_step (first | (go_at_call 56;with_reducible refine Behind.call (cw _)))))
     refine wpQuiet_nil ?_
     rintro _ ⟨q,rfl⟩
     obtain⟨W,hb1⟩:=q
     dsimp only
     clear k1 k2 x0 x1 x2 x3 x4 x5 x6 x7
     replace HB:=later HB hb1
     clear hb1
     cases T with
     | none =>
       have eR:Hid (R=none):=hR3.out.symm
       go_wp2_with (first
         | (go_at_call 57;(with_reducible refine (ct _ (f1.keep HB) (f2.keep HB)).mono ?_);rintro r W2 ⟨hM,hb2⟩;have hr:=hM.no;subst hr;exact⟨rfl,Or.inr ⟨eR.out,rfl⟩,later HB hb2⟩))
     | some Y =>
       have eR:R=some [Y]:=hR3.out.symm
       subst eR
       go_wp2_with (first
         | (go_at_call 57;(with_reducible refine (ct _ (f1.keep HB) (f2.keep HB)).mono ?_);rintro r W5 ⟨hM,hb2⟩;obtain⟨s,hr,A9,c9,rfl,hc9,fa9⟩:=hM.yes;replace hr:r=.returned (.agg #[.int .i64 (Y.1 0).1,.int .i64 (Y.1 0).2,.int .i64 (Y.1 1).1,.int .i64 (Y.1 1).2,.int .i64 (Y.1 2).1,.int .i64 (Y.1 2).2,.int .i64 (Y.1 3).1,.int .i64 (Y.1 3).2,.int .i64 (Y.1 4).1,.int .i64 (Y.1 4).2,.int .i64 (Y.1 5).1,.int .i64 (Y.1 5).2,.int .i64 (Y.1 6).1,.int .i64 (Y.1 6).2,.slice A9 Y.2.length c9]):=hr;subst hr;have fl:FSl W5 (.slice A9 Y.2.length c9) Y.2:=⟨A9,c9,rfl,hc9,fa9⟩;replace HB:=later HB hb2;clear hb2 hM))
       go_ret
       have fl2:=FSl.keep fl (Below.alloc (Below.refl _ _) (Nat.le_refl _) (.cells (proL Y.1 (.slice A9 Y.2.length c9)).toArray 79))
       refine⟨Or.inl ⟨[(Y,.slice A9 Y.2.length c9)],_,_,rfl,rfl,fun y hy=>?_,fun _=>⟨_,rfl, ?_⟩⟩,Below.alloc HB HB.size _⟩
       · rw [List.mem_singleton.1 hy];exact fl2
       · exact blk_new _ _ _
def dimF (X:Nat→Nd) (G:Nat→Bool) (D:Nat→Nat→Int×Int) (S:Nat→Int×Int) (Q:Nat→Pro) (x:Nd):Option Pro :=
 if x.k=1 then some (x.E,[]) else if x.k=2 then varP G D S x.v x.d else if x.k=15 then some (S,[])
 else if x.k=3∨x.k=4 then some (if frB (X x.a.toNat) then Q x.b.toNat else Q x.a.toNat)
 else if x.k=5 then timesP (Q x.a.toNat) (Q x.b.toNat) (1,1) else if x.k=6 then timesP (Q x.a.toNat) (Q x.b.toNat) (-1,1)
 else if x.k=7 then some (Q x.a.toNat) else if x.k=8 then powerP (Q x.a.toNat) (x.n,1) else if x.k=9 then powerP (Q x.a.toNat) (1,2) else some (plE,[])
def ruleF (X:Nat→Nd) (Q:Nat→Pro) (x:Nd):Option (List Pro) :=
 if x.k=3∨x.k=4 then (if frB (X x.a.toNat) then some [] else if frB (X x.b.toNat) then some [] else (timesP (Q x.a.toNat) (Q x.b.toNat) (-1,1)).map fun Y=>[Y])
 else if 10≤x.k∧x.k≤14 then some (if frB (X x.a.toNat) then [] else [Q x.a.toNat]) else some []
structure Fit (x:Nd) (i m:Nat):Prop where
 k:1≤x.k∧x.k≤15
 f:fieldB x=true
 o:∀j,j<x.ar→0≤x.at j∧x.at j<(i:Int)
 v:x.k=2→x.v<(m:Int)
theorem Fit.var {x:Nd} {i m:Nat} (h:Fit x i m) (hk:x.k=2):(0≤x.v∧x.v<(m:Int))∧(0≤x.d∧x.d≤6):=by
 have f:=h.f
 unfold fieldB at f
 rw [if_neg (by omega),if_pos hk] at f
 simp only [Bool.and_eq_true,decide_eq_true_eq] at f
 exact⟨⟨f.1,h.v hk⟩,f.2⟩
theorem Fit.pow {x:Nd} {i m:Nat} (h:Fit x i m) (hk:x.k=8):-64≤x.n∧x.n≤64:=by
 have f:=h.f
 unfold fieldB at f
 rw [if_neg (by omega),if_neg (by omega),if_pos hk] at f
 simpa only [Bool.and_eq_true,decide_eq_true_eq] using f
theorem Fit.const {x:Nd} {i m:Nat} (h:Fit x i m) (hk:x.k=1):drK x.E 7=true:=by
 have f:=h.f
 unfold fieldB at f
 rw [if_pos hk] at f
 exact (Bool.and_eq_true_iff.1 f).2
theorem Fit.opa {x:Nd} {i m:Nat} (h:Fit x i m) (hk:1≤arG x.k):x.a=((x.a.toNat:Nat):Int)∧x.a.toNat<i:=by
 have:=h.o 0 hk
 unfold Nd.at at this
 rw [if_pos rfl] at this
 omega
theorem Fit.opb {x:Nd} {i m:Nat} (h:Fit x i m) (hk:2≤arG x.k):x.b=((x.b.toNat:Nat):Int)∧x.b.toNat<i:=by
 have:=h.o 1 hk
 unfold Nd.at at this
 rw [if_neg (by decide)] at this
 omega
theorem udim_w (x:Nd) (i:Nat) (AN:Option Addr) (nn CN:Nat) (X:Nat→Nd) (AP:Option Addr) (np CP:Nat) (K:Nat→Prop) (Q:Nat→Pro) (A0 A1:Option Addr) (n0 C0 C1:Nat) (D:Nat→Nat→Int×Int) (G:Nat→Bool) (S:Nat→Int×Int)
   (hx:Fit x i n0) (hn:i≤nn) (hp:i≤np) (hn0:n0≤500) (hS:Dim64 S) (rS:drK S 7=true) (hD:∀v,v<n0→G v=true→Dim64 (D v)∧drK (D v) 7=true)
   (hK:∀j,j<x.ar→K (x.at j).toNat) (hQ:∀j,K j→POk n0 (Q j)) (w:World) (VN:Nds w AN nn X) (VP:PrsAt w AP K Q) (VD:Dms w A0 n0 D) (VG:Bls w A1 n0 G) :
   Calls Try.prog 38 #[x.val,.slice AN nn CN,.slice AP np CP,vrV (.slice A0 n0 C0) (.slice A1 n0 C1) S] w fun r w'=>PrAns r w' (dimF X G D S Q x)∧Below w.heap.size w w':=by
 have hk:=hx.k
 have hV:(0:Int)≤(n0:Int)∧(n0:Int)≤500:=⟨by omega,by omega⟩
 have ka:1≤arG x.k→K x.a.toNat:=fun h=>by have:=hK 0 h;unfold Nd.at at this;rwa [if_pos rfl] at this
 have kb:2≤arG x.k→K x.b.toNat:=fun h=>by have:=hK 1 h;unfold Nd.at at this;rwa [if_neg (by decide)] at this
 unfold dimF
 by_cases c1:x.k=1
 · rw [if_pos c1];exact udim_const x AN nn CN AP np CP A0 A1 n0 C0 n0 C1 S c1 w
 rw [if_neg c1]
 by_cases c2:x.k=2
 · rw [if_pos c2]
   obtain⟨h1,h2⟩:=hx.var c2
   exact udim_var x AN nn CN AP np CP A0 A1 n0 C0 n0 C1 S c2 D G h2 hS rS h1 rfl (by omega) (hD _ (by omega)) w VD VG
 rw [if_neg c2]
 by_cases c15:x.k=15
 · rw [if_pos c15];exact udim_time x AN nn CN AP np CP A0 A1 n0 C0 n0 C1 S c15 w
 rw [if_neg c15]
 by_cases c3:x.k=3
 · have ar:arG x.k=2:=by rw [c3];rfl
   obtain⟨a1,a2⟩:=hx.opa (by omega)
   obtain⟨b1,b2⟩:=hx.opb (by omega)
   rw [if_pos (Or.inl c3)]
   exact udim_add x AN nn CN AP np CP K Q A0 A1 n0 C0 n0 C1 S c3 X _ a1 (ka (by omega)) (by omega) _ b1 (kb (by omega)) (by omega) (by omega) w VP VN
 by_cases c4:x.k=4
 · have ar:arG x.k=2:=by rw [c4];rfl
   obtain⟨a1,a2⟩:=hx.opa (by omega)
   obtain⟨b1,b2⟩:=hx.opb (by omega)
   rw [if_pos (Or.inr c4)]
   exact udim_sub x AN nn CN AP np CP K Q A0 A1 n0 C0 n0 C1 S c4 X _ a1 (ka (by omega)) (by omega) _ b1 (kb (by omega)) (by omega) (by omega) w VP VN
 rw [if_neg (by omega)]
 by_cases c5:x.k=5
 · have ar:arG x.k=2:=by rw [c5];rfl
   obtain⟨a1,a2⟩:=hx.opa (by omega)
   obtain⟨b1,b2⟩:=hx.opb (by omega)
   rw [if_pos c5]
   exact udim_mul x AN nn CN AP np CP K Q A0 A1 n0 C0 n0 C1 S c5 _ a1 (ka (by omega)) (by omega) _ b1 (kb (by omega)) (by omega) n0 hV (hQ _ (ka (by omega))) (hQ _ (kb (by omega))) w VP
 rw [if_neg c5]
 by_cases c6:x.k=6
 · have ar:arG x.k=2:=by rw [c6];rfl
   obtain⟨a1,a2⟩:=hx.opa (by omega)
   obtain⟨b1,b2⟩:=hx.opb (by omega)
   rw [if_pos c6]
   exact udim_div x AN nn CN AP np CP K Q A0 A1 n0 C0 n0 C1 S c6 _ a1 (ka (by omega)) (by omega) _ b1 (kb (by omega)) (by omega) n0 hV (hQ _ (ka (by omega))) (hQ _ (kb (by omega))) w VP
 rw [if_neg c6]
 by_cases c7:x.k=7
 · have ar:arG x.k=1:=by rw [c7];rfl
   obtain⟨a1,a2⟩:=hx.opa (by omega)
   rw [if_pos c7]
   exact udim_neg x AN nn CN AP np CP K Q A0 A1 n0 C0 n0 C1 S c7 _ a1 (ka (by omega)) (by omega) w VP
 rw [if_neg c7]
 by_cases c8:x.k=8
 · have ar:arG x.k=1:=by rw [c8];rfl
   obtain⟨a1,a2⟩:=hx.opa (by omega)
   rw [if_pos c8]
   exact udim_pow x AN nn CN AP np CP K Q A0 A1 n0 C0 n0 C1 S c8 _ a1 (ka (by omega)) (by omega) n0 hV (hQ _ (ka (by omega))) (hx.pow c8) w VP
 rw [if_neg c8]
 by_cases c9:x.k=9
 · have ar:arG x.k=1:=by rw [c9];rfl
   obtain⟨a1,a2⟩:=hx.opa (by omega)
   rw [if_pos c9]
   exact udim_sqrt x AN nn CN AP np CP K Q A0 A1 n0 C0 n0 C1 S c9 _ a1 (ka (by omega)) (by omega) n0 hV (hQ _ (ka (by omega))) w VP
 rw [if_neg c9]
 exact udim_rest x AN nn CN AP np CP A0 A1 n0 C0 n0 C1 S ⟨by omega,by omega⟩ w
theorem urule_w (x:Nd) (i m:Nat) (AN:Option Addr) (nn CN:Nat) (X:Nat→Nd) (AP:Option Addr) (np CP:Nat) (K:Nat→Prop) (Q:Nat→Pro)
   (hx:Fit x i m) (hn:i≤nn) (hp:i≤np) (hn0:m≤500) (hK:∀j,j<x.ar→K (x.at j).toNat) (hQ:∀j,K j→POk m (Q j)) (w:World) (VN:Nds w AN nn X) (VP:PrsAt w AP K Q) :
   Calls Try.prog 39 #[x.val,.slice AN nn CN,.slice AP np CP] w fun r w'=>RlAns r w' (ruleF X Q x)∧Below w.heap.size w w':=by
 have hV:(0:Int)≤(m:Int)∧(m:Int)≤500:=⟨by omega,by omega⟩
 have ka:1≤arG x.k→K x.a.toNat:=fun h=>by have:=hK 0 h;unfold Nd.at at this;rwa [if_pos rfl] at this
 have kb:2≤arG x.k→K x.b.toNat:=fun h=>by have:=hK 1 h;unfold Nd.at at this;rwa [if_neg (by decide)] at this
 unfold ruleF
 by_cases c3:x.k=3
 · have ar:arG x.k=2:=by rw [c3];rfl
   obtain⟨a1,a2⟩:=hx.opa (by omega)
   obtain⟨b1,b2⟩:=hx.opb (by omega)
   rw [if_pos (Or.inl c3)]
   exact urule_add x AN nn CN AP np CP c3 X K Q _ a1 (ka (by omega)) (by omega) _ b1 (kb (by omega)) (by omega) (by omega) (by omega) m hV (hQ _ (ka (by omega))) (hQ _ (kb (by omega))) w VN VP
 by_cases c4:x.k=4
 · have ar:arG x.k=2:=by rw [c4];rfl
   obtain⟨a1,a2⟩:=hx.opa (by omega)
   obtain⟨b1,b2⟩:=hx.opb (by omega)
   rw [if_pos (Or.inr c4)]
   exact urule_sub x AN nn CN AP np CP c4 X K Q _ a1 (ka (by omega)) (by omega) _ b1 (kb (by omega)) (by omega) (by omega) (by omega) m hV (hQ _ (ka (by omega))) (hQ _ (kb (by omega))) w VN VP
 rw [if_neg (by omega)]
 by_cases c:10≤x.k∧x.k≤14
 · rw [if_pos c]
   have ar:arG x.k=1:=by rcases (show x.k=10∨x.k=11∨x.k=12∨x.k=13∨x.k=14 by omega) with h | h | h | h | h <;> rw [h] <;> rfl
   obtain⟨a1,a2⟩:=hx.opa (by omega)
   rcases (show x.k=10∨x.k=11∨x.k=12∨x.k=13∨x.k=14 by omega) with h | h | h | h | h
   · exact urule_one10 x AN nn CN AP np CP h X K Q _ a1 (ka (by omega)) (by omega) (by omega) w VN VP
   · exact urule_one11 x AN nn CN AP np CP h X K Q _ a1 (ka (by omega)) (by omega) (by omega) w VN VP
   · exact urule_one12 x AN nn CN AP np CP h X K Q _ a1 (ka (by omega)) (by omega) (by omega) w VN VP
   · exact urule_one13 x AN nn CN AP np CP h X K Q _ a1 (ka (by omega)) (by omega) (by omega) w VN VP
   · exact urule_one14 x AN nn CN AP np CP h X K Q _ a1 (ka (by omega)) (by omega) (by omega) w VN VP
 · rw [if_neg c]
   exact urule_none x AN nn CN AP np CP c3 c4 c w
section
variable {P:Program} {ops:Array Oper} {Q:Exit→Act→World→Prop} {a:Act} {w:World} {rest:List Oper} {o:Oper}
theorem wpList_storeMid (hgd:Region.wanted o (yielded ops a.tmps)=true) (p v:Operand) (T:TypeId) (ho:o.op=.store T p v) {g off:Nat} {T':TypeId} {old:List Value} (hrow:BlkAt w g T' old) (cs:List Value) (hi:(P.info? T).map (·.size)=some cs.length) (ho2:off+cs.length≤old.length)
   (hp:a.eval p=.pointer (some ⟨g,off,none⟩)) (hv:a.eval v=.agg cs.toArray) (h1:cs.all (·.oneCell')=true)
   (h:∀W,BlkAt W g T' (old.take off++cs++old.drop (off+cs.length))→W.heap.size=w.heap.size→(∀B w0,Below B w0 w→B≤g→Below B w0 W)→(∀k Tk ck,g≠k→BlkAt w k Tk ck→BlkAt W k Tk ck)→wpList P ops Q rest (a.put o.dst undef) W):wpList P ops Q (o :: rest) a w:=by
 refine wpList_step fun K hK=>?_
 rw [if_pos hgd]
 unfold Oper.wp
 obtain⟨dst,op,ty,pos,after,guard⟩:=o
 simp only at ho
 subst ho
 have h1':∀u∈cs,u.oneCell'=true:=fun u hu=>List.all_eq_true.1 h1 u hu
 have hs:(storeVar T ⟨g,off,none⟩ (.agg cs.toArray)).run P w=.ok () (w.setRow g (old.take off++cs++old.drop (off+cs.length)).toArray):=by
   have:=run_storeCells_at (P:=P) g off T' cs 0 old.toArray w hrow (by simpa using ho2) h1'
   simp only [Nat.add_zero] at this
   cases hq:P.info? T with
   | none=>simp [hq] at hi
   | some i =>
     have hs:i.size=cs.length:=by simpa [hq] using hi
     simp [storeVar,sizeOf,typeInfo,hq,Value.cells,hs,this]
 have e:(Instr.storeAt T (.pointer (some ⟨g,off,none⟩)) (.agg cs.toArray)).run P w=.ok () (w.setRow g (old.take off++cs++old.drop (off+cs.length)).toArray):=by
   simp only [Instr.storeAt,Instr.sureAddr,Sem.run_bind,Sem.run_pure,Result.andThen]
   exact hs
 have e2:(execOp a.eval ⟨dst,.store T p v,ty,pos,after,guard⟩).run P w=.ok .skip (w.setRow g (old.take off++cs++old.drop (off+cs.length)).toArray):=by
   simp only [execOp,hp,hv,Sem.run_bind,e,Result.andThen,Sem.run_pure]
 rw [e2]
 exact hK _ _ (h _ hrow.set (by show (w.heap.modify g _).size=_;rw [Array.size_modify]) (fun B w0 hb hB=>below_setRow hb hB _) (fun k Tk ck hne hk=>hk.far hne _))
end
def DimsIn (w:World) (g n:Nat) (K:Nat→Prop) (Q:Nat→Pro):Prop:=∃cs,BlkAt w g 79 cs∧cs.length=n*15∧∀i,K i→i<n∧∃A' c,(Q i).2.length≤c∧FacAt w A' (Q i).2∧∀j u,(proL (Q i).1 (.slice A' (Q i).2.length c))[j]?=some u→cs[i*15+j]?=some u
theorem DimsIn.keep {w W:World} {g n:Nat} {K:Nat→Prop} {Q:Nat→Pro} (h:DimsIn w g n K Q) (k:Below w.heap.size w W):DimsIn W g n K Q:=by
 obtain⟨cs,b,l,f⟩:=h
 refine⟨cs,b.keeps k,l,fun i hi=>?_⟩
 obtain⟨h1,A',c,h2,h3,h4⟩:=f i hi
 exact⟨h1,A',c,h2,h3.keep k,h4⟩
theorem DimsIn.prs {w:World} {g n:Nat} {K:Nat→Prop} {Q:Nat→Pro} (h:DimsIn w g n K Q):PrsAt w (some ⟨g,0,none⟩) K Q:=fun i hi=>by
 obtain⟨cs,b,l,f⟩:=h
 obtain⟨h1,A',c,h2,h3,h4⟩:=f i hi
 exact⟨g,0,A',c,rfl,b.lt,h2,h3,fun j u hj=>by rw [Nat.zero_add];exact b.cell _ _ (h4 j u hj)⟩
theorem proL_len (E:Nat→Int×Int) (s:Value):(proL E s).length=15:=rfl
theorem DimsIn.set {w W:World} {g n i:Nat} {K:Nat→Prop} {Q:Nat→Pro} {Y:Pro} {A9:Option Addr} {c9:Nat} {cs:List Value} (b:BlkAt w g 79 cs) (hl:cs.length=n*15)
   (f:∀i,K i→i<n∧∃A' c,(Q i).2.length≤c∧FacAt w A' (Q i).2∧∀j u,(proL (Q i).1 (.slice A' (Q i).2.length c))[j]?=some u→cs[i*15+j]?=some u)
   (hi:i<n) (hc:Y.2.length≤c9) (fy:FacAt w A9 Y.2) (bW:BlkAt W g 79 (cs.take (i*15)++proL Y.1 (.slice A9 Y.2.length c9)++cs.drop (i*15+15)))
   (k:∀k Tk ck,g≠k→BlkAt w k Tk ck→BlkAt W k Tk ck):DimsIn W g n (fun j=>K j∨j=i) (fun j=>if j=i then Y else Q j):=by
 have h0:(cs.take (i*15)).length=i*15:=by rw [List.length_take];omega
 refine⟨_,bW, ?_,fun m hm=>?_⟩
 · simp only [List.length_append,h0,proL_len,List.length_drop]
   omega
 · by_cases e:m=i
   · subst e
     simp only [if_true]
     refine⟨hi,A9,c9,hc,fy.other b (by decide) k,fun j u hj=>?_⟩
     have hj2:=(List.getElem?_eq_some_iff.1 hj).1
     rw [proL_len] at hj2
     rw [List.append_assoc,List.getElem?_append_right (by omega),h0,show m*15+j-m*15=j by omega,List.getElem?_append_left (by rw [proL_len];omega)]
     exact hj
   · simp only [if_neg e]
     obtain⟨h1,A',c,h2,h3,h4⟩:=f m (hm.resolve_right e)
     refine⟨h1,A',c,h2,h3.other b (by decide) k,fun j u hj=>?_⟩
     have hj2:=(List.getElem?_eq_some_iff.1 hj).1
     rw [proL_len] at hj2
     have g1:=h4 j u hj
     rcases Nat.lt_or_ge m i with c1 | c1
     · have:m*15+j<i*15:=by omega
       rw [List.append_assoc,List.getElem?_append_left (by omega),List.getElem?_take_of_lt this]
       exact g1
     · have:i*15+15≤m*15+j:=by omega
       rw [List.getElem?_append_right (by simp only [List.length_append,h0,proL_len];omega)]
       simp only [List.length_append,h0,proL_len]
       rw [List.getElem?_drop,show i*15+15+(m*15+j-(i*15+15))=m*15+j by omega]
       exact g1
theorem Try.infoPro:(Try.prog.info? 79).map (fun i=>(i.zero,i.size,i.bytes))=some (some (.agg #[.int .i64 0,.int .i64 0,.int .i64 0,.int .i64 0,.int .i64 0,.int .i64 0,.int .i64 0,.int .i64 0,.int .i64 0,.int .i64 0,.int .i64 0,.int .i64 0,.int .i64 0,.int .i64 0,.slice none 0 0]),15,136):=by kernel_rfl
theorem wpList_makeP {w:World} {ops:Array Oper} {rest:List Oper} {o:Oper} {a:Act} {Q:Exit→Act→World→Prop} (hgd:o.guard=none) (l c:Operand)
   (ho:o.op=.makeSlice 47 l c) (n:Nat) (hl:a.eval l=.int .i64 (n:Int)) (hc:a.eval c=.int .i64 (n:Int)) (hn:n≤30000)
   (h:∀w',(∃cs,BlkAt w' w.heap.size 79 cs∧cs.length=n*15)→Below w.heap.size w w'→wpList Try.prog ops Q rest (a.put o.dst (.slice (some ⟨w.heap.size,0,none⟩) n n)) w'):wpList Try.prog ops Q (o :: rest) a w:=by
 obtain⟨i0,hi,hz0,hz1,hz2⟩:=info_parts Try.infoPro
 refine wpList_make_full w hgd l c 47 ho w.heap.size 79 i0 _ 15 Try.underlying47 hi hz0 hz1 .i64 .i64 _ _ n hl hc rfl rfl (by rw [hz2];omega) (by unfold maxLen;omega) (Nat.le_refl _) ?_
 intro w' h1 h2
 refine h w' ?_ ⟨h2.os,h2.tape,h2.output,h2.size,fun k hk=>h2.block k hk (by simp)⟩
 rcases h1.2 with ⟨e,_⟩ | ⟨g,cap,cur,e, -,hg, -, -,hs, -⟩
 · cases e
 · injection e with e1 e2 e3
   injection e1 with e1
   injection e1 with e1
   subst e1 e3
   exact⟨cur.toList,by show w'.heap[_]?=_;rw [hg],by rw [←hs];simp⟩
theorem proLs_len:∀L,(proLs L).length=L.length*15
 | []=>rfl
 | x :: L=>by simp only [proLs,List.length_append,proL_len,List.length_cons,proLs_len L];omega
theorem proLs_append:∀L M,proLs (L++M)=proLs L++proLs M
 | [],_=>rfl
 | x :: L,M=>by simp only [List.cons_append,proLs,proLs_append L M,List.append_assoc]
theorem proLs_one {w:World}:∀L,PvOk w L→∀u,u∈proLs L→u.oneCell'=true
 | [],_,u,h=>by cases h
 | x :: L,hp,u,h=>by
   simp only [proLs,List.mem_append] at h
   rcases h with h | h
   · obtain⟨A,c,e, -⟩:=hp x (List.mem_cons_self ..)
     rw [e] at h
     simp only [proL,List.mem_cons,List.not_mem_nil,or_false] at h
     rcases h with h | h | h | h | h | h | h | h | h | h | h | h | h | h | h <;> rw [h] <;> rfl
   · exact proLs_one L (fun y hy=>hp y (List.mem_cons_of_mem _ hy)) u h
def OwnRw (B:Nat) (w:World) (v:Value) (L:List PV):Prop:=w.ownsRow B 79 15 v L.length (proLs L)
theorem OwnRw.keep {B:Nat} {w w2:World} {v:Value} {L:List PV} (h:OwnRw B w v L) (hb:Below w.heap.size w w2):OwnRw B w2 v L:=own_keep h hb
theorem ownRw_nil (B:Nat) (w:World):OwnRw B w (.slice none 0 0) []:=⟨rfl,Or.inl ⟨rfl,rfl⟩⟩
theorem OwnRw.form {B:Nat} {w:World} {v:Value} {L:List PV} (h:OwnRw B w v L):∃A C,v=.slice A L.length C∧L.length≤C:=by
 rcases h.2 with ⟨rfl,hn⟩ | ⟨g,cap,cur,rfl, -, -,hc, -⟩
 · exact⟨none,0,by rw [hn],by omega⟩
 · exact⟨_,_,rfl,hc⟩
theorem OwnRw.off {B:Nat} {w W:World} {v:Value} {L:List PV} (h:OwnRw B w v L) {g:Nat} (hg:g<B) (k:∀k Tk ck,g≠k→BlkAt w k Tk ck→BlkAt W k Tk ck):OwnRw B W v L:=by
 refine⟨h.1, ?_⟩
 rcases h.2 with hn | ⟨b,cap,cur,hv,hb2,hg2,rest⟩
 · exact .inl hn
 · refine .inr ⟨b,cap,cur,hv,hb2, ?_,rest⟩
   have:=k b 79 cur.toList (by omega) (by show w.heap[b]?=_;rw [hg2])
   simpa [BlkAt] using this
theorem OwnRw.grown {B:Nat} {w w':World} {v:Value} {L:List PV} (h:OwnRw B w v L) (hg:w.grownBy w' v.ownBlock) {b:Nat} {T:TypeId} {cs:List Value} (hb:BlkAt w b T cs) (hT:T≠79):BlkAt w' b T cs:=by
 refine (hg.block b hb.lt (fun e=>?_)).trans hb
 rcases h.2 with ⟨hv, -⟩ | ⟨b2,cap,cur,hv, -,hg2, -⟩
 · rw [hv] at e;cases e
 · rw [hv] at e
   have e2:b2=b:=by injection e with e;exact e.symm
   subst e2
   have q:some (Obj.cells cs.toArray T (0,0))=some (Obj.cells cur 79 (0,0)):=hb.symm.trans hg2
   injection q with q
   injection q with _ q2 _
   exact hT q2
theorem PvOk.grown {B:Nat} {w w':World} {v:Value} {L M:List PV} (h:OwnRw B w v L) (hg:w.grownBy w' v.ownBlock) (p:PvOk w M):PvOk w' M:=fun x hx=>by
 obtain⟨A,c,e,l,f⟩:=p x hx
 refine⟨A,c,e,l,fun hm=>?_⟩
 obtain⟨b,o,cs,e2,bk,c2⟩:=f hm
 exact⟨b,o,cs,e2,h.grown hg bk (by decide),c2⟩
theorem wpList_catP {B:Nat} {w:World} {ops:Array Oper} {rest:List Oper} {o:Oper} {a:Act} {Q:Exit→Act→World→Prop} (hgd:o.guard=none) (s x:Operand)
   (ho:o.op=.call { callee:=.builtin .append,args:=#[s,x],argTypes:=#[47,47] }) (v:Value) (L M:List PV) (X0:Option Addr) (m D:Nat) (hs:a.eval s=v) (hx:a.eval x=.slice X0 m D) (hm:m=M.length)
   (hown:OwnRw B w v L) (VY:M≠[]→∃b,X0=some ⟨b,0,none⟩∧BlkAt w b 79 (proLs M)) (hM:PvOk w M) (hl:L.length+M.length≤100000) (hB:B≤w.heap.size)
   (h:∀v' w',OwnRw B w' v' (L++M)→Below B w w'→w.heap.size≤w'.heap.size→(∀N,PvOk w N→PvOk w' N)→wpList Try.prog ops Q rest (a.put o.dst v') w'):wpList Try.prog ops Q (o :: rest) a w:=by
 subst hm
 refine wpList_step fun K hK=>?_
 obtain⟨i0,hi,hz0,hz1,hz2⟩:=info_parts Try.infoPro
 by_cases m0:M=[]
 · subst m0
   obtain⟨b,c,rfl,hc⟩:=hown.form
   have hr:=fun ty=>append_none (P:=Try.prog) 47 ty 79 i0 Try.underlying47 hi b L.length c hc X0 D w
   rw [if_pos (by simp [Region.wanted,hgd])]
   unfold Oper.wp
   simp [execOp,ho,resolve,invoke,builtin,hs,hx,hr,Result.andThen]
   exact hK _ _ (h _ _ (by simpa using hown) (Below.refl _ _) (Nat.le_refl _) (fun _ k=>k))
 · obtain⟨b,rfl,hbk⟩:=VY m0
   refine step_append_lies w hgd s x 47 ho B 79 i0 _ 15 136 Try.underlying47 hi hz0 hz1 hz2 rfl (by decide) v L.length (proLs L) hs hown ⟨b,0,none⟩ M.length D (proLs M) hx (proLs_len M) (fun j u hj=>by rw [add_plain];exact hbk.cell0 j u hj) (proLs_one M hM) (by have:0<M.length:=List.length_pos_iff.2 m0;omega) (by unfold maxLen;omega) (by omega) hB w.heap.size rfl ?_
   intro g cap w' h1 h2 h3 _
   have lt:∀k,v.ownBlock=some k→B≤k:=fun k hk=>(World.ownsRow.lt hown k hk).1
   have hb:Below B w w':=(Below.refl B w).grown h2 hB lt
   refine hK _ _ (h _ w' ?_ hb h2.size (fun N k=>k.grown hown h2))
   unfold OwnRw
   rw [proLs_append,List.length_append]
   exact h1
end Go.Proofs.Ytbejmklkicoibaa
