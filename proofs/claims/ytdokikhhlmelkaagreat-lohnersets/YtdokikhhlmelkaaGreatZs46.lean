/- lohner: the set of a box. -/
import Derived.Test.YtdokikhhlmelkaaGreatZs45
import Derived.Deep.OwnRows
namespace Go.Proofs.YtdokikhhlmelkaaGreat
open Go.ChangeShapes Go.WideShapes Go.ChangeAt Go.RowKit
def oneN (r c:Nat):Nat:=if r=c then 4607182418800017408 else 0
theorem mid_one:∀r c,midP (oneP r c).1 (oneP r c).2=oneN r c:=fun r c=>by
 unfold oneP oneN
 by_cases h:r=c
 · rw [if_pos h,if_pos h]
   decide +kernel
 · rw [if_neg h,if_neg h]
   decide +kernel
theorem lnew_bad (A:Option Addr) (n C:Nat) (w:World) (b:Bool) (hb:b=false→1≤n∧n≤24) (c1:∀W,Below w.heap.size w W→b=false→Calls Tryz.prog 22 #[.slice A n C,.func (.func 31) #[] #[]] W fun e w'=>e=.returned (.bool true)∧Below W.heap.size W w') (h:b=true→n<1∨24<n) :
   Calls Tryz.prog 10 #[.slice A n C] w fun e w'=>e=.returned (.tuple #[.agg #[.slice none 0 0,.slice none 0 0,.slice none 0 0],.int .i64 1])∧Below w.heap.size w w':=by
 have R:Has3 (w.alloc (.cells #[.slice none 0 0,.slice none 0 0,.slice none 0 0] 26)) w.heap.size (.slice none 0 0) (.slice none 0 0) (.slice none 0 0):=set3_new _ _ _ _ _
 have HB:Below w.heap.size w (w.alloc (.cells #[.slice none 0 0,.slice none 0 0,.slice none 0 0] 26)):=by go_grown
 cases b
 · replace c1:=fun W hW=>c1 W hW rfl
   obtain⟨n1,n2⟩:=hb rfl
   have e1:¬(n:Int)<1:=by omega
   have e2:¬(24:Int)<(n:Int):=by omega
   clear h hb
   go_enter Tryz.func10,Tryz.ntmps10
   go_upto_region 1 with fail
   generalize (w.alloc (.cells #[.slice none 0 0,.slice none 0 0,.slice none 0 0] 26))=V1 at *
   go_wp2_with (go_at_call 22;(with_reducible refine (c1 _ HB).mono ?_);rintro _ w1 ⟨rfl,hb1⟩;replace HB:=later HB hb1;replace R:=R.keep hb1;obtain⟨s0,s1,s2,s3,s4,s5,s6⟩:=id R)
   refine bodyPost_ret (v:=.tuple #[.agg #[.slice none 0 0,.slice none 0 0,.slice none 0 0],.int .i64 1]) (by simp [results,Tryz.results10,go_sem, *]) rfl ⟨rfl, ?_⟩
   repeat' (first | (with_reducible exact HB) | (with_reducible refine Below.setCell ?_ ?_ _) | go_size)
 · rcases h rfl with e1 | e2
   · have e1:(n:Int)<1:=by omega
     clear h hb c1
     go_enter Tryz.func10,Tryz.ntmps10
     go_upto_region 1 with fail
     generalize (w.alloc (.cells #[.slice none 0 0,.slice none 0 0,.slice none 0 0] 26))=V1 at *
     obtain⟨s0,s1,s2,s3,s4,s5,s6⟩:=id R
     go_wp2_with fail
     refine bodyPost_ret (v:=.tuple #[.agg #[.slice none 0 0,.slice none 0 0,.slice none 0 0],.int .i64 1]) (by simp [results,Tryz.results10,go_sem, *]) rfl ⟨rfl, ?_⟩
     repeat' (first | (with_reducible exact HB) | (with_reducible refine Below.setCell ?_ ?_ _) | go_size)
   · have e1:¬(n:Int)<1:=by omega
     have e2:(24:Int)<(n:Int):=by omega
     clear h hb c1
     go_enter Tryz.func10,Tryz.ntmps10
     go_upto_region 1 with fail
     generalize (w.alloc (.cells #[.slice none 0 0,.slice none 0 0,.slice none 0 0] 26))=V1 at *
     obtain⟨s0,s1,s2,s3,s4,s5,s6⟩:=id R
     go_wp2_with fail
     refine bodyPost_ret (v:=.tuple #[.agg #[.slice none 0 0,.slice none 0 0,.slice none 0 0],.int .i64 1]) (by simp [results,Tryz.results10,go_sem, *]) rfl ⟨rfl, ?_⟩
     repeat' (first | (with_reducible exact HB) | (with_reducible refine Below.setCell ?_ ?_ _) | go_size)
theorem lnew_wide (A:Option Addr) (n C:Nat) (w:World) (n1:1≤n) (n2:n≤24) (c1:∀W,Below w.heap.size w W→Calls Tryz.prog 22 #[.slice A n C,.func (.func 31) #[] #[]] W fun e w'=>e=.returned (.bool false)∧Below W.heap.size W w')
   (c2:∀W,Below w.heap.size w W→Calls Tryz.prog 22 #[.slice A n C,.func (.func 23) #[] #[]] W fun e w'=>e=.returned (.bool true)∧Below W.heap.size W w') :
   Calls Tryz.prog 10 #[.slice A n C] w fun e w'=>e=.returned (.tuple #[.agg #[.slice none 0 0,.slice none 0 0,.slice none 0 0],.int .i64 5])∧Below w.heap.size w w':=by
 have R:Has3 (w.alloc (.cells #[.slice none 0 0,.slice none 0 0,.slice none 0 0] 26)) w.heap.size (.slice none 0 0) (.slice none 0 0) (.slice none 0 0):=set3_new _ _ _ _ _
 have HB:Below w.heap.size w (w.alloc (.cells #[.slice none 0 0,.slice none 0 0,.slice none 0 0] 26)):=by go_grown
 have e1:¬(n:Int)<1:=by omega
 have e2:¬(24:Int)<(n:Int):=by omega
 go_enter Tryz.func10,Tryz.ntmps10
 go_upto_region 1 with fail
 generalize (w.alloc (.cells #[.slice none 0 0,.slice none 0 0,.slice none 0 0] 26))=V1 at *
 go_wp2_with (first
   | (go_at_call 22;(with_reducible refine (c1 _ HB).mono ?_);rintro _ w1 ⟨rfl,hb1⟩;replace HB:=later HB hb1;replace R:=R.keep hb1)
   | (go_at_call 22;(with_reducible refine (c2 _ HB).mono ?_);rintro _ w1 ⟨rfl,hb1⟩;replace HB:=later HB hb1;replace R:=R.keep hb1;obtain⟨s0,s1,s2,s3,s4,s5,s6⟩:=id R))
 refine bodyPost_ret (v:=.tuple #[.agg #[.slice none 0 0,.slice none 0 0,.slice none 0 0],.int .i64 5]) (by simp [results,Tryz.results10,go_sem, *]) rfl ⟨rfl, ?_⟩
 repeat' (first | (with_reducible exact HB) | (with_reducible refine Below.setCell ?_ ?_ _) | go_size)
theorem Has3.blockY {w w2:World} {b:Nat} {x y z:Value} (h:Has3 w b x y z) (e:w2.heap[b]?=w.heap[b]?) (hs:w.heap.size≤w2.heap.size):Has3 w2 b x y z:=by
 obtain⟨h0,h1,h2,f0,f1,f2,hl⟩:=h
 exact⟨(World.cell?_of_block e).trans h0,(World.cell?_of_block e).trans h1,(World.cell?_of_block e).trans h2,(World.frozen?_of_block e).trans f0,(World.frozen?_of_block e).trans f1,(World.frozen?_of_block e).trans f2,Nat.lt_of_lt_of_le hl hs⟩
theorem out_made (W:World) (n:Nat):Out (W.alloc (.cells (madeCells #[.float .f64 0] n) 36)) W.heap.size n (fun _=>.float .f64 0):=by
 have q:=World.rowIs_made W (.float .f64 0) n 36
 exact⟨q.lt,fun i hi=>⟨q.cell hi,q.frozen i⟩⟩
structure NewIn (w2 W:World) (n gc ga sb:Nat) (h k:Nat→Nat):Prop where
 o:Out W gc n (fun _=>.float .f64 0)
 g:RowsF W ga n n h k oneN
 s:Has3 W sb (.slice (some ⟨gc,0,none⟩) n n) (.slice (some ⟨ga,0,none⟩) n n) (.slice none 0 0)
 b:Below w2.heap.size w2 W
 c0:w2.heap.size≤gc
 a0:w2.heap.size≤ga
 s0:w2.heap.size≤sb
 h0:∀r,r<n→w2.heap.size≤h r
 ca:ga≠gc
 ch:∀r,r<n→h r≠gc
 sc:sb≠gc
 sa:ga≠sb
 sh:∀r,r<n→h r≠sb
structure PreO (S0:Nat) (W:World) (n gc ga:Nat) (h:Nat→Nat):Prop where
 o:Out W gc n (fun _=>.float .f64 0)
 c0:S0≤gc
 ca:ga≠gc
 ch:∀r,r<n→h r≠gc
structure PreS (S0:Nat) (W:World) (n sb ga:Nat) (h:Nat→Nat):Prop where
 s:Has3 W sb (.slice none 0 0) (.slice none 0 0) (.slice none 0 0)
 s0:S0≤sb
 sa:ga≠sb
 sh:∀r,r<n→h r≠sb
theorem preO_of {S0 n gc ga:Nat} {V W:World} {h:Nat→Nat} (o:Out V gc n (fun _=>.float .f64 0)) (hb:Below V.heap.size V W) (c0:S0≤gc) (hga:V.heap.size≤ga) (hh:∀r,r<n→V.heap.size≤h r):PreO S0 W n gc ga h :=
 ⟨o.keep hb,c0,by have:=o.1;omega,fun r hr=>by have:=o.1;have:=hh r hr;omega⟩
theorem preS_of {S0 n sb ga:Nat} {V W:World} {h:Nat→Nat} (s:Has3 V sb (.slice none 0 0) (.slice none 0 0) (.slice none 0 0)) (hb:Below V.heap.size V W) (s0:S0≤sb) (hga:V.heap.size≤ga) (hh:∀r,r<n→V.heap.size≤h r):PreS S0 W n sb ga h :=
 ⟨s.keep hb,s0,by have:=s.2.2.2.2.2.2;omega,fun r hr=>by have:=s.2.2.2.2.2.2;have:=hh r hr;omega⟩
theorem RowsF.far {w:World} {ga n m c k':Nat} {h k:Nat→Nat} {F:Nat→Nat→Nat} (G:RowsF w ga n m h k F) (ha:ga≠c) (hr:∀r,r<n→h r≠c) (v:Value):RowsF (w.setCell ⟨c,k',none⟩ v) ga n m h k F :=
 G.block (by simp only [World.size_setCell];exact Nat.le_refl _) (Below.heap_setCell _ _ _ _ ha) fun r hlt=>Below.heap_setCell _ _ _ _ (hr r hlt)
theorem new_f0 {w2 W:World} {n gc ga sb:Nat} {h k:Nat→Nat} (hb:Below w2.heap.size w2 W) (PO:PreO w2.heap.size W n gc ga h) (PS:PreS w2.heap.size W n sb ga h) (G:RowsF W ga n n h k oneN) (a0:w2.heap.size≤ga) (h0:∀r,r<n→w2.heap.size≤h r) (n1:1≤n) :
   ∃W3,W3=((W.setCell ⟨sb,0,none⟩ (.slice (some ⟨gc,0,none⟩) n n)).setCell ⟨sb,1,none⟩ (.slice (some ⟨ga,0,none⟩) n n)).setCell ⟨sb,2,none⟩ (.slice none 0 0)∧NewIn w2 W3 n gc ga sb h k:=by
 have sc:sb≠gc:=fun e=>by
   have p:=(PO.o.2 0 (by omega)).1
   have q:=PS.s.1
   rw [e,p] at q
   cases q
 exact⟨_,rfl,((PO.o.far sc _).far sc _).far sc _,((G.far PS.sa PS.sh _).far PS.sa PS.sh _).far PS.sa PS.sh _,PS.s.put _ _ _,((hb.setCell (p:=⟨sb,0,none⟩) PS.s0 _).setCell (p:=⟨sb,1,none⟩) PS.s0 _).setCell (p:=⟨sb,2,none⟩) PS.s0 _,PO.c0,a0,PS.s0,h0,PO.ca,PO.ch,sc,PS.sa,PS.sh⟩
theorem new_f1 {w2 W:World} {n ga sb:Nat} {h k:Nat→Nat} (hb:Below w2.heap.size w2 W) (PS:PreS w2.heap.size W n sb ga h) (G:RowsF W ga n n h k oneN) (a0:w2.heap.size≤ga) (h0:∀r,r<n→w2.heap.size≤h r) :
   ∃W3,W3=(((W.setCell ⟨sb,0,none⟩ (.slice (some ⟨W.heap.size,0,none⟩) n n)).setCell ⟨sb,1,none⟩ (.slice (some ⟨ga,0,none⟩) n n)).setCell ⟨sb,2,none⟩ (.slice none 0 0)).alloc (.cells (madeCells #[.float .f64 0] n) 36)∧NewIn w2 W3 n W.heap.size ga sb h k:=by
 have s1:=PS.s.2.2.2.2.2.2
 have g1:=G.out.1
 have hw:=hb.size
 have G':=((G.far (k':=0) PS.sa PS.sh (.slice (some ⟨W.heap.size,0,none⟩) n n)).far (k':=1) PS.sa PS.sh (.slice (some ⟨ga,0,none⟩) n n)).far (k':=2) PS.sa PS.sh (.slice none 0 0)
 have S':=PS.s.put (.slice (some ⟨W.heap.size,0,none⟩) n n) (.slice (some ⟨ga,0,none⟩) n n) (.slice none 0 0)
 have hb':=((hb.setCell (p:=⟨sb,0,none⟩) PS.s0 (.slice (some ⟨W.heap.size,0,none⟩) n n)).setCell (p:=⟨sb,1,none⟩) PS.s0 (.slice (some ⟨ga,0,none⟩) n n)).setCell (p:=⟨sb,2,none⟩) PS.s0 (.slice none 0 0)
 have sz:(((W.setCell ⟨sb,0,none⟩ (.slice (some ⟨W.heap.size,0,none⟩) n n)).setCell ⟨sb,1,none⟩ (.slice (some ⟨ga,0,none⟩) n n)).setCell ⟨sb,2,none⟩ (.slice none 0 0)).heap.size=W.heap.size:=by simp only [World.size_setCell]
 have O':=out_made (((W.setCell ⟨sb,0,none⟩ (.slice (some ⟨W.heap.size,0,none⟩) n n)).setCell ⟨sb,1,none⟩ (.slice (some ⟨ga,0,none⟩) n n)).setCell ⟨sb,2,none⟩ (.slice none 0 0)) n
 rw [sz] at O'
 generalize (((W.setCell ⟨sb,0,none⟩ (.slice (some ⟨W.heap.size,0,none⟩) n n)).setCell ⟨sb,1,none⟩ (.slice (some ⟨ga,0,none⟩) n n)).setCell ⟨sb,2,none⟩ (.slice none 0 0))=W' at *
 exact⟨_,rfl,O',G'.keep (below_alloc (Below.refl _ _) _),S'.keep (below_alloc (Below.refl _ _) _),below_alloc hb' _,hw,a0,PS.s0,h0,by omega,fun r hr=>by have:=(G.row r hr).1;omega,by omega,PS.sa,PS.sh⟩
theorem new_f2 {w2 W:World} {n gc ga:Nat} {h k:Nat→Nat} (hb:Below w2.heap.size w2 W) (PO:PreO w2.heap.size W n gc ga h) (G:RowsF W ga n n h k oneN) (a0:w2.heap.size≤ga) (h0:∀r,r<n→w2.heap.size≤h r) :
   ∃W3,W3=W.alloc (.cells #[.slice (some ⟨gc,0,none⟩) n n,.slice (some ⟨ga,0,none⟩) n n,.slice none 0 0] 26)∧NewIn w2 W3 n gc ga W.heap.size h k:=by
 have g1:=G.out.1
 have o1:=PO.o.1
 exact⟨_,rfl,PO.o.keep (below_alloc (Below.refl _ _) _),G.keep (below_alloc (Below.refl _ _) _),set3_new _ _ _ _ _,below_alloc hb _,PO.c0,a0,hb.size,h0,PO.ca,PO.ch,by omega,by omega,fun r hr=>by have:=(G.row r hr).1;omega⟩
theorem new_f3 {w2 W:World} {n ga:Nat} {h k:Nat→Nat} (hb:Below w2.heap.size w2 W) (G:RowsF W ga n n h k oneN) (a0:w2.heap.size≤ga) (h0:∀r,r<n→w2.heap.size≤h r) :
   ∃W3,W3=(W.alloc (.cells (madeCells #[.float .f64 0] n) 36)).alloc (.cells #[.slice (some ⟨W.heap.size,0,none⟩) n n,.slice (some ⟨ga,0,none⟩) n n,.slice none 0 0] 26)∧NewIn w2 W3 n W.heap.size ga (W.heap.size+1) h k:=by
 have g1:=G.out.1
 have hw:=hb.size
 have S':=set3_new (W.alloc (.cells (madeCells #[.float .f64 0] n) 36)) (.slice (some ⟨W.heap.size,0,none⟩) n n) (.slice (some ⟨ga,0,none⟩) n n) (.slice none 0 0) 26
 rw [World.size_alloc] at S'
 exact⟨_,rfl,(out_made W n).keep (below_alloc (Below.refl _ _) _),(G.keep (below_alloc (Below.refl _ _) _)).keep (below_alloc (Below.refl _ _) _),S',below_alloc (below_alloc hb _) _,hw,a0,by omega,h0,by omega,fun r hr=>by have:=(G.row r hr).1;omega,by omega,by omega,fun r hr=>by have:=(G.row r hr).1;omega⟩
theorem new_f4 {w2 W:World} {n ga:Nat} {h k:Nat→Nat} (hb:Below w2.heap.size w2 W) (G:RowsF W ga n n h k oneN) (a0:w2.heap.size≤ga) (h0:∀r,r<n→w2.heap.size≤h r) :
   ∃W3,W3=(W.alloc (.cells #[.slice (some ⟨W.heap.size+1,0,none⟩) n n,.slice (some ⟨ga,0,none⟩) n n,.slice none 0 0] 26)).alloc (.cells (madeCells #[.float .f64 0] n) 36)∧NewIn w2 W3 n (W.heap.size+1) ga W.heap.size h k:=by
 have g1:=G.out.1
 have hw:=hb.size
 have O':=out_made (W.alloc (.cells #[.slice (some ⟨W.heap.size+1,0,none⟩) n n,.slice (some ⟨ga,0,none⟩) n n,.slice none 0 0] 26)) n
 rw [World.size_alloc] at O'
 exact⟨_,rfl,O',(G.keep (below_alloc (Below.refl _ _) _)).keep (below_alloc (Below.refl _ _) _),(set3_new _ _ _ _ _).keep (below_alloc (Below.refl _ _) _),below_alloc (below_alloc hb _) _,by omega,a0,hw,h0,by omega,fun r hr=>by have:=(G.row r hr).1;omega,by omega,by omega,fun r hr=>by have:=(G.row r hr).1;omega⟩
set_option maxRecDepth 4000 in
set_option maxHeartbeats 16000000 in
theorem lnew_good (A:Option Addr) (n C:Nat) (X:Nat→Nat×Nat) (n1:1≤n) (n2:n≤24) (w:World)
   (c1:∀W,Below w.heap.size w W→Calls Tryz.prog 22 #[.slice A n C,.func (.func 31) #[] #[]] W fun e w'=>e=.returned (.bool false)∧Below W.heap.size W w')
   (c2:∀W,Below w.heap.size w W→Calls Tryz.prog 22 #[.slice A n C,.func (.func 23) #[] #[]] W fun e w'=>e=.returned (.bool false)∧Below W.heap.size W w')
   (c3:∀W,Calls Tryz.prog 33 #[.int .i64 (n:Int)] W fun e w'=>(∃B D SA SC,e=.returned (.slice B n D)∧Rws w' B n SA (fun _=>n) SC oneP)∧Below W.heap.size W w')
   (c4:∀W B D SA SC,Rws W B n SA (fun _=>n) SC oneP→Calls Tryz.prog 32 #[.slice B n D] W fun e w'=>(∃ga h k,e=.returned (.slice (some ⟨ga,0,none⟩) n n)∧RowsF w' ga n n h k oneN∧W.heap.size≤ga∧∀r,r<n→W.heap.size≤h r)∧Below W.heap.size W w')
   (c5:∀W gc (K:Nat→Nat),Below w.heap.size w W→w.heap.size≤gc→Out W gc n (fun i=>.float .f64 (K i))→Calls Tryz.prog 34 #[.slice (some ⟨gc,0,none⟩) n n,.slice A n C] W fun e w'=>∃gr,e=.returned (.slice (some ⟨gr,0,none⟩) n n)∧Out w' gc n (fun i=>.float .f64 (midP (X i).1 (X i).2))∧Img w' gr n (fun i=>leftQ (X i))∧W.heap.size≤gr∧Below w.heap.size w w'∧But gc W w') :
   Calls Tryz.prog 10 #[.slice A n C] w fun e w'=>∃gc ga gr h k,e=.returned (.tuple #[.agg #[.slice (some ⟨gc,0,none⟩) n n,.slice (some ⟨ga,0,none⟩) n n,.slice (some ⟨gr,0,none⟩) n n],.int .i64 0])∧Out w' gc n (fun i=>.float .f64 (midP (X i).1 (X i).2))∧RowsF w' ga n n h k oneN∧Img w' gr n (fun i=>leftQ (X i))∧Below w.heap.size w w':=by
 have R:Has3 (w.alloc (.cells #[.slice none 0 0,.slice none 0 0,.slice none 0 0] 26)) w.heap.size (.slice none 0 0) (.slice none 0 0) (.slice none 0 0):=set3_new _ _ _ _ _
 have HB:Below w.heap.size w (w.alloc (.cells #[.slice none 0 0,.slice none 0 0,.slice none 0 0] 26)):=by go_grown
 have e1:¬(n:Int)<1:=by omega
 have e2:¬(24:Int)<(n:Int):=by omega
 have hmk:=run_make_row' (P:=Tryz.prog) 22 36 (.float .f64 0) 8 Tryz.underlying22 Tryz.infoFlt rfl .i64 .i64 n (by omega) (by omega)
 go_enter Tryz.func10,Tryz.ntmps10
 go_upto_region 1 with fail
 generalize (w.alloc (.cells #[.slice none 0 0,.slice none 0 0,.slice none 0 0] 26))=V1 at *
 go_upto_region 5 with (first
   | (go_at_call 22;(with_reducible refine (c1 _ HB).mono ?_);rintro _ w1 ⟨rfl,hb1⟩;replace HB:=later HB hb1;replace R:=R.keep hb1)
   | (go_at_call 22;(with_reducible refine (c2 _ HB).mono ?_);rintro _ w2 ⟨rfl,hb2⟩;replace HB:=later HB hb2;replace R:=R.keep hb2))
 clear c1 c2 hb1 hb2 V1 w1
 have hd:Below w2.heap.size w2 w2.drew:=(Below.refl _ _).drew
 have rlt:w.heap.size<w2.heap.size:=R.2.2.2.2.2.2
 have n1x:1≤n:=n1
 go_region_held3 (fun _=>True) (exact trivial) (first
   | (go_at_call 33;(with_reducible refine (c3 w2.drew).mono ?_);rintro _ W1 ⟨⟨B1,D1,SA,SC,rfl,U1⟩,hb1⟩;have hbA:Below w2.heap.size w2 W1:=later (Below.refl _ _).drew hb1)
   | (go_at_call 33;(with_reducible refine (c3 (w2.alloc (.cells (madeCells #[.float .f64 0] n) 36)).drew).mono ?_);rintro _ W1 ⟨⟨B1,D1,SA,SC,rfl,U1⟩,hb1⟩;have O:Out W1 w2.heap.size n (fun _=>.float .f64 0):=((out_made w2 n).keep (Below.refl _ _).drew).keep hb1;have hbA:Below w2.heap.size w2 W1:=later (below_alloc (Below.refl _ _) _).drew hb1;have cO:w2.heap.size≤w2.heap.size:=Nat.le_refl _)
   | (go_at_call 33;(with_reducible refine (c3 (w2.alloc (.cells #[.slice none 0 0,.slice none 0 0,.slice none 0 0] 26)).drew).mono ?_);rintro _ W1 ⟨⟨B1,D1,SA,SC,rfl,U1⟩,hb1⟩;have N:Has3 W1 w2.heap.size (.slice none 0 0) (.slice none 0 0) (.slice none 0 0):=((set3_new w2 _ _ _ _).keep (Below.refl _ _).drew).keep hb1;have hbA:Below w2.heap.size w2 W1:=later (below_alloc (Below.refl _ _) _).drew hb1;have cS:w2.heap.size≤w2.heap.size:=Nat.le_refl _)
   | (go_at_call 33;(with_reducible refine (c3 ((w2.alloc (.cells (madeCells #[.float .f64 0] n) 36)).alloc (.cells #[.slice none 0 0,.slice none 0 0,.slice none 0 0] 26)).drew).mono ?_);rintro _ W1 ⟨⟨B1,D1,SA,SC,rfl,U1⟩,hb1⟩;have O:Out W1 w2.heap.size n (fun _=>.float .f64 0):=((out_made w2 n).keep (below_alloc (Below.refl _ _) _).drew).keep hb1;have N0:=((set3_new (w2.alloc (.cells (madeCells #[.float .f64 0] n) 36)) (.slice none 0 0) (.slice none 0 0) (.slice none 0 0) 26).keep (Below.refl _ _).drew).keep hb1;have N:Has3 W1 (w2.heap.size+1) (.slice none 0 0) (.slice none 0 0) (.slice none 0 0):=(by simpa using N0);have hbA:Below w2.heap.size w2 W1:=later (below_alloc (below_alloc (Below.refl _ _) _) _).drew hb1;have cO:w2.heap.size≤w2.heap.size:=Nat.le_refl _;have cS:w2.heap.size≤w2.heap.size+1:=Nat.le_succ _)
   | (go_at_call 33;(with_reducible refine (c3 ((w2.alloc (.cells #[.slice none 0 0,.slice none 0 0,.slice none 0 0] 26)).alloc (.cells (madeCells #[.float .f64 0] n) 36)).drew).mono ?_);rintro _ W1 ⟨⟨B1,D1,SA,SC,rfl,U1⟩,hb1⟩;have N:Has3 W1 w2.heap.size (.slice none 0 0) (.slice none 0 0) (.slice none 0 0):=((set3_new w2 _ _ _ _).keep (below_alloc (Below.refl _ _) _).drew).keep hb1;have O0:=((out_made (w2.alloc (.cells #[.slice none 0 0,.slice none 0 0,.slice none 0 0] 26)) n).keep (Below.refl _ _).drew).keep hb1;have O:Out W1 (w2.heap.size+1) n (fun _=>.float .f64 0):=(by simpa using O0);have hbA:Below w2.heap.size w2 W1:=later (below_alloc (below_alloc (Below.refl _ _) _) _).drew hb1;have cS:w2.heap.size≤w2.heap.size:=Nat.le_refl _;have cO:w2.heap.size≤w2.heap.size+1:=Nat.le_succ _)
   | (go_at_call 32;(with_reducible refine (c4 W1 _ _ _ _ (U1.keep (Below.refl _ _))).mono ?_);rintro _ W2 ⟨⟨ga,h,k,rfl,G,hga,hh⟩,hb2⟩;have hbB:Below w2.heap.size w2 W2:=later hbA (later (Below.refl _ _) hb2);have a0:w2.heap.size≤ga:=Nat.le_trans (later hbA (Below.refl _ _)).size hga;have h0:∀r,r<n→w2.heap.size≤h r:=fun r hr=>Nat.le_trans (later hbA (Below.refl _ _)).size (hh r hr);(try have PO:=preO_of (S0:=w2.heap.size) (O.keep (Below.refl _ _)) hb2 cO hga hh);(try have PS:=preS_of (S0:=w2.heap.size) (N.keep (Below.refl _ _)) hb2 cS hga hh);(try obtain⟨n0,n1,n2,n3,n4,n5,n6⟩:=id PS.s))
   | (go_at_call 32;(with_reducible refine (c4 (W1.alloc (.cells (madeCells #[.float .f64 0] n) 36)) _ _ _ _ (U1.keep (below_alloc (Below.refl _ _) (.cells (madeCells #[.float .f64 0] n) 36)))).mono ?_);rintro _ W2 ⟨⟨ga,h,k,rfl,G,hga,hh⟩,hb2⟩;have hbB:Below w2.heap.size w2 W2:=later hbA (later (below_alloc (Below.refl _ _) (.cells (madeCells #[.float .f64 0] n) 36)) hb2);have a0:w2.heap.size≤ga:=Nat.le_trans (later hbA (below_alloc (Below.refl _ _) (.cells (madeCells #[.float .f64 0] n) 36))).size hga;have h0:∀r,r<n→w2.heap.size≤h r:=fun r hr=>Nat.le_trans (later hbA (below_alloc (Below.refl _ _) (.cells (madeCells #[.float .f64 0] n) 36))).size (hh r hr);have PO:=preO_of (S0:=w2.heap.size) (out_made W1 n) hb2 hbA.size hga hh;(try have PO:=preO_of (S0:=w2.heap.size) (O.keep (below_alloc (Below.refl _ _) (.cells (madeCells #[.float .f64 0] n) 36))) hb2 cO hga hh);(try have PS:=preS_of (S0:=w2.heap.size) (N.keep (below_alloc (Below.refl _ _) (.cells (madeCells #[.float .f64 0] n) 36))) hb2 cS hga hh);(try obtain⟨n0,n1,n2,n3,n4,n5,n6⟩:=id PS.s))
   | (go_at_call 32;(with_reducible refine (c4 (W1.alloc (.cells #[.slice none 0 0,.slice none 0 0,.slice none 0 0] 26)) _ _ _ _ (U1.keep (below_alloc (Below.refl _ _) (.cells #[.slice none 0 0,.slice none 0 0,.slice none 0 0] 26)))).mono ?_);rintro _ W2 ⟨⟨ga,h,k,rfl,G,hga,hh⟩,hb2⟩;have hbB:Below w2.heap.size w2 W2:=later hbA (later (below_alloc (Below.refl _ _) (.cells #[.slice none 0 0,.slice none 0 0,.slice none 0 0] 26)) hb2);have a0:w2.heap.size≤ga:=Nat.le_trans (later hbA (below_alloc (Below.refl _ _) (.cells #[.slice none 0 0,.slice none 0 0,.slice none 0 0] 26))).size hga;have h0:∀r,r<n→w2.heap.size≤h r:=fun r hr=>Nat.le_trans (later hbA (below_alloc (Below.refl _ _) (.cells #[.slice none 0 0,.slice none 0 0,.slice none 0 0] 26))).size (hh r hr);have PS:=preS_of (S0:=w2.heap.size) (set3_new W1 _ _ _ _) hb2 hbA.size hga hh;(try have PO:=preO_of (S0:=w2.heap.size) (O.keep (below_alloc (Below.refl _ _) (.cells #[.slice none 0 0,.slice none 0 0,.slice none 0 0] 26))) hb2 cO hga hh);(try have PS:=preS_of (S0:=w2.heap.size) (N.keep (below_alloc (Below.refl _ _) (.cells #[.slice none 0 0,.slice none 0 0,.slice none 0 0] 26))) hb2 cS hga hh);(try obtain⟨n0,n1,n2,n3,n4,n5,n6⟩:=id PS.s))
   | (go_at_call 32;(with_reducible refine (c4 ((W1.alloc (.cells (madeCells #[.float .f64 0] n) 36)).alloc (.cells #[.slice none 0 0,.slice none 0 0,.slice none 0 0] 26)) _ _ _ _ (U1.keep (below_alloc (below_alloc (Below.refl _ _) (.cells (madeCells #[.float .f64 0] n) 36)) (.cells #[.slice none 0 0,.slice none 0 0,.slice none 0 0] 26)))).mono ?_);rintro _ W2 ⟨⟨ga,h,k,rfl,G,hga,hh⟩,hb2⟩;have hbB:Below w2.heap.size w2 W2:=later hbA (later (below_alloc (below_alloc (Below.refl _ _) (.cells (madeCells #[.float .f64 0] n) 36)) (.cells #[.slice none 0 0,.slice none 0 0,.slice none 0 0] 26)) hb2);have a0:w2.heap.size≤ga:=Nat.le_trans (later hbA (below_alloc (below_alloc (Below.refl _ _) (.cells (madeCells #[.float .f64 0] n) 36)) (.cells #[.slice none 0 0,.slice none 0 0,.slice none 0 0] 26))).size hga;have h0:∀r,r<n→w2.heap.size≤h r:=fun r hr=>Nat.le_trans (later hbA (below_alloc (below_alloc (Below.refl _ _) (.cells (madeCells #[.float .f64 0] n) 36)) (.cells #[.slice none 0 0,.slice none 0 0,.slice none 0 0] 26))).size (hh r hr);have PO:=preO_of (S0:=w2.heap.size) ((out_made W1 n).keep (below_alloc (Below.refl _ _) (.cells #[.slice none 0 0,.slice none 0 0,.slice none 0 0] 26))) hb2 hbA.size hga hh;have PS0:=preS_of (S0:=w2.heap.size) (set3_new (W1.alloc (.cells (madeCells #[.float .f64 0] n) 36)) (.slice none 0 0) (.slice none 0 0) (.slice none 0 0) 26) hb2 (Nat.le_trans hbA.size (by simp)) hga hh;have PS:PreS w2.heap.size W2 n (W1.heap.size+1) ga h:=(by simpa using PS0);(try have PO:=preO_of (S0:=w2.heap.size) (O.keep (below_alloc (below_alloc (Below.refl _ _) (.cells (madeCells #[.float .f64 0] n) 36)) (.cells #[.slice none 0 0,.slice none 0 0,.slice none 0 0] 26))) hb2 cO hga hh);(try have PS:=preS_of (S0:=w2.heap.size) (N.keep (below_alloc (below_alloc (Below.refl _ _) (.cells (madeCells #[.float .f64 0] n) 36)) (.cells #[.slice none 0 0,.slice none 0 0,.slice none 0 0] 26))) hb2 cS hga hh);(try obtain⟨n0,n1,n2,n3,n4,n5,n6⟩:=id PS.s))
   | (go_at_call 32;(with_reducible refine (c4 ((W1.alloc (.cells #[.slice none 0 0,.slice none 0 0,.slice none 0 0] 26)).alloc (.cells (madeCells #[.float .f64 0] n) 36)) _ _ _ _ (U1.keep (below_alloc (below_alloc (Below.refl _ _) (.cells #[.slice none 0 0,.slice none 0 0,.slice none 0 0] 26)) (.cells (madeCells #[.float .f64 0] n) 36)))).mono ?_);rintro _ W2 ⟨⟨ga,h,k,rfl,G,hga,hh⟩,hb2⟩;have hbB:Below w2.heap.size w2 W2:=later hbA (later (below_alloc (below_alloc (Below.refl _ _) (.cells #[.slice none 0 0,.slice none 0 0,.slice none 0 0] 26)) (.cells (madeCells #[.float .f64 0] n) 36)) hb2);have a0:w2.heap.size≤ga:=Nat.le_trans (later hbA (below_alloc (below_alloc (Below.refl _ _) (.cells #[.slice none 0 0,.slice none 0 0,.slice none 0 0] 26)) (.cells (madeCells #[.float .f64 0] n) 36))).size hga;have h0:∀r,r<n→w2.heap.size≤h r:=fun r hr=>Nat.le_trans (later hbA (below_alloc (below_alloc (Below.refl _ _) (.cells #[.slice none 0 0,.slice none 0 0,.slice none 0 0] 26)) (.cells (madeCells #[.float .f64 0] n) 36))).size (hh r hr);have PS:=preS_of (S0:=w2.heap.size) ((set3_new W1 (.slice none 0 0) (.slice none 0 0) (.slice none 0 0) 26).keep (below_alloc (Below.refl _ _) (.cells (madeCells #[.float .f64 0] n) 36))) hb2 hbA.size hga hh;have PO0:=preO_of (S0:=w2.heap.size) (out_made (W1.alloc (.cells #[.slice none 0 0,.slice none 0 0,.slice none 0 0] 26)) n) hb2 (Nat.le_trans hbA.size (by simp)) hga hh;have PO:PreO w2.heap.size W2 n (W1.heap.size+1) ga h:=(by simpa using PO0);(try have PO:=preO_of (S0:=w2.heap.size) (O.keep (below_alloc (below_alloc (Below.refl _ _) (.cells #[.slice none 0 0,.slice none 0 0,.slice none 0 0] 26)) (.cells (madeCells #[.float .f64 0] n) 36))) hb2 cO hga hh);(try have PS:=preS_of (S0:=w2.heap.size) (N.keep (below_alloc (below_alloc (Below.refl _ _) (.cells #[.slice none 0 0,.slice none 0 0,.slice none 0 0] 26)) (.cells (madeCells #[.float .f64 0] n) 36))) hb2 cS hga hh);(try obtain⟨n0,n1,n2,n3,n4,n5,n6⟩:=id PS.s)))
 all_goals
   first
     | (have hN:=new_f0 hbB PO PS G a0 h0 n1x;obtain⟨W3,eW,I⟩:=hN;rw [←eW])
     | (have hN:=new_f1 hbB PS G a0 h0;obtain⟨W3,eW,I⟩:=hN;rw [←eW])
     | (have hN:=new_f2 hbB PO G a0 h0;obtain⟨W3,eW,I⟩:=hN;rw [←eW])
     | (have hN:=new_f3 hbB G a0 h0;obtain⟨W3,eW,I⟩:=hN;rw [←eW])
     | (have hN:=new_f4 hbB G a0 h0;obtain⟨W3,eW,I⟩:=hN;rw [←eW])
   clear eW G a0 h0 hga hh hb2 hbB hbA hb1 U1
   (try clear PO)
   (try clear PS)
   have HB3:=later HB I.b
   have R3:=R.keep I.b
   obtain⟨t0,t1,t2,t3,t4,t5,t6⟩:=id I.s
   go_wp2_with (go_at_call 34;(with_reducible refine (c5 _ _ (fun _=>0) HB3 (Nat.le_trans HB.size I.c0) I.o).mono ?_);rintro _ W4 ⟨gr,rfl,O4,J4,hgr,HB4,but⟩;have S4:=I.s.blockY (but.block _ I.s.2.2.2.2.2.2 I.sc) but.size;have c0:=I.c0;have R4:=R3.blockY (but.block _ R3.2.2.2.2.2.2 (by omega)) but.size;have G4:=I.g.block but.size (but.block _ I.g.out.1 I.ca) (fun r hr=>but.block _ (I.g.row r hr).1 (I.ch r hr));obtain⟨v0,v1,v2,v3,v4,v5,v6⟩:=id S4;obtain⟨y0,y1,y2,y3,y4,y5,y6⟩:=id R4;have a0:=I.a0;have s0:=I.s0;have hs3:=I.s.2.2.2.2.2.2)
   have sc:=I.sc
   have sa:=I.sa
   have sh:=I.sh
   have h0:=I.h0
   refine bodyPost_ret (v:=.tuple #[.agg #[.slice (some ⟨_,0,none⟩) n n,.slice (some ⟨ga,0,none⟩) n n,.slice (some ⟨gr,0,none⟩) n n],.int .i64 0]) (by simp [results,Tryz.results10,go_sem, *];rfl) rfl ⟨_,ga,gr,h,k,rfl, ?_, ?_, ?_, ?_⟩
   · repeat' (first | (with_reducible exact O4) | (with_reducible refine Out.far ?_ ?_ _) | omega)
   · repeat' (first | (with_reducible exact G4) | (with_reducible refine RowsF.far ?_ ?_ ?_ _) | (intro r hr;have q1:=h0 r hr;have q2:=sh r hr;omega) | omega)
   · repeat' (first | (with_reducible exact J4) | (with_reducible refine Img.far ?_ ?_ _) | omega)
   · repeat' (first | (with_reducible exact HB4) | (with_reducible refine Below.setCell ?_ ?_ _) | (show w.heap.size≤_;omega) | go_size)
def NewAns (n:Nat) (X:Nat→Nat×Nat) (e:Ending) (w':World):Prop:=∃gc ga gr h k,e=.returned (.tuple #[.agg #[.slice (some ⟨gc,0,none⟩) n n,.slice (some ⟨ga,0,none⟩) n n,.slice (some ⟨gr,0,none⟩) n n],.int .i64 0])∧Out w' gc n (fun i=>.float .f64 (midP (X i).1 (X i).2))∧RowsF w' ga n n h k oneN∧Img w' gr n (fun i=>leftQ (X i))
theorem lnew_no (A:Option Addr) (n C:Nat) (X:Nat→Nat×Nat) (hn:n≤9223372036854775807) (w:World) (V:Ivs w A n X) (h:n<1∨24<n∨∃i,i<n∧hsB (X i).1 (X i).2=false) :
   Calls Tryz.prog 10 #[.slice A n C] w fun e w'=>e=.returned (.tuple #[.agg #[.slice none 0 0,.slice none 0 0,.slice none 0 0],.int .i64 1])∧Below w.heap.size w w':=by
 by_cases c:n<1∨24<n
 · exact lnew_bad A n C w true (fun h=>by cases h) (fun W _ h=>by cases h) (fun _=>c)
 · have h3:∃i,i<n∧hsB (X i).1 (X i).2=false:=by rcases h with h | h | h;exact absurd (Or.inl h) c;exact absurd (Or.inr h) c;exact h
   obtain⟨i,hi,hs⟩:=h3
   refine lnew_bad A n C w false (fun _=>by omega) (fun W hW _=>?_) (fun h=>by cases h)
   have c:=snone_w A n C X hn W (V.keep hW)
   rw [someU_true (i:=i) hi (by rw [hs];rfl)] at c
   exact c
theorem lnew_w (A:Option Addr) (n C:Nat) (X:Nat→Nat×Nat) (n1:1≤n) (n2:n≤24) (w:World) (V:Ivs w A n X) (hs:∀i,i<n→hsB (X i).1 (X i).2=true) :
   Calls Tryz.prog 10 #[.slice A n C] w fun e w'=>(if (List.range n).all (fun i=>bdB (X i)) then NewAns n X e w' else e=.returned (.tuple #[.agg #[.slice none 0 0,.slice none 0 0,.slice none 0 0],.int .i64 5]))∧Below w.heap.size w w':=by
 have c1:∀W,Below w.heap.size w W→Calls Tryz.prog 22 #[.slice A n C,.func (.func 31) #[] #[]] W fun e w'=>e=.returned (.bool false)∧Below W.heap.size W w':=fun W hW=>by
   have c:=snone_w A n C X (by omega) W (V.keep hW)
   rw [someU_false.2 fun i hi=>by rw [hs i hi];rfl] at c
   exact c
 have c2:=fun W (hW:Below w.heap.size w W)=>send_w A n C X (by omega) W (V.keep hW)
 cases q:(List.range n).all (fun i=>bdB (X i))
 · have e:(someU n fun i=>!bdB (X i))=true:=by
     cases u:(someU n fun i=>!bdB (X i))
     · have:=someU_false.1 u
       rw [all_upto.2 fun i hi=>by have:=this i hi;simpa using this] at q
       cases q
     · rfl
   rw [e] at c2
   refine (lnew_wide A n C w n1 n2 c1 c2).mono fun e' w' ⟨a,b⟩=>⟨?_,b⟩
   rw [if_neg (by simp)]
   exact a
 · have hb:=all_upto.1 q
   rw [someU_false.2 fun i hi=>by rw [hb i hi];rfl] at c2
   have wd:=ivs_words V
   refine (lnew_good A n C X n1 n2 w c1 c2 (fun W=>(One_rws n n1 n2 W).mono fun e w' ⟨B,D,SA,SC,a,b,c⟩=>⟨⟨B,D,SA,SC,a,b⟩,c⟩) (fun W B D SA SC U=>?_) (fun W gc K hW hg O=>?_)).mono fun e' w' ⟨gc,ga,gr,h,k,a,b,c,d,f⟩=>⟨?_,f⟩
   · refine (midrows_w B n D n SA SC oneP n2 n2 (by omega) W U).mono fun e w' ⟨ga,h,k,a,b,c,d,f⟩=>⟨⟨ga,h,k,a, ?_,c,d⟩,f⟩
     have ef:(fun r c=>midP (oneP r c).1 (oneP r c).2)=oneN:=by funext r c;exact mid_one r c
     rw [←ef]
     exact b
   · exact centre_w gc n C A X K n2 w W V (fun i hi=>(middle_facts (wd i hi).1 (wd i hi).2 (hb i hi)).1) (fun i hi=>(left_bd (wd i hi).1 (wd i hi).2 (hb i hi)).2) hW hg O
   · rw [if_pos rfl]
     exact⟨gc,ga,gr,h,k,a,b,c,d⟩
end Go.Proofs.YtdokikhhlmelkaaGreat
