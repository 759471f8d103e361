/- A column of floats; squares of floats. scalesOf: none, or powers that are not great. Sums of amounts, rounded up: they are always told, and are amounts. Norms: lin.norm and the reference's Norm. lin.Norm with its refusal; Points and One of both sides as rows in memory, under one contract each. LinNorms: the law's walk. -/
import Derived.Test.YtlabmpngbcnhpaaGreatZi31
import Derived.Test.YtlabmpngbcnhpaaGreatZi24
import Derived.Test.YtlabmpngbcnhpaaGreatZi33
import Derived.Deep.OwnRows
import Derived.Test.YtlabmpngbcnhpaaGreatZi20
import Derived.Test.YtlabmpngbcnhpaaGreatZi22
namespace Go.Proofs.YtlabmpngbcnhpaaGreat
open Go.ChangeShapes Go.WideShapes Go.ChangeAt Go.RowKit
set_option maxHeartbeats 2000000 in
theorem columnF_w (A:Option Addr) (N C j:Nat) (RA:Nat→Option Addr) (RL RC:Nat→Nat) (X:Nat→Nat→Nat) (hN:N≤24) (hR:∀r,r<N→j<RL r) (w:World) (V:Rfs w A N RA RL RC X) :
   Calls Tryz.prog 39 #[.slice A N C,.int .i64 (j:Int)] w fun e w'=>∃g,e=.returned (.slice (some ⟨g,0,none⟩) N N)∧Fls w' (some ⟨g,0,none⟩) N (fun r=>X r j)∧w.heap.size≤g∧Below w.heap.size w w':=by
 have HR:Hid (∀r,r<N→j<RL r):=hR
 clear hR
 go_enter Tryz.func39,Tryz.ntmps39
 go_wp2_with (at_make;refine wpList_makeF (by rfl) _ _ (by rfl) N (by rfl) (by rfl) (by omega) ?_;intro w3 hI HB hS3)
 have HI:Hid (Flo w3 w.heap.size N):=hI
 clear hI
 go_loopg [12] N (fun G s12 wx=>Below w.heap.size w wx∧∃r:Nat,r+G=N∧s12=.int .i64 (r:Int)∧Hid (Flo wx w.heap.size N)∧Hid (∀i,i<r→wx.cell? ⟨w.heap.size,i,none⟩=some (.float .f64 (X i j))∧X i j<18446744073709551616))
 case atStart=>exact⟨HB,0,by omega,rfl,HI,fun i hi=>absurd hi (by omega)⟩
 case round =>
   clear HB HI
   obtain⟨HB,r,hr,rfl,HI,HK⟩:=hrel
   by_cases cr:r=N
   · subst cr
     go_wp2_with fail
     go_ret
     exact⟨_,rfl,fun i hi=>⟨_,_,rfl,HI.out.lt,by rw [Nat.zero_add];exact (HK.out i hi).1,(HK.out i hi).2⟩,Nat.le_refl _,HB⟩
   · have hlt:(r:Int)<(N:Int):=by omega
     obtain⟨b',o',hA,hb',x0,l0,I⟩:=(V.keep HB) r (by omega)
     have hjr:=HR.out r (by omega)
     have hlt2:(j:Int)<(RL r:Int):=by omega
     obtain⟨b2,o2,hA2,hb2,y0,ly⟩:=I j hjr
     obtain⟨z,z0,z1, -⟩:=HI.out.at r (by omega)
     have HX:Hid (X r j<18446744073709551616):=ly
     subst hA
     rw [hA2] at x0
     go_wp2_with fail
     go_roundg (N-r-1)
     case measure=>omega
     case rel =>
       refine⟨HB.setCell (Nat.le_refl _) _,r+1,by omega,by go_num,HI.out.set _ _ _ HX,fun i hi=>?_⟩
       by_cases e:i=r
       · subst e
         exact⟨by go_simp,HX⟩
       · have m:r≠i:=fun c=>e c.symm
         obtain⟨p,q⟩:=HK.out i (by omega)
         exact⟨by go_simp,q⟩
theorem square_w (A:Option Addr) (N C:Nat) (RA:Nat→Option Addr) (RL RC:Nat→Nat) (X:Nat→Nat→Nat) (hN:N≤9223372036854775807) (w:World) (V:Rfs w A N RA RL RC X) :
   Calls Tryz.prog 11 #[.slice A N C] w fun e w'=>e=.returned (.bool (fltB N RL X&&decide (N=RL 0)))∧Below w.heap.size w w':=by
 have c:=floatsMay_w A N C RA RL RC X hN w V
 cases hf:fltB N RL X
 · rw [hf] at c
   go_enter Tryz.func11,Tryz.ntmps11
   go_wp2_with (go_at_call 37;refine c.mono ?_;rintro _ w1 ⟨rfl,hb1⟩)
   go_ret
   exact⟨rfl,hb1⟩
 · rw [hf] at c
   obtain⟨m1,m2, -, -, -⟩:=fltB_parts hf
   obtain⟨b,o,hA,hb,x0,l0, -⟩:=V 0 (by omega)
   rw [Nat.add_zero] at x0
   have h0:(0:Int)<(N:Int):=by omega
   have he:((N:Int)==(RL 0:Int))=decide (N=RL 0):=by
     by_cases q:N=RL 0
     · rw [←q];simp
     · rw [decide_eq_false q];simp;omega
   generalize decide (N=RL 0)=d at *
   subst hA
   go_enter Tryz.func11,Tryz.ntmps11
   go_wp2_with (go_at_call 37;refine c.mono ?_;rintro _ w1 ⟨rfl,hb1⟩;replace x0:=keepsC hb1 x0 hb)
   go_ret
   exact⟨by simp,hb1⟩
theorem Tryz.infoI64:(Tryz.prog.info? 3).map (fun i=>(i.zero,i.size,i.bytes))=some (some (.int .i64 0),1,8):=by kernel_rfl
theorem out_madeI (W:World) (n:Nat):Out (W.alloc (.cells (madeCells #[.int .i64 0] n) 3)) W.heap.size n (fun _=>.int .i64 0):=by
 have q:=World.rowIs_made W (.int .i64 0) n 3
 exact⟨q.lt,fun i hi=>⟨q.cell hi,q.frozen i⟩⟩
structure SclIn (V W:World) (n gr gc sb:Nat):Prop where
 r:Out W gr n (fun _=>.int .i64 0)
 c:Out W gc n (fun _=>.int .i64 0)
 s:Has2 W sb (.slice (some ⟨gr,0,none⟩) n n) (.slice (some ⟨gc,0,none⟩) n n)
 b:Below V.heap.size V W
 r0:V.heap.size≤gr
 c0:V.heap.size≤gc
 s0:V.heap.size≤sb
 rc:gr≠gc
 sr:sb≠gr
 sc:sb≠gc
theorem scl_0 (V:World) (n:Nat):∃W3 gr gc sb,W3=(((V.alloc (.cells (madeCells #[.int .i64 0] n) 3)).alloc (.cells (madeCells #[.int .i64 0] n) 3)).alloc (.cells #[.slice (some ⟨V.heap.size,0,none⟩) n n,.slice (some ⟨V.heap.size+1,0,none⟩) n n] 39)).drew∧gr=V.heap.size∧gc=V.heap.size+1∧sb=V.heap.size+1+1∧SclIn V W3 n gr gc sb:=by
 refine⟨_,_,_,_,rfl,rfl,rfl,rfl, ?_, ?_, ?_,(below_alloc (below_alloc (below_alloc (Below.refl _ _) _) _) _).drew,by omega,by omega,by omega,by omega,by omega,by omega⟩
 · have q:=(out_madeI V n).keep (below_alloc (below_alloc (Below.refl _ _) (.cells (madeCells #[.int .i64 0] n) 3)) (.cells #[.slice (some ⟨V.heap.size,0,none⟩) n n,.slice (some ⟨V.heap.size+1,0,none⟩) n n] 39)).drew
   simpa only [World.size_alloc] using q
 · have q:=(out_madeI (V.alloc (.cells (madeCells #[.int .i64 0] n) 3)) n).keep (below_alloc (Below.refl _ _) (.cells #[.slice (some ⟨V.heap.size,0,none⟩) n n,.slice (some ⟨V.heap.size+1,0,none⟩) n n] 39)).drew
   simpa only [World.size_alloc] using q
 · have q:=(has2_new ((V.alloc (.cells (madeCells #[.int .i64 0] n) 3)).alloc (.cells (madeCells #[.int .i64 0] n) 3)) (.slice (some ⟨V.heap.size,0,none⟩) n n) (.slice (some ⟨V.heap.size+1,0,none⟩) n n) 39).keep (Below.refl _ _).drew
   simpa only [World.size_alloc] using q
theorem scl_1 (V:World) (n:Nat):∃W3 gr sb gc,W3=(((V.alloc (.cells (madeCells #[.int .i64 0] n) 3)).alloc (.cells #[.slice (some ⟨V.heap.size,0,none⟩) n n,.slice (some ⟨V.heap.size+1+1,0,none⟩) n n] 39)).alloc (.cells (madeCells #[.int .i64 0] n) 3)).drew∧gr=V.heap.size∧sb=V.heap.size+1∧gc=V.heap.size+1+1∧SclIn V W3 n gr gc sb:=by
 refine⟨_,_,_,_,rfl,rfl,rfl,rfl, ?_, ?_, ?_,(below_alloc (below_alloc (below_alloc (Below.refl _ _) _) _) _).drew,by omega,by omega,by omega,by omega,by omega,by omega⟩
 · have q:=(out_madeI V n).keep (below_alloc (below_alloc (Below.refl _ _) (.cells #[.slice (some ⟨V.heap.size,0,none⟩) n n,.slice (some ⟨V.heap.size+1+1,0,none⟩) n n] 39)) (.cells (madeCells #[.int .i64 0] n) 3)).drew
   simpa only [World.size_alloc] using q
 · have q:=(out_madeI ((V.alloc (.cells (madeCells #[.int .i64 0] n) 3)).alloc (.cells #[.slice (some ⟨V.heap.size,0,none⟩) n n,.slice (some ⟨V.heap.size+1+1,0,none⟩) n n] 39)) n).keep (Below.refl _ _).drew
   simpa only [World.size_alloc] using q
 · have q:=(has2_new (V.alloc (.cells (madeCells #[.int .i64 0] n) 3)) (.slice (some ⟨V.heap.size,0,none⟩) n n) (.slice (some ⟨V.heap.size+1+1,0,none⟩) n n) 39).keep (below_alloc (Below.refl _ _) (.cells (madeCells #[.int .i64 0] n) 3)).drew
   simpa only [World.size_alloc] using q
theorem scl_2 (V:World) (n:Nat):∃W3 gc gr sb,W3=(((V.alloc (.cells (madeCells #[.int .i64 0] n) 3)).alloc (.cells (madeCells #[.int .i64 0] n) 3)).alloc (.cells #[.slice (some ⟨V.heap.size+1,0,none⟩) n n,.slice (some ⟨V.heap.size,0,none⟩) n n] 39)).drew∧gc=V.heap.size∧gr=V.heap.size+1∧sb=V.heap.size+1+1∧SclIn V W3 n gr gc sb:=by
 refine⟨_,_,_,_,rfl,rfl,rfl,rfl, ?_, ?_, ?_,(below_alloc (below_alloc (below_alloc (Below.refl _ _) _) _) _).drew,by omega,by omega,by omega,by omega,by omega,by omega⟩
 · have q:=(out_madeI (V.alloc (.cells (madeCells #[.int .i64 0] n) 3)) n).keep (below_alloc (Below.refl _ _) (.cells #[.slice (some ⟨V.heap.size+1,0,none⟩) n n,.slice (some ⟨V.heap.size,0,none⟩) n n] 39)).drew
   simpa only [World.size_alloc] using q
 · have q:=(out_madeI V n).keep (below_alloc (below_alloc (Below.refl _ _) (.cells (madeCells #[.int .i64 0] n) 3)) (.cells #[.slice (some ⟨V.heap.size+1,0,none⟩) n n,.slice (some ⟨V.heap.size,0,none⟩) n n] 39)).drew
   simpa only [World.size_alloc] using q
 · have q:=(has2_new ((V.alloc (.cells (madeCells #[.int .i64 0] n) 3)).alloc (.cells (madeCells #[.int .i64 0] n) 3)) (.slice (some ⟨V.heap.size+1,0,none⟩) n n) (.slice (some ⟨V.heap.size,0,none⟩) n n) 39).keep (Below.refl _ _).drew
   simpa only [World.size_alloc] using q
theorem scl_3 (V:World) (n:Nat):∃W3 gc sb gr,W3=(((V.alloc (.cells (madeCells #[.int .i64 0] n) 3)).alloc (.cells #[.slice (some ⟨V.heap.size+1+1,0,none⟩) n n,.slice (some ⟨V.heap.size,0,none⟩) n n] 39)).alloc (.cells (madeCells #[.int .i64 0] n) 3)).drew∧gc=V.heap.size∧sb=V.heap.size+1∧gr=V.heap.size+1+1∧SclIn V W3 n gr gc sb:=by
 refine⟨_,_,_,_,rfl,rfl,rfl,rfl, ?_, ?_, ?_,(below_alloc (below_alloc (below_alloc (Below.refl _ _) _) _) _).drew,by omega,by omega,by omega,by omega,by omega,by omega⟩
 · have q:=(out_madeI ((V.alloc (.cells (madeCells #[.int .i64 0] n) 3)).alloc (.cells #[.slice (some ⟨V.heap.size+1+1,0,none⟩) n n,.slice (some ⟨V.heap.size,0,none⟩) n n] 39)) n).keep (Below.refl _ _).drew
   simpa only [World.size_alloc] using q
 · have q:=(out_madeI V n).keep (below_alloc (below_alloc (Below.refl _ _) (.cells #[.slice (some ⟨V.heap.size+1+1,0,none⟩) n n,.slice (some ⟨V.heap.size,0,none⟩) n n] 39)) (.cells (madeCells #[.int .i64 0] n) 3)).drew
   simpa only [World.size_alloc] using q
 · have q:=(has2_new (V.alloc (.cells (madeCells #[.int .i64 0] n) 3)) (.slice (some ⟨V.heap.size+1+1,0,none⟩) n n) (.slice (some ⟨V.heap.size,0,none⟩) n n) 39).keep (below_alloc (Below.refl _ _) (.cells (madeCells #[.int .i64 0] n) 3)).drew
   simpa only [World.size_alloc] using q
theorem scl_4 (V:World) (n:Nat):∃W3 sb gr gc,W3=(((V.alloc (.cells #[.slice (some ⟨V.heap.size+1,0,none⟩) n n,.slice (some ⟨V.heap.size+1+1,0,none⟩) n n] 39)).alloc (.cells (madeCells #[.int .i64 0] n) 3)).alloc (.cells (madeCells #[.int .i64 0] n) 3)).drew∧sb=V.heap.size∧gr=V.heap.size+1∧gc=V.heap.size+1+1∧SclIn V W3 n gr gc sb:=by
 refine⟨_,_,_,_,rfl,rfl,rfl,rfl, ?_, ?_, ?_,(below_alloc (below_alloc (below_alloc (Below.refl _ _) _) _) _).drew,by omega,by omega,by omega,by omega,by omega,by omega⟩
 · have q:=(out_madeI (V.alloc (.cells #[.slice (some ⟨V.heap.size+1,0,none⟩) n n,.slice (some ⟨V.heap.size+1+1,0,none⟩) n n] 39)) n).keep (below_alloc (Below.refl _ _) (.cells (madeCells #[.int .i64 0] n) 3)).drew
   simpa only [World.size_alloc] using q
 · have q:=(out_madeI ((V.alloc (.cells #[.slice (some ⟨V.heap.size+1,0,none⟩) n n,.slice (some ⟨V.heap.size+1+1,0,none⟩) n n] 39)).alloc (.cells (madeCells #[.int .i64 0] n) 3)) n).keep (Below.refl _ _).drew
   simpa only [World.size_alloc] using q
 · have q:=(has2_new V (.slice (some ⟨V.heap.size+1,0,none⟩) n n) (.slice (some ⟨V.heap.size+1+1,0,none⟩) n n) 39).keep (below_alloc (below_alloc (Below.refl _ _) (.cells (madeCells #[.int .i64 0] n) 3)) (.cells (madeCells #[.int .i64 0] n) 3)).drew
   simpa only [World.size_alloc] using q
theorem scl_5 (V:World) (n:Nat):∃W3 sb gc gr,W3=(((V.alloc (.cells #[.slice (some ⟨V.heap.size+1+1,0,none⟩) n n,.slice (some ⟨V.heap.size+1,0,none⟩) n n] 39)).alloc (.cells (madeCells #[.int .i64 0] n) 3)).alloc (.cells (madeCells #[.int .i64 0] n) 3)).drew∧sb=V.heap.size∧gc=V.heap.size+1∧gr=V.heap.size+1+1∧SclIn V W3 n gr gc sb:=by
 refine⟨_,_,_,_,rfl,rfl,rfl,rfl, ?_, ?_, ?_,(below_alloc (below_alloc (below_alloc (Below.refl _ _) _) _) _).drew,by omega,by omega,by omega,by omega,by omega,by omega⟩
 · have q:=(out_madeI ((V.alloc (.cells #[.slice (some ⟨V.heap.size+1+1,0,none⟩) n n,.slice (some ⟨V.heap.size+1,0,none⟩) n n] 39)).alloc (.cells (madeCells #[.int .i64 0] n) 3)) n).keep (Below.refl _ _).drew
   simpa only [World.size_alloc] using q
 · have q:=(out_madeI (V.alloc (.cells #[.slice (some ⟨V.heap.size+1+1,0,none⟩) n n,.slice (some ⟨V.heap.size+1,0,none⟩) n n] 39)) n).keep (below_alloc (Below.refl _ _) (.cells (madeCells #[.int .i64 0] n) 3)).drew
   simpa only [World.size_alloc] using q
 · have q:=(has2_new V (.slice (some ⟨V.heap.size+1+1,0,none⟩) n n) (.slice (some ⟨V.heap.size+1,0,none⟩) n n) 39).keep (below_alloc (below_alloc (Below.refl _ _) (.cells (madeCells #[.int .i64 0] n) 3)) (.cells (madeCells #[.int .i64 0] n) 3)).drew
   simpa only [World.size_alloc] using q
theorem Has2.farM {w:World} {b c o:Nat} {x y:Value} (h:Has2 w b x y) (hne:c≠b) (v:Value):Has2 (w.setCell ⟨c,o,none⟩ v) b x y:=h.block (Below.heap_setCell _ _ _ _ (fun e=>hne e.symm)) (by simp only [World.size_setCell];exact Nat.le_refl _)
theorem Has2.two {w:World} {b:Nat} {x y:Value} (h:Has2 w b x y):w.cell? ⟨b,0,none⟩=some x∧w.cell? ⟨b,1,none⟩=some y:=⟨h.1,h.2.1⟩
def SclAns (n:Nat) (e:Ending) (w':World):Prop:=∃A1 l1 k1 A2 l2 k2 ok,e=.returned (.tuple #[.agg #[.slice A1 l1 k1,.slice A2 l2 k2],.bool ok])∧(ok=true→∃gr gc P Q,A1=some ⟨gr,0,none⟩∧A2=some ⟨gc,0,none⟩∧n=l1∧n=k1∧n=l2∧n=k2∧Pws w' (some ⟨gr,0,none⟩) n P∧Pws w' (some ⟨gc,0,none⟩) n Q)
def rowPw (X:Nat→Nat→Nat) (n r:Nat):Int:=gpI (X r) (fun _=>0) n
def colPw (X:Nat→Nat→Nat) (n j:Nat):Int:=gpI (fun r=>X r j) (rowPw X n) n
set_option maxRecDepth 4000 in
set_option maxHeartbeats 32000000 in
theorem scalesOf_w (A:Option Addr) (n C:Nat) (RA:Nat→Option Addr) (RL RC:Nat→Nat) (X:Nat→Nat→Nat) (n1:1≤n) (n2:n≤24) (hR:∀r,r<n→RL r=n) (hf:∀r,r<n→∀c,c<n→finB (X r c)=true) (w:World) (V:Rfs w A n RA RL RC X) :
   Calls Tryz.prog 12 #[.slice A n C] w fun e w'=>SclAns n e w'∧Below w.heap.size w w':=by
 have R:Has2 (w.alloc (.cells #[.slice none 0 0,.slice none 0 0] 39)) w.heap.size (.slice none 0 0) (.slice none 0 0):=has2_new _ _ _ _
 have HB:Below w.heap.size w (w.alloc (.cells #[.slice none 0 0,.slice none 0 0] 39)):=by go_grown
 have hmk:=run_make_row' (P:=Tryz.prog) 37 3 (.int .i64 0) 8 Tryz.underlying37 Tryz.infoI64 rfl .i64 .i64 n (by omega) (by omega)
 have HR:Hid (∀r,r<n→RL r=n):=hR
 have HF:Hid (∀r,r<n→∀c,c<n→finB (X r c)=true):=hf
 have HP:Hid (∀r,r<n→rowPw X n r=-9223372036854775808∨(-1074≤rowPw X n r∧rowPw X n r≤1035)):=fun r hr=>by
   have q:=gp_some (X r) (fun _=>0) 0 0 (by omega) (by omega) n (hf r hr) (fun _ _ _=>⟨Int.le_refl _,Int.le_refl _⟩)
   unfold rowPw
   omega
 have HD:Hid (∀r,r<n→∀j,j<n→zeB (X r j)=false→-1074≤rowPw X n r∧rowPw X n r≤1035):=fun r hr j hj hz=>by
   have q:=gp_seen (X r) (fun _=>0) 0 0 (by omega) (by omega) n (hf r hr) (fun _ _ _=>⟨Int.le_refl _,Int.le_refl _⟩) j hj hz
   unfold rowPw
   omega
 have HQ:Hid (∀j,j<n→colPw X n j=-9223372036854775808∨(-10000≤colPw X n j∧colPw X n j≤10000)):=fun j hj=>by
   have q:=gp_some (fun r=>X r j) (rowPw X n) (-1074) 1035 (by omega) (by omega) n (fun r hr=>hf r hr j hj) (fun r hr hz=>HD r hr j hj hz)
   unfold colPw
   omega
 clear hR hf
 go_enter Tryz.func12,Tryz.ntmps12
 go_upto_region 1 with fail
 generalize (w.alloc (.cells #[.slice none 0 0,.slice none 0 0] 39))=V1 at *
 have rlt:w.heap.size<V1.heap.size:=R.2.2.2.2
 obtain⟨b0,o0,hA0, -⟩:=V 0 (by omega)
 subst hA0
 go_cut [4] from 9 to 15 (fun s4 wx=>∃gr gc sb,s4=.pointer (some ⟨sb,0,none⟩)∧SclIn V1 wx n gr gc sb)
 case first =>
   go_region
   all_goals
     first
       | (have hN:=scl_0 V1 n;obtain⟨W3,gr,gc,sb,eW,e0,e1,e2,I⟩:=hN;rw [←eW,←e2,←e1,←e0])
       | (have hN:=scl_1 V1 n;obtain⟨W3,gr,sb,gc,eW,e0,e1,e2,I⟩:=hN;rw [←eW,←e2,←e1,←e0])
       | (have hN:=scl_2 V1 n;obtain⟨W3,gc,gr,sb,eW,e0,e1,e2,I⟩:=hN;rw [←eW,←e2,←e1,←e0])
       | (have hN:=scl_3 V1 n;obtain⟨W3,gc,sb,gr,eW,e0,e1,e2,I⟩:=hN;rw [←eW,←e2,←e1,←e0])
       | (have hN:=scl_4 V1 n;obtain⟨W3,sb,gr,gc,eW,e0,e1,e2,I⟩:=hN;rw [←eW,←e2,←e1,←e0])
       | (have hN:=scl_5 V1 n;obtain⟨W3,sb,gc,gr,eW,e0,e1,e2,I⟩:=hN;rw [←eW,←e2,←e1,←e0])
     go_wp2_with fail
     go_meet
     exact⟨gr,gc,sb,rfl,I⟩
 case rest =>
   obtain⟨gr,gc,sb,rfl,I⟩:=hcut
   have T0:=I.s
   have R0:=R.keep I.b
   have HB0:=later HB I.b
   have r0:=I.r0
   have c0:=I.c0
   have s0:=I.s0
   have nrc:=I.rc
   have nsr:=I.sr
   have nsc:=I.sc
   have nrs:gr≠sb:=fun e=>nsr e.symm
   have ncs:gc≠sb:=fun e=>nsc e.symm
   have Or:=I.r
   have Oc:=I.c
   have wr0:w.heap.size<gr:=by omega
   have wc0:w.heap.size<gc:=by omega
   have ws0:w.heap.size<sb:=by omega
   clear I r0 c0 s0 R HB
   go_wp2_with fail
   go_loopg [18] n (fun G s18 wx=>Below w.heap.size w wx∧Has2 wx sb (.slice (some ⟨gr,0,none⟩) n n) (.slice (some ⟨gc,0,none⟩) n n)∧Has2 wx w.heap.size (.slice none 0 0) (.slice none 0 0)∧Out wx gc n (fun _=>.int .i64 0)∧∃r:Nat,r+G=n∧s18=.int .i64 (r:Int)∧Out wx gr n (fun i=>.int .i64 (if i<r then rowPw X n i else 0)))
   case atStart=>exact⟨HB0,T0,R0,Oc,0,by omega,rfl,Or.congr fun i _=>by simp⟩
   case round =>
     clear HB0 T0 R0 Oc Or
     obtain⟨HB,T,R,Oc,r,hr,rfl,Or⟩:=hrel
     by_cases cr:r=n
     · subst cr
       replace Or:Out wr gr r (fun i=>.int .i64 (rowPw X r i)):=Or.congr fun i hi=>by simp [hi]
       go_wp2_with fail
       go_loopg [35] r (fun G s35 wx=>Below w.heap.size w wx∧Has2 wx sb (.slice (some ⟨gr,0,none⟩) r r) (.slice (some ⟨gc,0,none⟩) r r)∧Has2 wx w.heap.size (.slice none 0 0) (.slice none 0 0)∧Out wx gr r (fun i=>.int .i64 (rowPw X r i))∧∃j:Nat,j+G=r∧s35=.int .i64 (j:Int)∧Out wx gc r (fun i=>.int .i64 (if i<j then colPw X r i else 0)))
       case atStart=>exact⟨HB,T,R,Or,0,by omega,rfl,Oc.congr fun i _=>by simp⟩
       case round =>
         clear HB T R Or Oc
         obtain⟨HB,T,R,Or,j,hj,rfl,Oc⟩:=hrel
         by_cases cj:j=r
         · subst cj
           replace Oc:Out wr gc j (fun i=>.int .i64 (colPw X j i)):=Oc.congr fun i hi=>by simp [hi]
           go_wp2_with fail
           go_loopg [51] j (fun G s51 wx=>wx=wr∧∃i:Nat,i+G=j∧s51=.int .i64 (i:Int)∧Hid (∀q,q<i→rowPw X j q≠-9223372036854775808∧colPw X j q≠-9223372036854775808))
           case atStart=>exact⟨rfl,0,by omega,rfl,fun q hq=>absurd hq (by omega)⟩
           case round =>
             obtain⟨rfl,i,hi,rfl,hall⟩:=hrel
             obtain⟨t0,t1,t2,t3,t4⟩:=id T
             obtain⟨y0,y1,y2,y3,y4⟩:=id R
             by_cases ci:i=j
             · subst ci
               go_wp2_with fail
               refine bodyPost_ret (v:=.tuple #[.agg #[.slice (some ⟨gr,0,none⟩) i i,.slice (some ⟨gc,0,none⟩) i i],.bool true]) (by simp [results,Tryz.results12,go_sem, *]) rfl ⟨⟨_,_,_,_,_,_,_,rfl,fun _=>⟨gr,gc,rowPw X i,colPw X i,rfl,rfl,rfl,rfl,rfl,rfl,fun q hq=>?_,fun q hq=>?_⟩⟩, ?_⟩
               · have O2:=(Or.far (c:=w.heap.size) (k:=0) (by omega) (.slice (some ⟨gr,0,none⟩) i i)).far (c:=w.heap.size) (k:=1) (by omega) (.slice (some ⟨gc,0,none⟩) i i)
                 refine⟨gr,0,rfl,O2.1,by rw [Nat.zero_add];exact (O2.2 q hq).1, ?_⟩
                 rcases HP q hq with e | e
                 · exact absurd e (hall q hq).1
                 · omega
               · have O2:=(Oc.far (c:=w.heap.size) (k:=0) (by omega) (.slice (some ⟨gr,0,none⟩) i i)).far (c:=w.heap.size) (k:=1) (by omega) (.slice (some ⟨gc,0,none⟩) i i)
                 refine⟨gc,0,rfl,O2.1,by rw [Nat.zero_add];exact (O2.2 q hq).1, ?_⟩
                 rcases HQ q hq with e | e
                 · exact absurd e (hall q hq).2
                 · exact e
               · exact (HB.setCell (p:=⟨w.heap.size,0,none⟩) (Nat.le_refl _) _).setCell (p:=⟨w.heap.size,1,none⟩) (Nat.le_refl _) _
             · have hlt:(i:Int)<(j:Int):=by omega
               obtain⟨a0, -⟩:=id (Or.2 i (by omega))
               obtain⟨d0, -⟩:=id (Oc.2 i (by omega))
               by_cases e1:rowPw X j i=-9223372036854775808
               · have e1b:(rowPw X j i==-9223372036854775808)=true:=by rw [e1];rfl
                 replace e1:Hid (rowPw X j i=-9223372036854775808):=e1
                 go_wp2_with fail
                 refine bodyPost_ret (v:=.tuple #[.agg #[.slice none 0 0,.slice none 0 0],.bool false]) (by simp [results,Tryz.results12,go_sem, *]) rfl ⟨⟨_,_,_,_,_,_,_,rfl,fun h=>by cases h⟩, ?_⟩
                 exact (HB.setCell (p:=⟨w.heap.size,0,none⟩) (Nat.le_refl _) _).setCell (p:=⟨w.heap.size,1,none⟩) (Nat.le_refl _) _
               · have e1b:(rowPw X j i==-9223372036854775808)=false:=by simpa using e1
                 replace e1:Hid (rowPw X j i≠-9223372036854775808):=e1
                 by_cases e2:colPw X j i=-9223372036854775808
                 · have e2b:(colPw X j i==-9223372036854775808)=true:=by rw [e2];rfl
                   replace e2:Hid (colPw X j i=-9223372036854775808):=e2
                   go_wp2_with fail
                   refine bodyPost_ret (v:=.tuple #[.agg #[.slice none 0 0,.slice none 0 0],.bool false]) (by simp [results,Tryz.results12,go_sem, *]) rfl ⟨⟨_,_,_,_,_,_,_,rfl,fun h=>by cases h⟩, ?_⟩
                   exact (HB.setCell (p:=⟨w.heap.size,0,none⟩) (Nat.le_refl _) _).setCell (p:=⟨w.heap.size,1,none⟩) (Nat.le_refl _) _
                 · have e2b:(colPw X j i==-9223372036854775808)=false:=by simpa using e2
                   replace e2:Hid (colPw X j i≠-9223372036854775808):=e2
                   go_wp2_with fail
                   go_roundg (j-i-1)
                   case measure=>omega
                   case rel=>exact⟨rfl,i+1,by omega,by go_num,fun q hq=>by rcases Nat.lt_or_ge q i with h | h;exact hall q h;rw [show q=i by omega];exact⟨e1,e2⟩⟩
         · have hlt:(j:Int)<(r:Int):=by omega
           have cc:∀W,Below w.heap.size w W→Calls Tryz.prog 39 #[.slice (some ⟨b0,o0,none⟩) r C,.int .i64 (j:Int)] W fun e w'=>∃g,e=.returned (.slice (some ⟨g,0,none⟩) r r)∧Fls w' (some ⟨g,0,none⟩) r (fun q=>X q j)∧W.heap.size≤g∧Below W.heap.size W w':=fun W hW=>columnF_w (some ⟨b0,o0,none⟩) r C j RA RL RC X n2 (fun q hq=>by rw [HR q hq];omega) W (V.keep hW)
           have cg:∀W g,Fls W (some ⟨g,0,none⟩) r (fun q=>X q j)→Out W gr r (fun i=>.int .i64 (rowPw X r i))→Calls Tryz.prog 38 #[.slice (some ⟨g,0,none⟩) r r,.slice (some ⟨gr,0,none⟩) r r] W fun e w'=>e=.returned (.int .i64 (colPw X r j))∧Below W.heap.size W w':=fun W g F O =>
             gp_w (some ⟨g,0,none⟩) (some ⟨gr,0,none⟩) r r r (fun q=>X q j) (rowPw X r) (by omega) (fun q hq=>HF q hq j (by omega)) (fun q hq hz=>by have:=HD q hq j (by omega) hz;omega) W F (fun q hq=>⟨gr,0,rfl,O.1,by rw [Nat.zero_add];exact (O.2 q hq).1⟩)
           obtain⟨t0,t1,t2,t3,t4⟩:=id T
           go_upto_region 10 with fail
           have HD0:=HB.drew
           have TD:=T.keep (Below.refl _ _).drew
           have OD:=Or.keep (Below.refl _ _).drew
           go_region_held3 (fun w'=>w'.cell? ⟨sb,0,none⟩=some (.slice (some ⟨gr,0,none⟩) r r)∧w'.cell? ⟨sb,1,none⟩=some (.slice (some ⟨gc,0,none⟩) r r)) (first | with_reducible exact T.two | with_reducible exact TD.two | with_reducible exact (T.farM ncs _).two | go_keep) (first
             | (go_at_call 39;(with_reducible refine (cc _ HD0).mono ?_);rintro _ W2 ⟨g,rfl,Fg,hg,hb2⟩;have hbW:Below wr.heap.size wr W2:=later (Below.refl _ _).drew hb2;replace T:=T.keep hbW;replace R:=R.keep hbW;replace Or:=Or.keep hbW;replace Oc:=Oc.keep hbW;replace HB:=later HB hbW;clear hbW hb2 t0 t1 t2 t3 t4;obtain⟨t0,t1,t2,t3,t4⟩:=id T)
             | (go_at_call 38;(with_reducible refine (cg _ _ Fg Or).mono ?_);rintro _ W3 ⟨rfl,hb3⟩;replace T:=T.keep hb3;replace R:=R.keep hb3;replace Or:=Or.keep hb3;replace Oc:=Oc.keep hb3;replace HB:=later HB hb3;clear hb3 t0 t1 t2 t3 t4;obtain⟨p0,p1⟩:=id (Oc.2 j (by omega));have gl2:=Oc.1;obtain⟨t0,t1,t2,t3,t4⟩:=id T))
           all_goals
             go_wp2_with fail
             go_roundg (r-j-1)
             case measure=>omega
             case rel =>
               refine⟨HB.setCell (p:=⟨gc,j,none⟩) (by show w.heap.size≤gc;omega) _,T.farM ncs _,R.farM (by omega) _,Or.far (fun e=>nrc e.symm) _,j+1,by omega,by go_num,(Oc.set j _ (by omega)).congr fun i hi=>?_⟩
               by_cases e:i=j
               · subst e
                 simp
               · simp only [e,if_false]
                 by_cases q:i<j
                 · simp [q,show i<j+1 by omega]
                 · simp [q,show ¬i<j+1 by omega]
     · have hlt:(r:Int)<(n:Int):=by omega
       obtain⟨b1,o1,hA1,hb1,x0,l0,J⟩:=(V.keep HB) r (by omega)
       simp only [Option.some.injEq,Addr.mk.injEq,and_true] at hA1
       obtain⟨rfl,rfl⟩:=hA1
       rw [HR r (by omega)] at x0 J
       have cg:Calls Tryz.prog 38 #[.slice (RA r) n (RC r),.slice (some ⟨wr.heap.size,0,none⟩) n n] (wr.alloc (.cells (madeCells #[.int .i64 0] n) 3)).drew fun e w'=>e=.returned (.int .i64 (rowPw X n r))∧Below (wr.alloc (.cells (madeCells #[.int .i64 0] n) 3)).drew.heap.size (wr.alloc (.cells (madeCells #[.int .i64 0] n) 3)).drew w' :=
         gp_w (RA r) (some ⟨wr.heap.size,0,none⟩) n (RC r) n (X r) (fun _=>0) (by omega) (HF r (by omega)) (fun _ _ _=>⟨by omega,by omega⟩) _ (J.keep (below_alloc (Below.refl _ _) _).drew) (fun j hj=>⟨wr.heap.size,0,rfl,((out_madeI wr n).keep (Below.refl _ _).drew).1,by rw [Nat.zero_add];exact (((out_madeI wr n).keep (Below.refl _ _).drew).2 j hj).1⟩)
       generalize RA r=P at *
       obtain⟨t0,t1,t2,t3,t4⟩:=id T
       have gl:=Or.1
       have g2:=Oc.1
       go_upto_region 5 with fail
       have TD:=T.keep (Below.refl _ _).drew
       have TA:=T.keep (below_alloc (Below.refl _ _) (.cells (madeCells #[.int .i64 0] n) 3)).drew
       go_region_held3 (fun w'=>w'.cell? ⟨sb,0,none⟩=some (.slice (some ⟨gr,0,none⟩) n n)∧w'.cell? ⟨sb,1,none⟩=some (.slice (some ⟨gc,0,none⟩) n n)) (first | with_reducible exact T.two | with_reducible exact TD.two | with_reducible exact TA.two | with_reducible exact (T.farM nrs _).two | go_keep) (first
         | (go_at_call 38;(with_reducible refine cg.mono ?_);rintro _ W2 ⟨rfl,hb2⟩;have hbW:Below wr.heap.size wr W2:=later (below_alloc (Below.refl _ _) (.cells (madeCells #[.int .i64 0] n) 3)).drew hb2;replace T:=T.keep hbW;replace R:=R.keep hbW;replace Or:=Or.keep hbW;replace Oc:=Oc.keep hbW;replace HB:=later HB hbW;obtain⟨p0,p1⟩:=id (Or.2 r (by omega));have gl2:=Or.1;clear t0 t1 t2 t3 t4;obtain⟨t0,t1,t2,t3,t4⟩:=id T))
       all_goals
         go_wp2_with fail
         go_roundg (n-r-1)
         case measure=>omega
         case rel =>
           refine⟨HB.setCell (p:=⟨gr,r,none⟩) (by show w.heap.size≤gr;omega) _,T.farM nrs _,R.farM (by omega) _,Oc.far nrc _,r+1,by omega,by go_num,(Or.set r _ (by omega)).congr fun i hi=>?_⟩
           by_cases e:i=r
           · subst e
             simp
           · simp only [e,if_false]
             by_cases q:i<r
             · simp [q,show i<r+1 by omega]
             · simp [q,show ¬i<r+1 by omega]
def Am (a:Nat):Prop:=a≤9218868437227405312
theorem Am.lt {a:Nat} (h:Am a):a<18446744073709551616:=by unfold Am at h;omega
theorem Am.num {a:Nat} (h:Am a):nanB a=false:=by unfold Am at h;unfold nanB;simp;omega
theorem mag_am {lo hi:Nat}:Am (magP lo hi):=by
 unfold magP
 by_cases h:hsB lo hi=true
 · rw [if_pos h]
   obtain⟨a,b⟩:=hs_nan h
   unfold nanB at a b
   simp at a b
   unfold Am maxW
   split
   · exact b
   · split
     · split
       · exact b
       · exact a
     · exact a
 · rw [if_neg h];unfold Am;omega
theorem add_am {a b:Nat} (ha:Am a) (hb:Am b):∃u,addR a b 1=some u∧Am u:=by
 have S:∀{x:Nat},Am x→Some2 0 x:=fun {x} hx=>by
   have k0:key 0=0:=by decide
   have kx:key x=(x:Int):=by unfold Am at hx;unfold key;rw [if_pos (by omega)]
   unfold Am at hx
   constructor <;> first | (show nanB 0=false;decide) | exact Am.num hx | (rw [k0,kx];omega) | (rw [k0];omega) | (rw [kx];omega) | omega
 obtain⟨l,u,e1,e2,T,hl,hu⟩:=add_some (xl:=0) (xh:=a) (yl:=0) (yh:=b) (by omega) ha.lt (by omega) hb.lt (S ha) (S hb)
 have e0:addR 0 0 (-1)=some 0:=by decide
 rw [e0] at e1
 obtain rfl:=Option.some.inj e1
 refine⟨u,e2, ?_⟩
 have nz:=addR_nz e2
 have k0:key 0=0:=by decide
 have le:key 0≤key u:=T.le
 have nu:=T.nh
 rw [k0] at le
 unfold key at le
 unfold nanB at nu
 simp at nu
 unfold Am
 split at le <;> omega
def sumP (X:Nat→Nat×Nat):Nat→Nat
 | 0=>0
 | k+1=>(addR (sumP X k) (magP (X k).1 (X k).2) 1).getD 0
theorem sum_am (X:Nat→Nat×Nat) (k:Nat):Am (sumP X k)∧addR (sumP X k) (magP (X k).1 (X k).2) 1=some (sumP X (k+1)):=by
 have step:∀k,Am (sumP X k)→Am (sumP X (k+1))∧addR (sumP X k) (magP (X k).1 (X k).2) 1=some (sumP X (k+1)):=fun k h=>by
   obtain⟨u,e,hu⟩:=add_am h (mag_am (lo:=(X k).1) (hi:=(X k).2))
   have q:sumP X (k+1)=u:=by show (addR (sumP X k) (magP (X k).1 (X k).2) 1).getD 0=u;rw [e];rfl
   rw [q]
   exact⟨hu,e⟩
 have am:∀k,Am (sumP X k):=fun k=>by
   induction k with
   | zero=>exact Nat.zero_le _
   | succ k ih=>exact (step k ih).1
 exact⟨am k,(step k (am k)).2⟩
def normP (RL:Nat→Nat) (X:Nat→Nat→Nat×Nat):Nat→Nat
 | 0=>0
 | r+1=>if normP RL X r<sumP (X r) (RL r) then sumP (X r) (RL r) else normP RL X r
theorem norm_am (RL:Nat→Nat) (X:Nat→Nat→Nat×Nat) (r:Nat):Am (normP RL X r):=by
 induction r with
 | zero=>exact Nat.zero_le _
 | succ r ih =>
   show Am (if normP RL X r<sumP (X r) (RL r) then sumP (X r) (RL r) else normP RL X r)
   split
   · exact (sum_am _ _).1
   · exact ih
theorem sumadd_w (X:Nat→Nat×Nat) (j:Nat) (w:World):Calls Tryz.prog 54 #[.float .f64 (sumP X j),.float .f64 (magP (X j).1 (X j).2),.int .i64 1] w fun e w'=>e=.returned (.float .f64 (sumP X (j+1)))∧Below w.heap.size w w':=by
 obtain⟨a,e⟩:=sum_am X j
 refine (add_w _ _ 1 a.lt mag_am.lt w).mono fun x w' ⟨h,b⟩=>⟨?_,b⟩
 rw [e] at h
 obtain⟨r,hx, -,hr⟩:=h
 rw [hx,show r=_ from hr]
theorem key_am {a:Nat} (h:Am a):key a=(a:Int):=by unfold Am at h;unfold key;rw [if_pos (by omega)]
theorem maxW_am {a b:Nat} (ha:Am a) (hb:Am b):maxW a b=if a<b then b else a:=by
 unfold maxW
 rw [key_am ha,key_am hb]
 by_cases h:a<b
 · rw [if_pos (by omega),if_pos h]
 · rw [if_neg (by omega),if_neg h]
   split
   · split
     · omega
     · rfl
   · rfl
set_option maxHeartbeats 8000000 in
theorem norm_w (A:Option Addr) (N C:Nat) (RA:Nat→Option Addr) (RL RC:Nat→Nat) (X:Nat→Nat→Nat×Nat) (hN:N≤9223372036854775807) (w:World) (V:Rws w A N RA RL RC X) :
   Calls Tryz.prog 21 #[.slice A N C] w fun e w'=>e=.returned (.float .f64 (normP RL X N))∧Below w.heap.size w w':=by
 go_enter Tryz.func21,Tryz.ntmps21
 go_wp2_with fail
 go_loopg [3,11] N (fun G s3 s11 wx=>Below w.heap.size w wx∧∃r:Nat,r+G=N∧s11=.int .i64 (r:Int)∧s3=.float .f64 (normP RL X r))
 case atStart=>exact⟨Below.refl _ _,0,by omega,rfl,rfl⟩
 case round =>
   obtain⟨HB,r,hr,rfl,rfl⟩:=hrel
   by_cases cr:r=N
   · subst cr
     go_wp2_with fail
     go_ret
     exact⟨rfl,HB⟩
   · have hlti:(r:Int)<(N:Int):=by omega
     obtain⟨b',o',hA,hb',y0,l0,I⟩:=V r (by omega)
     replace y0:=keepsC HB y0 hb'
     have ma:Hid (Am (normP RL X r)):=norm_am RL X r
     have sa:Hid (Am (sumP (X r) (RL r))):=(sum_am (X r) (RL r)).1
     have nx:Hid (normP RL X (r+1)=if normP RL X r<sumP (X r) (RL r) then sumP (X r) (RL r) else normP RL X r):=rfl
     obtain⟨M,hM⟩:∃M,M=normP RL X r:=⟨_,rfl⟩
     rw [←hM] at ma nx ⊢
     clear hM
     subst hA
     generalize RA r=P at *
     generalize RL r=L at *
     go_wp2_with fail
     go_loopg [6,17] L (fun G s6 s17 wy=>Below w.heap.size w wy∧∃j:Nat,j+G=L∧s17=.int .i64 (j:Int)∧s6=.float .f64 (sumP (X r) j))
     case atStart=>exact⟨HB,0,by omega,rfl,rfl⟩
     case round =>
       clear HB y0
       obtain⟨HB,j,hj,rfl,rfl⟩:=hrel
       by_cases cj:j=L
       · subst cj
         have hm:∀ts t w,(Builtin.max_ ts t #[.float .f64 M,.float .f64 (sumP (X r) j)]).run Tryz.prog w=.ok (.float .f64 (maxW M (sumP (X r) j))) w:=fun ts t w=>max_f (Am.lt ma) (Am.lt sa) (Am.num ma) (Am.num sa) _ ts t w
         have nx':Hid (normP RL X (r+1)=maxW M (sumP (X r) j)):=(show normP RL X (r+1)=_ from nx).trans (maxW_am ma sa).symm
         clear nx
         go_wp2_with fail
         go_roundg (N-r-1)
         case measure=>omega
         case rel=>exact⟨HB,r+1,by omega,by go_num,by rw [show normP RL X (r+1)=_ from nx']⟩
       · have hltj:(j:Int)<(L:Int):=by omega
         obtain⟨b2,o2,hA2,hb2,z0,z1,k0,k1⟩:=(I.keep HB) j (by omega)
         have cm:=fun w=>mag_w (X r j).1 (X r j).2 k0 k1 w
         have ca:=fun w=>sumadd_w (X r) j w
         subst hA2
         go_wp2_with (first
           | (go_at_call 55;refine (cm _).mono ?_;rintro _ w1 ⟨rfl,hb1⟩;replace HB:=later (below_alloc HB _) hb1)
           | (go_at_call 54;refine (ca _).mono ?_;rintro _ w2 ⟨rfl,hb2⟩;replace HB:=later HB hb2))
         go_roundg (L-j-1)
         case measure=>omega
         case rel=>exact⟨HB,j+1,by omega,by go_num,rfl⟩
theorem rfs_words {w:World} {A:Option Addr} {N:Nat} {RA:Nat→Option Addr} {RL RC:Nat→Nat} {X:Nat→Nat→Nat} (V:Rfs w A N RA RL RC X) {r c:Nat} (hr:r<N) (hc:c<RL r):X r c<18446744073709551616:=by
 obtain⟨_,_,_,_,_,_,I⟩:=V r hr
 obtain⟨_,_,_,_,_,q⟩:=I c hc
 exact q
end Go.Proofs.YtlabmpngbcnhpaaGreat
