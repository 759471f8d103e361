/- A graph's nodes (unit): as values, as they lie in memory; what unit's small functions answer of one. Which nodes may be (unit.fieldsRight). -/
import Derived.Test.YtbejmklkicoibaaKe17
import Derived.Test.YtbejmklkicoibaaKe10
import Derived.Deep.RegionHeld3
namespace Go.Proofs.Ytbejmklkicoibaa
open Go.ChangeShapes Go.WideShapes Go.ChangeAt Go.RowKit
structure Nd where
 k:Int
 a:Int
 b:Int
 n:Int
 q:Int
 p:Int
 v:Int
 d:Int
 E:Nat->Int×Int
def Nd.val (x:Nd):Value:=.agg #[.int .i64 x.k,.int .i64 x.a,.int .i64 x.b,.int .i64 x.n,.int .i64 x.q,.int .i64 x.p,.int .i64 x.v,.int .i64 x.d,.int .i64 (x.E 0).1,.int .i64 (x.E 0).2,.int .i64 (x.E 1).1,.int .i64 (x.E 1).2,.int .i64 (x.E 2).1,.int .i64 (x.E 2).2,.int .i64 (x.E 3).1,.int .i64 (x.E 3).2,.int .i64 (x.E 4).1,.int .i64 (x.E 4).2,.int .i64 (x.E 5).1,.int .i64 (x.E 5).2,.int .i64 (x.E 6).1,.int .i64 (x.E 6).2]
def ndL (x:Nd):List Value:=[.int .i64 x.k,.int .i64 x.a,.int .i64 x.b,.int .i64 x.n,.int .i64 x.q,.int .i64 x.p,.int .i64 x.v,.int .i64 x.d,.int .i64 (x.E 0).1,.int .i64 (x.E 0).2,.int .i64 (x.E 1).1,.int .i64 (x.E 1).2,.int .i64 (x.E 2).1,.int .i64 (x.E 2).2,.int .i64 (x.E 3).1,.int .i64 (x.E 3).2,.int .i64 (x.E 4).1,.int .i64 (x.E 4).2,.int .i64 (x.E 5).1,.int .i64 (x.E 5).2,.int .i64 (x.E 6).1,.int .i64 (x.E 6).2]
theorem nd_val (x:Nd):x.val=.agg (ndL x).toArray:=rfl
structure Nd.Ok (x:Nd):Prop where
 k:I64 x.k
 a:I64 x.a
 b:I64 x.b
 n:I64 x.n
 q:I64 x.q
 p:I64 x.p
 v:I64 x.v
 d:I64 x.d
 E:Dim64 x.E
def HasNd (w:World) (b:Nat) (x:Nd):Prop:=(∀i c,(ndL x)[i]?=some c->w.cell? ⟨b,i,none⟩=some c)/\b<w.heap.size
theorem HasNd.keep {w W:World} {b:Nat} {x:Nd} (h:HasNd w b x) (k:Below w.heap.size w W):HasNd W b x :=
 ⟨fun i c hc=>keepsC k (h.1 i c hc) h.2,Nat.lt_of_lt_of_le h.2 k.size⟩
theorem nd_new (w:World) (x:Nd) (T:TypeId):HasNd (w.alloc (.cells #[.int .i64 x.k,.int .i64 x.a,.int .i64 x.b,.int .i64 x.n,.int .i64 x.q,.int .i64 x.p,.int .i64 x.v,.int .i64 x.d,.int .i64 (x.E 0).1,.int .i64 (x.E 0).2,.int .i64 (x.E 1).1,.int .i64 (x.E 1).2,.int .i64 (x.E 2).1,.int .i64 (x.E 2).2,.int .i64 (x.E 3).1,.int .i64 (x.E 3).2,.int .i64 (x.E 4).1,.int .i64 (x.E 4).2,.int .i64 (x.E 5).1,.int .i64 (x.E 5).2,.int .i64 (x.E 6).1,.int .i64 (x.E 6).2] T)) w.heap.size x:=by
 have h:BlkAt (w.alloc (.cells (ndL x).toArray T)) w.heap.size T (ndL x):=blk_new w T (ndL x)
 exact⟨fun i c hc=>h.cell i c hc,h.lt⟩
theorem BlkAt.nd {w:World} {b:Nat} {T:TypeId} {x:Nd} (h:BlkAt w b T (ndL x)):HasNd w b x:=⟨fun i c hc=>h.cell i c hc,h.lt⟩
theorem HasNd.cells {w:World} {b:Nat} {x:Nd} (h:HasNd w b x) :
  w.cell? ⟨b,0,none⟩=some (.int .i64 x.k)/\w.cell? ⟨b,1,none⟩=some (.int .i64 x.a)/\w.cell? ⟨b,2,none⟩=some (.int .i64 x.b)/\w.cell? ⟨b,3,none⟩=some (.int .i64 x.n)/\w.cell? ⟨b,4,none⟩=some (.int .i64 x.q)/\w.cell? ⟨b,5,none⟩=some (.int .i64 x.p)/\w.cell? ⟨b,6,none⟩=some (.int .i64 x.v)/\w.cell? ⟨b,7,none⟩=some (.int .i64 x.d) :=
 ⟨h.1 0 _ rfl,h.1 1 _ rfl,h.1 2 _ rfl,h.1 3 _ rfl,h.1 4 _ rfl,h.1 5 _ rfl,h.1 6 _ rfl,h.1 7 _ rfl⟩
theorem HasNd.dims {w:World} {b:Nat} {x:Nd} (h:HasNd w b x) :
  w.cell? ⟨b,8,none⟩=some (.int .i64 (x.E 0).1)/\w.cell? ⟨b,9,none⟩=some (.int .i64 (x.E 0).2)/\w.cell? ⟨b,10,none⟩=some (.int .i64 (x.E 1).1)/\w.cell? ⟨b,11,none⟩=some (.int .i64 (x.E 1).2)/\w.cell? ⟨b,12,none⟩=some (.int .i64 (x.E 2).1)/\w.cell? ⟨b,13,none⟩=some (.int .i64 (x.E 2).2)/\w.cell? ⟨b,14,none⟩=some (.int .i64 (x.E 3).1)/\w.cell? ⟨b,15,none⟩=some (.int .i64 (x.E 3).2)/\w.cell? ⟨b,16,none⟩=some (.int .i64 (x.E 4).1)/\w.cell? ⟨b,17,none⟩=some (.int .i64 (x.E 4).2)/\w.cell? ⟨b,18,none⟩=some (.int .i64 (x.E 5).1)/\w.cell? ⟨b,19,none⟩=some (.int .i64 (x.E 5).2)/\w.cell? ⟨b,20,none⟩=some (.int .i64 (x.E 6).1)/\w.cell? ⟨b,21,none⟩=some (.int .i64 (x.E 6).2) :=
 ⟨h.1 8 _ rfl,h.1 9 _ rfl,h.1 10 _ rfl,h.1 11 _ rfl,h.1 12 _ rfl,h.1 13 _ rfl,h.1 14 _ rfl,h.1 15 _ rfl,h.1 16 _ rfl,h.1 17 _ rfl,h.1 18 _ rfl,h.1 19 _ rfl,h.1 20 _ rfl,h.1 21 _ rfl⟩
def Nds (w:World) (A:Option Addr) (n:Nat) (X:Nat->Nd):Prop :=
 ∀i,i<n->∃b o,A=some ⟨b,o,none⟩/\b<w.heap.size/\(∀j c,(ndL (X i))[j]?=some c->w.cell? ⟨b,o+i*22+j,none⟩=some c)
theorem Nds.keep {w w2:World} {A:Option Addr} {n:Nat} {X:Nat->Nd} (h:Nds w A n X) (hb:Below w.heap.size w w2):Nds w2 A n X:=fun i hi=>by
 obtain⟨b,o,hA,hl,hc⟩:=h i hi
 exact⟨b,o,hA,Nat.lt_of_lt_of_le hl hb.size,fun j c hj=>keepsC hb (hc j c hj) hl⟩
theorem Nds.at {w:World} {b o n:Nat} {X:Nat->Nd} (h:Nds w (some ⟨b,o,none⟩) n X) {i:Nat} (hi:i<n) :
  b<w.heap.size/\(∀j c,(ndL (X i))[j]?=some c->w.cell? ⟨b,o+i*22+j,none⟩=some c):=by
 obtain⟨b',o',hA,hl,hc⟩:=h i hi
 injection hA with hA
 injection hA with h1 h2
 subst h1 h2
 exact⟨hl,hc⟩
def kindB (k:Int):Bool:=decide (1<=k)&&decide (k<=15)
theorem uisKind_w (k:Int) (w:World):Calls Try.prog 29 #[.int .i64 k] w fun e w'=>e=.returned (.bool (kindB k))/\w=w':=by
 unfold kindB
 by_cases h1:1<=k
 ·by_cases h2:k<=15
  all_goals
   simp only [h1,h2,decide_true,decide_false,Bool.and_true,Bool.and_false]
   go_enter Try.func29,Try.ntmps29
   go_wp2_with fail
   go_ret
   exact⟨rfl,rfl⟩
 ·simp only [h1,decide_false,Bool.false_and]
  go_enter Try.func29,Try.ntmps29
  go_wp2_with fail
  go_ret
  exact⟨rfl,rfl⟩
theorem uisBelow_w (n m:Int) (w:World):Calls Try.prog 32 #[.int .i64 n,.int .i64 m] w fun e w'=>e=.returned (.bool (oneOf n m))/\w=w':=by
 by_cases h1:0<=n
 ·by_cases h2:n<m
  ·have e:oneOf n m=true:=decide_eq_true ⟨h1,h2⟩
   rw [e]
   go_enter Try.func32,Try.ntmps32
   go_wp2_with fail
   go_ret
   exact⟨rfl,rfl⟩
  ·have e:oneOf n m=false:=decide_eq_false (by omega)
   rw [e]
   go_enter Try.func32,Try.ntmps32
   go_wp2_with fail
   go_ret
   exact⟨rfl,rfl⟩
 ·have e:oneOf n m=false:=decide_eq_false (by omega)
  rw [e]
  go_enter Try.func32,Try.ntmps32
  go_wp2_with fail
  go_ret
  exact⟨rfl,rfl⟩
def arG (k:Int):Nat:=if k=1\/k=2\/k=15 then 0 else if 3<=k/\k<=6 then 2 else 1
def Nd.ar (x:Nd):Nat:=arG x.k
def Nd.at (x:Nd) (j:Nat):Int:=if j=0 then x.a else x.b
theorem arG_le (k:Int):arG k<=2:=by unfold arG;split <;> (try split) <;> omega
theorem arG_cases (k:Int):(k=1/\arG k=0)\/(k=2/\arG k=0)\/(k=15/\arG k=0)\/(k=3/\arG k=2)\/(k=4/\arG k=2)\/(k=5/\arG k=2)\/(k=6/\arG k=2)\/((k≠1/\k≠2/\k≠15/\k≠3/\k≠4/\k≠5/\k≠6)/\arG k=1):=by
 unfold arG
 by_cases h1:k=1\/k=2\/k=15
 ·rw [if_pos h1];omega
 ·rw [if_neg h1]
  by_cases h2:3<=k/\k<=6
  ·rw [if_pos h2];omega
  ·rw [if_neg h2];omega
set_option maxHeartbeats 1000000 in
theorem uoperands_w (x:Nd) (w:World):Calls Try.prog 31 #[x.val] w fun e w'=>(∃A C,e=.returned (.slice A x.ar C)/\∀j,j<x.ar->∃B,A=some ⟨B,0,none⟩/\w.heap.size<=B/\B<w'.heap.size/\w'.cell? ⟨B,j,none⟩=some (.int .i64 (x.at j)))/\Below w.heap.size w w':=by
 unfold Nd.val Nd.ar Nd.at
 rcases arG_cases x.k with ⟨h,e⟩ | ⟨h,e⟩ | ⟨h,e⟩ | ⟨h,e⟩ | ⟨h,e⟩ | ⟨h,e⟩ | ⟨h,e⟩ | ⟨⟨h1,h2,h3,h4,h5,h6,h7⟩,e⟩
 iterate 3
  rw [e,h]
  clear e h
  go_enter Try.func31,Try.ntmps31
  go_wp2_with fail
  go_ret
  exact⟨⟨_,_,rfl,fun j hj=>absurd hj (by omega)⟩,by go_grown⟩
 iterate 4
  rw [e,h]
  clear e h
  go_enter Try.func31,Try.ntmps31
  go_wp2_with fail
  go_ret
  refine⟨⟨_,_,rfl,fun j hj=>?_⟩,by go_grown⟩
  have:j=0\/j=1:=by omega
  rcases this with rfl | rfl
  ·exact⟨_,rfl,by go_size,by go_size,by go_simp⟩
  ·exact⟨_,rfl,by go_size,by go_size,by go_simp⟩
 rw [e]
 clear e
 go_enter Try.func31,Try.ntmps31
 go_wp2_with fail
 go_ret
 refine⟨⟨_,_,rfl,fun j hj=>?_⟩,by go_grown⟩
 have:j=0:=by omega
 subst this
 exact⟨_,rfl,by go_size,by go_size,by go_simp⟩
def frB (x:Nd):Bool:=decide (x.k=1)&&eqR (x.q,x.p) (0,1)
set_option maxHeartbeats 1000000 in
theorem uisFree_w (x:Nd) (w:World):Calls Try.prog 65 #[x.val] w fun e w'=>e=.returned (.bool (frB x))/\Below w.heap.size w w':=by
 unfold Nd.val frB
 have X:HasNd (w.alloc (.cells #[.int .i64 x.k,.int .i64 x.a,.int .i64 x.b,.int .i64 x.n,.int .i64 x.q,.int .i64 x.p,.int .i64 x.v,.int .i64 x.d,.int .i64 (x.E 0).1,.int .i64 (x.E 0).2,.int .i64 (x.E 1).1,.int .i64 (x.E 1).2,.int .i64 (x.E 2).1,.int .i64 (x.E 2).2,.int .i64 (x.E 3).1,.int .i64 (x.E 3).2,.int .i64 (x.E 4).1,.int .i64 (x.E 4).2,.int .i64 (x.E 5).1,.int .i64 (x.E 5).2,.int .i64 (x.E 6).1,.int .i64 (x.E 6).2] 54)) w.heap.size x:=nd_new w x _
 have HB:Below w.heap.size w (w.alloc (.cells #[.int .i64 x.k,.int .i64 x.a,.int .i64 x.b,.int .i64 x.n,.int .i64 x.q,.int .i64 x.p,.int .i64 x.v,.int .i64 x.d,.int .i64 (x.E 0).1,.int .i64 (x.E 0).2,.int .i64 (x.E 1).1,.int .i64 (x.E 1).2,.int .i64 (x.E 2).1,.int .i64 (x.E 2).2,.int .i64 (x.E 3).1,.int .i64 (x.E 3).2,.int .i64 (x.E 4).1,.int .i64 (x.E 4).2,.int .i64 (x.E 5).1,.int .i64 (x.E 5).2,.int .i64 (x.E 6).1,.int .i64 (x.E 6).2] 54)):=by go_grown
 have cw:=fun W=>uwhole_w 0 W
 by_cases h:x.k=1
 ·rw [decide_eq_true h,Bool.true_and]
  have hh:Hid (x.k=1):=h
  clear h
  go_enter Try.func65,Try.ntmps65
  go_upto_region 1 with fail
  generalize (w.alloc (.cells #[.int .i64 x.k,.int .i64 x.a,.int .i64 x.b,.int .i64 x.n,.int .i64 x.q,.int .i64 x.p,.int .i64 x.v,.int .i64 x.d,.int .i64 (x.E 0).1,.int .i64 (x.E 0).2,.int .i64 (x.E 1).1,.int .i64 (x.E 1).2,.int .i64 (x.E 2).1,.int .i64 (x.E 2).2,.int .i64 (x.E 3).1,.int .i64 (x.E 3).2,.int .i64 (x.E 4).1,.int .i64 (x.E 4).2,.int .i64 (x.E 5).1,.int .i64 (x.E 5).2,.int .i64 (x.E 6).1,.int .i64 (x.E 6).2] 54))=V1 at *
  obtain⟨x0,x1,x2,x3,x4,x5,x6,x7⟩:=X.cells
  rw [hh.out] at x0
  have k0:=fun n:Behind V1=>n.cell x0 X.2
  have k4:=fun n:Behind V1=>n.cell x4 X.2
  have k5:=fun n:Behind V1=>n.cell x5 X.2
  have fin:∀r,Hid (eqR (x.q,x.p) (0,1)=r)->Ending.returned (.bool r)=Ending.returned (.bool (eqR (x.q,x.p) (0,1))):=fun r hr=>by rw [hr.out]
  have f1:x.q=0->x.p=1->Hid (eqR (x.q,x.p) (0,1)=true):=fun c1 c2=>by show eqR (x.q,x.p) (0,1)=true;rw [c1,c2];rfl
  have f2:¬(x.q=0/\x.p=1)->Hid (eqR (x.q,x.p) (0,1)=false):=fun c=>by
   show eqR (x.q,x.p) (0,1)=false
   cases e:eqR (x.q,x.p) (0,1)
   ·rfl
   ·have:=eqR_iff.1 e
    injection this with h1 h2
    exact absurd ⟨h1,h2⟩ c
  have f3:x.q=0->¬x.p=1->Hid (eqR (x.q,x.p) (0,1)=false):=fun _ c=>f2 fun h=>c h.2
  have f4:¬x.q=0->Hid (eqR (x.q,x.p) (0,1)=false):=fun c=>f2 fun h=>c h.1
  by_cases c1:x.q=0
  case' pos=>by_cases c2:x.p=1
  all_goals
   first | have e:=f1 c1 c2 | have e:=f3 c1 c2 | have e:=f4 c1
   replace fin:=fin _ e
   clear f1 f2 f3 f4 e
   refine region_behind (by kernel_rfl) (by kernel_rfl) ?_
   repeat (go_big_quiet_step (first | (go_at_call 56;with_reducible refine Behind.call (cw _))))
   refine wpQuiet_nil ?_
   rintro _ ⟨m,rfl⟩
   obtain⟨W,hb1⟩:=m
   dsimp only
   go_wp2_with fail
   go_ret
   exact⟨fin,later HB hb1⟩
 ·rw [decide_eq_false h,Bool.false_and]
  have hx:(x.k==1)=false:=by simpa using h
  clear h
  go_enter Try.func65,Try.ntmps65
  go_upto_region 1 with fail
  generalize (w.alloc (.cells #[.int .i64 x.k,.int .i64 x.a,.int .i64 x.b,.int .i64 x.n,.int .i64 x.q,.int .i64 x.p,.int .i64 x.v,.int .i64 x.d,.int .i64 (x.E 0).1,.int .i64 (x.E 0).2,.int .i64 (x.E 1).1,.int .i64 (x.E 1).2,.int .i64 (x.E 2).1,.int .i64 (x.E 2).2,.int .i64 (x.E 3).1,.int .i64 (x.E 3).2,.int .i64 (x.E 4).1,.int .i64 (x.E 4).2,.int .i64 (x.E 5).1,.int .i64 (x.E 5).2,.int .i64 (x.E 6).1,.int .i64 (x.E 6).2] 54))=V1 at *
  obtain⟨x0,x1,x2,x3,x4,x5,x6,x7⟩:=X.cells
  have k0:=fun n:Behind V1=>n.cell x0 X.2
  refine region_behind (by kernel_rfl) (by kernel_rfl) ?_
  repeat (go_big_quiet_step (first | (go_at_call 56;with_reducible refine Behind.call (cw _))))
  refine wpQuiet_nil ?_
  rintro _ ⟨m,rfl⟩
  obtain⟨W,hb1⟩:=m
  dsimp only
  go_wp2_with fail
  go_ret
  exact⟨rfl,later HB hb1⟩
def fieldB (x:Nd):Bool :=
 if x.k=1 then rightR x.q x.p&&drK x.E 7 else if x.k=2 then decide (0<=x.v)&&(decide (0<=x.d)&&decide (x.d<=6)) else if x.k=8 then decide (-64<=x.n)&&decide (x.n<=64) else true
set_option maxHeartbeats 1000000 in
theorem ufields_w (x:Nd) (hx:x.Ok) (w:World):Calls Try.prog 30 #[x.val] w fun e w'=>e=.returned (.bool (fieldB x))/\Below w.heap.size w w':=by
 have X:HasNd (w.alloc (.cells #[.int .i64 x.k,.int .i64 x.a,.int .i64 x.b,.int .i64 x.n,.int .i64 x.q,.int .i64 x.p,.int .i64 x.v,.int .i64 x.d,.int .i64 (x.E 0).1,.int .i64 (x.E 0).2,.int .i64 (x.E 1).1,.int .i64 (x.E 1).2,.int .i64 (x.E 2).1,.int .i64 (x.E 2).2,.int .i64 (x.E 3).1,.int .i64 (x.E 3).2,.int .i64 (x.E 4).1,.int .i64 (x.E 4).2,.int .i64 (x.E 5).1,.int .i64 (x.E 5).2,.int .i64 (x.E 6).1,.int .i64 (x.E 6).2] 54)) w.heap.size x:=nd_new w x _
 have HB:Below w.heap.size w (w.alloc (.cells #[.int .i64 x.k,.int .i64 x.a,.int .i64 x.b,.int .i64 x.n,.int .i64 x.q,.int .i64 x.p,.int .i64 x.v,.int .i64 x.d,.int .i64 (x.E 0).1,.int .i64 (x.E 0).2,.int .i64 (x.E 1).1,.int .i64 (x.E 1).2,.int .i64 (x.E 2).1,.int .i64 (x.E 2).2,.int .i64 (x.E 3).1,.int .i64 (x.E 3).2,.int .i64 (x.E 4).1,.int .i64 (x.E 4).2,.int .i64 (x.E 5).1,.int .i64 (x.E 5).2,.int .i64 (x.E 6).1,.int .i64 (x.E 6).2] 54)):=by go_grown
 obtain⟨R,hR⟩:∃R,Hid (fieldB x=R):=⟨_,rfl⟩
 rw [hR.out]
 unfold Nd.val
 by_cases h1:x.k=1
 ·have e:Hid ((rightR x.q x.p&&drK x.E 7)=R):=by have:=hR.out;rw [fieldB,if_pos h1] at this;exact this
  have cr:=fun W=>rright_w11 x.q x.p hx.q hx.p W
  have cd:=fun W=>uright_w x.E hx.E W
  have hh:Hid (x.k=1):=h1
  clear h1 hR hx
  generalize rightR x.q x.p=r at *
  generalize drK x.E 7=s at *
  go_enter Try.func30,Try.ntmps30
  go_upto_region 1 with fail
  generalize (w.alloc (.cells #[.int .i64 x.k,.int .i64 x.a,.int .i64 x.b,.int .i64 x.n,.int .i64 x.q,.int .i64 x.p,.int .i64 x.v,.int .i64 x.d,.int .i64 (x.E 0).1,.int .i64 (x.E 0).2,.int .i64 (x.E 1).1,.int .i64 (x.E 1).2,.int .i64 (x.E 2).1,.int .i64 (x.E 2).2,.int .i64 (x.E 3).1,.int .i64 (x.E 3).2,.int .i64 (x.E 4).1,.int .i64 (x.E 4).2,.int .i64 (x.E 5).1,.int .i64 (x.E 5).2,.int .i64 (x.E 6).1,.int .i64 (x.E 6).2] 54))=V1 at *
  obtain⟨x0,x1,x2,x3,x4,x5,x6,x7⟩:=X.cells
  obtain⟨y0,y1,y2,y3,y4,y5,y6,y7,y8,y9,y10,y11,y12,y13⟩:=X.dims
  rw [hh.out] at x0
  unfold dimV at cd
  cases r
  all_goals
   go_wp2_with (first
    | (go_at_call 28;(with_reducible refine (cr _).mono ?_);rintro _ VV ⟨rfl,hb1⟩;replace X:=X.keep hb1;replace HB:=later HB hb1;clear hb1 x0 x1 x2 x3 x4 x5 x6 x7 y0 y1 y2 y3 y4 y5 y6 y7 y8 y9 y10 y11 y12 y13;obtain⟨x0,x1,x2,x3,x4,x5,x6,x7⟩:=X.cells;obtain⟨y0,y1,y2,y3,y4,y5,y6,y7,y8,y9,y10,y11,y12,y13⟩:=X.dims)
    | (go_at_call 10;(with_reducible refine (cd _).mono ?_);rintro _ VV ⟨rfl,hb1⟩;replace HB:=later HB hb1;clear hb1))
   go_ret
   exact⟨by have q:=e.out;subst q;rfl,HB⟩
 by_cases h2:x.k=2
 ·have e:Hid ((decide (0<=x.v)&&(decide (0<=x.d)&&decide (x.d<=6)))=R):=by have:=hR.out;rw [fieldB,if_neg h1,if_pos h2] at this;exact this
  have hh:Hid (x.k=2):=h2
  clear h1 h2 hR hx
  by_cases c1:0<=x.v
  ·by_cases c2:0<=x.d
   ·by_cases c3:x.d<=6
    ·have t:(decide (0<=x.v)&&(decide (0<=x.d)&&decide (x.d<=6)))=true:=by simp [c1,c2,c3]
     have e:Hid (true=R):=t.symm.trans e.out
     go_enter Try.func30,Try.ntmps30
     go_upto_region 1 with fail
     generalize (w.alloc (.cells #[.int .i64 x.k,.int .i64 x.a,.int .i64 x.b,.int .i64 x.n,.int .i64 x.q,.int .i64 x.p,.int .i64 x.v,.int .i64 x.d,.int .i64 (x.E 0).1,.int .i64 (x.E 0).2,.int .i64 (x.E 1).1,.int .i64 (x.E 1).2,.int .i64 (x.E 2).1,.int .i64 (x.E 2).2,.int .i64 (x.E 3).1,.int .i64 (x.E 3).2,.int .i64 (x.E 4).1,.int .i64 (x.E 4).2,.int .i64 (x.E 5).1,.int .i64 (x.E 5).2,.int .i64 (x.E 6).1,.int .i64 (x.E 6).2] 54))=V1 at *
     obtain⟨x0,x1,x2,x3,x4,x5,x6,x7⟩:=X.cells
     rw [hh.out] at x0
     go_wp2_with fail
     go_ret
     exact⟨by have q:=e.out;subst q;rfl,HB⟩
    ·have t:(decide (0<=x.v)&&(decide (0<=x.d)&&decide (x.d<=6)))=false:=by simp [c1,c2,c3]
     have e:Hid (false=R):=t.symm.trans e.out
     go_enter Try.func30,Try.ntmps30
     go_upto_region 1 with fail
     generalize (w.alloc (.cells #[.int .i64 x.k,.int .i64 x.a,.int .i64 x.b,.int .i64 x.n,.int .i64 x.q,.int .i64 x.p,.int .i64 x.v,.int .i64 x.d,.int .i64 (x.E 0).1,.int .i64 (x.E 0).2,.int .i64 (x.E 1).1,.int .i64 (x.E 1).2,.int .i64 (x.E 2).1,.int .i64 (x.E 2).2,.int .i64 (x.E 3).1,.int .i64 (x.E 3).2,.int .i64 (x.E 4).1,.int .i64 (x.E 4).2,.int .i64 (x.E 5).1,.int .i64 (x.E 5).2,.int .i64 (x.E 6).1,.int .i64 (x.E 6).2] 54))=V1 at *
     obtain⟨x0,x1,x2,x3,x4,x5,x6,x7⟩:=X.cells
     rw [hh.out] at x0
     go_wp2_with fail
     go_ret
     exact⟨by have q:=e.out;subst q;rfl,HB⟩
   ·have t:(decide (0<=x.v)&&(decide (0<=x.d)&&decide (x.d<=6)))=false:=by simp [c1,c2]
    have e:Hid (false=R):=t.symm.trans e.out
    go_enter Try.func30,Try.ntmps30
    go_upto_region 1 with fail
    generalize (w.alloc (.cells #[.int .i64 x.k,.int .i64 x.a,.int .i64 x.b,.int .i64 x.n,.int .i64 x.q,.int .i64 x.p,.int .i64 x.v,.int .i64 x.d,.int .i64 (x.E 0).1,.int .i64 (x.E 0).2,.int .i64 (x.E 1).1,.int .i64 (x.E 1).2,.int .i64 (x.E 2).1,.int .i64 (x.E 2).2,.int .i64 (x.E 3).1,.int .i64 (x.E 3).2,.int .i64 (x.E 4).1,.int .i64 (x.E 4).2,.int .i64 (x.E 5).1,.int .i64 (x.E 5).2,.int .i64 (x.E 6).1,.int .i64 (x.E 6).2] 54))=V1 at *
    obtain⟨x0,x1,x2,x3,x4,x5,x6,x7⟩:=X.cells
    rw [hh.out] at x0
    go_wp2_with fail
    go_ret
    exact⟨by have q:=e.out;subst q;rfl,HB⟩
  ·have t:(decide (0<=x.v)&&(decide (0<=x.d)&&decide (x.d<=6)))=false:=by simp [c1]
   have e:Hid (false=R):=t.symm.trans e.out
   go_enter Try.func30,Try.ntmps30
   go_upto_region 1 with fail
   generalize (w.alloc (.cells #[.int .i64 x.k,.int .i64 x.a,.int .i64 x.b,.int .i64 x.n,.int .i64 x.q,.int .i64 x.p,.int .i64 x.v,.int .i64 x.d,.int .i64 (x.E 0).1,.int .i64 (x.E 0).2,.int .i64 (x.E 1).1,.int .i64 (x.E 1).2,.int .i64 (x.E 2).1,.int .i64 (x.E 2).2,.int .i64 (x.E 3).1,.int .i64 (x.E 3).2,.int .i64 (x.E 4).1,.int .i64 (x.E 4).2,.int .i64 (x.E 5).1,.int .i64 (x.E 5).2,.int .i64 (x.E 6).1,.int .i64 (x.E 6).2] 54))=V1 at *
   obtain⟨x0,x1,x2,x3,x4,x5,x6,x7⟩:=X.cells
   rw [hh.out] at x0
   go_wp2_with fail
   go_ret
   exact⟨by have q:=e.out;subst q;rfl,HB⟩
 by_cases h8:x.k=8
 ·have e:Hid ((decide (-64<=x.n)&&decide (x.n<=64))=R):=by have:=hR.out;rw [fieldB,if_neg h1,if_neg h2,if_pos h8] at this;exact this
  have hh:Hid (x.k=8):=h8
  clear h1 h2 h8 hR hx
  by_cases c1:-64<=x.n
  ·by_cases c2:x.n<=64
   ·have t:(decide (-64<=x.n)&&decide (x.n<=64))=true:=by simp [c1,c2]
    have e:Hid (true=R):=t.symm.trans e.out
    go_enter Try.func30,Try.ntmps30
    go_upto_region 1 with fail
    generalize (w.alloc (.cells #[.int .i64 x.k,.int .i64 x.a,.int .i64 x.b,.int .i64 x.n,.int .i64 x.q,.int .i64 x.p,.int .i64 x.v,.int .i64 x.d,.int .i64 (x.E 0).1,.int .i64 (x.E 0).2,.int .i64 (x.E 1).1,.int .i64 (x.E 1).2,.int .i64 (x.E 2).1,.int .i64 (x.E 2).2,.int .i64 (x.E 3).1,.int .i64 (x.E 3).2,.int .i64 (x.E 4).1,.int .i64 (x.E 4).2,.int .i64 (x.E 5).1,.int .i64 (x.E 5).2,.int .i64 (x.E 6).1,.int .i64 (x.E 6).2] 54))=V1 at *
    obtain⟨x0,x1,x2,x3,x4,x5,x6,x7⟩:=X.cells
    rw [hh.out] at x0
    go_wp2_with fail
    go_ret
    exact⟨by have q:=e.out;subst q;rfl,HB⟩
   ·have t:(decide (-64<=x.n)&&decide (x.n<=64))=false:=by simp [c1,c2]
    have e:Hid (false=R):=t.symm.trans e.out
    go_enter Try.func30,Try.ntmps30
    go_upto_region 1 with fail
    generalize (w.alloc (.cells #[.int .i64 x.k,.int .i64 x.a,.int .i64 x.b,.int .i64 x.n,.int .i64 x.q,.int .i64 x.p,.int .i64 x.v,.int .i64 x.d,.int .i64 (x.E 0).1,.int .i64 (x.E 0).2,.int .i64 (x.E 1).1,.int .i64 (x.E 1).2,.int .i64 (x.E 2).1,.int .i64 (x.E 2).2,.int .i64 (x.E 3).1,.int .i64 (x.E 3).2,.int .i64 (x.E 4).1,.int .i64 (x.E 4).2,.int .i64 (x.E 5).1,.int .i64 (x.E 5).2,.int .i64 (x.E 6).1,.int .i64 (x.E 6).2] 54))=V1 at *
    obtain⟨x0,x1,x2,x3,x4,x5,x6,x7⟩:=X.cells
    rw [hh.out] at x0
    go_wp2_with fail
    go_ret
    exact⟨by have q:=e.out;subst q;rfl,HB⟩
  ·have t:(decide (-64<=x.n)&&decide (x.n<=64))=false:=by simp [c1]
   have e:Hid (false=R):=t.symm.trans e.out
   go_enter Try.func30,Try.ntmps30
   go_upto_region 1 with fail
   generalize (w.alloc (.cells #[.int .i64 x.k,.int .i64 x.a,.int .i64 x.b,.int .i64 x.n,.int .i64 x.q,.int .i64 x.p,.int .i64 x.v,.int .i64 x.d,.int .i64 (x.E 0).1,.int .i64 (x.E 0).2,.int .i64 (x.E 1).1,.int .i64 (x.E 1).2,.int .i64 (x.E 2).1,.int .i64 (x.E 2).2,.int .i64 (x.E 3).1,.int .i64 (x.E 3).2,.int .i64 (x.E 4).1,.int .i64 (x.E 4).2,.int .i64 (x.E 5).1,.int .i64 (x.E 5).2,.int .i64 (x.E 6).1,.int .i64 (x.E 6).2] 54))=V1 at *
   obtain⟨x0,x1,x2,x3,x4,x5,x6,x7⟩:=X.cells
   rw [hh.out] at x0
   go_wp2_with fail
   go_ret
   exact⟨by have q:=e.out;subst q;rfl,HB⟩
 have e:Hid (true=R):=by have:=hR.out;rw [fieldB,if_neg h1,if_neg h2,if_neg h8] at this;exact this
 clear hR hx
 go_enter Try.func30,Try.ntmps30
 go_upto_region 1 with fail
 generalize (w.alloc (.cells #[.int .i64 x.k,.int .i64 x.a,.int .i64 x.b,.int .i64 x.n,.int .i64 x.q,.int .i64 x.p,.int .i64 x.v,.int .i64 x.d,.int .i64 (x.E 0).1,.int .i64 (x.E 0).2,.int .i64 (x.E 1).1,.int .i64 (x.E 1).2,.int .i64 (x.E 2).1,.int .i64 (x.E 2).2,.int .i64 (x.E 3).1,.int .i64 (x.E 3).2,.int .i64 (x.E 4).1,.int .i64 (x.E 4).2,.int .i64 (x.E 5).1,.int .i64 (x.E 5).2,.int .i64 (x.E 6).1,.int .i64 (x.E 6).2] 54))=V1 at *
 obtain⟨x0,x1,x2,x3,x4,x5,x6,x7⟩:=X.cells
 go_wp2_with fail
 go_ret
 exact⟨by have q:=e.out;subst q;rfl,HB⟩
end Go.Proofs.Ytbejmklkicoibaa
