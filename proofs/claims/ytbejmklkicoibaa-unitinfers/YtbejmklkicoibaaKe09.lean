/- Dimensions (unit): seven exponents, as values and as they lie in memory; which may be; the plain one. -/
import Derived.Test.YtbejmklkicoibaaKe08
import Derived.Test.YtbejmklkicoibaaKe02
import Derived.Deep.RegionHeld3
import Derived.Deep.LoopGhost
import Derived.Deep.CutRange
namespace Go.Proofs.Ytbejmklkicoibaa
open Go.ChangeShapes Go.WideShapes Go.ChangeAt Go.RowKit
def dimV (E:Nat->Int×Int):Value:=.agg #[.int .i64 (E 0).1,.int .i64 (E 0).2,.int .i64 (E 1).1,.int .i64 (E 1).2,.int .i64 (E 2).1,.int .i64 (E 2).2,.int .i64 (E 3).1,.int .i64 (E 3).2,.int .i64 (E 4).1,.int .i64 (E 4).2,.int .i64 (E 5).1,.int .i64 (E 5).2,.int .i64 (E 6).1,.int .i64 (E 6).2]
def dimC (E:Nat->Int×Int):Array Value:=#[.int .i64 (E 0).1,.int .i64 (E 0).2,.int .i64 (E 1).1,.int .i64 (E 1).2,.int .i64 (E 2).1,.int .i64 (E 2).2,.int .i64 (E 3).1,.int .i64 (E 3).2,.int .i64 (E 4).1,.int .i64 (E 4).2,.int .i64 (E 5).1,.int .i64 (E 5).2,.int .i64 (E 6).1,.int .i64 (E 6).2]
structure HasDm (w:World) (b:Nat) (E:Nat->Int×Int):Prop where
 c0:∀i,i<7->w.cell? ⟨b,i*2,none⟩=some (.int .i64 (E i).1)
 c1:∀i,i<7->w.cell? ⟨b,i*2+1,none⟩=some (.int .i64 (E i).2)
 f0:∀i,i<7->w.frozen? ⟨b,i*2,none⟩=false
 f1:∀i,i<7->w.frozen? ⟨b,i*2+1,none⟩=false
 lt:b<w.heap.size
theorem HasDm.keep {w W:World} {b:Nat} {E:Nat->Int×Int} (h:HasDm w b E) (k:Below w.heap.size w W):HasDm W b E :=
 ⟨fun i hi=>keepsC k (h.c0 i hi) h.lt,fun i hi=>keepsC k (h.c1 i hi) h.lt,fun i hi=>keepsF k (h.f0 i hi) h.lt,fun i hi=>keepsF k (h.f1 i hi) h.lt,Nat.lt_of_lt_of_le h.lt k.size⟩
theorem HasDm.congr {w:World} {b:Nat} {E F:Nat->Int×Int} (h:HasDm w b E) (e:∀i,i<7->F i=E i):HasDm w b F :=
 ⟨fun i hi=>by rw [e i hi];exact h.c0 i hi,fun i hi=>by rw [e i hi];exact h.c1 i hi,h.f0,h.f1,h.lt⟩
theorem HasDm.cells {w:World} {b:Nat} {E:Nat->Int×Int} (h:HasDm w b E) :
  w.cell? ⟨b,0,none⟩=some (.int .i64 (E 0).1)/\w.cell? ⟨b,1,none⟩=some (.int .i64 (E 0).2)/\w.cell? ⟨b,2,none⟩=some (.int .i64 (E 1).1)/\w.cell? ⟨b,3,none⟩=some (.int .i64 (E 1).2)/\w.cell? ⟨b,4,none⟩=some (.int .i64 (E 2).1)/\w.cell? ⟨b,5,none⟩=some (.int .i64 (E 2).2)/\w.cell? ⟨b,6,none⟩=some (.int .i64 (E 3).1)/\w.cell? ⟨b,7,none⟩=some (.int .i64 (E 3).2)/\w.cell? ⟨b,8,none⟩=some (.int .i64 (E 4).1)/\w.cell? ⟨b,9,none⟩=some (.int .i64 (E 4).2)/\w.cell? ⟨b,10,none⟩=some (.int .i64 (E 5).1)/\w.cell? ⟨b,11,none⟩=some (.int .i64 (E 5).2)/\w.cell? ⟨b,12,none⟩=some (.int .i64 (E 6).1)/\w.cell? ⟨b,13,none⟩=some (.int .i64 (E 6).2) :=
 ⟨h.c0 0 (by decide),h.c1 0 (by decide),h.c0 1 (by decide),h.c1 1 (by decide),h.c0 2 (by decide),h.c1 2 (by decide),h.c0 3 (by decide),h.c1 3 (by decide),h.c0 4 (by decide),h.c1 4 (by decide),h.c0 5 (by decide),h.c1 5 (by decide),h.c0 6 (by decide),h.c1 6 (by decide)⟩
theorem HasDm.froz {w:World} {b:Nat} {E:Nat->Int×Int} (h:HasDm w b E) :
  w.frozen? ⟨b,0,none⟩=false/\w.frozen? ⟨b,1,none⟩=false/\w.frozen? ⟨b,2,none⟩=false/\w.frozen? ⟨b,3,none⟩=false/\w.frozen? ⟨b,4,none⟩=false/\w.frozen? ⟨b,5,none⟩=false/\w.frozen? ⟨b,6,none⟩=false/\w.frozen? ⟨b,7,none⟩=false/\w.frozen? ⟨b,8,none⟩=false/\w.frozen? ⟨b,9,none⟩=false/\w.frozen? ⟨b,10,none⟩=false/\w.frozen? ⟨b,11,none⟩=false/\w.frozen? ⟨b,12,none⟩=false/\w.frozen? ⟨b,13,none⟩=false :=
 ⟨h.f0 0 (by decide),h.f1 0 (by decide),h.f0 1 (by decide),h.f1 1 (by decide),h.f0 2 (by decide),h.f1 2 (by decide),h.f0 3 (by decide),h.f1 3 (by decide),h.f0 4 (by decide),h.f1 4 (by decide),h.f0 5 (by decide),h.f1 5 (by decide),h.f0 6 (by decide),h.f1 6 (by decide)⟩
theorem dim_new (w:World) (E:Nat->Int×Int) (T:TypeId):HasDm (w.alloc (.cells (dimC E) T)) w.heap.size E:=by
 refine⟨fun i hi=>?_,fun i hi=>?_,fun i hi=>by go_simp,fun i hi=>by go_simp,by go_size⟩
 ·match i,hi with
  | 0,_ | 1,_ | 2,_ | 3,_ | 4,_ | 5,_ | 6,_=>simp [dimC,go_sem]
 ·match i,hi with
  | 0,_ | 1,_ | 2,_ | 3,_ | 4,_ | 5,_ | 6,_=>simp [dimC,go_sem]
def putE (E:Nat->Int×Int) (k:Nat) (v:Int×Int):Nat->Int×Int:=fun i=>if i=k then v else E i
theorem HasDm.set {w:World} {b k:Nat} {E:Nat->Int×Int} (h:HasDm w b E) (hk:k<7) (n d:Int) :
  HasDm ((w.setCell ⟨b,k*2,none⟩ (.int .i64 n)).setCell ⟨b,k*2+1,none⟩ (.int .i64 d)) b (putE E k (n,d)):=by
 refine⟨fun i hi=>?_,fun i hi=>?_,fun i hi=>by simp only [World.frozen?_setCell];exact h.f0 i hi,fun i hi=>by simp only [World.frozen?_setCell];exact h.f1 i hi,by simp only [World.size_setCell];exact h.lt⟩
 ·have n1:(⟨b,k*2+1,none⟩:Addr)≠⟨b,i*2,none⟩:=fun e=>by injection e with _ e _;omega
  rw [World.cell?_setCell_other _ _ _ _ n1]
  unfold putE
  by_cases c:i=k
  ·subst c
   rw [if_pos rfl,World.cell?_setCell_same _ _ _ (by rw [h.c0 i hi])]
  ·have n2:(⟨b,k*2,none⟩:Addr)≠⟨b,i*2,none⟩:=fun e=>by injection e with _ e _;omega
   rw [if_neg c,World.cell?_setCell_other _ _ _ _ n2]
   exact h.c0 i hi
 ·unfold putE
  have n3:(⟨b,k*2,none⟩:Addr)≠⟨b,i*2+1,none⟩:=fun e=>by injection e with _ e _;omega
  by_cases c:i=k
  ·subst c
   rw [if_pos rfl,World.cell?_setCell_same _ _ _ (by rw [World.cell?_setCell_other _ _ _ _ n3,h.c1 i hi])]
  ·have n2:(⟨b,k*2+1,none⟩:Addr)≠⟨b,i*2+1,none⟩:=fun e=>by injection e with _ e _;omega
   rw [if_neg c,World.cell?_setCell_other _ _ _ _ n2,World.cell?_setCell_other _ _ _ _ n3]
   exact h.c1 i hi
theorem HasDm.far {w:World} {b c o:Nat} {E:Nat->Int×Int} (h:HasDm w b E) (hne:c≠b) (v:Value):HasDm (w.setCell ⟨c,o,none⟩ v) b E:=by
 refine⟨fun i hi=>?_,fun i hi=>?_,fun i hi=>by simp only [World.frozen?_setCell];exact h.f0 i hi,fun i hi=>by simp only [World.frozen?_setCell];exact h.f1 i hi,by simp only [World.size_setCell];exact h.lt⟩
 ·rw [World.cell?_setCell_far _ _ _ _ hne];exact h.c0 i hi
 ·rw [World.cell?_setCell_far _ _ _ _ hne];exact h.c1 i hi
theorem uwhole_w (n:Int) (w:World) :
  Calls Try.prog 56 #[.int .i64 n] w fun r w'=>r=.returned (.agg #[.int .i64 n,.int .i64 1])/\Below w.heap.size w w':=by
 go_enter Try.func56,Try.ntmps56
 go_wp2_with fail
 refine bodyPost_ret (v:=.agg #[.int .i64 n,.int .i64 1]) (by simp [results,Try.results56,go_sem, *]) rfl ⟨rfl, ?_⟩
 repeat' (first | go_grown | (with_reducible refine Below.setCell ?_ ?_ _) | go_size)
theorem dwhole_w (n:Int) (w:World) :
  Calls Try.prog 44 #[.int .i64 n] w fun r w'=>r=.returned (.agg #[.int .i64 n,.int .i64 1])/\Below w.heap.size w w':=by
 go_enter Try.func44,Try.ntmps44
 go_wp2_with fail
 refine bodyPost_ret (v:=.agg #[.int .i64 n,.int .i64 1]) (by simp [results,Try.results44,go_sem, *]) rfl ⟨rfl, ?_⟩
 repeat' (first | go_grown | (with_reducible refine Below.setCell ?_ ?_ _) | go_size)
def plE:Nat->Int×Int:=fun _=>(0,1)
def zeE:Nat->Int×Int:=fun _=>(0,0)
theorem dimV_congr {E F:Nat->Int×Int} (h:∀i,i<7->E i=F i):dimV E=dimV F:=by
 unfold dimV
 rw [h 0 (by decide),h 1 (by decide),h 2 (by decide),h 3 (by decide),h 4 (by decide),h 5 (by decide),h 6 (by decide)]
def plK (k:Nat):Nat->Int×Int:=fun i=>if i<k then (0,1) else (0,0)
theorem plK_put (k:Nat):putE (plK k) k (0,1)=plK (k+1):=by
 funext i
 unfold putE plK
 by_cases c:i=k
 ·subst c;rw [if_pos rfl,if_pos (by omega)]
 ·rw [if_neg c]
  by_cases d:i<k
  ·rw [if_pos d,if_pos (by omega)]
  ·rw [if_neg d,if_neg (by omega)]
set_option maxHeartbeats 1000000 in
theorem uplain_w (w:World) :
   Calls Try.prog 40 #[] w fun r w'=>r=.returned (dimV plE)/\Below w.heap.size w w':=by
 have hw:=fun W=>uwhole_w 0 W
 have X:HasDm ((w.alloc (.cells #[.int .i64 0,.int .i64 0,.int .i64 0,.int .i64 0,.int .i64 0,.int .i64 0,.int .i64 0,.int .i64 0,.int .i64 0,.int .i64 0,.int .i64 0,.int .i64 0,.int .i64 0,.int .i64 0] 30)).alloc (.cells #[.int .i64 0,.int .i64 0,.int .i64 0,.int .i64 0,.int .i64 0,.int .i64 0,.int .i64 0,.int .i64 0,.int .i64 0,.int .i64 0,.int .i64 0,.int .i64 0,.int .i64 0,.int .i64 0] 30)) (w.heap.size+1) (plK 0):=by
   have:=dim_new (w.alloc (.cells #[.int .i64 0,.int .i64 0,.int .i64 0,.int .i64 0,.int .i64 0,.int .i64 0,.int .i64 0,.int .i64 0,.int .i64 0,.int .i64 0,.int .i64 0,.int .i64 0,.int .i64 0,.int .i64 0] 30)) (plK 0) 30
   rw [World.size_alloc] at this
   exact this
 have Y:HasDm ((w.alloc (.cells #[.int .i64 0,.int .i64 0,.int .i64 0,.int .i64 0,.int .i64 0,.int .i64 0,.int .i64 0,.int .i64 0,.int .i64 0,.int .i64 0,.int .i64 0,.int .i64 0,.int .i64 0,.int .i64 0] 30)).alloc (.cells #[.int .i64 0,.int .i64 0,.int .i64 0,.int .i64 0,.int .i64 0,.int .i64 0,.int .i64 0,.int .i64 0,.int .i64 0,.int .i64 0,.int .i64 0,.int .i64 0,.int .i64 0,.int .i64 0] 30)) w.heap.size zeE:=(dim_new w zeE 30).keep (Below.alloc (Below.refl _ _) (Nat.le_refl _) _)
 have HB:Below w.heap.size w ((w.alloc (.cells #[.int .i64 0,.int .i64 0,.int .i64 0,.int .i64 0,.int .i64 0,.int .i64 0,.int .i64 0,.int .i64 0,.int .i64 0,.int .i64 0,.int .i64 0,.int .i64 0,.int .i64 0,.int .i64 0] 30)).alloc (.cells #[.int .i64 0,.int .i64 0,.int .i64 0,.int .i64 0,.int .i64 0,.int .i64 0,.int .i64 0,.int .i64 0,.int .i64 0,.int .i64 0,.int .i64 0,.int .i64 0,.int .i64 0,.int .i64 0] 30)):=by go_grown
 go_enter Try.func40,Try.ntmps40
 go_upto_region 3 with fail
 generalize ((w.alloc (.cells #[.int .i64 0,.int .i64 0,.int .i64 0,.int .i64 0,.int .i64 0,.int .i64 0,.int .i64 0,.int .i64 0,.int .i64 0,.int .i64 0,.int .i64 0,.int .i64 0,.int .i64 0,.int .i64 0] 30)).alloc (.cells #[.int .i64 0,.int .i64 0,.int .i64 0,.int .i64 0,.int .i64 0,.int .i64 0,.int .i64 0,.int .i64 0,.int .i64 0,.int .i64 0,.int .i64 0,.int .i64 0,.int .i64 0,.int .i64 0] 30))=V1 at *
 go_loopg [3] (7:Nat) (fun G s wx=>∃k:Nat,s=.int .i64 (k:Int)/\k<=7/\7<=k+G/\Below w.heap.size w wx/\HasDm wx (w.heap.size+1) (plK k)/\HasDm wx w.heap.size zeE)
 case atStart=>exact⟨0,rfl,by omega,by omega,HB,X,Y⟩
 case round =>
   clear X Y HB
   obtain⟨k,rfl,hk,hG,HB,X,Y⟩:=hrel
   by_cases c:k=7
   · subst c
     obtain⟨x0,x1,x2,x3,x4,x5,x6,x7,x8,x9,x10,x11,x12,x13⟩:=X.cells
     obtain⟨y0,y1,y2,y3,y4,y5,y6,y7,y8,y9,y10,y11,y12,y13⟩:=Y.cells
     obtain⟨f0,f1,f2,f3,f4,f5,f6,f7,f8,f9,f10,f11,f12,f13⟩:=Y.froz
     go_wp2_with fail
     refine bodyPost_ret (v:=dimV plE) (by simp [results,Try.results40,go_sem, *];rfl) rfl ⟨rfl, ?_⟩
     repeat' (first | (with_reducible exact HB) | (with_reducible refine Below.setCell ?_ ?_ _) | go_size)
   · have kl:(k:Int)<7:=by omega
     have kp:0<=(k:Int):=by omega
     have kn:k<7:=by omega
     go_wp2_with (first | (go_at_call 56;with_reducible refine (hw _).mono ?_;rintro _ VV ⟨rfl,hb1⟩;replace X:=X.keep hb1;replace Y:=Y.keep hb1;replace HB:=later HB hb1;clear hb1;have g0:=X.c0 k kn;have g1:=X.c1 k kn;have g2:=X.f0 k kn;have g3:=X.f1 k kn))
     have X2:=X.set kn 0 1
     rw [plK_put] at X2
     (go_roundg (gk-1)
      case measure=>omega
      case rel=>exact⟨k+1,congrArg (Value.int .i64) (show (k:Int)+1=((k+1:Nat):Int) by omega),by omega,by omega,by (repeat' (first | (with_reducible exact HB) | (with_reducible refine Below.setCell ?_ ?_ _) | go_size)),X2,(Y.far (by omega) _).far (by omega) _⟩)
set_option maxHeartbeats 1000000 in
theorem dplain_w (w:World) :
   Calls Try.prog 43 #[] w fun r w'=>r=.returned (dimV plE)/\Below w.heap.size w w':=by
 have hw:=fun W=>dwhole_w 0 W
 have X:HasDm ((w.alloc (.cells #[.int .i64 0,.int .i64 0,.int .i64 0,.int .i64 0,.int .i64 0,.int .i64 0,.int .i64 0,.int .i64 0,.int .i64 0,.int .i64 0,.int .i64 0,.int .i64 0,.int .i64 0,.int .i64 0] 30)).alloc (.cells #[.int .i64 0,.int .i64 0,.int .i64 0,.int .i64 0,.int .i64 0,.int .i64 0,.int .i64 0,.int .i64 0,.int .i64 0,.int .i64 0,.int .i64 0,.int .i64 0,.int .i64 0,.int .i64 0] 30)) (w.heap.size+1) (plK 0):=by
   have:=dim_new (w.alloc (.cells #[.int .i64 0,.int .i64 0,.int .i64 0,.int .i64 0,.int .i64 0,.int .i64 0,.int .i64 0,.int .i64 0,.int .i64 0,.int .i64 0,.int .i64 0,.int .i64 0,.int .i64 0,.int .i64 0] 30)) (plK 0) 30
   rw [World.size_alloc] at this
   exact this
 have Y:HasDm ((w.alloc (.cells #[.int .i64 0,.int .i64 0,.int .i64 0,.int .i64 0,.int .i64 0,.int .i64 0,.int .i64 0,.int .i64 0,.int .i64 0,.int .i64 0,.int .i64 0,.int .i64 0,.int .i64 0,.int .i64 0] 30)).alloc (.cells #[.int .i64 0,.int .i64 0,.int .i64 0,.int .i64 0,.int .i64 0,.int .i64 0,.int .i64 0,.int .i64 0,.int .i64 0,.int .i64 0,.int .i64 0,.int .i64 0,.int .i64 0,.int .i64 0] 30)) w.heap.size zeE:=(dim_new w zeE 30).keep (Below.alloc (Below.refl _ _) (Nat.le_refl _) _)
 have HB:Below w.heap.size w ((w.alloc (.cells #[.int .i64 0,.int .i64 0,.int .i64 0,.int .i64 0,.int .i64 0,.int .i64 0,.int .i64 0,.int .i64 0,.int .i64 0,.int .i64 0,.int .i64 0,.int .i64 0,.int .i64 0,.int .i64 0] 30)).alloc (.cells #[.int .i64 0,.int .i64 0,.int .i64 0,.int .i64 0,.int .i64 0,.int .i64 0,.int .i64 0,.int .i64 0,.int .i64 0,.int .i64 0,.int .i64 0,.int .i64 0,.int .i64 0,.int .i64 0] 30)):=by go_grown
 go_enter Try.func43,Try.ntmps43
 go_upto_region 3 with fail
 generalize ((w.alloc (.cells #[.int .i64 0,.int .i64 0,.int .i64 0,.int .i64 0,.int .i64 0,.int .i64 0,.int .i64 0,.int .i64 0,.int .i64 0,.int .i64 0,.int .i64 0,.int .i64 0,.int .i64 0,.int .i64 0] 30)).alloc (.cells #[.int .i64 0,.int .i64 0,.int .i64 0,.int .i64 0,.int .i64 0,.int .i64 0,.int .i64 0,.int .i64 0,.int .i64 0,.int .i64 0,.int .i64 0,.int .i64 0,.int .i64 0,.int .i64 0] 30))=V1 at *
 go_loopg [2] (7:Nat) (fun G s wx=>∃k:Nat,s=.int .i64 (k:Int)/\k<=7/\7<=k+G/\Below w.heap.size w wx/\HasDm wx (w.heap.size+1) (plK k)/\HasDm wx w.heap.size zeE)
 case atStart=>exact⟨0,rfl,by omega,by omega,HB,X,Y⟩
 case round =>
   clear X Y HB
   obtain⟨k,rfl,hk,hG,HB,X,Y⟩:=hrel
   by_cases c:k=7
   · subst c
     obtain⟨x0,x1,x2,x3,x4,x5,x6,x7,x8,x9,x10,x11,x12,x13⟩:=X.cells
     obtain⟨y0,y1,y2,y3,y4,y5,y6,y7,y8,y9,y10,y11,y12,y13⟩:=Y.cells
     obtain⟨f0,f1,f2,f3,f4,f5,f6,f7,f8,f9,f10,f11,f12,f13⟩:=Y.froz
     go_wp2_with fail
     refine bodyPost_ret (v:=dimV plE) (by simp [results,Try.results43,go_sem, *];rfl) rfl ⟨rfl, ?_⟩
     repeat' (first | (with_reducible exact HB) | (with_reducible refine Below.setCell ?_ ?_ _) | go_size)
   · have kl:(k:Int)<7:=by omega
     have kp:0<=(k:Int):=by omega
     have kn:k<7:=by omega
     go_wp2_with (first | (go_at_call 44;with_reducible refine (hw _).mono ?_;rintro _ VV ⟨rfl,hb1⟩;replace X:=X.keep hb1;replace Y:=Y.keep hb1;replace HB:=later HB hb1;clear hb1;have g0:=X.c0 k kn;have g1:=X.c1 k kn;have g2:=X.f0 k kn;have g3:=X.f1 k kn))
     have X2:=X.set kn 0 1
     rw [plK_put] at X2
     (go_roundg (gk-1)
      case measure=>omega
      case rel=>exact⟨k+1,congrArg (Value.int .i64) (show (k:Int)+1=((k+1:Nat):Int) by omega),by omega,by omega,by (repeat' (first | (with_reducible exact HB) | (with_reducible refine Below.setCell ?_ ?_ _) | go_size)),X2,(Y.far (by omega) _).far (by omega) _⟩)
def drK (E:Nat->Int×Int):Nat->Bool
 | 0=>true
 | k+1=>drK E k&&rightR (E k).1 (E k).2
theorem drK_no {E:Nat->Int×Int} {k:Nat} (h:rightR (E k).1 (E k).2=false):∀n,k<n->drK E n=false
 | 0,h'=>by omega
 | n+1,h'=>by
  unfold drK
  by_cases c:k=n
  ·subst c;rw [h,Bool.and_false]
  ·rw [drK_no h n (by omega),Bool.false_and]
theorem drK_yes {E:Nat->Int×Int} {n:Nat} (h:drK E n=true):∀k,k<n->rightR (E k).1 (E k).2=true:=fun k hk=>by
 cases c:rightR (E k).1 (E k).2
 ·rw [drK_no c n hk] at h;cases h
 ·rfl
def Dim64 (E:Nat->Int×Int):Prop:=∀i,i<7->I64 (E i).1/\I64 (E i).2
theorem run_index_dim (E:Nat->Int×Int) (k:Nat) (hk:k<7) (w:World) :
  (Instr.index 28 (.agg (dimC E)) (.int .i64 (k:Int))).run Try.prog w=.ok (.agg #[.int .i64 (E k).1,.int .i64 (E k).2]) w:=by
 match k,hk with
 | 0,_ | 1,_ | 2,_ | 3,_ | 4,_ | 5,_ | 6,_=>simp [Instr.index,dimC,go_sem]
end Go.Proofs.Ytbejmklkicoibaa
