/- unit's must and times: a number without room gives up by a panic. -/
import Derived.Test.YtbejmklkicoibaaSh
import Derived.Test.YtbejmklkicoibaaKe10
import Derived.Test.YtbejmklkicoibaaKe15
namespace Go.Proofs.Ytbejmklkicoibaa
open Go.ChangeShapes Go.WideShapes Go.ChangeAt Go.RowKit
def stopP (e:Int):List PanicEntry:=[{ v:=.iface 74 (.agg #[.int .i64 e]),recovered:=false }]
theorem must_ok (n d:Int) (w:World) :
  Calls Try.prog 58 #[.agg #[.int .i64 n,.int .i64 d],.int .i64 0] w fun r w'=>r=.returned (.agg #[.int .i64 n,.int .i64 d])/\Below w.heap.size w w':=by
 go_enter Try.func58,Try.ntmps58
 go_wp2_with fail
 refine bodyPost_ret (v:=.agg #[.int .i64 n,.int .i64 d]) (by simp [results,Try.results58,go_sem, *]) rfl ⟨rfl, ?_⟩
 repeat' (first | go_grown | (with_reducible refine Below.setCell ?_ ?_ _) | go_size)
theorem must_no (n d e:Int) (he:(e != 0)=true) (w:World) :
  Calls Try.prog 58 #[.agg #[.int .i64 n,.int .i64 d],.int .i64 e] w fun r w'=>r=.panicked (stopP e)/\Below w.heap.size w w':=by
 go_enter Try.func58,Try.ntmps58
 go_wp2_with fail
 exact⟨rfl,rfl,by go_grown⟩
def tmE (A B:Nat->Int×Int) (pN pD:Int) (i:Nat):Int×Int×Int :=
 if (mulV11 (B i).1 (B i).2 pN pD).2.2=0 then addV11 (A i).1 (A i).2 (mulV11 (B i).1 (B i).2 pN pD).1 (mulV11 (B i).1 (B i).2 pN pD).2.1 else (0,0,(mulV11 (B i).1 (B i).2 pN pD).2.2)
def tmF (A B:Nat->Int×Int) (pN pD:Int):Nat->Int
 | 0=>0
 | k+1=>if tmF A B pN pD k=0 then (tmE A B pN pD k).2.2 else tmF A B pN pD k
def tmD (A B:Nat->Int×Int) (pN pD:Int) (k:Nat):Nat->Int×Int:=fun i=>if i<k then ((tmE A B pN pD i).1,(tmE A B pN pD i).2.1) else A i
theorem tmF_stays {A B:Nat->Int×Int} {pN pD:Int} {k:Nat} (h:tmF A B pN pD k≠0):∀n,k<=n->tmF A B pN pD n=tmF A B pN pD k
 | 0,hn=>by rw [show k=0 by omega]
 | n+1,hn=>by
  by_cases c:k=n+1
  ·rw [c]
  ·have:=tmF_stays h n (by omega)
   rw [tmF,if_neg (by rw [this];exact h),this]
theorem tmD_put {A B:Nat->Int×Int} {pN pD:Int} {k:Nat} {x y e:Int} (h:tmE A B pN pD k=(x,y,e)):putE (tmD A B pN pD k) k (x,y)=tmD A B pN pD (k+1):=by
 funext i
 unfold putE tmD
 by_cases c:i=k
 ·subst c;rw [if_pos rfl,if_pos (by omega),h]
 ·rw [if_neg c]
  by_cases d:i<k
  ·rw [if_pos d,if_pos (by omega)]
  ·rw [if_neg d,if_neg (by omega)]
set_option maxHeartbeats 4000000 in
set_option maxRecDepth 4000 in
theorem utimes_w (A B:Nat->Int×Int) (pN pD:Int) (hA:Dim64 A) (hB:Dim64 B) (hp:I64 pN/\I64 pD) (rA:drK A 7=true) (rB:drK B 7=true) (rp:rightR pN pD=true) (w:World) :
   Calls Try.prog 62 #[dimV A,dimV B,.agg #[.int .i64 pN,.int .i64 pD]] w fun r w'=>(r=if tmF A B pN pD 7=0 then .returned (dimV (tmD A B pN pD 7)) else .panicked (stopP (tmF A B pN pD 7)))/\Below w.heap.size w w':=by
 obtain⟨R,hR⟩:∃R,Hid ((if tmF A B pN pD 7=0 then Ending.returned (dimV (tmD A B pN pD 7)) else .panicked (stopP (tmF A B pN pD 7)))=R):=⟨_,rfl⟩
 rw [hR.out]
 unfold dimV
 have X0:HasDm (w.alloc (.cells #[.int .i64 (A 0).1,.int .i64 (A 0).2,.int .i64 (A 1).1,.int .i64 (A 1).2,.int .i64 (A 2).1,.int .i64 (A 2).2,.int .i64 (A 3).1,.int .i64 (A 3).2,.int .i64 (A 4).1,.int .i64 (A 4).2,.int .i64 (A 5).1,.int .i64 (A 5).2,.int .i64 (A 6).1,.int .i64 (A 6).2] 30)) w.heap.size A:=dim_new w A 30
 have X:HasDm ((((w.alloc (.cells #[.int .i64 (A 0).1,.int .i64 (A 0).2,.int .i64 (A 1).1,.int .i64 (A 1).2,.int .i64 (A 2).1,.int .i64 (A 2).2,.int .i64 (A 3).1,.int .i64 (A 3).2,.int .i64 (A 4).1,.int .i64 (A 4).2,.int .i64 (A 5).1,.int .i64 (A 5).2,.int .i64 (A 6).1,.int .i64 (A 6).2] 30)).alloc (.cells #[.int .i64 (B 0).1,.int .i64 (B 0).2,.int .i64 (B 1).1,.int .i64 (B 1).2,.int .i64 (B 2).1,.int .i64 (B 2).2,.int .i64 (B 3).1,.int .i64 (B 3).2,.int .i64 (B 4).1,.int .i64 (B 4).2,.int .i64 (B 5).1,.int .i64 (B 5).2,.int .i64 (B 6).1,.int .i64 (B 6).2] 30)).alloc (.cells #[.int .i64 pN,.int .i64 pD] 27)).alloc (.cells #[.int .i64 0,.int .i64 0,.int .i64 0,.int .i64 0,.int .i64 0,.int .i64 0,.int .i64 0,.int .i64 0,.int .i64 0,.int .i64 0,.int .i64 0,.int .i64 0,.int .i64 0,.int .i64 0] 30)) w.heap.size A:=X0.keep (by repeat' (first | (with_reducible exact Below.refl _ _) | (with_reducible refine Below.alloc ?_ ?_ _) | go_size))
 have Y:HasDm ((((w.alloc (.cells #[.int .i64 (A 0).1,.int .i64 (A 0).2,.int .i64 (A 1).1,.int .i64 (A 1).2,.int .i64 (A 2).1,.int .i64 (A 2).2,.int .i64 (A 3).1,.int .i64 (A 3).2,.int .i64 (A 4).1,.int .i64 (A 4).2,.int .i64 (A 5).1,.int .i64 (A 5).2,.int .i64 (A 6).1,.int .i64 (A 6).2] 30)).alloc (.cells #[.int .i64 (B 0).1,.int .i64 (B 0).2,.int .i64 (B 1).1,.int .i64 (B 1).2,.int .i64 (B 2).1,.int .i64 (B 2).2,.int .i64 (B 3).1,.int .i64 (B 3).2,.int .i64 (B 4).1,.int .i64 (B 4).2,.int .i64 (B 5).1,.int .i64 (B 5).2,.int .i64 (B 6).1,.int .i64 (B 6).2] 30)).alloc (.cells #[.int .i64 pN,.int .i64 pD] 27)).alloc (.cells #[.int .i64 0,.int .i64 0,.int .i64 0,.int .i64 0,.int .i64 0,.int .i64 0,.int .i64 0,.int .i64 0,.int .i64 0,.int .i64 0,.int .i64 0,.int .i64 0,.int .i64 0,.int .i64 0] 30)) (w.heap.size+1) B:=by
   have this:HasDm ((w.alloc (.cells #[.int .i64 (A 0).1,.int .i64 (A 0).2,.int .i64 (A 1).1,.int .i64 (A 1).2,.int .i64 (A 2).1,.int .i64 (A 2).2,.int .i64 (A 3).1,.int .i64 (A 3).2,.int .i64 (A 4).1,.int .i64 (A 4).2,.int .i64 (A 5).1,.int .i64 (A 5).2,.int .i64 (A 6).1,.int .i64 (A 6).2] 30)).alloc (.cells #[.int .i64 (B 0).1,.int .i64 (B 0).2,.int .i64 (B 1).1,.int .i64 (B 1).2,.int .i64 (B 2).1,.int .i64 (B 2).2,.int .i64 (B 3).1,.int .i64 (B 3).2,.int .i64 (B 4).1,.int .i64 (B 4).2,.int .i64 (B 5).1,.int .i64 (B 5).2,.int .i64 (B 6).1,.int .i64 (B 6).2] 30)) (w.alloc (.cells #[.int .i64 (A 0).1,.int .i64 (A 0).2,.int .i64 (A 1).1,.int .i64 (A 1).2,.int .i64 (A 2).1,.int .i64 (A 2).2,.int .i64 (A 3).1,.int .i64 (A 3).2,.int .i64 (A 4).1,.int .i64 (A 4).2,.int .i64 (A 5).1,.int .i64 (A 5).2,.int .i64 (A 6).1,.int .i64 (A 6).2] 30)).heap.size B:=dim_new (w.alloc (.cells #[.int .i64 (A 0).1,.int .i64 (A 0).2,.int .i64 (A 1).1,.int .i64 (A 1).2,.int .i64 (A 2).1,.int .i64 (A 2).2,.int .i64 (A 3).1,.int .i64 (A 3).2,.int .i64 (A 4).1,.int .i64 (A 4).2,.int .i64 (A 5).1,.int .i64 (A 5).2,.int .i64 (A 6).1,.int .i64 (A 6).2] 30)) B 30
   rw [World.size_alloc] at this
   exact this.keep (by repeat' (first | (with_reducible exact Below.refl _ _) | (with_reducible refine Below.alloc ?_ ?_ _) | go_size))
 have Z:Has2 ((((w.alloc (.cells #[.int .i64 (A 0).1,.int .i64 (A 0).2,.int .i64 (A 1).1,.int .i64 (A 1).2,.int .i64 (A 2).1,.int .i64 (A 2).2,.int .i64 (A 3).1,.int .i64 (A 3).2,.int .i64 (A 4).1,.int .i64 (A 4).2,.int .i64 (A 5).1,.int .i64 (A 5).2,.int .i64 (A 6).1,.int .i64 (A 6).2] 30)).alloc (.cells #[.int .i64 (B 0).1,.int .i64 (B 0).2,.int .i64 (B 1).1,.int .i64 (B 1).2,.int .i64 (B 2).1,.int .i64 (B 2).2,.int .i64 (B 3).1,.int .i64 (B 3).2,.int .i64 (B 4).1,.int .i64 (B 4).2,.int .i64 (B 5).1,.int .i64 (B 5).2,.int .i64 (B 6).1,.int .i64 (B 6).2] 30)).alloc (.cells #[.int .i64 pN,.int .i64 pD] 27)).alloc (.cells #[.int .i64 0,.int .i64 0,.int .i64 0,.int .i64 0,.int .i64 0,.int .i64 0,.int .i64 0,.int .i64 0,.int .i64 0,.int .i64 0,.int .i64 0,.int .i64 0,.int .i64 0,.int .i64 0] 30)) (w.heap.size+1+1) (.int .i64 pN) (.int .i64 pD):=⟨by go_simp,by go_simp,by go_simp,by go_simp,by go_size⟩
 have O:HasDm ((((w.alloc (.cells #[.int .i64 (A 0).1,.int .i64 (A 0).2,.int .i64 (A 1).1,.int .i64 (A 1).2,.int .i64 (A 2).1,.int .i64 (A 2).2,.int .i64 (A 3).1,.int .i64 (A 3).2,.int .i64 (A 4).1,.int .i64 (A 4).2,.int .i64 (A 5).1,.int .i64 (A 5).2,.int .i64 (A 6).1,.int .i64 (A 6).2] 30)).alloc (.cells #[.int .i64 (B 0).1,.int .i64 (B 0).2,.int .i64 (B 1).1,.int .i64 (B 1).2,.int .i64 (B 2).1,.int .i64 (B 2).2,.int .i64 (B 3).1,.int .i64 (B 3).2,.int .i64 (B 4).1,.int .i64 (B 4).2,.int .i64 (B 5).1,.int .i64 (B 5).2,.int .i64 (B 6).1,.int .i64 (B 6).2] 30)).alloc (.cells #[.int .i64 pN,.int .i64 pD] 27)).alloc (.cells #[.int .i64 0,.int .i64 0,.int .i64 0,.int .i64 0,.int .i64 0,.int .i64 0,.int .i64 0,.int .i64 0,.int .i64 0,.int .i64 0,.int .i64 0,.int .i64 0,.int .i64 0,.int .i64 0] 30)) (w.heap.size+1+1+1) zeE:=by
   have:=dim_new (((w.alloc (.cells #[.int .i64 (A 0).1,.int .i64 (A 0).2,.int .i64 (A 1).1,.int .i64 (A 1).2,.int .i64 (A 2).1,.int .i64 (A 2).2,.int .i64 (A 3).1,.int .i64 (A 3).2,.int .i64 (A 4).1,.int .i64 (A 4).2,.int .i64 (A 5).1,.int .i64 (A 5).2,.int .i64 (A 6).1,.int .i64 (A 6).2] 30)).alloc (.cells #[.int .i64 (B 0).1,.int .i64 (B 0).2,.int .i64 (B 1).1,.int .i64 (B 1).2,.int .i64 (B 2).1,.int .i64 (B 2).2,.int .i64 (B 3).1,.int .i64 (B 3).2,.int .i64 (B 4).1,.int .i64 (B 4).2,.int .i64 (B 5).1,.int .i64 (B 5).2,.int .i64 (B 6).1,.int .i64 (B 6).2] 30)).alloc (.cells #[.int .i64 pN,.int .i64 pD] 27)) zeE 30
   rw [World.size_alloc,World.size_alloc,World.size_alloc] at this
   exact this
 clear X0
 have HB:Below w.heap.size w ((((w.alloc (.cells #[.int .i64 (A 0).1,.int .i64 (A 0).2,.int .i64 (A 1).1,.int .i64 (A 1).2,.int .i64 (A 2).1,.int .i64 (A 2).2,.int .i64 (A 3).1,.int .i64 (A 3).2,.int .i64 (A 4).1,.int .i64 (A 4).2,.int .i64 (A 5).1,.int .i64 (A 5).2,.int .i64 (A 6).1,.int .i64 (A 6).2] 30)).alloc (.cells #[.int .i64 (B 0).1,.int .i64 (B 0).2,.int .i64 (B 1).1,.int .i64 (B 1).2,.int .i64 (B 2).1,.int .i64 (B 2).2,.int .i64 (B 3).1,.int .i64 (B 3).2,.int .i64 (B 4).1,.int .i64 (B 4).2,.int .i64 (B 5).1,.int .i64 (B 5).2,.int .i64 (B 6).1,.int .i64 (B 6).2] 30)).alloc (.cells #[.int .i64 pN,.int .i64 pD] 27)).alloc (.cells #[.int .i64 0,.int .i64 0,.int .i64 0,.int .i64 0,.int .i64 0,.int .i64 0,.int .i64 0,.int .i64 0,.int .i64 0,.int .i64 0,.int .i64 0,.int .i64 0,.int .i64 0,.int .i64 0] 30)):=by go_grown
 have hi:∀k:Nat,k<7->∀W:World,(Instr.index 28 (.agg #[.int .i64 (B 0).1,.int .i64 (B 0).2,.int .i64 (B 1).1,.int .i64 (B 1).2,.int .i64 (B 2).1,.int .i64 (B 2).2,.int .i64 (B 3).1,.int .i64 (B 3).2,.int .i64 (B 4).1,.int .i64 (B 4).2,.int .i64 (B 5).1,.int .i64 (B 5).2,.int .i64 (B 6).1,.int .i64 (B 6).2]) (.int .i64 (k:Int))).run Try.prog W=.ok (.agg #[.int .i64 (B k).1,.int .i64 (B k).2]) W:=fun k hk W=>run_index_dim B k hk W
 obtain⟨y0,y1,y2,y3,y4,y5,y6,y7,y8,y9,y10,y11,y12,y13⟩:=Y.cells
 go_enter Try.func62,Try.ntmps62
 go_upto_region 2 with fail
 generalize ((((w.alloc (.cells #[.int .i64 (A 0).1,.int .i64 (A 0).2,.int .i64 (A 1).1,.int .i64 (A 1).2,.int .i64 (A 2).1,.int .i64 (A 2).2,.int .i64 (A 3).1,.int .i64 (A 3).2,.int .i64 (A 4).1,.int .i64 (A 4).2,.int .i64 (A 5).1,.int .i64 (A 5).2,.int .i64 (A 6).1,.int .i64 (A 6).2] 30)).alloc (.cells #[.int .i64 (B 0).1,.int .i64 (B 0).2,.int .i64 (B 1).1,.int .i64 (B 1).2,.int .i64 (B 2).1,.int .i64 (B 2).2,.int .i64 (B 3).1,.int .i64 (B 3).2,.int .i64 (B 4).1,.int .i64 (B 4).2,.int .i64 (B 5).1,.int .i64 (B 5).2,.int .i64 (B 6).1,.int .i64 (B 6).2] 30)).alloc (.cells #[.int .i64 pN,.int .i64 pD] 27)).alloc (.cells #[.int .i64 0,.int .i64 0,.int .i64 0,.int .i64 0,.int .i64 0,.int .i64 0,.int .i64 0,.int .i64 0,.int .i64 0,.int .i64 0,.int .i64 0,.int .i64 0,.int .i64 0,.int .i64 0] 30))=V1 at *
 clear y0 y1 y2 y3 y4 y5 y6 y7 y8 y9 y10 y11 y12 y13 Y
 go_loopg [11] (7:Nat) (fun G s wx=>∃k:Nat,s=.int .i64 (k:Int)/\k<=7/\7<=k+G/\Below w.heap.size w wx/\HasDm wx w.heap.size (tmD A B pN pD k)/\Has2 wx (w.heap.size+1+1) (.int .i64 pN) (.int .i64 pD)/\HasDm wx (w.heap.size+1+1+1) zeE/\Hid (tmF A B pN pD k=0))
 case atStart=>exact⟨0,rfl,by omega,by omega,HB,X.congr (fun i _=>by unfold tmD;rw [if_neg (by omega)]),Z,O,rfl⟩
 case round =>
   clear X Z O HB
   obtain⟨k,rfl,hk,hG,HB,X,Z,O,HI⟩:=hrel
   by_cases c:k=7
   · subst c
     have e:Hid (Ending.returned (dimV (tmD A B pN pD 7))=R):=by have:=hR.out;rw [if_pos HI.out] at this;exact this
     clear hR HI
     obtain⟨x0,x1,x2,x3,x4,x5,x6,x7,x8,x9,x10,x11,x12,x13⟩:=X.cells
     obtain⟨y0,y1,y2,y3,y4,y5,y6,y7,y8,y9,y10,y11,y12,y13⟩:=O.cells
     obtain⟨f0,f1,f2,f3,f4,f5,f6,f7,f8,f9,f10,f11,f12,f13⟩:=O.froz
     go_wp2_with fail
     refine bodyPost_ret (v:=dimV (tmD A B pN pD 7)) (by simp [results,Try.results62,go_sem, *];rfl) rfl ⟨e.out, ?_⟩
     repeat' (first | (with_reducible exact HB) | (with_reducible refine Below.setCell ?_ ?_ _) | go_size)
   · have kl:(k:Int)<7:=by omega
     have kp:0<=(k:Int):=by omega
     have kn:k<7:=by omega
     have hik:=hi k kn
     have rBk:=drK_yes rB k kn
     have rAk:=drK_yes rA k kn
     have gA:tmD A B pN pD k k=A k:=by unfold tmD;rw [if_neg (by omega)]
     obtain⟨mN,mD,me,hm⟩:∃a b c,mulV11 (B k).1 (B k).2 pN pD=(a,b,c):=⟨_,_,_,rfl⟩
     have cm:=fun W=>mulRat_w (B k).1 (B k).2 pN pD (hB k kn) hp W
     rw [hm] at cm
     have X1:HasDm (wr.alloc (.cells #[.int .i64 (B k).1,.int .i64 (B k).2] 27)) w.heap.size (tmD A B pN pD k):=X.keep (Below.alloc (Below.refl _ _) (Nat.le_refl _) _)
     have Z1:Has2 (wr.alloc (.cells #[.int .i64 (B k).1,.int .i64 (B k).2] 27)) (w.heap.size+1+1) (.int .i64 pN) (.int .i64 pD):=Z.keep (Below.alloc (Below.refl _ _) (Nat.le_refl _) _)
     have O1:HasDm (wr.alloc (.cells #[.int .i64 (B k).1,.int .i64 (B k).2] 27)) (w.heap.size+1+1+1) zeE:=O.keep (Below.alloc (Below.refl _ _) (Nat.le_refl _) _)
     have I1:Has2 (wr.alloc (.cells #[.int .i64 (B k).1,.int .i64 (B k).2] 27)) wr.heap.size (.int .i64 (B k).1) (.int .i64 (B k).2):=has2_new wr _ _ _
     have HB1:Below w.heap.size w (wr.alloc (.cells #[.int .i64 (B k).1,.int .i64 (B k).2] 27)):=Below.alloc HB HB.size _
     go_upto_region 4 with fail
     generalize (wr.alloc (.cells #[.int .i64 (B k).1,.int .i64 (B k).2] 27))=V2 at *
     clear X Z O HB hi hik
     obtain⟨e,he⟩:∃e,e=tmE A B pN pD k:=⟨_,rfl⟩
     have a0:=X1.c0 k kn
     have a1:=X1.c1 k kn
     rw [gA] at a0 a1
     by_cases me0:me=0
     · subst me0
       obtain⟨rm, -,hmI⟩:=mulV11_ok rBk rp hm
       obtain⟨sN,sD,se,hs⟩:∃a b c,addV11 (A k).1 (A k).2 mN mD=(a,b,c):=⟨_,_,_,rfl⟩
       have cs:=fun W=>addRat_w (A k).1 (A k).2 mN mD (hA k kn) hmI W
       rw [hs] at cs
       have cu:=fun W=>must_ok mN mD W
       have eE:tmE A B pN pD k=(sN,sD,se):=by rw [tmE,hm,if_pos rfl];exact hs
       by_cases se0:se=0
       · subst se0
         have cv:=fun W=>must_ok sN sD W
         have HN:Hid (tmF A B pN pD (k+1)=0):=by show tmF A B pN pD (k+1)=0;rw [tmF,if_pos HI.out,eE]
         have hput:=tmD_put eE
         have kx0:=fun n:Behind V2=>n.cell a0 X1.lt
         have kx1:=fun n:Behind V2=>n.cell a1 X1.lt
         have ki0:=fun n:Behind V2=>n.cell I1.1 I1.2.2.2.2
         have ki1:=fun n:Behind V2=>n.cell I1.2.1 I1.2.2.2.2
         have kz0:=fun n:Behind V2=>n.cell Z1.1 Z1.2.2.2.2
         have kz1:=fun n:Behind V2=>n.cell Z1.2.1 Z1.2.2.2.2
         clear hR HI he eE hs hm
         refine tail_behind 16 (by kernel_rfl) (by kernel_rfl) ?_
         simp only [List.take_succ_cons,List.take_zero,List.drop_succ_cons,List.drop_zero]
         repeat (go_big_quiet_step (first | (go_at_call 81;with_reducible refine Behind.call (cm _)) | (go_at_call 80;with_reducible refine Behind.call (cs _)) | (go_at_call 58;with_reducible refine Behind.call (cu _)) | (go_at_call 58;with_reducible refine Behind.call (cv _))))
         refine wpQuiet_nil ?_
         rintro _ ⟨m,rfl⟩
         obtain⟨W,hb1⟩:=m
         dsimp only
         clear kx0 kx1 ki0 ki1 kz0 kz1 a0 a1
         replace HB1:=later HB1 hb1
         replace X1:=X1.keep hb1
         replace Z1:=Z1.keep hb1
         replace O1:=O1.keep hb1
         clear hb1 I1
         have a0:=X1.c0 k kn
         have a1:=X1.c1 k kn
         have b0:=X1.f0 k kn
         have b1:=X1.f1 k kn
         go_wp2_with fail
         have X2:=X1.set kn sN sD
         rw [hput] at X2
         (go_roundg (gk-1)
          case measure=>omega
          case rel=>exact⟨k+1,congrArg (Value.int .i64) (show (k:Int)+1=((k+1:Nat):Int) by omega),by omega,by omega,by (repeat' (first | (with_reducible exact HB1) | (with_reducible refine Below.setCell ?_ ?_ _) | go_size)),X2,Has2.off1 (Has2.off1 Z1 (by omega) _) (by omega) _,(O1.far (by omega) _).far (by omega) _,HN⟩)
       · have e1:tmF A B pN pD (k+1)=se:=by rw [tmF,if_pos HI.out,eE]
         have e2:Hid (Ending.panicked (stopP se)=R):=by
           have:=hR.out
           have e3:=tmF_stays (A:=A) (B:=B) (pN:=pN) (pD:=pD) (k:=k+1) (by rw [e1];exact se0) 7 (by omega)
           rw [e1] at e3
           rw [e3,if_neg se0] at this
           exact this
         have cv:=fun W=>must_no sN sD se (by simpa using se0) W
         clear hR HI e1 he eE hs hm O1
         refine wp_region_held_drew (S:=fun w'=>w'.cell? ⟨w.heap.size,k*2,none⟩=some (.int .i64 (A k).1)/\w'.cell? ⟨w.heap.size,k*2+1,none⟩=some (.int .i64 (A k).2)/\w'.cell? ⟨wr.heap.size,0,none⟩=some (.int .i64 (B k).1)/\w'.cell? ⟨wr.heap.size,1,none⟩=some (.int .i64 (B k).2)/\w'.cell? ⟨w.heap.size+1+1,0,none⟩=some (.int .i64 pN)/\w'.cell? ⟨w.heap.size+1+1,1,none⟩=some (.int .i64 pD)) (by kernel_rfl) ⟨a0,a1,I1.1,I1.2.1,Z1.1,Z1.2.1⟩ (fun hHeld=>?_)
         refine tk (v:=?_) 0 rfl ?_ hHeld ?_;rotate_left;(focus ((intro w hSw;(try dsimp only at hSw);go_simp);try with_reducible rfl));simp only [List.getElem_toArray,List.getElem_cons_zero,Act.put,List.setIfInBounds_toArray,List.set_cons_zero,List.set_cons_succ];refine tk (v:=?_) 1 rfl ?_ hHeld ?_;rotate_left;(focus ((intro w hSw;(try dsimp only at hSw);go_simp);try with_reducible rfl));simp only [List.getElem_toArray,List.getElem_cons_zero,List.getElem_cons_succ,Act.put,List.setIfInBounds_toArray,List.set_cons_zero,List.set_cons_succ];refine tk (v:=?_) 2 rfl ?_ hHeld ?_;rotate_left;(focus ((intro w hSw;(try dsimp only at hSw);go_simp);try with_reducible rfl));simp only [List.getElem_toArray,List.getElem_cons_zero,List.getElem_cons_succ,Act.put,List.setIfInBounds_toArray,List.set_cons_zero,List.set_cons_succ];refine tk (v:=?_) 3 rfl ?_ hHeld ?_;rotate_left;(focus ((intro w hSw;(try dsimp only at hSw);go_simp);try with_reducible rfl));simp only [List.getElem_toArray,List.getElem_cons_zero,List.getElem_cons_succ,Act.put,List.setIfInBounds_toArray,List.set_cons_zero,List.set_cons_succ];refine tk (v:=?_) 4 rfl ?_ hHeld ?_;rotate_left;(focus ((intro w hSw;(try dsimp only at hSw);go_simp);try with_reducible rfl));simp only [List.getElem_toArray,List.getElem_cons_zero,List.getElem_cons_succ,Act.put,List.setIfInBounds_toArray,List.set_cons_zero,List.set_cons_succ];refine tk (v:=?_) 5 rfl ?_ hHeld ?_;rotate_left;(focus ((intro w hSw;(try dsimp only at hSw);go_simp);try with_reducible rfl));simp only [List.getElem_toArray,List.getElem_cons_zero,List.getElem_cons_succ,Act.put,List.setIfInBounds_toArray,List.set_cons_zero,List.set_cons_succ];refine tk (v:=?_) 6 rfl ?_ hHeld ?_;rotate_left;(focus ((intro w hSw;(try dsimp only at hSw);go_simp);try with_reducible rfl));simp only [List.getElem_toArray,List.getElem_cons_zero,List.getElem_cons_succ,Act.put,List.setIfInBounds_toArray,List.set_cons_zero,List.set_cons_succ];refine tk (v:=?_) 15 rfl ?_ hHeld ?_;rotate_left;(focus ((intro w hSw;(try dsimp only at hSw);go_simp);try with_reducible rfl));simp only [List.getElem_toArray,List.getElem_cons_zero,List.getElem_cons_succ,Act.put,List.setIfInBounds_toArray,List.set_cons_zero,List.set_cons_succ]
         have HD:Below V2.heap.size V2 V2.drew:=(Below.refl _ _).drew
         replace HB1:=later HB1 HD
         replace X1:=X1.keep HD
         replace Z1:=Z1.keep HD
         replace I1:=I1.keep HD
         clear HD a0 a1
         refine rd 7 rfl (fun K hK=>?_);simp only [List.getElem_toArray,List.getElem_cons_zero,List.getElem_cons_succ,Act.put,List.setIfInBounds_toArray,List.set_cons_zero,List.set_cons_succ];go_simp
         go_at_call 81
         (with_reducible refine (cm _).mono ?_)
         rintro _ W0 ⟨rfl,hb1⟩
         replace HB1:=later HB1 hb1
         replace X1:=X1.keep hb1
         replace Z1:=Z1.keep hb1
         replace I1:=I1.keep hb1
         have a0:=X1.c0 k kn
         have a1:=X1.c1 k kn
         rw [gA] at a0 a1
         clear hb1
         dsimp only
         refine hK.out _ _ ⟨a0,a1,I1.1,I1.2.1,Z1.1,Z1.2.1⟩ (fun hHeld=>?_)
         clear hK K
         refine tk (v:=?_) 8 rfl ?_ hHeld ?_;rotate_left;(focus ((intro w hSw;(try dsimp only at hSw);go_simp);try with_reducible rfl));simp only [List.getElem_toArray,List.getElem_cons_zero,List.getElem_cons_succ,Act.put,List.setIfInBounds_toArray,List.set_cons_zero,List.set_cons_succ];refine tk (v:=?_) 9 rfl ?_ hHeld ?_;rotate_left;(focus ((intro w hSw;(try dsimp only at hSw);go_simp);try with_reducible rfl));simp only [List.getElem_toArray,List.getElem_cons_zero,List.getElem_cons_succ,Act.put,List.setIfInBounds_toArray,List.set_cons_zero,List.set_cons_succ]
         refine rd 10 rfl (fun K hK=>?_);simp only [List.getElem_toArray,List.getElem_cons_zero,List.getElem_cons_succ,Act.put,List.setIfInBounds_toArray,List.set_cons_zero,List.set_cons_succ];go_simp
         go_at_call 58
         (with_reducible refine (cu _).mono ?_)
         rintro _ W1 ⟨rfl,hb1⟩
         replace HB1:=later HB1 hb1
         replace X1:=X1.keep hb1
         replace Z1:=Z1.keep hb1
         replace I1:=I1.keep hb1
         clear a0 a1
         have a0:=X1.c0 k kn
         have a1:=X1.c1 k kn
         rw [gA] at a0 a1
         clear hb1
         dsimp only
         refine hK.out _ _ ⟨a0,a1,I1.1,I1.2.1,Z1.1,Z1.2.1⟩ (fun hHeld=>?_)
         clear hK K
         refine rd 11 rfl (fun K hK=>?_);simp only [List.getElem_toArray,List.getElem_cons_zero,List.getElem_cons_succ,Act.put,List.setIfInBounds_toArray,List.set_cons_zero,List.set_cons_succ];go_simp
         go_at_call 80
         (with_reducible refine (cs _).mono ?_)
         rintro _ W2 ⟨rfl,hb1⟩
         replace HB1:=later HB1 hb1
         replace X1:=X1.keep hb1
         replace Z1:=Z1.keep hb1
         replace I1:=I1.keep hb1
         clear a0 a1
         have a0:=X1.c0 k kn
         have a1:=X1.c1 k kn
         rw [gA] at a0 a1
         clear hb1
         dsimp only
         refine hK.out _ _ ⟨a0,a1,I1.1,I1.2.1,Z1.1,Z1.2.1⟩ (fun hHeld=>?_)
         clear hK K
         refine tk (v:=?_) 12 rfl ?_ hHeld ?_;rotate_left;(focus ((intro w hSw;(try dsimp only at hSw);go_simp);try with_reducible rfl));simp only [List.getElem_toArray,List.getElem_cons_zero,List.getElem_cons_succ,Act.put,List.setIfInBounds_toArray,List.set_cons_zero,List.set_cons_succ];refine tk (v:=?_) 13 rfl ?_ hHeld ?_;rotate_left;(focus ((intro w hSw;(try dsimp only at hSw);go_simp);try with_reducible rfl));simp only [List.getElem_toArray,List.getElem_cons_zero,List.getElem_cons_succ,Act.put,List.setIfInBounds_toArray,List.set_cons_zero,List.set_cons_succ]
         refine rd 14 rfl (fun K hK=>?_);simp only [List.getElem_toArray,List.getElem_cons_zero,List.getElem_cons_succ,Act.put,List.setIfInBounds_toArray,List.set_cons_zero,List.set_cons_succ];go_simp
         go_at_call 58
         (with_reducible refine (cv _).mono ?_)
         rintro _ W3 ⟨rfl,hb1⟩
         exact⟨rfl,e2.out,later HB1 hb1⟩
     · have e1:tmF A B pN pD (k+1)=me:=by rw [tmF,if_pos HI.out,tmE,hm,if_neg me0]
       have e2:Hid (Ending.panicked (stopP me)=R):=by
         have:=hR.out
         have e3:=tmF_stays (A:=A) (B:=B) (pN:=pN) (pD:=pD) (k:=k+1) (by rw [e1];exact me0) 7 (by omega)
         rw [e1] at e3
         rw [e3,if_neg me0] at this
         exact this
       have cu:=fun W=>must_no mN mD me (by simpa using me0) W
       clear hR HI e1 he hm O1
       refine wp_region_held_drew (S:=fun w'=>w'.cell? ⟨w.heap.size,k*2,none⟩=some (.int .i64 (A k).1)/\w'.cell? ⟨w.heap.size,k*2+1,none⟩=some (.int .i64 (A k).2)/\w'.cell? ⟨wr.heap.size,0,none⟩=some (.int .i64 (B k).1)/\w'.cell? ⟨wr.heap.size,1,none⟩=some (.int .i64 (B k).2)/\w'.cell? ⟨w.heap.size+1+1,0,none⟩=some (.int .i64 pN)/\w'.cell? ⟨w.heap.size+1+1,1,none⟩=some (.int .i64 pD)) (by kernel_rfl) ⟨a0,a1,I1.1,I1.2.1,Z1.1,Z1.2.1⟩ (fun hHeld=>?_)
       refine tk (v:=?_) 0 rfl ?_ hHeld ?_;rotate_left;(focus ((intro w hSw;(try dsimp only at hSw);go_simp);try with_reducible rfl));simp only [List.getElem_toArray,List.getElem_cons_zero,Act.put,List.setIfInBounds_toArray,List.set_cons_zero,List.set_cons_succ];refine tk (v:=?_) 1 rfl ?_ hHeld ?_;rotate_left;(focus ((intro w hSw;(try dsimp only at hSw);go_simp);try with_reducible rfl));simp only [List.getElem_toArray,List.getElem_cons_zero,List.getElem_cons_succ,Act.put,List.setIfInBounds_toArray,List.set_cons_zero,List.set_cons_succ];refine tk (v:=?_) 2 rfl ?_ hHeld ?_;rotate_left;(focus ((intro w hSw;(try dsimp only at hSw);go_simp);try with_reducible rfl));simp only [List.getElem_toArray,List.getElem_cons_zero,List.getElem_cons_succ,Act.put,List.setIfInBounds_toArray,List.set_cons_zero,List.set_cons_succ];refine tk (v:=?_) 3 rfl ?_ hHeld ?_;rotate_left;(focus ((intro w hSw;(try dsimp only at hSw);go_simp);try with_reducible rfl));simp only [List.getElem_toArray,List.getElem_cons_zero,List.getElem_cons_succ,Act.put,List.setIfInBounds_toArray,List.set_cons_zero,List.set_cons_succ];refine tk (v:=?_) 4 rfl ?_ hHeld ?_;rotate_left;(focus ((intro w hSw;(try dsimp only at hSw);go_simp);try with_reducible rfl));simp only [List.getElem_toArray,List.getElem_cons_zero,List.getElem_cons_succ,Act.put,List.setIfInBounds_toArray,List.set_cons_zero,List.set_cons_succ];refine tk (v:=?_) 5 rfl ?_ hHeld ?_;rotate_left;(focus ((intro w hSw;(try dsimp only at hSw);go_simp);try with_reducible rfl));simp only [List.getElem_toArray,List.getElem_cons_zero,List.getElem_cons_succ,Act.put,List.setIfInBounds_toArray,List.set_cons_zero,List.set_cons_succ];refine tk (v:=?_) 6 rfl ?_ hHeld ?_;rotate_left;(focus ((intro w hSw;(try dsimp only at hSw);go_simp);try with_reducible rfl));simp only [List.getElem_toArray,List.getElem_cons_zero,List.getElem_cons_succ,Act.put,List.setIfInBounds_toArray,List.set_cons_zero,List.set_cons_succ];refine tk (v:=?_) 15 rfl ?_ hHeld ?_;rotate_left;(focus ((intro w hSw;(try dsimp only at hSw);go_simp);try with_reducible rfl));simp only [List.getElem_toArray,List.getElem_cons_zero,List.getElem_cons_succ,Act.put,List.setIfInBounds_toArray,List.set_cons_zero,List.set_cons_succ]
       have HD:Below V2.heap.size V2 V2.drew:=(Below.refl _ _).drew
       replace HB1:=later HB1 HD
       replace X1:=X1.keep HD
       replace Z1:=Z1.keep HD
       replace I1:=I1.keep HD
       clear HD a0 a1
       refine rd 7 rfl (fun K hK=>?_);simp only [List.getElem_toArray,List.getElem_cons_zero,List.getElem_cons_succ,Act.put,List.setIfInBounds_toArray,List.set_cons_zero,List.set_cons_succ];go_simp
       go_at_call 81
       (with_reducible refine (cm _).mono ?_)
       rintro _ W0 ⟨rfl,hb1⟩
       replace HB1:=later HB1 hb1
       replace X1:=X1.keep hb1
       replace Z1:=Z1.keep hb1
       replace I1:=I1.keep hb1
       have a0:=X1.c0 k kn
       have a1:=X1.c1 k kn
       rw [gA] at a0 a1
       clear hb1
       dsimp only
       refine hK.out _ _ ⟨a0,a1,I1.1,I1.2.1,Z1.1,Z1.2.1⟩ (fun hHeld=>?_)
       clear hK K
       refine tk (v:=?_) 8 rfl ?_ hHeld ?_;rotate_left;(focus ((intro w hSw;(try dsimp only at hSw);go_simp);try with_reducible rfl));simp only [List.getElem_toArray,List.getElem_cons_zero,List.getElem_cons_succ,Act.put,List.setIfInBounds_toArray,List.set_cons_zero,List.set_cons_succ];refine tk (v:=?_) 9 rfl ?_ hHeld ?_;rotate_left;(focus ((intro w hSw;(try dsimp only at hSw);go_simp);try with_reducible rfl));simp only [List.getElem_toArray,List.getElem_cons_zero,List.getElem_cons_succ,Act.put,List.setIfInBounds_toArray,List.set_cons_zero,List.set_cons_succ]
       refine rd 10 rfl (fun K hK=>?_);simp only [List.getElem_toArray,List.getElem_cons_zero,List.getElem_cons_succ,Act.put,List.setIfInBounds_toArray,List.set_cons_zero,List.set_cons_succ];go_simp
       go_at_call 58
       (with_reducible refine (cu _).mono ?_)
       rintro _ W1 ⟨rfl,hb1⟩
       exact⟨rfl,e2.out,later HB1 hb1⟩
end Go.Proofs.Ytbejmklkicoibaa
