/- unit's tried, and Times. -/
import Derived.Test.YtdnpoacjamkhkaaJt30
namespace Go.Proofs.Ytdnpoacjamkhkaa
open Go.ChangeShapes Go.WideShapes Go.ChangeAt Go.RowKit
def HasI1 (w:World) (b:Nat) (x:Value):Prop:=w.cell? ⟨b,0,none⟩=some x∧w.frozen? ⟨b,0,none⟩=false∧b<w.heap.size
theorem HasI1.keep {w W:World} {b:Nat} {x:Value} (h:HasI1 w b x) (k:Below w.heap.size w W):HasI1 W b x:=⟨keepsC k h.1 h.2.2,keepsF k h.2.1 h.2.2,Nat.lt_of_lt_of_le h.2.2 k.size⟩
set_option maxHeartbeats 2000000 in
theorem utried_ok (F:Nat→Int×Int) (A B:Nat→Int×Int) (pN pD:Int) (ba bb bp:Nat) (R:Ending) (hR:R=.returned (dimV F))
   (cw:∀W,HasDm W ba A→HasDm W bb B→Has2 W bp (.int .i64 pN) (.int .i64 pD)→Calls Try.prog 68 #[.pointer (some ⟨ba,0,none⟩),.pointer (some ⟨bb,0,none⟩),.pointer (some ⟨bp,0,none⟩)] W fun r w'=>r=R∧Below W.heap.size W w')
   (w:World) (X:HasDm w ba A) (Y:HasDm w bb B) (Z:Has2 w bp (.int .i64 pN) (.int .i64 pD)) :
   Calls Try.prog 67 #[.func (.func 68) #[] #[.pointer (some ⟨ba,0,none⟩),.pointer (some ⟨bb,0,none⟩),.pointer (some ⟨bp,0,none⟩)]] w fun r w'=>r=.returned (.tuple #[dimV F,.int .i64 0])∧Below w.heap.size w w':=by
 subst hR
 have hmf:∀(fn:Fn) (first cap:Array Value) (w:World),(Instr.makeFunc fn first cap).run Try.prog w=.ok (.func fn first cap) w:=fun _ _ _ _=>rfl
 have W1:Below w.heap.size w ((w.alloc (.cells #[.int .i64 0,.int .i64 0,.int .i64 0,.int .i64 0,.int .i64 0,.int .i64 0,.int .i64 0,.int .i64 0,.int .i64 0,.int .i64 0,.int .i64 0,.int .i64 0,.int .i64 0,.int .i64 0] 43)).alloc (.cells #[.int .i64 0] 24)):=by go_grown
 have HB:=W1
 replace X:=X.keep W1
 replace Y:=Y.keep W1
 replace Z:=Z.keep W1
 have D0:HasDm (w.alloc (.cells #[.int .i64 0,.int .i64 0,.int .i64 0,.int .i64 0,.int .i64 0,.int .i64 0,.int .i64 0,.int .i64 0,.int .i64 0,.int .i64 0,.int .i64 0,.int .i64 0,.int .i64 0,.int .i64 0] 43)) w.heap.size zeE:=dim_new w zeE _
 have D:HasDm ((w.alloc (.cells #[.int .i64 0,.int .i64 0,.int .i64 0,.int .i64 0,.int .i64 0,.int .i64 0,.int .i64 0,.int .i64 0,.int .i64 0,.int .i64 0,.int .i64 0,.int .i64 0,.int .i64 0,.int .i64 0] 43)).alloc (.cells #[.int .i64 0] 24)) w.heap.size zeE:=D0.keep (Below.alloc (Below.refl _ _) (Nat.le_refl _) _)
 have E:HasI1 ((w.alloc (.cells #[.int .i64 0,.int .i64 0,.int .i64 0,.int .i64 0,.int .i64 0,.int .i64 0,.int .i64 0,.int .i64 0,.int .i64 0,.int .i64 0,.int .i64 0,.int .i64 0,.int .i64 0,.int .i64 0] 43)).alloc (.cells #[.int .i64 0] 24)) (w.heap.size+1) (.int .i64 0):=⟨by go_simp,by go_simp,by go_size⟩
 clear W1 D0
 go_enter_defers Try.func67,Try.ntmps67
 go_upto_region 2 with fail
 generalize ((w.alloc (.cells #[.int .i64 0,.int .i64 0,.int .i64 0,.int .i64 0,.int .i64 0,.int .i64 0,.int .i64 0,.int .i64 0,.int .i64 0,.int .i64 0,.int .i64 0,.int .i64 0,.int .i64 0,.int .i64 0] 43)).alloc (.cells #[.int .i64 0] 24))=V1 at *
 have cw1:=cw V1 X Y Z
 unfold dimV at cw1
 go_wp2_with (first | (go_at_call 68;(with_reducible refine cw1.mono ?_);rintro _ VV ⟨rfl,hb1⟩;replace D:=D.keep hb1;replace E:=E.keep hb1;replace HB:=later HB hb1;clear hb1 cw1 X Y Z;obtain⟨y0,y1,y2,y3,y4,y5,y6,y7,y8,y9,y10,y11,y12,y13⟩:=D.cells;obtain⟨f0,f1,f2,f3,f4,f5,f6,f7,f8,f9,f10,f11,f12,f13⟩:=D.froz;obtain⟨g0,g1,g2⟩:=id E))
 refine leaves_cons (f:=99) (args:=#[.pointer (some ⟨w.heap.size+1,0,none⟩)]) (by simp) (by simp [go_sem]) ?_
 refine (catch_idle ⟨w.heap.size+1,0,none⟩ _).mono ?_
 rintro e u' w'' ⟨rfl,rfl,rfl⟩
 refine⟨.tuple #[dimV F,.int .i64 0],by simp [results,Try.results67,go_sem, *];rfl,rfl, ?_⟩
 repeat' (first | (with_reducible exact HB) | (with_reducible refine Below.setCell ?_ ?_ _) | go_size)
set_option maxHeartbeats 2000000 in
theorem utried_no (e:Int) (A B:Nat→Int×Int) (pN pD:Int) (ba bb bp:Nat) (R:Ending) (hR:R=.panicked (stopP e))
   (cw:∀W,HasDm W ba A→HasDm W bb B→Has2 W bp (.int .i64 pN) (.int .i64 pD)→Calls Try.prog 68 #[.pointer (some ⟨ba,0,none⟩),.pointer (some ⟨bb,0,none⟩),.pointer (some ⟨bp,0,none⟩)] W fun r w'=>r=R∧Below W.heap.size W w')
   (w:World) (X:HasDm w ba A) (Y:HasDm w bb B) (Z:Has2 w bp (.int .i64 pN) (.int .i64 pD)) :
   Calls Try.prog 67 #[.func (.func 68) #[] #[.pointer (some ⟨ba,0,none⟩),.pointer (some ⟨bb,0,none⟩),.pointer (some ⟨bp,0,none⟩)]] w fun r w'=>r=.returned (.tuple #[dimV zeE,.int .i64 e])∧Below w.heap.size w w':=by
 subst hR
 have hmf:∀(fn:Fn) (first cap:Array Value) (w:World),(Instr.makeFunc fn first cap).run Try.prog w=.ok (.func fn first cap) w:=fun _ _ _ _=>rfl
 have W1:Below w.heap.size w ((w.alloc (.cells #[.int .i64 0,.int .i64 0,.int .i64 0,.int .i64 0,.int .i64 0,.int .i64 0,.int .i64 0,.int .i64 0,.int .i64 0,.int .i64 0,.int .i64 0,.int .i64 0,.int .i64 0,.int .i64 0] 43)).alloc (.cells #[.int .i64 0] 24)):=by go_grown
 have HB:=W1
 replace X:=X.keep W1
 replace Y:=Y.keep W1
 replace Z:=Z.keep W1
 have D0:HasDm (w.alloc (.cells #[.int .i64 0,.int .i64 0,.int .i64 0,.int .i64 0,.int .i64 0,.int .i64 0,.int .i64 0,.int .i64 0,.int .i64 0,.int .i64 0,.int .i64 0,.int .i64 0,.int .i64 0,.int .i64 0] 43)) w.heap.size zeE:=dim_new w zeE _
 have D:HasDm ((w.alloc (.cells #[.int .i64 0,.int .i64 0,.int .i64 0,.int .i64 0,.int .i64 0,.int .i64 0,.int .i64 0,.int .i64 0,.int .i64 0,.int .i64 0,.int .i64 0,.int .i64 0,.int .i64 0,.int .i64 0] 43)).alloc (.cells #[.int .i64 0] 24)) w.heap.size zeE:=D0.keep (Below.alloc (Below.refl _ _) (Nat.le_refl _) _)
 have E:HasI1 ((w.alloc (.cells #[.int .i64 0,.int .i64 0,.int .i64 0,.int .i64 0,.int .i64 0,.int .i64 0,.int .i64 0,.int .i64 0,.int .i64 0,.int .i64 0,.int .i64 0,.int .i64 0,.int .i64 0,.int .i64 0] 43)).alloc (.cells #[.int .i64 0] 24)) (w.heap.size+1) (.int .i64 0):=⟨by go_simp,by go_simp,by go_size⟩
 clear W1 D0
 go_enter_defers Try.func67,Try.ntmps67
 go_upto_region 2 with fail
 generalize ((w.alloc (.cells #[.int .i64 0,.int .i64 0,.int .i64 0,.int .i64 0,.int .i64 0,.int .i64 0,.int .i64 0,.int .i64 0,.int .i64 0,.int .i64 0,.int .i64 0,.int .i64 0,.int .i64 0,.int .i64 0] 43)).alloc (.cells #[.int .i64 0] 24))=V1 at *
 have cw1:=cw V1 X Y Z
 go_wp2_with (first | (go_at_call 68;(with_reducible refine cw1.mono ?_);rintro _ VV ⟨rfl,hb1⟩;replace D:=D.keep hb1;replace E:=E.keep hb1;replace HB:=later HB hb1;clear hb1 cw1 X Y Z;obtain⟨y0,y1,y2,y3,y4,y5,y6,y7,y8,y9,y10,y11,y12,y13⟩:=D.cells;obtain⟨f0,f1,f2,f3,f4,f5,f6,f7,f8,f9,f10,f11,f12,f13⟩:=D.froz;obtain⟨g0,g1,g2⟩:=id E))
 refine leaves_cons (f:=99) (args:=#[.pointer (some ⟨w.heap.size+1,0,none⟩)]) (by simp) (by simp [go_sem]) ?_
 refine (catch_stop (w.heap.size+1) e 0 [] _ g0 g1 g2).mono ?_
 rintro _ u' w'' ⟨rfl,rfl,rfl⟩
 have HB2:Below w.heap.size w (VV.setCell ⟨w.heap.size+1,0,none⟩ (.int .i64 e)):=by
   repeat' (first | (with_reducible exact HB) | (with_reducible refine Below.setCell ?_ ?_ _) | go_size)
 have D2:=(D.far (o:=0) (c:=w.heap.size+1) (by omega) (.int .i64 e))
 have E2:(VV.setCell ⟨w.heap.size+1,0,none⟩ (.int .i64 e)).cell? ⟨w.heap.size+1,0,none⟩=some (.int .i64 e):=by rw [World.cell?_setCell_same _ _ _ (by rw [g0])]
 have W3:Below (VV.setCell ⟨w.heap.size+1,0,none⟩ (.int .i64 e)).heap.size (VV.setCell ⟨w.heap.size+1,0,none⟩ (.int .i64 e)) ((VV.setCell ⟨w.heap.size+1,0,none⟩ (.int .i64 e)).alloc (.cells #[.int .i64 e] 117)):=Below.alloc (Below.refl _ _) (Nat.le_refl _) _
 replace D2:=D2.keep W3
 replace E2:=keepsC W3 E2 (by simp only [World.size_setCell];exact g2)
 replace HB2:=later HB2 W3
 clear W3 y0 y1 y2 y3 y4 y5 y6 y7 y8 y9 y10 y11 y12 y13 f0 f1 f2 f3 f4 f5 f6 f7 f8 f9 f10 f11 f12 f13 g0 g1 g2 D E HB
 obtain⟨y0,y1,y2,y3,y4,y5,y6,y7,y8,y9,y10,y11,y12,y13⟩:=D2.cells
 generalize (VV.setCell ⟨w.heap.size+1,0,none⟩ (.int .i64 e)).alloc (.cells #[.int .i64 e] 117)=W4 at *
 exact⟨.tuple #[dimV zeE,.int .i64 e],by simp [results,Try.results67,go_sem, *];rfl,rfl,HB2⟩
end Go.Proofs.Ytdnpoacjamkhkaa
