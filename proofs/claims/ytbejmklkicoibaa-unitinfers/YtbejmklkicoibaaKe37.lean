/- The document's Times of dimensions, where its arguments may be. -/
import Derived.Test.YtbejmklkicoibaaSh
import Derived.Test.YtbejmklkicoibaaKe36
namespace Go.Proofs.Ytbejmklkicoibaa
open Go.ChangeShapes Go.WideShapes Go.ChangeAt Go.RowKit
set_option maxHeartbeats 4000000 in
set_option maxRecDepth 4000 in
theorem dTimes_good (A B:Nat->Int×Int) (pN pD:Int) (hA:Dim64 A) (hB:Dim64 B) (hp:I64 pN/\I64 pD) (rA:drK A 7=true) (rB:drK B 7=true) (rp:rightR pN pD=true)
   (ca:∀W,Calls Try.prog 22 #[.agg #[.int .i64 (A 0).1,.int .i64 (A 0).2,.int .i64 (A 1).1,.int .i64 (A 1).2,.int .i64 (A 2).1,.int .i64 (A 2).2,.int .i64 (A 3).1,.int .i64 (A 3).2,.int .i64 (A 4).1,.int .i64 (A 4).2,.int .i64 (A 5).1,.int .i64 (A 5).2,.int .i64 (A 6).1,.int .i64 (A 6).2]] W fun r w'=>r=.returned (.bool true)/\Below W.heap.size W w')
   (cb:∀W,Calls Try.prog 22 #[.agg #[.int .i64 (B 0).1,.int .i64 (B 0).2,.int .i64 (B 1).1,.int .i64 (B 1).2,.int .i64 (B 2).1,.int .i64 (B 2).2,.int .i64 (B 3).1,.int .i64 (B 3).2,.int .i64 (B 4).1,.int .i64 (B 4).2,.int .i64 (B 5).1,.int .i64 (B 5).2,.int .i64 (B 6).1,.int .i64 (B 6).2]] W fun r w'=>r=.returned (.bool true)/\Below W.heap.size W w')
   (cp:∀W,Calls Try.prog 42 #[.agg #[.int .i64 pN,.int .i64 pD]] W fun r w'=>r=.returned (.bool true)/\Below W.heap.size W w') (w:World) :
   Calls Try.prog 48 #[dimV A,dimV B,.agg #[.int .i64 pN,.int .i64 pD]] w fun r w'=>r=.returned (triedV A B pN pD)/\Below w.heap.size w w':=by
 obtain⟨R,hR⟩:∃R,Hid (triedV A B pN pD=R):=⟨_,rfl⟩
 rw [hR.out]
 unfold dimV
 have X0:HasDm (w.alloc (.cells #[.int .i64 (A 0).1,.int .i64 (A 0).2,.int .i64 (A 1).1,.int .i64 (A 1).2,.int .i64 (A 2).1,.int .i64 (A 2).2,.int .i64 (A 3).1,.int .i64 (A 3).2,.int .i64 (A 4).1,.int .i64 (A 4).2,.int .i64 (A 5).1,.int .i64 (A 5).2,.int .i64 (A 6).1,.int .i64 (A 6).2] 30)) w.heap.size A:=dim_new w A 30
 have X:HasDm ((((w.alloc (.cells #[.int .i64 (A 0).1,.int .i64 (A 0).2,.int .i64 (A 1).1,.int .i64 (A 1).2,.int .i64 (A 2).1,.int .i64 (A 2).2,.int .i64 (A 3).1,.int .i64 (A 3).2,.int .i64 (A 4).1,.int .i64 (A 4).2,.int .i64 (A 5).1,.int .i64 (A 5).2,.int .i64 (A 6).1,.int .i64 (A 6).2] 30)).alloc (.cells #[.int .i64 (B 0).1,.int .i64 (B 0).2,.int .i64 (B 1).1,.int .i64 (B 1).2,.int .i64 (B 2).1,.int .i64 (B 2).2,.int .i64 (B 3).1,.int .i64 (B 3).2,.int .i64 (B 4).1,.int .i64 (B 4).2,.int .i64 (B 5).1,.int .i64 (B 5).2,.int .i64 (B 6).1,.int .i64 (B 6).2] 30)).alloc (.cells #[.int .i64 pN,.int .i64 pD] 27)).alloc (.cells #[.int .i64 0,.int .i64 0,.int .i64 0,.int .i64 0,.int .i64 0,.int .i64 0,.int .i64 0,.int .i64 0,.int .i64 0,.int .i64 0,.int .i64 0,.int .i64 0,.int .i64 0,.int .i64 0] 30)) w.heap.size A:=X0.keep (by repeat' (first | (with_reducible exact Below.refl _ _) | (with_reducible refine Below.alloc ?_ ?_ _) | go_size))
 have Y:HasDm ((((w.alloc (.cells #[.int .i64 (A 0).1,.int .i64 (A 0).2,.int .i64 (A 1).1,.int .i64 (A 1).2,.int .i64 (A 2).1,.int .i64 (A 2).2,.int .i64 (A 3).1,.int .i64 (A 3).2,.int .i64 (A 4).1,.int .i64 (A 4).2,.int .i64 (A 5).1,.int .i64 (A 5).2,.int .i64 (A 6).1,.int .i64 (A 6).2] 30)).alloc (.cells #[.int .i64 (B 0).1,.int .i64 (B 0).2,.int .i64 (B 1).1,.int .i64 (B 1).2,.int .i64 (B 2).1,.int .i64 (B 2).2,.int .i64 (B 3).1,.int .i64 (B 3).2,.int .i64 (B 4).1,.int .i64 (B 4).2,.int .i64 (B 5).1,.int .i64 (B 5).2,.int .i64 (B 6).1,.int .i64 (B 6).2] 30)).alloc (.cells #[.int .i64 pN,.int .i64 pD] 27)).alloc (.cells #[.int .i64 0,.int .i64 0,.int .i64 0,.int .i64 0,.int .i64 0,.int .i64 0,.int .i64 0,.int .i64 0,.int .i64 0,.int .i64 0,.int .i64 0,.int .i64 0,.int .i64 0,.int .i64 0] 30)) (w.heap.size+1) B:=by
   have this:HasDm ((w.alloc (.cells #[.int .i64 (A 0).1,.int .i64 (A 0).2,.int .i64 (A 1).1,.int .i64 (A 1).2,.int .i64 (A 2).1,.int .i64 (A 2).2,.int .i64 (A 3).1,.int .i64 (A 3).2,.int .i64 (A 4).1,.int .i64 (A 4).2,.int .i64 (A 5).1,.int .i64 (A 5).2,.int .i64 (A 6).1,.int .i64 (A 6).2] 30)).alloc (.cells #[.int .i64 (B 0).1,.int .i64 (B 0).2,.int .i64 (B 1).1,.int .i64 (B 1).2,.int .i64 (B 2).1,.int .i64 (B 2).2,.int .i64 (B 3).1,.int .i64 (B 3).2,.int .i64 (B 4).1,.int .i64 (B 4).2,.int .i64 (B 5).1,.int .i64 (B 5).2,.int .i64 (B 6).1,.int .i64 (B 6).2] 30)) (w.alloc (.cells #[.int .i64 (A 0).1,.int .i64 (A 0).2,.int .i64 (A 1).1,.int .i64 (A 1).2,.int .i64 (A 2).1,.int .i64 (A 2).2,.int .i64 (A 3).1,.int .i64 (A 3).2,.int .i64 (A 4).1,.int .i64 (A 4).2,.int .i64 (A 5).1,.int .i64 (A 5).2,.int .i64 (A 6).1,.int .i64 (A 6).2] 30)).heap.size B:=dim_new (w.alloc (.cells #[.int .i64 (A 0).1,.int .i64 (A 0).2,.int .i64 (A 1).1,.int .i64 (A 1).2,.int .i64 (A 2).1,.int .i64 (A 2).2,.int .i64 (A 3).1,.int .i64 (A 3).2,.int .i64 (A 4).1,.int .i64 (A 4).2,.int .i64 (A 5).1,.int .i64 (A 5).2,.int .i64 (A 6).1,.int .i64 (A 6).2] 30)) B 30
   rw [World.size_alloc] at this
   exact this.keep (by repeat' (first | (with_reducible exact Below.refl _ _) | (with_reducible refine Below.alloc ?_ ?_ _) | go_size))
 have Z:Has2 ((((w.alloc (.cells #[.int .i64 (A 0).1,.int .i64 (A 0).2,.int .i64 (A 1).1,.int .i64 (A 1).2,.int .i64 (A 2).1,.int .i64 (A 2).2,.int .i64 (A 3).1,.int .i64 (A 3).2,.int .i64 (A 4).1,.int .i64 (A 4).2,.int .i64 (A 5).1,.int .i64 (A 5).2,.int .i64 (A 6).1,.int .i64 (A 6).2] 30)).alloc (.cells #[.int .i64 (B 0).1,.int .i64 (B 0).2,.int .i64 (B 1).1,.int .i64 (B 1).2,.int .i64 (B 2).1,.int .i64 (B 2).2,.int .i64 (B 3).1,.int .i64 (B 3).2,.int .i64 (B 4).1,.int .i64 (B 4).2,.int .i64 (B 5).1,.int .i64 (B 5).2,.int .i64 (B 6).1,.int .i64 (B 6).2] 30)).alloc (.cells #[.int .i64 pN,.int .i64 pD] 27)).alloc (.cells #[.int .i64 0,.int .i64 0,.int .i64 0,.int .i64 0,.int .i64 0,.int .i64 0,.int .i64 0,.int .i64 0,.int .i64 0,.int .i64 0,.int .i64 0,.int .i64 0,.int .i64 0,.int .i64 0] 30)) (w.heap.size+1+1) (.int .i64 pN) (.int .i64 pD):=⟨by go_simp,by go_simp,by go_simp,by go_simp,by go_size⟩
 have O:HasDm ((((w.alloc (.cells #[.int .i64 (A 0).1,.int .i64 (A 0).2,.int .i64 (A 1).1,.int .i64 (A 1).2,.int .i64 (A 2).1,.int .i64 (A 2).2,.int .i64 (A 3).1,.int .i64 (A 3).2,.int .i64 (A 4).1,.int .i64 (A 4).2,.int .i64 (A 5).1,.int .i64 (A 5).2,.int .i64 (A 6).1,.int .i64 (A 6).2] 30)).alloc (.cells #[.int .i64 (B 0).1,.int .i64 (B 0).2,.int .i64 (B 1).1,.int .i64 (B 1).2,.int .i64 (B 2).1,.int .i64 (B 2).2,.int .i64 (B 3).1,.int .i64 (B 3).2,.int .i64 (B 4).1,.int .i64 (B 4).2,.int .i64 (B 5).1,.int .i64 (B 5).2,.int .i64 (B 6).1,.int .i64 (B 6).2] 30)).alloc (.cells #[.int .i64 pN,.int .i64 pD] 27)).alloc (.cells #[.int .i64 0,.int .i64 0,.int .i64 0,.int .i64 0,.int .i64 0,.int .i64 0,.int .i64 0,.int .i64 0,.int .i64 0,.int .i64 0,.int .i64 0,.int .i64 0,.int .i64 0,.int .i64 0] 30)) (w.heap.size+1+1+1) zeE:=by
   have:=dim_new (((w.alloc (.cells #[.int .i64 (A 0).1,.int .i64 (A 0).2,.int .i64 (A 1).1,.int .i64 (A 1).2,.int .i64 (A 2).1,.int .i64 (A 2).2,.int .i64 (A 3).1,.int .i64 (A 3).2,.int .i64 (A 4).1,.int .i64 (A 4).2,.int .i64 (A 5).1,.int .i64 (A 5).2,.int .i64 (A 6).1,.int .i64 (A 6).2] 30)).alloc (.cells #[.int .i64 (B 0).1,.int .i64 (B 0).2,.int .i64 (B 1).1,.int .i64 (B 1).2,.int .i64 (B 2).1,.int .i64 (B 2).2,.int .i64 (B 3).1,.int .i64 (B 3).2,.int .i64 (B 4).1,.int .i64 (B 4).2,.int .i64 (B 5).1,.int .i64 (B 5).2,.int .i64 (B 6).1,.int .i64 (B 6).2] 30)).alloc (.cells #[.int .i64 pN,.int .i64 pD] 27)) zeE 30
   rw [World.size_alloc,World.size_alloc,World.size_alloc] at this
   exact this
 clear X0
 have HB:Below w.heap.size w ((((w.alloc (.cells #[.int .i64 (A 0).1,.int .i64 (A 0).2,.int .i64 (A 1).1,.int .i64 (A 1).2,.int .i64 (A 2).1,.int .i64 (A 2).2,.int .i64 (A 3).1,.int .i64 (A 3).2,.int .i64 (A 4).1,.int .i64 (A 4).2,.int .i64 (A 5).1,.int .i64 (A 5).2,.int .i64 (A 6).1,.int .i64 (A 6).2] 30)).alloc (.cells #[.int .i64 (B 0).1,.int .i64 (B 0).2,.int .i64 (B 1).1,.int .i64 (B 1).2,.int .i64 (B 2).1,.int .i64 (B 2).2,.int .i64 (B 3).1,.int .i64 (B 3).2,.int .i64 (B 4).1,.int .i64 (B 4).2,.int .i64 (B 5).1,.int .i64 (B 5).2,.int .i64 (B 6).1,.int .i64 (B 6).2] 30)).alloc (.cells #[.int .i64 pN,.int .i64 pD] 27)).alloc (.cells #[.int .i64 0,.int .i64 0,.int .i64 0,.int .i64 0,.int .i64 0,.int .i64 0,.int .i64 0,.int .i64 0,.int .i64 0,.int .i64 0,.int .i64 0,.int .i64 0,.int .i64 0,.int .i64 0] 30)):=by go_grown
 go_enter Try.func48,Try.ntmps48
 go_upto_region 1 with fail
 generalize ((((w.alloc (.cells #[.int .i64 (A 0).1,.int .i64 (A 0).2,.int .i64 (A 1).1,.int .i64 (A 1).2,.int .i64 (A 2).1,.int .i64 (A 2).2,.int .i64 (A 3).1,.int .i64 (A 3).2,.int .i64 (A 4).1,.int .i64 (A 4).2,.int .i64 (A 5).1,.int .i64 (A 5).2,.int .i64 (A 6).1,.int .i64 (A 6).2] 30)).alloc (.cells #[.int .i64 (B 0).1,.int .i64 (B 0).2,.int .i64 (B 1).1,.int .i64 (B 1).2,.int .i64 (B 2).1,.int .i64 (B 2).2,.int .i64 (B 3).1,.int .i64 (B 3).2,.int .i64 (B 4).1,.int .i64 (B 4).2,.int .i64 (B 5).1,.int .i64 (B 5).2,.int .i64 (B 6).1,.int .i64 (B 6).2] 30)).alloc (.cells #[.int .i64 pN,.int .i64 pD] 27)).alloc (.cells #[.int .i64 0,.int .i64 0,.int .i64 0,.int .i64 0,.int .i64 0,.int .i64 0,.int .i64 0,.int .i64 0,.int .i64 0,.int .i64 0,.int .i64 0,.int .i64 0,.int .i64 0,.int .i64 0] 30))=V1 at *
 obtain⟨x0,x1,x2,x3,x4,x5,x6,x7,x8,x9,x10,x11,x12,x13⟩:=X.cells;obtain⟨u0,u1,u2,u3,u4,u5,u6,u7,u8,u9,u10,u11,u12,u13⟩:=Y.cells;obtain⟨z0,z1, -, -, -⟩:=id Z;obtain⟨y0,y1,y2,y3,y4,y5,y6,y7,y8,y9,y10,y11,y12,y13⟩:=O.cells;obtain⟨f0,f1,f2,f3,f4,f5,f6,f7,f8,f9,f10,f11,f12,f13⟩:=O.froz;
 go_upto_region 5 with (first | (go_at_call 22;(with_reducible refine (ca _).mono ?_);rintro _ VV ⟨rfl,hb1⟩;replace X:=X.keep hb1;replace Y:=Y.keep hb1;replace Z:=Z.keep hb1;replace O:=O.keep hb1;replace HB:=later HB hb1;clear hb1;clear x0 x1 x2 x3 x4 x5 x6 x7 x8 x9 x10 x11 x12 x13 u0 u1 u2 u3 u4 u5 u6 u7 u8 u9 u10 u11 u12 u13 y0 y1 y2 y3 y4 y5 y6 y7 y8 y9 y10 y11 y12 y13 f0 f1 f2 f3 f4 f5 f6 f7 f8 f9 f10 f11 f12 f13 z0 z1;obtain⟨x0,x1,x2,x3,x4,x5,x6,x7,x8,x9,x10,x11,x12,x13⟩:=X.cells;obtain⟨u0,u1,u2,u3,u4,u5,u6,u7,u8,u9,u10,u11,u12,u13⟩:=Y.cells;obtain⟨z0,z1, -, -, -⟩:=id Z;obtain⟨y0,y1,y2,y3,y4,y5,y6,y7,y8,y9,y10,y11,y12,y13⟩:=O.cells;obtain⟨f0,f1,f2,f3,f4,f5,f6,f7,f8,f9,f10,f11,f12,f13⟩:=O.froz;skip) | (go_at_call 22;(with_reducible refine (cb _).mono ?_);rintro _ VV ⟨rfl,hb1⟩;replace X:=X.keep hb1;replace Y:=Y.keep hb1;replace Z:=Z.keep hb1;replace O:=O.keep hb1;replace HB:=later HB hb1;clear hb1;clear x0 x1 x2 x3 x4 x5 x6 x7 x8 x9 x10 x11 x12 x13 u0 u1 u2 u3 u4 u5 u6 u7 u8 u9 u10 u11 u12 u13 y0 y1 y2 y3 y4 y5 y6 y7 y8 y9 y10 y11 y12 y13 f0 f1 f2 f3 f4 f5 f6 f7 f8 f9 f10 f11 f12 f13 z0 z1;obtain⟨x0,x1,x2,x3,x4,x5,x6,x7,x8,x9,x10,x11,x12,x13⟩:=X.cells;obtain⟨u0,u1,u2,u3,u4,u5,u6,u7,u8,u9,u10,u11,u12,u13⟩:=Y.cells;obtain⟨z0,z1, -, -, -⟩:=id Z;obtain⟨y0,y1,y2,y3,y4,y5,y6,y7,y8,y9,y10,y11,y12,y13⟩:=O.cells;obtain⟨f0,f1,f2,f3,f4,f5,f6,f7,f8,f9,f10,f11,f12,f13⟩:=O.froz;skip) | (go_at_call 42;(with_reducible refine (cp _).mono ?_);rintro _ VV ⟨rfl,hb1⟩;replace X:=X.keep hb1;replace Y:=Y.keep hb1;replace Z:=Z.keep hb1;replace O:=O.keep hb1;replace HB:=later HB hb1;clear hb1;clear x0 x1 x2 x3 x4 x5 x6 x7 x8 x9 x10 x11 x12 x13 u0 u1 u2 u3 u4 u5 u6 u7 u8 u9 u10 u11 u12 u13 y0 y1 y2 y3 y4 y5 y6 y7 y8 y9 y10 y11 y12 y13 f0 f1 f2 f3 f4 f5 f6 f7 f8 f9 f10 f11 f12 f13 z0 z1;obtain⟨x0,x1,x2,x3,x4,x5,x6,x7,x8,x9,x10,x11,x12,x13⟩:=X.cells;obtain⟨u0,u1,u2,u3,u4,u5,u6,u7,u8,u9,u10,u11,u12,u13⟩:=Y.cells;obtain⟨z0,z1, -, -, -⟩:=id Z;obtain⟨y0,y1,y2,y3,y4,y5,y6,y7,y8,y9,y10,y11,y12,y13⟩:=O.cells;obtain⟨f0,f1,f2,f3,f4,f5,f6,f7,f8,f9,f10,f11,f12,f13⟩:=O.froz;skip))
 clear x0 u0 y0 f0 x1 u1 y1 f1 x2 u2 y2 f2 x3 u3 y3 f3 x4 u4 y4 f4 x5 u5 y5 f5 x6 u6 y6 f6 x7 u7 y7 f7 x8 u8 y8 f8 x9 u9 y9 f9 x10 u10 y10 f10 x11 u11 y11 f11 x12 u12 y12 f12 x13 u13 y13 f13 z0 z1 ca cb cp
 have xl:=O.lt
 have HW:=grewR VV (.cells #[.int .i64 0,.int .i64 0,.int .i64 0,.int .i64 0,.int .i64 0,.int .i64 0,.int .i64 0,.int .i64 0,.int .i64 0,.int .i64 0,.int .i64 0,.int .i64 0,.int .i64 0,.int .i64 0] 30)
 have T:TmS w (VV.alloc (.cells #[.int .i64 0,.int .i64 0,.int .i64 0,.int .i64 0,.int .i64 0,.int .i64 0,.int .i64 0,.int .i64 0,.int .i64 0,.int .i64 0,.int .i64 0,.int .i64 0,.int .i64 0,.int .i64 0] 30)) A B zeE (tmG A B pN pD 0) pN pD VV.heap.size:=⟨later HB HW,X.keep HW,Y.keep HW,Z.keep HW,O.keep HW,dim_new VV (tmG A B pN pD 0) 30,xl⟩
 clear HW xl X Y Z O HB
 generalize (VV.alloc (.cells #[.int .i64 0,.int .i64 0,.int .i64 0,.int .i64 0,.int .i64 0,.int .i64 0,.int .i64 0,.int .i64 0,.int .i64 0,.int .i64 0,.int .i64 0,.int .i64 0,.int .i64 0,.int .i64 0] 30))=V3 at *
 generalize VV.heap.size=ob at *
 go_loopg [9] (7:Nat) (fun G s wx=>∃k:Nat,s=.int .i64 (k:Int)/\k<=7/\7<=k+G/\TmS w wx A B zeE (tmG A B pN pD k) pN pD ob/\Hid (tmF A B pN pD k=0))
 case atStart=>exact⟨0,rfl,by omega,by omega,T,rfl⟩
 case round =>
   clear T
   obtain⟨k,rfl,hk,hG,T,HI⟩:=hrel
   by_cases c:k=7
   · subst c
     have e:Hid (Value.tuple #[dimV (tmG A B pN pD 7),.int .i64 0]=R):=by
       have:=hR.out
       unfold triedV at this
       rw [if_pos HI.out] at this
       rw [<-this,dimV_congr (E:=tmG A B pN pD 7) (F:=tmD A B pN pD 7) (fun i hi=>by unfold tmG tmD;rw [if_pos hi,if_pos hi])]
       rfl
     clear hR HI
     obtain⟨hb,X,Y,Z,O,E,lt⟩:=T
     obtain⟨x0,x1,x2,x3,x4,x5,x6,x7,x8,x9,x10,x11,x12,x13⟩:=E.cells
     obtain⟨y0,y1,y2,y3,y4,y5,y6,y7,y8,y9,y10,y11,y12,y13⟩:=O.cells
     obtain⟨f0,f1,f2,f3,f4,f5,f6,f7,f8,f9,f10,f11,f12,f13⟩:=O.froz
     go_wp2_with fail
     refine bodyPost_ret (v:=.tuple #[dimV (tmG A B pN pD 7),.int .i64 0]) (by simp [results,Try.results48,go_sem, *];rfl) rfl ⟨congrArg Ending.returned e.out, ?_⟩
     repeat' (first | (with_reducible exact hb) | (with_reducible refine Below.setCell ?_ ?_ _) | go_size)
   · have kl:(k:Int)<7:=by omega
     have kp:0<=(k:Int):=by omega
     have kn:k<7:=by omega
     have rBk:=drK_yes rB k kn
     have rAk:=drK_yes rA k kn
     obtain⟨mN,mD,me,hm⟩:∃a b c,mulV11 (B k).1 (B k).2 pN pD=(a,b,c):=⟨_,_,_,rfl⟩
     have cm:=fun W=>mul11_w (B k).1 (B k).2 pN pD (hB k kn) hp W
     rw [hm] at cm
     go_upto_region 7 with fail
     generalize wr=V2 at *
     go_cut [10,11] from 33 to 41 (fun s10 s11 wx=>∃xb,s10=.pointer (some ⟨xb,0,none⟩)/\s11=.int .i64 me/\ob<xb/\TmS w wx A B zeE (tmG A B pN pD k) pN pD ob/\Has2 wx xb (.int .i64 mN) (.int .i64 mD))
     case first =>
       have HD:Below V2.heap.size V2 V2.drew:=(Below.refl _ _).drew
       refine wp_region_held_drew (S:=fun w'=>w'.cell? ⟨w.heap.size+1,k*2,none⟩=some (.int .i64 (B k).1)/\w'.cell? ⟨w.heap.size+1,k*2+1,none⟩=some (.int .i64 (B k).2)/\w'.cell? ⟨w.heap.size+1+1,0,none⟩=some (.int .i64 pN)/\w'.cell? ⟨w.heap.size+1+1,1,none⟩=some (.int .i64 pD)) (by kernel_rfl) ⟨T.Y.c0 k kn,T.Y.c1 k kn,T.Z.1,T.Z.2.1⟩ (fun hHeld=>?_)
       replace T:=T.keep HD;clear HD
       generalize V2.drew=V4 at *
       refine tk (v:=?_) 0 rfl ?_ hHeld ?_;rotate_left;(focus ((intro w hSw;(try dsimp only at hSw);go_simp);try with_reducible rfl));simp only[gA,gB,Act.put,gD,gE,gF];refine tk (v:=?_) 1 rfl ?_ hHeld ?_;rotate_left;(focus ((intro w hSw;(try dsimp only at hSw);go_simp);try with_reducible rfl));simp only[gA,gB,gC,Act.put,gD,gE,gF];refine tk (v:=?_) 2 rfl ?_ hHeld ?_;rotate_left;(focus ((intro w hSw;(try dsimp only at hSw);go_simp);try with_reducible rfl));simp only[gA,gB,gC,Act.put,gD,gE,gF];refine tk (v:=?_) 3 rfl ?_ hHeld ?_;rotate_left;(focus ((intro w hSw;(try dsimp only at hSw);go_simp);try with_reducible rfl));simp only[gA,gB,gC,Act.put,gD,gE,gF];refine tk (v:=?_) 4 rfl ?_ hHeld ?_;rotate_left;(focus ((intro w hSw;(try dsimp only at hSw);go_simp);try with_reducible rfl));simp only[gA,gB,gC,Act.put,gD,gE,gF]
       refine wpAnyH_ready (rs:=[5,9]) (by kernel_rfl) (by simp) ?_
       refine AllReadyH.cons rfl (fun K hK=>?_) (AllReadyH.cons rfl (fun K hK=>?_) AllReadyH.nil)
       · simp only[gA,gB,gC,Act.put,gD,gE,gF]
         go_simp
         go_at_call 70
         (with_reducible refine (cm _).mono ?_)
         rintro _ W1 ⟨rfl,hb1⟩
         replace T:=T.keep hb1;clear hb1
         dsimp only
         refine hK.out _ _ ⟨T.Y.c0 k kn,T.Y.c1 k kn,T.Z.1,T.Z.2.1⟩ (fun hHeld=>?_)
         clear hK K
         refine tk (v:=?_) 6 rfl ?_ hHeld ?_;rotate_left;(focus ((intro w hSw;(try dsimp only at hSw);go_simp);try with_reducible rfl));simp only[gA,gB,gC,Act.put,gD,gE,gF];refine tk (v:=?_) 7 rfl ?_ hHeld ?_;rotate_left;(focus ((intro w hSw;(try dsimp only at hSw);go_simp);try with_reducible rfl));simp only[gA,gB,gC,Act.put,gD,gE,gF];refine tk (v:=?_) 8 rfl ?_ hHeld ?_;rotate_left;(focus ((intro w hSw;(try dsimp only at hSw);go_simp);try with_reducible rfl));simp only[gA,gB,gC,Act.put,gD,gE,gF]
         refine rd 9 rfl (fun K hK=>?_);simp only[gA,gB,gC,Act.put,gD,gE,gF];go_simp
         have hg:=grewR W1 (.cells #[.int .i64 0,.int .i64 0] 27)
         have bx:=has2_new W1 (.int .i64 0) (.int .i64 0) 27
         have xl:ob<W1.heap.size:=T.E.lt
         skip
         replace T:=T.keep hg;clear hg
         refine hK.out _ _ ⟨T.Y.c0 k kn,T.Y.c1 k kn,T.Z.1,T.Z.2.1⟩ (fun hHeld=>?_)
         clear hK K
         generalize W1.alloc (.cells #[.int .i64 0,.int .i64 0] 27)=W2 at *
         generalize W1.heap.size=nb at *
         obtain⟨bx0,bx1,bx2,bx3,bx4⟩:=id bx
         refine rd 10 rfl (fun K hK=>?_);simp only [List.getElem_toArray,List.getElem_cons_zero,List.getElem_cons_succ,Act.put];go_simp
         replace T:=(T.put (o:=0) xl (.int .i64 mN)).put (o:=1) xl (.int .i64 mD)
         skip
         replace bx:=box_put bx (.int .i64 mN) (.int .i64 mD)
         clear bx0 bx1 bx2 bx3 bx4
         refine hK.out _ _ ⟨T.Y.c0 k kn,T.Y.c1 k kn,T.Z.1,T.Z.2.1⟩ (fun hHeld=>?_)
         clear hK K
         generalize (W2.setCell ⟨nb,0,none⟩ (.int .i64 mN)).setCell ⟨nb,1,none⟩ (.int .i64 mD)=W3 at *
         refine tk (v:=?_) 11 rfl ?_ hHeld ?_;rotate_left;(focus ((intro w hSw;(try dsimp only at hSw);go_simp);try with_reducible rfl));simp only[gA,gB,gC,Act.put,gD,gE,gF]
         refine wpAnyH_done (by kernel_rfl) ?_ _
         go_wp2_with fail
         go_meet
         case rel=>exact⟨nb,rfl,rfl,xl,T,bx⟩
       · simp only[gA,gB,gC,Act.put,gD,gE,gF]
         go_simp
         have hg:=grewR V4 (.cells #[.int .i64 0,.int .i64 0] 27)
         have bx:=has2_new V4 (.int .i64 0) (.int .i64 0) 27
         have xl:ob<V4.heap.size:=T.E.lt
         skip
         replace T:=T.keep hg;clear hg
         refine hK.out _ _ ⟨T.Y.c0 k kn,T.Y.c1 k kn,T.Z.1,T.Z.2.1⟩ (fun hHeld=>?_)
         clear hK K
         generalize V4.alloc (.cells #[.int .i64 0,.int .i64 0] 27)=W2 at *
         generalize V4.heap.size=nb at *
         refine rd 5 rfl (fun K hK=>?_);simp only[gA,gB,gC,Act.put,gD,gE,gF];go_simp
         go_at_call 70
         (with_reducible refine (cm _).mono ?_)
         rintro _ W1 ⟨rfl,hb1⟩
         replace T:=T.keep hb1;replace bx:=bx.keep hb1;clear hb1
         dsimp only
         refine hK.out _ _ ⟨T.Y.c0 k kn,T.Y.c1 k kn,T.Z.1,T.Z.2.1⟩ (fun hHeld=>?_)
         clear hK K
         refine tk (v:=?_) 6 rfl ?_ hHeld ?_;rotate_left;(focus ((intro w hSw;(try dsimp only at hSw);go_simp);try with_reducible rfl));simp only[gA,gB,gC,Act.put,gD,gE,gF];refine tk (v:=?_) 7 rfl ?_ hHeld ?_;rotate_left;(focus ((intro w hSw;(try dsimp only at hSw);go_simp);try with_reducible rfl));simp only[gA,gB,gC,Act.put,gD,gE,gF];refine tk (v:=?_) 8 rfl ?_ hHeld ?_;rotate_left;(focus ((intro w hSw;(try dsimp only at hSw);go_simp);try with_reducible rfl));simp only[gA,gB,gC,Act.put,gD,gE,gF]
         obtain⟨bx0,bx1,bx2,bx3,bx4⟩:=id bx
         refine rd 10 rfl (fun K hK=>?_);simp only [List.getElem_toArray,List.getElem_cons_zero,List.getElem_cons_succ,Act.put];go_simp
         replace T:=(T.put (o:=0) xl (.int .i64 mN)).put (o:=1) xl (.int .i64 mD)
         skip
         replace bx:=box_put bx (.int .i64 mN) (.int .i64 mD)
         clear bx0 bx1 bx2 bx3 bx4
         refine hK.out _ _ ⟨T.Y.c0 k kn,T.Y.c1 k kn,T.Z.1,T.Z.2.1⟩ (fun hHeld=>?_)
         clear hK K
         generalize (W1.setCell ⟨nb,0,none⟩ (.int .i64 mN)).setCell ⟨nb,1,none⟩ (.int .i64 mD)=W3 at *
         refine tk (v:=?_) 11 rfl ?_ hHeld ?_;rotate_left;(focus ((intro w hSw;(try dsimp only at hSw);go_simp);try with_reducible rfl));simp only[gA,gB,gC,Act.put,gD,gE,gF]
         refine wpAnyH_done (by kernel_rfl) ?_ _
         go_wp2_with fail
         go_meet
         case rel=>exact⟨nb,rfl,rfl,xl,T,bx⟩
     case rest =>
       clear T
       obtain⟨xb,rfl,rfl,xo,T,X1⟩:=hcut
       by_cases me0:me=0
       · subst me0
         obtain⟨rm, -,hmI⟩:=mulV11_ok rBk rp hm
         obtain⟨sN,sD,se,hs⟩:∃a b c,addV11 (A k).1 (A k).2 mN mD=(a,b,c):=⟨_,_,_,rfl⟩
         have cs:=fun W=>add11_w (A k).1 (A k).2 mN mD (hA k kn) hmI W
         rw [hs] at cs
         have eE:tmE A B pN pD k=(sN,sD,se):=by rw [tmE,hm,if_pos rfl];exact hs
         clear hm cm hs rm rBk rAk hmI
         go_upto_region 10 with fail
         generalize wc=V2 at *
         go_cut [12,13] from 46 to 54 (fun s12 s13 wx=>∃yb,s12=.pointer (some ⟨yb,0,none⟩)/\s13=.int .i64 se/\ob<yb/\TmS w wx A B zeE (tmG A B pN pD k) pN pD ob/\Has2 wx yb (.int .i64 sN) (.int .i64 sD))
         case first =>
           have HD:Below V2.heap.size V2 V2.drew:=(Below.refl _ _).drew
           refine wp_region_held_drew (S:=fun w'=>w'.cell? ⟨w.heap.size,k*2,none⟩=some (.int .i64 (A k).1)/\w'.cell? ⟨w.heap.size,k*2+1,none⟩=some (.int .i64 (A k).2)/\w'.cell? ⟨xb,0,none⟩=some (.int .i64 mN)/\w'.cell? ⟨xb,1,none⟩=some (.int .i64 mD)) (by kernel_rfl) ⟨T.X.c0 k kn,T.X.c1 k kn,X1.1,X1.2.1⟩ (fun hHeld=>?_)
           replace T:=T.keep HD;replace X1:=Has2.keep X1 HD;clear HD
           generalize V2.drew=V4 at *
           refine tk (v:=?_) 0 rfl ?_ hHeld ?_;rotate_left;(focus ((intro w hSw;(try dsimp only at hSw);go_simp);try with_reducible rfl));simp only[gA,gB,Act.put,gD,gE,gF];refine tk (v:=?_) 1 rfl ?_ hHeld ?_;rotate_left;(focus ((intro w hSw;(try dsimp only at hSw);go_simp);try with_reducible rfl));simp only[gA,gB,gC,Act.put,gD,gE,gF];refine tk (v:=?_) 2 rfl ?_ hHeld ?_;rotate_left;(focus ((intro w hSw;(try dsimp only at hSw);go_simp);try with_reducible rfl));simp only[gA,gB,gC,Act.put,gD,gE,gF];refine tk (v:=?_) 3 rfl ?_ hHeld ?_;rotate_left;(focus ((intro w hSw;(try dsimp only at hSw);go_simp);try with_reducible rfl));simp only[gA,gB,gC,Act.put,gD,gE,gF];refine tk (v:=?_) 4 rfl ?_ hHeld ?_;rotate_left;(focus ((intro w hSw;(try dsimp only at hSw);go_simp);try with_reducible rfl));simp only[gA,gB,gC,Act.put,gD,gE,gF]
           refine wpAnyH_ready (rs:=[5,9]) (by kernel_rfl) (by simp) ?_
           refine AllReadyH.cons rfl (fun K hK=>?_) (AllReadyH.cons rfl (fun K hK=>?_) AllReadyH.nil)
           · simp only[gA,gB,gC,Act.put,gD,gE,gF]
             go_simp
             go_at_call 71
             (with_reducible refine (cs _).mono ?_)
             rintro _ W1 ⟨rfl,hb1⟩
             replace T:=T.keep hb1;replace X1:=Has2.keep X1 hb1;clear hb1
             dsimp only
             refine hK.out _ _ ⟨T.X.c0 k kn,T.X.c1 k kn,X1.1,X1.2.1⟩ (fun hHeld=>?_)
             clear hK K
             refine tk (v:=?_) 6 rfl ?_ hHeld ?_;rotate_left;(focus ((intro w hSw;(try dsimp only at hSw);go_simp);try with_reducible rfl));simp only[gA,gB,gC,Act.put,gD,gE,gF];refine tk (v:=?_) 7 rfl ?_ hHeld ?_;rotate_left;(focus ((intro w hSw;(try dsimp only at hSw);go_simp);try with_reducible rfl));simp only[gA,gB,gC,Act.put,gD,gE,gF];refine tk (v:=?_) 8 rfl ?_ hHeld ?_;rotate_left;(focus ((intro w hSw;(try dsimp only at hSw);go_simp);try with_reducible rfl));simp only[gA,gB,gC,Act.put,gD,gE,gF]
             refine rd 9 rfl (fun K hK=>?_);simp only[gA,gB,gC,Act.put,gD,gE,gF];go_simp
             have hg:=grewR W1 (.cells #[.int .i64 0,.int .i64 0] 27)
             have bx:=has2_new W1 (.int .i64 0) (.int .i64 0) 27
             have xl:ob<W1.heap.size:=T.E.lt
             have xn:xb≠W1.heap.size:=Nat.ne_of_lt X1.2.2.2.2
             replace T:=T.keep hg;replace X1:=Has2.keep X1 hg;clear hg
             refine hK.out _ _ ⟨T.X.c0 k kn,T.X.c1 k kn,X1.1,X1.2.1⟩ (fun hHeld=>?_)
             clear hK K
             generalize W1.alloc (.cells #[.int .i64 0,.int .i64 0] 27)=W2 at *
             generalize W1.heap.size=nb at *
             obtain⟨bx0,bx1,bx2,bx3,bx4⟩:=id bx
             refine rd 10 rfl (fun K hK=>?_);simp only [List.getElem_toArray,List.getElem_cons_zero,List.getElem_cons_succ,Act.put];go_simp
             replace T:=(T.put (o:=0) xl (.int .i64 sN)).put (o:=1) xl (.int .i64 sD)
             replace X1:=Has2.off1 (o:=1) (Has2.off1 (o:=0) X1 xn (.int .i64 sN)) xn (.int .i64 sD)
             replace bx:=box_put bx (.int .i64 sN) (.int .i64 sD)
             clear bx0 bx1 bx2 bx3 bx4
             refine hK.out _ _ ⟨T.X.c0 k kn,T.X.c1 k kn,X1.1,X1.2.1⟩ (fun hHeld=>?_)
             clear hK K
             generalize (W2.setCell ⟨nb,0,none⟩ (.int .i64 sN)).setCell ⟨nb,1,none⟩ (.int .i64 sD)=W3 at *
             refine tk (v:=?_) 11 rfl ?_ hHeld ?_;rotate_left;(focus ((intro w hSw;(try dsimp only at hSw);go_simp);try with_reducible rfl));simp only[gA,gB,gC,Act.put,gD,gE,gF]
             refine wpAnyH_done (by kernel_rfl) ?_ _
             go_wp2_with fail
             go_meet
             case rel=>exact⟨nb,rfl,rfl,xl,T,bx⟩
           · simp only[gA,gB,gC,Act.put,gD,gE,gF]
             go_simp
             have hg:=grewR V4 (.cells #[.int .i64 0,.int .i64 0] 27)
             have bx:=has2_new V4 (.int .i64 0) (.int .i64 0) 27
             have xl:ob<V4.heap.size:=T.E.lt
             have xn:xb≠V4.heap.size:=Nat.ne_of_lt X1.2.2.2.2
             replace T:=T.keep hg;replace X1:=Has2.keep X1 hg;clear hg
             refine hK.out _ _ ⟨T.X.c0 k kn,T.X.c1 k kn,X1.1,X1.2.1⟩ (fun hHeld=>?_)
             clear hK K
             generalize V4.alloc (.cells #[.int .i64 0,.int .i64 0] 27)=W2 at *
             generalize V4.heap.size=nb at *
             refine rd 5 rfl (fun K hK=>?_);simp only[gA,gB,gC,Act.put,gD,gE,gF];go_simp
             go_at_call 71
             (with_reducible refine (cs _).mono ?_)
             rintro _ W1 ⟨rfl,hb1⟩
             replace T:=T.keep hb1;replace X1:=Has2.keep X1 hb1;replace bx:=bx.keep hb1;clear hb1
             dsimp only
             refine hK.out _ _ ⟨T.X.c0 k kn,T.X.c1 k kn,X1.1,X1.2.1⟩ (fun hHeld=>?_)
             clear hK K
             refine tk (v:=?_) 6 rfl ?_ hHeld ?_;rotate_left;(focus ((intro w hSw;(try dsimp only at hSw);go_simp);try with_reducible rfl));simp only[gA,gB,gC,Act.put,gD,gE,gF];refine tk (v:=?_) 7 rfl ?_ hHeld ?_;rotate_left;(focus ((intro w hSw;(try dsimp only at hSw);go_simp);try with_reducible rfl));simp only[gA,gB,gC,Act.put,gD,gE,gF];refine tk (v:=?_) 8 rfl ?_ hHeld ?_;rotate_left;(focus ((intro w hSw;(try dsimp only at hSw);go_simp);try with_reducible rfl));simp only[gA,gB,gC,Act.put,gD,gE,gF]
             obtain⟨bx0,bx1,bx2,bx3,bx4⟩:=id bx
             refine rd 10 rfl (fun K hK=>?_);simp only [List.getElem_toArray,List.getElem_cons_zero,List.getElem_cons_succ,Act.put];go_simp
             replace T:=(T.put (o:=0) xl (.int .i64 sN)).put (o:=1) xl (.int .i64 sD)
             replace X1:=Has2.off1 (o:=1) (Has2.off1 (o:=0) X1 xn (.int .i64 sN)) xn (.int .i64 sD)
             replace bx:=box_put bx (.int .i64 sN) (.int .i64 sD)
             clear bx0 bx1 bx2 bx3 bx4
             refine hK.out _ _ ⟨T.X.c0 k kn,T.X.c1 k kn,X1.1,X1.2.1⟩ (fun hHeld=>?_)
             clear hK K
             generalize (W1.setCell ⟨nb,0,none⟩ (.int .i64 sN)).setCell ⟨nb,1,none⟩ (.int .i64 sD)=W3 at *
             refine tk (v:=?_) 11 rfl ?_ hHeld ?_;rotate_left;(focus ((intro w hSw;(try dsimp only at hSw);go_simp);try with_reducible rfl));simp only[gA,gB,gC,Act.put,gD,gE,gF]
             refine wpAnyH_done (by kernel_rfl) ?_ _
             go_wp2_with fail
             go_meet
             case rel=>exact⟨nb,rfl,rfl,xl,T,bx⟩
         case rest =>
           clear T X1
           obtain⟨yb,rfl,rfl,yo,T,Y1⟩:=hcut
           by_cases se0:se=0
           · subst se0
             have HN:Hid (tmF A B pN pD (k+1)=0):=by show tmF A B pN pD (k+1)=0;rw [tmF,if_pos HI.out,eE]
             have hput:=tmG_put eE
             clear hR HI eE cs
             obtain⟨y0,y1, -, -, -⟩:=id Y1
             have b0:=T.E.c0 k kn
             have b1:=T.E.c1 k kn
             have b2:=T.E.f0 k kn
             have b3:=T.E.f1 k kn
             go_wp2_with fail
             have T2:=T.set kn sN sD
             rw [hput] at T2
             (go_roundg (gk-1)
              case measure=>omega
              case rel=>exact⟨k+1,congrArg (Value.int .i64) (show (k:Int)+1=((k+1:Nat):Int) by omega),by omega,by omega,T2,HN⟩)
           · have e1:tmF A B pN pD (k+1)=se:=by rw [tmF,if_pos HI.out,eE]
             have e2:Hid (Value.tuple #[dimV zeE,.int .i64 se]=R):=by
               have:=hR.out
               have e3:=tmF_stays (A:=A) (B:=B) (pN:=pN) (pD:=pD) (k:=k+1) (by rw [e1];exact se0) 7 (by omega)
               rw [e1] at e3
               unfold triedV at this
               rw [e3,if_neg se0] at this
               exact this
             have mb:(se != 0)=true:=by simpa using se0
             clear hR HI e1 cs se0 eE
             obtain⟨hb,X,Y,Z,O,E,lt⟩:=T
             obtain⟨y0,y1,y2,y3,y4,y5,y6,y7,y8,y9,y10,y11,y12,y13⟩:=O.cells
             obtain⟨f0,f1,f2,f3,f4,f5,f6,f7,f8,f9,f10,f11,f12,f13⟩:=O.froz
             go_wp2_with fail
             refine bodyPost_ret (v:=.tuple #[dimV zeE,.int .i64 se]) (by simp [results,Try.results48,go_sem, *];rfl) rfl ⟨congrArg Ending.returned e2.out, ?_⟩
             repeat' (first | (with_reducible exact hb) | (with_reducible refine Below.setCell ?_ ?_ _) | go_size)
       · have e1:tmF A B pN pD (k+1)=me:=by rw [tmF,if_pos HI.out,tmE,hm,if_neg me0]
         have e2:Hid (Value.tuple #[dimV zeE,.int .i64 me]=R):=by
           have:=hR.out
           have e3:=tmF_stays (A:=A) (B:=B) (pN:=pN) (pD:=pD) (k:=k+1) (by rw [e1];exact me0) 7 (by omega)
           rw [e1] at e3
           unfold triedV at this
           rw [e3,if_neg me0] at this
           exact this
         have mb:(me != 0)=true:=by simpa using me0
         clear hR HI e1 hm cm me0
         obtain⟨hb,X,Y,Z,O,E,lt⟩:=T
         obtain⟨y0,y1,y2,y3,y4,y5,y6,y7,y8,y9,y10,y11,y12,y13⟩:=O.cells
         obtain⟨f0,f1,f2,f3,f4,f5,f6,f7,f8,f9,f10,f11,f12,f13⟩:=O.froz
         go_wp2_with fail
         refine bodyPost_ret (v:=.tuple #[dimV zeE,.int .i64 me]) (by simp [results,Try.results48,go_sem, *];rfl) rfl ⟨congrArg Ending.returned e2.out, ?_⟩
         repeat' (first | (with_reducible exact hb) | (with_reducible refine Below.setCell ?_ ?_ _) | go_size)
theorem dTimes_w (A B:Nat->Int×Int) (pN pD:Int) (hA:Dim64 A) (hB:Dim64 B) (hp:I64 pN/\I64 pD) (w:World) :
  Calls Try.prog 48 #[dimV A,dimV B,.agg #[.int .i64 pN,.int .i64 pD]] w fun r w'=>r=.returned (tmV A B pN pD)/\Below w.heap.size w w':=by
 have ca:=fun W=>dright_w A hA W
 have cb:=fun W=>dright_w B hB W
 have cp:=fun W=>right11_w pN pD hp.1 hp.2 W
 unfold tmV
 by_cases h:(drK A 7&&drK B 7&&rightR pN pD)=true
 ·rw [if_pos h]
  obtain⟨h12,h3⟩:=Bool.and_eq_true_iff.1 h
  obtain⟨h1,h2⟩:=Bool.and_eq_true_iff.1 h12
  rw [h1] at ca
  rw [h2] at cb
  rw [h3] at cp
  exact dTimes_good A B pN pD hA hB hp h1 h2 h3 ca cb cp w
 ·rw [if_neg h]
  exact dTimes_bad A B pN pD _ _ _ (by simpa using h) ca cb cp w
end Go.Proofs.Ytbejmklkicoibaa
