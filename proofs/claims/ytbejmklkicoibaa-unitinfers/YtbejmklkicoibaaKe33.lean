/- orreryref14's Graph. -/
import Derived.Test.YtbejmklkicoibaaKe32
namespace Go.Proofs.Ytbejmklkicoibaa
open Go.ChangeShapes Go.WideShapes Go.ChangeAt Go.RowKit
theorem opsG_0 {x:Nd} {i:Int} (h:arG x.k=0):opsG x i=true:=by unfold opsG Nd.ar;rw [h];rfl
theorem opsG_1 {x:Nd} {i:Int} (h:arG x.k=1):opsG x i=oneOf x.a i:=by
 unfold opsG Nd.ar;rw [h]
 show ((List.range 1).all fun j=>oneOf (x.at j) i)=_
 rw [List.range_succ]
 simp [Nd.at]
theorem opsG_2 {x:Nd} {i:Int} (h:arG x.k=2):opsG x i=(oneOf x.a i&&oneOf x.b i):=by
 unfold opsG Nd.ar;rw [h]
 show ((List.range 2).all fun j=>oneOf (x.at j) i)=_
 rw [List.range_succ,List.range_succ]
 simp [Nd.at]
set_option maxRecDepth 4000 in
set_option maxHeartbeats 4000000 in
theorem fGraph_w (AN:Option Addr) (n CN:Nat) (X:Nat->Nd) (hn:n<=4000) (hX:∀i,i<n->(X i).Ok) (w:World) (VN:Nds w AN n X) :
  Calls Try.prog 21 #[.slice AN n CN] w fun r w'=>r=.returned (.bool (graphB X n))/\Below w.heap.size w w':=by
 obtain⟨R,hR⟩:∃R,Hid (graphB X n=R):=⟨_,rfl⟩
 rw [hR.out]
 have HX:Hid (∀i,i<n->(X i).Ok):=hX
 have hn4:(n:Int)<=4000:=by omega
 clear hX
 go_enter Try.func21,Try.ntmps21
 go_wp2_with fail
 go_loopg [8] n (fun T s8 wx=>∃i:Nat,i+T=n/\s8=.int .i64 (i:Int)/\Below w.heap.size w wx/\Hid (∀q:Nat,q<i->nodeB (X q) (q:Int)=true))
 case atStart=>exact⟨0,by omega,rfl,Below.refl _ _,fun j hj=>absurd hj (by omega)⟩
 case round =>
  obtain⟨i,hi,rfl,HB,hall⟩:=hrel
  by_cases ci:i=n
  ·have e1:Hid (true=R):=by have q:=hR.out;subst ci;unfold graphB at q;rw [all_upto2.2 hall,decide_eq_true hn] at q;exact q
   clear hR hall
   subst ci
   go_wp2_with fail
   go_ret
   exact⟨by have q:=e1.out;subst q;rfl,HB⟩
  ·have hin:i<n:=by omega
   have hlt:(i:Int)<(n:Int):=by omega
   obtain⟨b,o,hA,hb, -⟩:=(VN.keep HB) i hin
   subst hA
   obtain⟨x,hx⟩:∃x,x=X i:=⟨_,rfl⟩
   have xc:Hid (∀j c,(ndL x)[j]?=some c->wr.cell? ⟨b,o+i*22+j,none⟩=some c):=by rw [hx];exact ((VN.keep HB).at (i:=i) hin).2
   have XO:Hid ((X i).Ok):=HX.out i hin
   rw [<-hx] at XO
   have hgood:Hid (nodeB x (i:Int)=true->∀q:Nat,q<i+1->nodeB (X q) (q:Int)=true):=fun h q hq=>by
    rcases Nat.lt_or_ge q i with h1 | h1
    ·exact hall.out q h1
    ·rw [show q=i by omega,<-hx];exact h
   have hbad:Hid (nodeB x (i:Int)=false->false=R):=fun q=>by
    have q2:=hR.out
    unfold graphB at q2
    rw [all_not2 (i:=i) (by omega) (by rw [<-hx];exact q),Bool.and_false] at q2
    exact q2
   replace hx:Hid (x=X i):=hx
   obtain⟨ar,har⟩:∃ar,Hid (arR x.k=ar):=⟨_,rfl⟩
   have cr:∀W,Calls Try.prog 41 #[.int .i64 x.k] W fun r w'=>r=.returned (.int .i64 ar)/\W=w':=fun W=>by
    rw [<-har.out]
    exact fargs_w x.k W
   have c1:=fun W=>right11_w x.q x.p XO.out.q XO.out.p W
   have c2:=fun W=>dright_w x.E XO.out.E W
   clear hR hall
   go_upto_region 4 with (first
    | (refine wpList_loadBig (by rfl) _ 54 (by rfl) Try.underlying54 (ndL x) (by kernel_rfl) (by rfl) (xc.out) (nd_val x) ?_)
    | (refine wpList_storeBig (by rfl) _ _ 54 (by rfl) (blk_new _ _ _) (ndL x) (by kernel_rfl) (by rfl) (by rfl) (by rfl) (by rfl) ?_;rintro V2 XR hs2 hB2 hk2))
   have hvb:w.heap.size<=wr.heap.size:=HB.size
   have XN:=XR
   have grw:Below wr.heap.size wr V2:=hB2 _ _ (Below.alloc (Below.refl _ _) (Nat.le_refl _) _) (Nat.le_refl _)
   replace HB:=later HB grw
   obtain⟨xb,hxb⟩:∃xb,xb=wr.heap.size:=⟨_,rfl⟩
   rw [<-hxb] at XN ⊢
   clear grw XR hB2 hk2 hs2 hxb xc
   have x0:=XN.cell 0 _ rfl
   go_upto_region 5 with (go_at_call 41;(with_reducible refine (cr _).mono ?_);rintro _ W5 ⟨rfl,hW5⟩;rw [<-hW5];clear hW5)
   clear hvb cr x0
   obtain⟨y0,y1,y2,y3,y4,y5,y6,y7⟩:=XN.nd.cells
   obtain⟨kb,hkb⟩:∃kb,Hid ((kindB x.k&&opsG x (i:Int))=kb):=⟨_,rfl⟩
   generalize V2=V3 at *
   go_cut [47] from 16 to 47 (fun s47 wx=>s47=.bool (!kb)/\wx=V3)
   case first =>
    clear hgood hbad
    cases hk:kindB x.k with
    | false =>
     have e1:ar=-1:=by rw [<-har.out];exact arR_no hk
     have e2:kb=false:=by rw [<-hkb.out,hk];rfl
     clear har hkb hk
     subst e1 e2
     go_wp2_with fail
     go_meet
     case rel=>exact⟨rfl,rfl⟩
    | true =>
     have e1:ar=(arG x.k:Int):=by rw [<-har.out];exact arR_yes hk
     have hk2:opsG x (i:Int)=kb:=by rw [<-hkb.out,hk];rfl
     clear har hkb hk
     rcases (by have:=arG_le x.k;omega:arG x.k=0\/arG x.k=1\/arG x.k=2) with c | c | c
     ·rw [c] at e1
      rw [opsG_0 c] at hk2
      clear c
      subst e1 hk2
      go_wp2_with fail
      go_meet
      case rel=>exact⟨rfl,rfl⟩
     ·rw [c] at e1
      rw [opsG_1 c] at hk2
      clear c
      subst e1
      by_cases d1:0<=x.a
      ·by_cases d2:x.a<(i:Int)
       ·have e2:kb=true:=by rw [<-hk2];exact decide_eq_true ⟨d1,d2⟩
        clear hk2
        subst e2
        go_wp2_with fail
        go_meet
        case rel=>exact⟨by rw [decide_eq_false (show ¬x.a<0 by omega),decide_eq_false (show ¬(i:Int)<=x.a by omega)];rfl,rfl⟩
       ·have e2:kb=false:=by rw [<-hk2];exact decide_eq_false (fun h=>d2 h.2)
        clear hk2
        subst e2
        go_wp2_with fail
        go_meet
        case rel=>exact⟨rfl,rfl⟩
      ·have e2:kb=false:=by rw [<-hk2];exact decide_eq_false (fun h=>d1 h.1)
       clear hk2
       subst e2
       go_wp2_with fail
       go_meet
       case rel=>exact⟨rfl,rfl⟩
     ·rw [c] at e1
      rw [opsG_2 c] at hk2
      clear c
      subst e1
      by_cases d1:0<=x.a
      ·by_cases d2:x.a<(i:Int)
       ·rw [show oneOf x.a (i:Int)=true from decide_eq_true ⟨d1,d2⟩,Bool.true_and] at hk2
        by_cases d3:0<=x.b
        ·by_cases d4:x.b<(i:Int)
         ·have e2:kb=true:=by rw [<-hk2];exact decide_eq_true ⟨d3,d4⟩
          clear hk2
          subst e2
          go_wp2_with fail
          go_meet
          case rel=>exact⟨by rw [decide_eq_false (show ¬x.a<0 by omega),decide_eq_false (show ¬(i:Int)<=x.a by omega),decide_eq_false (show ¬x.b<0 by omega),decide_eq_false (show ¬(i:Int)<=x.b by omega)];rfl,rfl⟩
         ·have e2:kb=false:=by rw [<-hk2];exact decide_eq_false (fun h=>d4 h.2)
          clear hk2
          subst e2
          go_wp2_with fail
          go_meet
          case rel=>exact⟨rfl,rfl⟩
        ·have e2:kb=false:=by rw [<-hk2];exact decide_eq_false (fun h=>d3 h.1)
         clear hk2
         subst e2
         go_wp2_with fail
         go_meet
         case rel=>exact⟨rfl,rfl⟩
       ·have e2:kb=false:=by rw [<-hk2,show oneOf x.a (i:Int)=false from decide_eq_false (fun h=>d2 h.2)];rfl
        clear hk2
        subst e2
        go_wp2_with fail
        go_meet
        case rel=>exact⟨rfl,rfl⟩
      ·have e2:kb=false:=by rw [<-hk2,show oneOf x.a (i:Int)=false from decide_eq_false (fun h=>d1 h.1)];rfl
       clear hk2
       subst e2
       go_wp2_with fail
       go_meet
       case rel=>exact⟨rfl,rfl⟩
   case rest =>
   clear har
   obtain⟨rfl,rfl⟩:=hcut
   have hnb:Hid (nodeB x (i:Int)=(kb&&fieldB x)):=by show _=_;rw [<-hkb.out];unfold nodeB;cases kindB x.k <;> cases fieldB x <;> simp
   clear hkb
   cases kb with
   | false =>
    have g2:Hid _:=hbad.out (by rw [hnb.out];rfl)
    clear hgood hbad
    go_wp2_with (fail)
    go_ret
    exact⟨by have q:=g2.out;subst q;rfl,HB⟩
   | true =>
    have hnb2:Hid (nodeB x (i:Int)=fieldB x):=by show _=_;rw [hnb.out];rfl
    clear hnb
    by_cases k1:x.k=1
    ·have hf:fieldB x=(rightR x.q x.p&&drK x.E 7):=by unfold fieldB;rw [if_pos k1]
     rw [hf] at hnb2
     have hh:Hid (x.k=1):=k1
     rw [k1] at y0
     clear k1 hf
     generalize rightR x.q x.p=r at *
     generalize drK x.E 7=s at *
     unfold dimV at c2
     obtain⟨z0,z1,z2,z3,z4,z5,z6,z7,z8,z9,z10,z11,z12,z13⟩:=XN.nd.dims
     cases r with
     | false =>
      have g2:Hid _:=hbad.out (by rw [hnb2.out];rfl)
      clear hgood hbad
      go_wp2_with ((go_at_call 42;(with_reducible refine (c1 _).mono ?_);rintro _ VV ⟨rfl,hb1⟩;replace XN:=XN.keeps hb1;replace HB:=later HB hb1;clear hb1 y0 y1 y2 y3 y4 y5 y6 y7 z0 z1 z2 z3 z4 z5 z6 z7 z8 z9 z10 z11 z12 z13;obtain⟨y0,y1,y2,y3,y4,y5,y6,y7⟩:=XN.nd.cells;obtain⟨z0,z1,z2,z3,z4,z5,z6,z7,z8,z9,z10,z11,z12,z13⟩:=XN.nd.dims;rw [hh.out] at y0))
      go_ret
      exact⟨by have q:=g2.out;subst q;rfl,HB⟩
     | true =>
      cases s with
      | false =>
       have g2:Hid _:=hbad.out (by rw [hnb2.out];rfl)
       clear hgood hbad
       go_wp2_with (first | (go_at_call 42;(with_reducible refine (c1 _).mono ?_);rintro _ VV ⟨rfl,hb1⟩;replace XN:=XN.keeps hb1;replace HB:=later HB hb1;clear hb1 y0 y1 y2 y3 y4 y5 y6 y7 z0 z1 z2 z3 z4 z5 z6 z7 z8 z9 z10 z11 z12 z13;obtain⟨y0,y1,y2,y3,y4,y5,y6,y7⟩:=XN.nd.cells;obtain⟨z0,z1,z2,z3,z4,z5,z6,z7,z8,z9,z10,z11,z12,z13⟩:=XN.nd.dims;rw [hh.out] at y0) | (go_at_call 22;(with_reducible refine (c2 _).mono ?_);rintro _ VV ⟨rfl,hb1⟩;replace XN:=XN.keeps hb1;replace HB:=later HB hb1;clear hb1 y0 y1 y2 y3 y4 y5 y6 y7 z0 z1 z2 z3 z4 z5 z6 z7 z8 z9 z10 z11 z12 z13;obtain⟨y0,y1,y2,y3,y4,y5,y6,y7⟩:=XN.nd.cells;obtain⟨z0,z1,z2,z3,z4,z5,z6,z7,z8,z9,z10,z11,z12,z13⟩:=XN.nd.dims;rw [hh.out] at y0))
       go_ret
       exact⟨by have q:=g2.out;subst q;rfl,HB⟩
      | true =>
       have g2:Hid _:=hgood.out (by rw [hnb2.out];rfl)
       clear hgood hbad
       go_wp2_with (first | (go_at_call 42;(with_reducible refine (c1 _).mono ?_);rintro _ VV ⟨rfl,hb1⟩;replace XN:=XN.keeps hb1;replace HB:=later HB hb1;clear hb1 y0 y1 y2 y3 y4 y5 y6 y7 z0 z1 z2 z3 z4 z5 z6 z7 z8 z9 z10 z11 z12 z13;obtain⟨y0,y1,y2,y3,y4,y5,y6,y7⟩:=XN.nd.cells;obtain⟨z0,z1,z2,z3,z4,z5,z6,z7,z8,z9,z10,z11,z12,z13⟩:=XN.nd.dims;rw [hh.out] at y0) | (go_at_call 22;(with_reducible refine (c2 _).mono ?_);rintro _ VV ⟨rfl,hb1⟩;replace XN:=XN.keeps hb1;replace HB:=later HB hb1;clear hb1 y0 y1 y2 y3 y4 y5 y6 y7 z0 z1 z2 z3 z4 z5 z6 z7 z8 z9 z10 z11 z12 z13;obtain⟨y0,y1,y2,y3,y4,y5,y6,y7⟩:=XN.nd.cells;obtain⟨z0,z1,z2,z3,z4,z5,z6,z7,z8,z9,z10,z11,z12,z13⟩:=XN.nd.dims;rw [hh.out] at y0))
       go_roundg (n-i-1)
       case measure=>omega
       case rel=>exact⟨i+1,by omega,by go_num,HB,g2⟩
    have j1:(x.k==1)=false:=beq_eq_false_iff_ne.2 k1
    by_cases k2:x.k=2
    ·have hf:fieldB x=(decide (0<=x.v)&&(decide (0<=x.d)&&decide (x.d<=6))):=by unfold fieldB;rw [if_neg k1,if_pos k2]
     rw [hf] at hnb2
     have hh:Hid (x.k=2):=k2
     rw [k2] at y0 j1
     clear k1 k2 hf j1
     by_cases d1:0<=x.v
     ·by_cases d2:0<=x.d
      ·by_cases d3:x.d<=6
       ·skip
        have g2:Hid _:=hgood.out (by rw [hnb2.out,decide_eq_true d1,decide_eq_true d2,decide_eq_true d3];rfl)
        clear hgood hbad
        go_wp2_with (fail)
        go_roundg (n-i-1)
        case measure=>omega
        case rel=>exact⟨i+1,by omega,by go_num,HB,g2⟩
       ·skip
        have g2:Hid _:=hbad.out (by rw [hnb2.out,decide_eq_false d3,Bool.and_false,Bool.and_false])
        clear hgood hbad
        go_wp2_with (fail)
        go_ret
        exact⟨by have q:=g2.out;subst q;rfl,HB⟩
      ·skip
       have g2:Hid _:=hbad.out (by rw [hnb2.out,decide_eq_false d2,Bool.false_and,Bool.and_false])
       clear hgood hbad
       go_wp2_with (fail)
       go_ret
       exact⟨by have q:=g2.out;subst q;rfl,HB⟩
     ·skip
      have g2:Hid _:=hbad.out (by rw [hnb2.out,decide_eq_false d1,Bool.false_and])
      clear hgood hbad
      go_wp2_with (fail)
      go_ret
      exact⟨by have q:=g2.out;subst q;rfl,HB⟩
    have j2:(x.k==2)=false:=beq_eq_false_iff_ne.2 k2
    by_cases k8:x.k=8
    ·have hf:fieldB x=(decide (-64<=x.n)&&decide (x.n<=64)):=by unfold fieldB;rw [if_neg k1,if_neg k2,if_pos k8]
     rw [hf] at hnb2
     have hh:Hid (x.k=8):=k8
     rw [k8] at y0 j1 j2
     clear k1 k2 k8 hf j1 j2
     by_cases d1:-64<=x.n
     ·by_cases d2:x.n<=64
      ·skip
       have g2:Hid _:=hgood.out (by rw [hnb2.out,decide_eq_true d1,decide_eq_true d2];rfl)
       clear hgood hbad
       go_wp2_with (fail)
       go_roundg (n-i-1)
       case measure=>omega
       case rel=>exact⟨i+1,by omega,by go_num,HB,g2⟩
      ·skip
       have g2:Hid _:=hbad.out (by rw [hnb2.out,decide_eq_false d2,Bool.and_false])
       clear hgood hbad
       go_wp2_with (fail)
       go_ret
       exact⟨by have q:=g2.out;subst q;rfl,HB⟩
     ·skip
      have g2:Hid _:=hbad.out (by rw [hnb2.out,decide_eq_false d1,Bool.false_and])
      clear hgood hbad
      go_wp2_with (fail)
      go_ret
      exact⟨by have q:=g2.out;subst q;rfl,HB⟩
    have j8:(x.k==8)=false:=beq_eq_false_iff_ne.2 k8
    have hf:fieldB x=true:=by unfold fieldB;rw [if_neg k1,if_neg k2,if_neg k8]
    rw [hf] at hnb2
    clear hf k1 k2 k8
    have g2:Hid _:=hgood.out (by rw [hnb2.out])
    clear hgood hbad
    go_wp2_with (fail)
    go_roundg (n-i-1)
    case measure=>omega
    case rel=>exact⟨i+1,by omega,by go_num,HB,g2⟩
end Go.Proofs.Ytbejmklkicoibaa
