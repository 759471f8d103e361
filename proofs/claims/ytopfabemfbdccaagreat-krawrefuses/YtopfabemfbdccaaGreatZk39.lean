/- kraw: the values and the slopes of a question on a box. -/
import Derived.Test.YtopfabemfbdccaaGreatZk37
import Derived.Test.YtopfabemfbdccaaGreatZk38
import Derived.Test.YtopfabemfbdccaaGreatZk27
import Derived.Deep.RegionLaw
namespace Go.Proofs.YtopfabemfbdccaaGreat
open Go.ChangeShapes Go.WideShapes Go.ChangeAt Go.RowKit
def qnV (v:Int) (A:Option Addr) (n C:Nat) (D:Option Addr) (m E:Nat) (AP:Option Addr) (np CP:Nat):Value:=.agg #[.int .i64 v,.slice A n C,.slice D m E,.slice AP np CP]
structure HasQn (w:World) (b:Nat) (v:Int) (A:Option Addr) (n C:Nat) (D:Option Addr) (m E:Nat) (AP:Option Addr) (np CP:Nat):Prop where
 c0:w.cell? ⟨b,0,none⟩=some (.int .i64 v)
 c1:w.cell? ⟨b,1,none⟩=some (.slice A n C)
 c2:w.cell? ⟨b,2,none⟩=some (.slice D m E)
 c3:w.cell? ⟨b,3,none⟩=some (.slice AP np CP)
 lt:b<w.heap.size
theorem HasQn.keep {w w2:World} {b:Nat} {v:Int} {A:Option Addr} {n C:Nat} {D:Option Addr} {m E:Nat} {AP:Option Addr} {np CP:Nat} (h:HasQn w b v A n C D m E AP np CP) (hb:Below w.heap.size w w2):HasQn w2 b v A n C D m E AP np CP :=
 ⟨keepsC hb h.c0 h.lt,keepsC hb h.c1 h.lt,keepsC hb h.c2 h.lt,keepsC hb h.c3 h.lt,Nat.lt_of_lt_of_le h.lt hb.size⟩
theorem hasQn_new (w:World) (v:Int) (A:Option Addr) (n C:Nat) (D:Option Addr) (m E:Nat) (AP:Option Addr) (np CP:Nat):HasQn (w.alloc (.cells #[.int .i64 v,.slice A n C,.slice D m E,.slice AP np CP] 73)) w.heap.size v A n C D m E AP np CP :=
 ⟨by go_simp,by go_simp,by go_simp,by go_simp,by go_size⟩
theorem has2_newD (w:World) (x y:Value) (T:TypeId):Has2 (w.alloc (.cells #[x,y] T)).drew w.heap.size x y:=has2_new w x y T
set_option maxRecDepth 8000 in
set_option maxHeartbeats 4000000 in
theorem kval_core (v:Int) (A:Option Addr) (n C:Nat) (D:Option Addr) (m E:Nat) (AP:Option Addr) (np CP:Nat) (AX:Option Addr) (nx CX k:Nat) (XX:Nat->Nat×Nat) (R:World->Value->Int->Prop) (w:World)
  (cC:∀W g0,Below w.heap.size w W->Has2 W g0 (.slice AX nx CX) (.slice AP np CP)->Calls Tryz.prog 126 #[.slice (some ⟨g0,0,none⟩) 2 2] W fun e w'=>(∃g C',e=.returned (.slice (some ⟨g,0,none⟩) k C')/\Ivs w' (some ⟨g,0,none⟩) k XX)/\Below W.heap.size W w')
  (cE:∀W g C',Below w.heap.size w W->Ivs W (some ⟨g,0,none⟩) k XX->Calls Tryz.prog 226 #[tapeV v A n C D m E,.slice (some ⟨g,0,none⟩) k C'] W fun e w'=>(∃vb er,e=.returned (.tuple #[vb,.int .i64 er])/\R w' vb er)/\Below W.heap.size W w') :
  Calls Tryz.prog 182 #[qnV v A n C D m E AP np CP,.slice AX nx CX] w fun e w'=>(∃vb er,e=.returned (.tuple #[vb,.int .i64 er])/\R w' vb er)/\Below w.heap.size w w':=by
 have T:=hasQn_new w v A n C D m E AP np CP
 have HB:Below w.heap.size w (w.alloc (.cells #[.int .i64 v,.slice A n C,.slice D m E,.slice AP np CP] 73)):=by go_grown
 unfold qnV tapeV at *
 go_enter Tryz.func182,Tryz.ntmps182
 go_upto_region 1 with fail
 generalize (w.alloc (.cells #[.int .i64 v,.slice A n C,.slice D m E,.slice AP np CP] 73))=V1 at *
 obtain⟨t0,t1,t2,t3,tl⟩:=id T
 have cC':=fun W g0 (h:Below V1.heap.size V1 W)=>cC W g0 (later HB h)
 have cE':=fun W g C' (h:Below V1.heap.size V1 W)=>cE W g C' (later HB h)
 clear cC cE
 go_region_law
  (first
   | (go_simp;go_at_call 126;(with_reducible refine (cC' _ _ (by go_grown) (has2_newD _ _ _ _)).mono ?_);rintro _ W1 ⟨⟨g,C',rfl,VI⟩,hb1⟩;have hbW:Below V1.heap.size V1 W1:=later (by go_grown) hb1;have T1:=T.keep hbW;obtain⟨u0,u1,u2,u3,ul⟩:=id T1)
   | (go_simp;go_at_call 226;(with_reducible refine (cE' _ _ _ hbW VI).mono ?_);rintro _ W2 ⟨⟨vb,er,rfl,hR⟩,hb2⟩))
 all_goals
  go_wp2_with fail
  refine bodyPost_ret (v:=.tuple #[vb,.int .i64 er]) (by simp [results,Tryz.results182,go_sem, *]) rfl ⟨⟨vb,er,rfl,hR⟩,later HB (later hbW hb2)⟩
def GrAns (B:Nat) (w:World) (m k:Nat) (VV:Nat->Nat×Nat) (DD:Nat->Nat->Nat×Nat) (Gd:Prop) (Er:Int->Prop) (vb vd:Value) (er:Int):Prop :=
 (∃g h SA SC,vb=.slice (some ⟨g,0,none⟩) m m/\vd=.slice (some ⟨h,0,none⟩) m m/\er=0/\Img w g m VV/\Rws w (some ⟨h,0,none⟩) m SA (fun _=>k) SC DD/\SlO B w h m k SA SC/\Gd)\/(vb=.slice none 0 0/\vd=.slice none 0 0/\Er er)
theorem GrAns.low {B B':Nat} {w:World} {m k:Nat} {VV:Nat->Nat×Nat} {DD:Nat->Nat->Nat×Nat} {Gd:Prop} {Er:Int->Prop} {vb vd:Value} {er:Int} (h:GrAns B w m k VV DD Gd Er vb vd er) (hb:B'<=B):GrAns B' w m k VV DD Gd Er vb vd er :=
 h.imp (fun ⟨g,h,SA,SC,a,b,c,d,e,f,q⟩=>⟨g,h,SA,SC,a,b,c,d,e,f.low hb,q⟩) id
def SpAns (w:World) (m k:Nat) (VV:Nat->Nat×Nat) (DD:Nat->Nat->Nat×Nat) (Gd:Prop) (Er:Int->Prop) (vb vd:Value) (er:Int):Prop :=
 (∃g h SA SC,vb=.slice (some ⟨g,0,none⟩) m m/\vd=.slice (some ⟨h,0,none⟩) m m/\er=0/\Img w g m VV/\Rws w (some ⟨h,0,none⟩) m SA (fun _=>k) SC DD/\Gd)\/(vb=.slice none 0 0/\vd=.slice none 0 0/\Er er)
theorem Ivs.pre {w:World} {A:Option Addr} {n k:Nat} {X:Nat->Nat×Nat} (h:Ivs w A n X) (hk:k<=n):Ivs w A k X:=fun i hi=>h i (by omega)
set_option maxRecDepth 8000 in
set_option maxHeartbeats 8000000 in
theorem kslope_core (v:Int) (A:Option Addr) (n C:Nat) (D:Option Addr) (m E:Nat) (AP:Option Addr) (np CP:Nat) (AX:Option Addr) (nx CX k:Nat) (XX VV:Nat->Nat×Nat) (DD:Nat->Nat->Nat×Nat) (Gd:Prop) (Er:Int->Prop) (hm:1<=m/\m<=400) (hx:1<=nx/\nx<=k) (hk:k<=64) (w:World)
  (cC:∀W g0,Below w.heap.size w W->Has2 W g0 (.slice AX nx CX) (.slice AP np CP)->Calls Tryz.prog 126 #[.slice (some ⟨g0,0,none⟩) 2 2] W fun e w'=>(∃g C',e=.returned (.slice (some ⟨g,0,none⟩) k C')/\Ivs w' (some ⟨g,0,none⟩) k XX)/\Below W.heap.size W w')
  (cE:∀W g C',Below w.heap.size w W->Ivs W (some ⟨g,0,none⟩) k XX->Calls Tryz.prog 29 #[tapeV v A n C D m E,.slice (some ⟨g,0,none⟩) k C'] W fun e w'=>(∃vb vd er,e=.returned (.tuple #[vb,vd,.int .i64 er])/\GrAns W.heap.size w' m k VV DD Gd Er vb vd er)/\Below W.heap.size W w') :
  Calls Tryz.prog 65 #[qnV v A n C D m E AP np CP,.slice AX nx CX] w fun e w'=>(∃vb vd er,e=.returned (.tuple #[vb,vd,.int .i64 er])/\SpAns w' m nx VV DD Gd Er vb vd er)/\Below w.heap.size w w':=by
 have T:=hasQn_new w v A n C D m E AP np CP
 have HB:Below w.heap.size w (w.alloc (.cells #[.int .i64 v,.slice A n C,.slice D m E,.slice AP np CP] 73)):=by go_grown
 unfold qnV tapeV at *
 go_enter Tryz.func65,Tryz.ntmps65
 go_upto_region 1 with fail
 generalize (w.alloc (.cells #[.int .i64 v,.slice A n C,.slice D m E,.slice AP np CP] 73))=V1 at *
 obtain⟨t0,t1,t2,t3,tl⟩:=id T
 have cC':=fun W g0 (h:Below V1.heap.size V1 W)=>cC W g0 (later HB h)
 have cE':=fun W g C' (h:Below V1.heap.size V1 W)=>cE W g C' (later HB h)
 clear cC cE
 go_cut [7,8,9] from 11 to 22 (fun s7 s8 s9 wx=>∃vb vd er,s7=vb/\s8=vd/\s9=.int .i64 er/\Below w.heap.size w wx/\GrAns w.heap.size wx m k VV DD Gd Er vb vd er)
 case first =>
  go_region_law
   (first
    | (go_simp;go_at_call 126;(with_reducible refine (cC' _ _ (by go_grown) (has2_newD _ _ _ _)).mono ?_);rintro _ W1 ⟨⟨g,C',rfl,VI⟩,hb1⟩;have hbW:Below V1.heap.size V1 W1:=later (by go_grown) hb1;have T1:=T.keep hbW;obtain⟨u0,u1,u2,u3,ul⟩:=id T1)
    | (go_simp;go_at_call 29;(with_reducible refine (cE' _ _ _ hbW VI).mono ?_);rintro _ W2 ⟨⟨vb,vd,er,rfl,hR⟩,hb2⟩))
  all_goals
   go_wp2_with fail
   go_meet
   exact⟨vb,vd,er,rfl,rfl,rfl,later (later HB hbW) hb2,hR.low (later HB hbW).size⟩
 case rest =>
  obtain⟨vb,vd,er,rfl,rfl,rfl,HB2,hG⟩:=hcut
  clear T HB t0 t1 t2 t3 tl cC' cE'
  rcases hG with ⟨g,h,SA,SC,rfl,rfl,rfl,hI,hR,hS,hGd⟩ | ⟨rfl,rfl,hE⟩
  ·have hne:g≠h:=fun e=>by
    subst e
    have q1:=(hI.2 0 (by omega)).1
    have q2:=(hS.out.2 0 (by omega)).1
    rw [Nat.zero_mul] at q1
    rw [q1] at q2
    cases q2
   have hn:=hS.new
   go_wp2_with fail
   obtain⟨w1,rfl⟩:∃w1,w1=wc:=⟨_,rfl⟩
   go_loopg [25] m (fun G s25 wx=>Below w.heap.size w wx/\Bex h w1 wx/\∃r:Nat,r+G=m/\s25=.int .i64 (r:Int)/\Out wx h m (fun i=>.slice (SA i) (if i<r then nx else k) (SC i)))
   case atStart=>exact⟨HB2,⟨Nat.le_refl _,fun _ _ _=>rfl⟩,0,by omega,rfl,hS.out.congr fun i _=>by simp⟩
   case round =>
    clear HB2
    obtain⟨HB,hX,r,hr,rfl,hO⟩:=hrel
    by_cases cr:r=m
    ·subst cr
     go_wp2_with fail
     refine bodyPost_ret (v:=.tuple #[.slice (some ⟨g,0,none⟩) r r,.slice (some ⟨h,0,none⟩) r r,.int .i64 0]) (by simp [results,Tryz.results65,go_sem, *]) rfl ⟨⟨_,_,_,rfl,Or.inl ⟨g,h,SA,SC,rfl,rfl,rfl,hI.block hX.size (hX.block g hI.1 hne),fun i hi=>?_,hGd⟩⟩,HB⟩
     obtain⟨b,o,e,l,c0,l0,I⟩:=hR i hi
     refine⟨h,0,rfl,hO.1, ?_,show nx<=9223372036854775807 by omega,(I.ex hX (hS.off i hi)).pre hx.2⟩
     have:=(hO.2 i hi).1
     simp only [hi,if_true] at this
     rw [Nat.zero_add]
     exact this
    ·have hlt:(r:Int)<(m:Int):=by omega
     obtain⟨b,o,e,l,c0,l0,I⟩:=hR r (by omega)
     obtain⟨b1,o1,eA, -⟩:=I 0 (show 0<k by omega)
     obtain⟨p0,p1⟩:=id (hO.2 r (by omega))
     simp only [show ¬r<r by omega,if_false] at p0
     have gl:=hO.1
     have hc:=hS.cap r (by omega)
     have hc2:nx<=SC r:=by omega
     have hSA:Hid (SA r=some ⟨b1,o1,none⟩):=eA
     rw [eA] at p0
     generalize hsc:SC r=sc at p0 hc hc2
     clear I c0 e
     go_wp2_with fail
     go_roundg (m-r-1)
     case measure=>omega
     case rel =>
      refine⟨HB.setCell hn _,hX.set _ _,r+1,by omega,by go_num,(hO.set r _ (by omega)).congr fun i hi=>?_⟩
      by_cases e:i=r
      ·subst e
       have hA:SA i=some ⟨b1,o1,none⟩:=hSA
       simp [hA,hsc]
      ·simp only [e,if_false]
       by_cases q:i<r
       ·simp [q,show i<r+1 by omega]
       ·simp [q,show ¬i<r+1 by omega]
  ·go_wp2_with fail
   obtain⟨w1,rfl⟩:∃w1,w1=wc:=⟨_,rfl⟩
   go_loopg [25] 0 (fun G s25 wx=>wx=w1/\s25=.int .i64 0)
   case atStart=>exact⟨rfl,rfl⟩
   case round =>
    obtain⟨rfl,rfl⟩:=hrel
    go_wp2_with fail
    refine bodyPost_ret (v:=.tuple #[.slice none 0 0,.slice none 0 0,.int .i64 er]) (by simp [results,Tryz.results65,go_sem, *]) rfl ⟨⟨_,_,_,rfl,Or.inr ⟨rfl,rfl,hE⟩⟩,HB2⟩
end Go.Proofs.YtopfabemfbdccaaGreat
