/- Slopes: nextSlopes. -/
import Derived.Test.YtopfabemfbdccaaGreatZk42
import Derived.Test.YtopfabemfbdccaaGreatZk22
namespace Go.Proofs.YtopfabemfbdccaaGreat
open Go.ChangeShapes Go.WideShapes Go.ChangeAt Go.RowKit
set_option maxRecDepth 4000 in
set_option maxHeartbeats 2000000 in
theorem ns_out (oa ob n:Int) (l v:Nat×Nat) (all sl:Value) (m:Nat) (hm0:0<(m:Int)) (c1:∀w,Calls Tryz.prog 136 #[.agg #[.float .f64 v.1,.float .f64 v.2],.float .f64 0] w fun e w'=>e=.returned (.bool true)/\Below w.heap.size w w') (w:World) :
  Calls Tryz.prog 71 #[.agg #[.int .i64 9,.int .i64 oa,.int .i64 ob,.int .i64 n,.float .f64 l.1,.float .f64 l.2],.agg #[.float .f64 v.1,.float .f64 v.2],all,sl,.int .i64 (m:Int)] w fun e w'=>e=.returned (.tuple #[.slice none 0 0,.int .i64 51])/\Below w.heap.size w w':=by
 go_enter Tryz.func71,Tryz.ntmps71
 go_upto_region 1 with fail
 have HB:Below w.heap.size w ((w.alloc (.cells #[.int .i64 9,.int .i64 oa,.int .i64 ob,.int .i64 n,.float .f64 l.1,.float .f64 l.2] 77)).alloc (.cells #[.float .f64 v.1,.float .f64 v.2] 24)):=by go_grown
 go_wp2_with (go_at_call 136;refine (c1 _).mono ?_;rintro _ V2 ⟨rfl,hb1⟩;replace HB:=later HB hb1)
 refine bodyPost_ret (v:=.tuple #[.slice none 0 0,.int .i64 51]) (by simp [results,Tryz.results71,go_sem, *]) rfl ⟨rfl,HB⟩
def allT (m:Nat) (G:Nat->Nat×Nat):Bool:=(List.range m).all fun j=>bndB (G j)
theorem img_new {w:World} {g m:Nat} {xs:Nat->Nat×Nat} (G:Nat->Nat×Nat) {r:Nat} (hr:r<m) (h:Img w g m (fun i=>if i<r then G i else xs i)) :
  Img ((w.setCell ⟨g,r*2,none⟩ (.float .f64 (G r).1)).setCell ⟨g,r*2+1,none⟩ (.float .f64 (G r).2)) g m (fun i=>if i<r+1 then G i else xs i):=by
 refine (h.set r (G r).1 (G r).2 hr).congr fun i _=>?_
 by_cases c:i=r
 ·subst c;rw [if_pos rfl,if_pos (by omega)]
 ·rw [if_neg c]
  by_cases d:i<r
  ·rw [if_pos d,if_pos (by omega)]
  ·rw [if_neg d,if_neg (by omega)]
theorem allT_all {m:Nat} {G:Nat->Nat×Nat} (h:Hid (∀j,j<m->bndB (G j)=true)):allT m G=true:=by
 unfold allT
 rw [List.all_eq_true]
 exact fun j hj=>h.out j (List.mem_range.1 hj)
theorem allT_not {m r:Nat} {G:Nat->Nat×Nat} (hr:r<m) (h:bndB (G r)=false):allT m G=false:=by
 unfold allT
 rw [List.all_eq_false]
 exact⟨r,List.mem_range.2 hr,by rw [h];simp⟩
set_option maxRecDepth 4000 in
set_option maxHeartbeats 8000000 in
theorem ns_row (k oa ob n:Int) (l v:Nat×Nat) (all sl:Value) (m:Nat) (hm:m<=64) (G:Nat->Nat×Nat) (hG:∀j,j<m->W2 (G j)) (t:Bool) (hz:(m=0)\/(0<(m:Int)/\((k==9)=false))\/(0<(m:Int)/\k=9/\t=false)) (c1:∀w,Calls Tryz.prog 136 #[.agg #[.float .f64 v.1,.float .f64 v.2],.float .f64 0] w fun e w'=>e=.returned (.bool t)/\Below w.heap.size w w') (w:World)
  (cr:∀x W,Below w.heap.size w W->w.heap.size<=x->x<W.heap.size->Calls Tryz.prog 137 #[.agg #[.int .i64 k,.int .i64 oa,.int .i64 ob,.int .i64 n,.float .f64 l.1,.float .f64 l.2],.agg #[.float .f64 v.1,.float .f64 v.2],all,sl] W fun e w'=>(∃fv,e=.returned fv/\Rule x w' fv m G)/\Below W.heap.size W w') :
  Calls Tryz.prog 71 #[.agg #[.int .i64 k,.int .i64 oa,.int .i64 ob,.int .i64 n,.float .f64 l.1,.float .f64 l.2],.agg #[.float .f64 v.1,.float .f64 v.2],all,sl,.int .i64 (m:Int)] w fun e w' =>
   ((allT m G=true/\∃g,w.heap.size<=g/\e=.returned (.tuple #[.slice (some ⟨g,0,none⟩) m m,.int .i64 0])/\Img w' g m G)\/(allT m G=false/\e=.returned (.tuple #[.slice none 0 0,.int .i64 5])))/\Below w.heap.size w w':=by
 have O:=hasO_new w k oa ob n l
 have Bv:=has2_new (w.alloc (.cells #[.int .i64 k,.int .i64 oa,.int .i64 ob,.int .i64 n,.float .f64 l.1,.float .f64 l.2] 77)) (.float .f64 v.1) (.float .f64 v.2) 24
 replace O:=O.alloc (.cells #[.float .f64 v.1,.float .f64 v.2] 24)
 simp only [World.size_alloc] at Bv
 have HB:Below w.heap.size w ((w.alloc (.cells #[.int .i64 k,.int .i64 oa,.int .i64 ob,.int .i64 n,.float .f64 l.1,.float .f64 l.2] 77)).alloc (.cells #[.float .f64 v.1,.float .f64 v.2] 24)):=by go_grown
 go_enter Tryz.func71,Tryz.ntmps71
 go_upto_region 1 with fail
 generalize ((w.alloc (.cells #[.int .i64 k,.int .i64 oa,.int .i64 ob,.int .i64 n,.float .f64 l.1,.float .f64 l.2] 77)).alloc (.cells #[.float .f64 v.1,.float .f64 v.2] 24))=V1 at *
 go_cut [25] from 15 to 24 (fun s25 wx=>s25=.bool false/\Below V1.heap.size V1 wx)
 case first =>
  obtain⟨o0,o1,o2,o3,o4,o5,ol⟩:=id O
  obtain⟨v0,v1,v2,v3,v4⟩:=id Bv
  rcases hz with rfl | ⟨h1,h2⟩ | ⟨h1,rfl,rfl⟩
  ·go_wp2_with fail
   go_meet
   case rel=>exact⟨rfl,Below.refl _ _⟩
  ·go_wp2_with fail
   go_meet
   case rel=>exact⟨rfl,Below.refl _ _⟩
  ·go_wp2_with (go_at_call 136;refine (c1 _).mono ?_;rintro _ V2 ⟨rfl,hb1⟩)
   go_meet
   case rel=>exact⟨rfl,hb1⟩
 case rest =>
  obtain⟨rfl,hb1⟩:=hcut
  replace O:=O.keep hb1
  replace Bv:=Bv.keep hb1
  replace HB:=later HB hb1
  clear hb1 hz c1
  have HG:Hid (∀j,j<m->W2 (G j)):=hG
  clear hG
  go_upto_region 4 with (at_make;refine wpList_makeI (by rfl) _ _ (by rfl) m (by rfl) (by rfl) (by omega) ?_;intro w3 hI hb3 hs3)
  have hg0:w.heap.size<=wc.heap.size:=HB.size
  replace O:=O.keep hb3
  replace Bv:=Bv.keep hb3
  replace HB:=later HB hb3
  clear hb3
  generalize wc.heap.size=g0 at *
  obtain⟨o0,o1,o2,o3,o4,o5,ol⟩:=id O
  obtain⟨v0,v1,v2,v3,v4⟩:=id Bv
  go_upto_region 5 with (go_at_call 137;refine (cr g0 _ HB hg0 hs3).mono ?_;rintro _ V5 ⟨⟨fv,rfl,fg,caps,rfl,hL,hc⟩,hb5⟩)
  replace hI:=hI.keep hb5
  replace HB:=later HB hb5
  have BX:Bex g0 V5 V5:=Bex.of g0 (Below.refl _ _)
  clear o0 o1 o2 o3 o4 o5 ol v0 v1 v2 v3 v4 O Bv cr hb5
  go_wp2_with fail
  unfold Lit at hL
  rcases hL with hL | hL | hL | hL | hL | hL | hL | hL | hL | hL
  ·obtain⟨rfl,rfl⟩:=hL
   have hc:∀j,j<m->∀W,Bex g0 V5 W->Calls Tryz.prog 194 #[.int .i64 (j:Int)] W fun e w'=>e=.returned (.agg #[.float .f64 (G j).1,.float .f64 (G j).2])/\Below W.heap.size W w':=fun j hj W hW=>hc j hj W hW
   go_loopg [35] m (fun Gk s35 wx=>Below w.heap.size w wx/\Bex g0 V5 wx/\∃r:Nat,r+Gk=m/\s35=.int .i64 (r:Int)/\Img wx g0 m (fun i=>if i<r then G i else (0,0))/\Hid (∀j,j<r->bndB (G j)=true))
   case atStart=>exact⟨HB,BX,0,by omega,rfl,hI.congr fun i _=>by simp,fun j hj=>absurd hj (by omega)⟩
   case round =>
    clear HB hI BX
    obtain⟨HB,BX,r,hr,rfl,hI,hall⟩:=hrel
    by_cases cr:r=m
    ·subst cr
     go_wp2_with fail
     refine bodyPost_ret (v:=.tuple #[.slice (some ⟨g0,0,none⟩) r r,.int .i64 0]) (by simp [results,Tryz.results71,go_sem, *]) rfl ⟨Or.inl ⟨allT_all hall,g0,hg0,rfl,hI.congr fun i hi=>by simp [hi]⟩,HB⟩
    ·have hlt:(r:Int)<(m:Int):=by omega
     have cc:=hc r (by omega) wr BX
     have cb:=fun w=>cBnd (HG r (by omega)) w
     cases hbd:bndB (G r)
     ·rw [hbd] at cb
      have hno:allT m G=false:=allT_not (by omega) hbd
      clear hbd
      go_wp2_with (first
       | (go_at_call 194;refine cc.mono ?_;rintro _ w4 ⟨rfl,hb1⟩;replace hI:=hI.keep hb1;replace HB:=later HB hb1;obtain⟨i0,i1,f0,f1⟩:=id (hI.2 r (by omega)))
       | (go_at_call 135;refine (cb _).mono ?_;rintro _ w5 ⟨rfl,hb2⟩))
      refine bodyPost_ret (v:=.tuple #[.slice none 0 0,.int .i64 5]) (by simp [results,Tryz.results71,go_sem, *]) rfl ⟨Or.inr ⟨hno,rfl⟩,later ?_ hb2⟩
      repeat' (first | (with_reducible exact HB) | (with_reducible refine Below.setCell ?_ ?_ _) | go_size | omega)
     ·rw [hbd] at cb
      have hall2:Hid (∀j,j<r+1->bndB (G j)=true):=fun j hj=>by
       rcases Nat.lt_or_ge j r with c | c
       ·exact hall.out j c
       ·rw [show j=r by omega];exact hbd
      clear hbd hall
      go_wp2_with (first
       | (go_at_call 194;refine cc.mono ?_;rintro _ w4 ⟨rfl,hb1⟩;replace hI:=hI.keep hb1;replace HB:=later HB hb1;replace BX:=BX.trans (Bex.of g0 hb1);obtain⟨i0,i1,f0,f1⟩:=id (hI.2 r (by omega)))
       | (go_at_call 135;refine (cb _).mono ?_;rintro _ w5 ⟨rfl,hb2⟩))
      go_roundg (m-r-1)
      case measure=>omega
      case rel =>
       refine⟨later ?_ hb2,((BX.set _ _).set _ _).trans (Bex.of g0 hb2),r+1,by omega,by go_num,(img_new G (by omega) hI).keep hb2,hall2⟩
       repeat' (first | (with_reducible exact HB) | (with_reducible refine Below.setCell ?_ ?_ _) | go_size | omega)
  ·obtain⟨y0,rfl,rfl⟩:=hL
   have hc:∀j,j<m->∀W,Bex g0 V5 W->Calls Tryz.prog 195 #[.int .i64 (j:Int),y0] W fun e w'=>e=.returned (.agg #[.float .f64 (G j).1,.float .f64 (G j).2])/\Below W.heap.size W w':=fun j hj W hW=>hc j hj W hW
   go_loopg [35] m (fun Gk s35 wx=>Below w.heap.size w wx/\Bex g0 V5 wx/\∃r:Nat,r+Gk=m/\s35=.int .i64 (r:Int)/\Img wx g0 m (fun i=>if i<r then G i else (0,0))/\Hid (∀j,j<r->bndB (G j)=true))
   case atStart=>exact⟨HB,BX,0,by omega,rfl,hI.congr fun i _=>by simp,fun j hj=>absurd hj (by omega)⟩
   case round =>
    clear HB hI BX
    obtain⟨HB,BX,r,hr,rfl,hI,hall⟩:=hrel
    by_cases cr:r=m
    ·subst cr
     go_wp2_with fail
     refine bodyPost_ret (v:=.tuple #[.slice (some ⟨g0,0,none⟩) r r,.int .i64 0]) (by simp [results,Tryz.results71,go_sem, *]) rfl ⟨Or.inl ⟨allT_all hall,g0,hg0,rfl,hI.congr fun i hi=>by simp [hi]⟩,HB⟩
    ·have hlt:(r:Int)<(m:Int):=by omega
     have cc:=hc r (by omega) wr BX
     have cb:=fun w=>cBnd (HG r (by omega)) w
     cases hbd:bndB (G r)
     ·rw [hbd] at cb
      have hno:allT m G=false:=allT_not (by omega) hbd
      clear hbd
      go_wp2_with (first
       | (go_at_call 195;refine cc.mono ?_;rintro _ w4 ⟨rfl,hb1⟩;replace hI:=hI.keep hb1;replace HB:=later HB hb1;obtain⟨i0,i1,f0,f1⟩:=id (hI.2 r (by omega)))
       | (go_at_call 135;refine (cb _).mono ?_;rintro _ w5 ⟨rfl,hb2⟩))
      refine bodyPost_ret (v:=.tuple #[.slice none 0 0,.int .i64 5]) (by simp [results,Tryz.results71,go_sem, *]) rfl ⟨Or.inr ⟨hno,rfl⟩,later ?_ hb2⟩
      repeat' (first | (with_reducible exact HB) | (with_reducible refine Below.setCell ?_ ?_ _) | go_size | omega)
     ·rw [hbd] at cb
      have hall2:Hid (∀j,j<r+1->bndB (G j)=true):=fun j hj=>by
       rcases Nat.lt_or_ge j r with c | c
       ·exact hall.out j c
       ·rw [show j=r by omega];exact hbd
      clear hbd hall
      go_wp2_with (first
       | (go_at_call 195;refine cc.mono ?_;rintro _ w4 ⟨rfl,hb1⟩;replace hI:=hI.keep hb1;replace HB:=later HB hb1;replace BX:=BX.trans (Bex.of g0 hb1);obtain⟨i0,i1,f0,f1⟩:=id (hI.2 r (by omega)))
       | (go_at_call 135;refine (cb _).mono ?_;rintro _ w5 ⟨rfl,hb2⟩))
      go_roundg (m-r-1)
      case measure=>omega
      case rel =>
       refine⟨later ?_ hb2,((BX.set _ _).set _ _).trans (Bex.of g0 hb2),r+1,by omega,by go_num,(img_new G (by omega) hI).keep hb2,hall2⟩
       repeat' (first | (with_reducible exact HB) | (with_reducible refine Below.setCell ?_ ?_ _) | go_size | omega)
  ·obtain⟨y0,y1,rfl,rfl⟩:=hL
   have hc:∀j,j<m->∀W,Bex g0 V5 W->Calls Tryz.prog 197 #[.int .i64 (j:Int),y0,y1] W fun e w'=>e=.returned (.agg #[.float .f64 (G j).1,.float .f64 (G j).2])/\Below W.heap.size W w':=fun j hj W hW=>hc j hj W hW
   go_loopg [35] m (fun Gk s35 wx=>Below w.heap.size w wx/\Bex g0 V5 wx/\∃r:Nat,r+Gk=m/\s35=.int .i64 (r:Int)/\Img wx g0 m (fun i=>if i<r then G i else (0,0))/\Hid (∀j,j<r->bndB (G j)=true))
   case atStart=>exact⟨HB,BX,0,by omega,rfl,hI.congr fun i _=>by simp,fun j hj=>absurd hj (by omega)⟩
   case round =>
    clear HB hI BX
    obtain⟨HB,BX,r,hr,rfl,hI,hall⟩:=hrel
    by_cases cr:r=m
    ·subst cr
     go_wp2_with fail
     refine bodyPost_ret (v:=.tuple #[.slice (some ⟨g0,0,none⟩) r r,.int .i64 0]) (by simp [results,Tryz.results71,go_sem, *]) rfl ⟨Or.inl ⟨allT_all hall,g0,hg0,rfl,hI.congr fun i hi=>by simp [hi]⟩,HB⟩
    ·have hlt:(r:Int)<(m:Int):=by omega
     have cc:=hc r (by omega) wr BX
     have cb:=fun w=>cBnd (HG r (by omega)) w
     cases hbd:bndB (G r)
     ·rw [hbd] at cb
      have hno:allT m G=false:=allT_not (by omega) hbd
      clear hbd
      go_wp2_with (first
       | (go_at_call 197;refine cc.mono ?_;rintro _ w4 ⟨rfl,hb1⟩;replace hI:=hI.keep hb1;replace HB:=later HB hb1;obtain⟨i0,i1,f0,f1⟩:=id (hI.2 r (by omega)))
       | (go_at_call 135;refine (cb _).mono ?_;rintro _ w5 ⟨rfl,hb2⟩))
      refine bodyPost_ret (v:=.tuple #[.slice none 0 0,.int .i64 5]) (by simp [results,Tryz.results71,go_sem, *]) rfl ⟨Or.inr ⟨hno,rfl⟩,later ?_ hb2⟩
      repeat' (first | (with_reducible exact HB) | (with_reducible refine Below.setCell ?_ ?_ _) | go_size | omega)
     ·rw [hbd] at cb
      have hall2:Hid (∀j,j<r+1->bndB (G j)=true):=fun j hj=>by
       rcases Nat.lt_or_ge j r with c | c
       ·exact hall.out j c
       ·rw [show j=r by omega];exact hbd
      clear hbd hall
      go_wp2_with (first
       | (go_at_call 197;refine cc.mono ?_;rintro _ w4 ⟨rfl,hb1⟩;replace hI:=hI.keep hb1;replace HB:=later HB hb1;replace BX:=BX.trans (Bex.of g0 hb1);obtain⟨i0,i1,f0,f1⟩:=id (hI.2 r (by omega)))
       | (go_at_call 135;refine (cb _).mono ?_;rintro _ w5 ⟨rfl,hb2⟩))
      go_roundg (m-r-1)
      case measure=>omega
      case rel =>
       refine⟨later ?_ hb2,((BX.set _ _).set _ _).trans (Bex.of g0 hb2),r+1,by omega,by go_num,(img_new G (by omega) hI).keep hb2,hall2⟩
       repeat' (first | (with_reducible exact HB) | (with_reducible refine Below.setCell ?_ ?_ _) | go_size | omega)
  ·obtain⟨y0,y1,rfl,rfl⟩:=hL
   have hc:∀j,j<m->∀W,Bex g0 V5 W->Calls Tryz.prog 198 #[.int .i64 (j:Int),y0,y1] W fun e w'=>e=.returned (.agg #[.float .f64 (G j).1,.float .f64 (G j).2])/\Below W.heap.size W w':=fun j hj W hW=>hc j hj W hW
   go_loopg [35] m (fun Gk s35 wx=>Below w.heap.size w wx/\Bex g0 V5 wx/\∃r:Nat,r+Gk=m/\s35=.int .i64 (r:Int)/\Img wx g0 m (fun i=>if i<r then G i else (0,0))/\Hid (∀j,j<r->bndB (G j)=true))
   case atStart=>exact⟨HB,BX,0,by omega,rfl,hI.congr fun i _=>by simp,fun j hj=>absurd hj (by omega)⟩
   case round =>
    clear HB hI BX
    obtain⟨HB,BX,r,hr,rfl,hI,hall⟩:=hrel
    by_cases cr:r=m
    ·subst cr
     go_wp2_with fail
     refine bodyPost_ret (v:=.tuple #[.slice (some ⟨g0,0,none⟩) r r,.int .i64 0]) (by simp [results,Tryz.results71,go_sem, *]) rfl ⟨Or.inl ⟨allT_all hall,g0,hg0,rfl,hI.congr fun i hi=>by simp [hi]⟩,HB⟩
    ·have hlt:(r:Int)<(m:Int):=by omega
     have cc:=hc r (by omega) wr BX
     have cb:=fun w=>cBnd (HG r (by omega)) w
     cases hbd:bndB (G r)
     ·rw [hbd] at cb
      have hno:allT m G=false:=allT_not (by omega) hbd
      clear hbd
      go_wp2_with (first
       | (go_at_call 198;refine cc.mono ?_;rintro _ w4 ⟨rfl,hb1⟩;replace hI:=hI.keep hb1;replace HB:=later HB hb1;obtain⟨i0,i1,f0,f1⟩:=id (hI.2 r (by omega)))
       | (go_at_call 135;refine (cb _).mono ?_;rintro _ w5 ⟨rfl,hb2⟩))
      refine bodyPost_ret (v:=.tuple #[.slice none 0 0,.int .i64 5]) (by simp [results,Tryz.results71,go_sem, *]) rfl ⟨Or.inr ⟨hno,rfl⟩,later ?_ hb2⟩
      repeat' (first | (with_reducible exact HB) | (with_reducible refine Below.setCell ?_ ?_ _) | go_size | omega)
     ·rw [hbd] at cb
      have hall2:Hid (∀j,j<r+1->bndB (G j)=true):=fun j hj=>by
       rcases Nat.lt_or_ge j r with c | c
       ·exact hall.out j c
       ·rw [show j=r by omega];exact hbd
      clear hbd hall
      go_wp2_with (first
       | (go_at_call 198;refine cc.mono ?_;rintro _ w4 ⟨rfl,hb1⟩;replace hI:=hI.keep hb1;replace HB:=later HB hb1;replace BX:=BX.trans (Bex.of g0 hb1);obtain⟨i0,i1,f0,f1⟩:=id (hI.2 r (by omega)))
       | (go_at_call 135;refine (cb _).mono ?_;rintro _ w5 ⟨rfl,hb2⟩))
      go_roundg (m-r-1)
      case measure=>omega
      case rel =>
       refine⟨later ?_ hb2,((BX.set _ _).set _ _).trans (Bex.of g0 hb2),r+1,by omega,by go_num,(img_new G (by omega) hI).keep hb2,hall2⟩
       repeat' (first | (with_reducible exact HB) | (with_reducible refine Below.setCell ?_ ?_ _) | go_size | omega)
  ·obtain⟨y0,y1,y2,y3,rfl,rfl⟩:=hL
   have hc:∀j,j<m->∀W,Bex g0 V5 W->Calls Tryz.prog 199 #[.int .i64 (j:Int),y0,y1,y2,y3] W fun e w'=>e=.returned (.agg #[.float .f64 (G j).1,.float .f64 (G j).2])/\Below W.heap.size W w':=fun j hj W hW=>hc j hj W hW
   go_loopg [35] m (fun Gk s35 wx=>Below w.heap.size w wx/\Bex g0 V5 wx/\∃r:Nat,r+Gk=m/\s35=.int .i64 (r:Int)/\Img wx g0 m (fun i=>if i<r then G i else (0,0))/\Hid (∀j,j<r->bndB (G j)=true))
   case atStart=>exact⟨HB,BX,0,by omega,rfl,hI.congr fun i _=>by simp,fun j hj=>absurd hj (by omega)⟩
   case round =>
    clear HB hI BX
    obtain⟨HB,BX,r,hr,rfl,hI,hall⟩:=hrel
    by_cases cr:r=m
    ·subst cr
     go_wp2_with fail
     refine bodyPost_ret (v:=.tuple #[.slice (some ⟨g0,0,none⟩) r r,.int .i64 0]) (by simp [results,Tryz.results71,go_sem, *]) rfl ⟨Or.inl ⟨allT_all hall,g0,hg0,rfl,hI.congr fun i hi=>by simp [hi]⟩,HB⟩
    ·have hlt:(r:Int)<(m:Int):=by omega
     have cc:=hc r (by omega) wr BX
     have cb:=fun w=>cBnd (HG r (by omega)) w
     cases hbd:bndB (G r)
     ·rw [hbd] at cb
      have hno:allT m G=false:=allT_not (by omega) hbd
      clear hbd
      go_wp2_with (first
       | (go_at_call 199;refine cc.mono ?_;rintro _ w4 ⟨rfl,hb1⟩;replace hI:=hI.keep hb1;replace HB:=later HB hb1;obtain⟨i0,i1,f0,f1⟩:=id (hI.2 r (by omega)))
       | (go_at_call 135;refine (cb _).mono ?_;rintro _ w5 ⟨rfl,hb2⟩))
      refine bodyPost_ret (v:=.tuple #[.slice none 0 0,.int .i64 5]) (by simp [results,Tryz.results71,go_sem, *]) rfl ⟨Or.inr ⟨hno,rfl⟩,later ?_ hb2⟩
      repeat' (first | (with_reducible exact HB) | (with_reducible refine Below.setCell ?_ ?_ _) | go_size | omega)
     ·rw [hbd] at cb
      have hall2:Hid (∀j,j<r+1->bndB (G j)=true):=fun j hj=>by
       rcases Nat.lt_or_ge j r with c | c
       ·exact hall.out j c
       ·rw [show j=r by omega];exact hbd
      clear hbd hall
      go_wp2_with (first
       | (go_at_call 199;refine cc.mono ?_;rintro _ w4 ⟨rfl,hb1⟩;replace hI:=hI.keep hb1;replace HB:=later HB hb1;replace BX:=BX.trans (Bex.of g0 hb1);obtain⟨i0,i1,f0,f1⟩:=id (hI.2 r (by omega)))
       | (go_at_call 135;refine (cb _).mono ?_;rintro _ w5 ⟨rfl,hb2⟩))
      go_roundg (m-r-1)
      case measure=>omega
      case rel =>
       refine⟨later ?_ hb2,((BX.set _ _).set _ _).trans (Bex.of g0 hb2),r+1,by omega,by go_num,(img_new G (by omega) hI).keep hb2,hall2⟩
       repeat' (first | (with_reducible exact HB) | (with_reducible refine Below.setCell ?_ ?_ _) | go_size | omega)
  ·obtain⟨y0,y1,y2,y3,rfl,rfl⟩:=hL
   have hc:∀j,j<m->∀W,Bex g0 V5 W->Calls Tryz.prog 200 #[.int .i64 (j:Int),y0,y1,y2,y3] W fun e w'=>e=.returned (.agg #[.float .f64 (G j).1,.float .f64 (G j).2])/\Below W.heap.size W w':=fun j hj W hW=>hc j hj W hW
   go_loopg [35] m (fun Gk s35 wx=>Below w.heap.size w wx/\Bex g0 V5 wx/\∃r:Nat,r+Gk=m/\s35=.int .i64 (r:Int)/\Img wx g0 m (fun i=>if i<r then G i else (0,0))/\Hid (∀j,j<r->bndB (G j)=true))
   case atStart=>exact⟨HB,BX,0,by omega,rfl,hI.congr fun i _=>by simp,fun j hj=>absurd hj (by omega)⟩
   case round =>
    clear HB hI BX
    obtain⟨HB,BX,r,hr,rfl,hI,hall⟩:=hrel
    by_cases cr:r=m
    ·subst cr
     go_wp2_with fail
     refine bodyPost_ret (v:=.tuple #[.slice (some ⟨g0,0,none⟩) r r,.int .i64 0]) (by simp [results,Tryz.results71,go_sem, *]) rfl ⟨Or.inl ⟨allT_all hall,g0,hg0,rfl,hI.congr fun i hi=>by simp [hi]⟩,HB⟩
    ·have hlt:(r:Int)<(m:Int):=by omega
     have cc:=hc r (by omega) wr BX
     have cb:=fun w=>cBnd (HG r (by omega)) w
     cases hbd:bndB (G r)
     ·rw [hbd] at cb
      have hno:allT m G=false:=allT_not (by omega) hbd
      clear hbd
      go_wp2_with (first
       | (go_at_call 200;refine cc.mono ?_;rintro _ w4 ⟨rfl,hb1⟩;replace hI:=hI.keep hb1;replace HB:=later HB hb1;obtain⟨i0,i1,f0,f1⟩:=id (hI.2 r (by omega)))
       | (go_at_call 135;refine (cb _).mono ?_;rintro _ w5 ⟨rfl,hb2⟩))
      refine bodyPost_ret (v:=.tuple #[.slice none 0 0,.int .i64 5]) (by simp [results,Tryz.results71,go_sem, *]) rfl ⟨Or.inr ⟨hno,rfl⟩,later ?_ hb2⟩
      repeat' (first | (with_reducible exact HB) | (with_reducible refine Below.setCell ?_ ?_ _) | go_size | omega)
     ·rw [hbd] at cb
      have hall2:Hid (∀j,j<r+1->bndB (G j)=true):=fun j hj=>by
       rcases Nat.lt_or_ge j r with c | c
       ·exact hall.out j c
       ·rw [show j=r by omega];exact hbd
      clear hbd hall
      go_wp2_with (first
       | (go_at_call 200;refine cc.mono ?_;rintro _ w4 ⟨rfl,hb1⟩;replace hI:=hI.keep hb1;replace HB:=later HB hb1;replace BX:=BX.trans (Bex.of g0 hb1);obtain⟨i0,i1,f0,f1⟩:=id (hI.2 r (by omega)))
       | (go_at_call 135;refine (cb _).mono ?_;rintro _ w5 ⟨rfl,hb2⟩))
      go_roundg (m-r-1)
      case measure=>omega
      case rel =>
       refine⟨later ?_ hb2,((BX.set _ _).set _ _).trans (Bex.of g0 hb2),r+1,by omega,by go_num,(img_new G (by omega) hI).keep hb2,hall2⟩
       repeat' (first | (with_reducible exact HB) | (with_reducible refine Below.setCell ?_ ?_ _) | go_size | omega)
  ·obtain⟨y0,rfl,rfl⟩:=hL
   have hc:∀j,j<m->∀W,Bex g0 V5 W->Calls Tryz.prog 201 #[.int .i64 (j:Int),y0] W fun e w'=>e=.returned (.agg #[.float .f64 (G j).1,.float .f64 (G j).2])/\Below W.heap.size W w':=fun j hj W hW=>hc j hj W hW
   go_loopg [35] m (fun Gk s35 wx=>Below w.heap.size w wx/\Bex g0 V5 wx/\∃r:Nat,r+Gk=m/\s35=.int .i64 (r:Int)/\Img wx g0 m (fun i=>if i<r then G i else (0,0))/\Hid (∀j,j<r->bndB (G j)=true))
   case atStart=>exact⟨HB,BX,0,by omega,rfl,hI.congr fun i _=>by simp,fun j hj=>absurd hj (by omega)⟩
   case round =>
    clear HB hI BX
    obtain⟨HB,BX,r,hr,rfl,hI,hall⟩:=hrel
    by_cases cr:r=m
    ·subst cr
     go_wp2_with fail
     refine bodyPost_ret (v:=.tuple #[.slice (some ⟨g0,0,none⟩) r r,.int .i64 0]) (by simp [results,Tryz.results71,go_sem, *]) rfl ⟨Or.inl ⟨allT_all hall,g0,hg0,rfl,hI.congr fun i hi=>by simp [hi]⟩,HB⟩
    ·have hlt:(r:Int)<(m:Int):=by omega
     have cc:=hc r (by omega) wr BX
     have cb:=fun w=>cBnd (HG r (by omega)) w
     cases hbd:bndB (G r)
     ·rw [hbd] at cb
      have hno:allT m G=false:=allT_not (by omega) hbd
      clear hbd
      go_wp2_with (first
       | (go_at_call 201;refine cc.mono ?_;rintro _ w4 ⟨rfl,hb1⟩;replace hI:=hI.keep hb1;replace HB:=later HB hb1;obtain⟨i0,i1,f0,f1⟩:=id (hI.2 r (by omega)))
       | (go_at_call 135;refine (cb _).mono ?_;rintro _ w5 ⟨rfl,hb2⟩))
      refine bodyPost_ret (v:=.tuple #[.slice none 0 0,.int .i64 5]) (by simp [results,Tryz.results71,go_sem, *]) rfl ⟨Or.inr ⟨hno,rfl⟩,later ?_ hb2⟩
      repeat' (first | (with_reducible exact HB) | (with_reducible refine Below.setCell ?_ ?_ _) | go_size | omega)
     ·rw [hbd] at cb
      have hall2:Hid (∀j,j<r+1->bndB (G j)=true):=fun j hj=>by
       rcases Nat.lt_or_ge j r with c | c
       ·exact hall.out j c
       ·rw [show j=r by omega];exact hbd
      clear hbd hall
      go_wp2_with (first
       | (go_at_call 201;refine cc.mono ?_;rintro _ w4 ⟨rfl,hb1⟩;replace hI:=hI.keep hb1;replace HB:=later HB hb1;replace BX:=BX.trans (Bex.of g0 hb1);obtain⟨i0,i1,f0,f1⟩:=id (hI.2 r (by omega)))
       | (go_at_call 135;refine (cb _).mono ?_;rintro _ w5 ⟨rfl,hb2⟩))
      go_roundg (m-r-1)
      case measure=>omega
      case rel =>
       refine⟨later ?_ hb2,((BX.set _ _).set _ _).trans (Bex.of g0 hb2),r+1,by omega,by go_num,(img_new G (by omega) hI).keep hb2,hall2⟩
       repeat' (first | (with_reducible exact HB) | (with_reducible refine Below.setCell ?_ ?_ _) | go_size | omega)
  ·obtain⟨y0,rfl,rfl⟩:=hL
   have hc:∀j,j<m->∀W,Bex g0 V5 W->Calls Tryz.prog 205 #[.int .i64 (j:Int),y0] W fun e w'=>e=.returned (.agg #[.float .f64 (G j).1,.float .f64 (G j).2])/\Below W.heap.size W w':=fun j hj W hW=>hc j hj W hW
   go_loopg [35] m (fun Gk s35 wx=>Below w.heap.size w wx/\Bex g0 V5 wx/\∃r:Nat,r+Gk=m/\s35=.int .i64 (r:Int)/\Img wx g0 m (fun i=>if i<r then G i else (0,0))/\Hid (∀j,j<r->bndB (G j)=true))
   case atStart=>exact⟨HB,BX,0,by omega,rfl,hI.congr fun i _=>by simp,fun j hj=>absurd hj (by omega)⟩
   case round =>
    clear HB hI BX
    obtain⟨HB,BX,r,hr,rfl,hI,hall⟩:=hrel
    by_cases cr:r=m
    ·subst cr
     go_wp2_with fail
     refine bodyPost_ret (v:=.tuple #[.slice (some ⟨g0,0,none⟩) r r,.int .i64 0]) (by simp [results,Tryz.results71,go_sem, *]) rfl ⟨Or.inl ⟨allT_all hall,g0,hg0,rfl,hI.congr fun i hi=>by simp [hi]⟩,HB⟩
    ·have hlt:(r:Int)<(m:Int):=by omega
     have cc:=hc r (by omega) wr BX
     have cb:=fun w=>cBnd (HG r (by omega)) w
     cases hbd:bndB (G r)
     ·rw [hbd] at cb
      have hno:allT m G=false:=allT_not (by omega) hbd
      clear hbd
      go_wp2_with (first
       | (go_at_call 205;refine cc.mono ?_;rintro _ w4 ⟨rfl,hb1⟩;replace hI:=hI.keep hb1;replace HB:=later HB hb1;obtain⟨i0,i1,f0,f1⟩:=id (hI.2 r (by omega)))
       | (go_at_call 135;refine (cb _).mono ?_;rintro _ w5 ⟨rfl,hb2⟩))
      refine bodyPost_ret (v:=.tuple #[.slice none 0 0,.int .i64 5]) (by simp [results,Tryz.results71,go_sem, *]) rfl ⟨Or.inr ⟨hno,rfl⟩,later ?_ hb2⟩
      repeat' (first | (with_reducible exact HB) | (with_reducible refine Below.setCell ?_ ?_ _) | go_size | omega)
     ·rw [hbd] at cb
      have hall2:Hid (∀j,j<r+1->bndB (G j)=true):=fun j hj=>by
       rcases Nat.lt_or_ge j r with c | c
       ·exact hall.out j c
       ·rw [show j=r by omega];exact hbd
      clear hbd hall
      go_wp2_with (first
       | (go_at_call 205;refine cc.mono ?_;rintro _ w4 ⟨rfl,hb1⟩;replace hI:=hI.keep hb1;replace HB:=later HB hb1;replace BX:=BX.trans (Bex.of g0 hb1);obtain⟨i0,i1,f0,f1⟩:=id (hI.2 r (by omega)))
       | (go_at_call 135;refine (cb _).mono ?_;rintro _ w5 ⟨rfl,hb2⟩))
      go_roundg (m-r-1)
      case measure=>omega
      case rel =>
       refine⟨later ?_ hb2,((BX.set _ _).set _ _).trans (Bex.of g0 hb2),r+1,by omega,by go_num,(img_new G (by omega) hI).keep hb2,hall2⟩
       repeat' (first | (with_reducible exact HB) | (with_reducible refine Below.setCell ?_ ?_ _) | go_size | omega)
  ·obtain⟨y0,y1,rfl,rfl⟩:=hL
   have hc:∀j,j<m->∀W,Bex g0 V5 W->Calls Tryz.prog 242 #[.int .i64 (j:Int),y0,y1] W fun e w'=>e=.returned (.agg #[.float .f64 (G j).1,.float .f64 (G j).2])/\Below W.heap.size W w':=fun j hj W hW=>hc j hj W hW
   go_loopg [35] m (fun Gk s35 wx=>Below w.heap.size w wx/\Bex g0 V5 wx/\∃r:Nat,r+Gk=m/\s35=.int .i64 (r:Int)/\Img wx g0 m (fun i=>if i<r then G i else (0,0))/\Hid (∀j,j<r->bndB (G j)=true))
   case atStart=>exact⟨HB,BX,0,by omega,rfl,hI.congr fun i _=>by simp,fun j hj=>absurd hj (by omega)⟩
   case round =>
    clear HB hI BX
    obtain⟨HB,BX,r,hr,rfl,hI,hall⟩:=hrel
    by_cases cr:r=m
    ·subst cr
     go_wp2_with fail
     refine bodyPost_ret (v:=.tuple #[.slice (some ⟨g0,0,none⟩) r r,.int .i64 0]) (by simp [results,Tryz.results71,go_sem, *]) rfl ⟨Or.inl ⟨allT_all hall,g0,hg0,rfl,hI.congr fun i hi=>by simp [hi]⟩,HB⟩
    ·have hlt:(r:Int)<(m:Int):=by omega
     have cc:=hc r (by omega) wr BX
     have cb:=fun w=>cBnd (HG r (by omega)) w
     cases hbd:bndB (G r)
     ·rw [hbd] at cb
      have hno:allT m G=false:=allT_not (by omega) hbd
      clear hbd
      go_wp2_with (first
       | (go_at_call 242;refine cc.mono ?_;rintro _ w4 ⟨rfl,hb1⟩;replace hI:=hI.keep hb1;replace HB:=later HB hb1;obtain⟨i0,i1,f0,f1⟩:=id (hI.2 r (by omega)))
       | (go_at_call 135;refine (cb _).mono ?_;rintro _ w5 ⟨rfl,hb2⟩))
      refine bodyPost_ret (v:=.tuple #[.slice none 0 0,.int .i64 5]) (by simp [results,Tryz.results71,go_sem, *]) rfl ⟨Or.inr ⟨hno,rfl⟩,later ?_ hb2⟩
      repeat' (first | (with_reducible exact HB) | (with_reducible refine Below.setCell ?_ ?_ _) | go_size | omega)
     ·rw [hbd] at cb
      have hall2:Hid (∀j,j<r+1->bndB (G j)=true):=fun j hj=>by
       rcases Nat.lt_or_ge j r with c | c
       ·exact hall.out j c
       ·rw [show j=r by omega];exact hbd
      clear hbd hall
      go_wp2_with (first
       | (go_at_call 242;refine cc.mono ?_;rintro _ w4 ⟨rfl,hb1⟩;replace hI:=hI.keep hb1;replace HB:=later HB hb1;replace BX:=BX.trans (Bex.of g0 hb1);obtain⟨i0,i1,f0,f1⟩:=id (hI.2 r (by omega)))
       | (go_at_call 135;refine (cb _).mono ?_;rintro _ w5 ⟨rfl,hb2⟩))
      go_roundg (m-r-1)
      case measure=>omega
      case rel =>
       refine⟨later ?_ hb2,((BX.set _ _).set _ _).trans (Bex.of g0 hb2),r+1,by omega,by go_num,(img_new G (by omega) hI).keep hb2,hall2⟩
       repeat' (first | (with_reducible exact HB) | (with_reducible refine Below.setCell ?_ ?_ _) | go_size | omega)
  ·obtain⟨y0,y1,rfl,rfl⟩:=hL
   have hc:∀j,j<m->∀W,Bex g0 V5 W->Calls Tryz.prog 243 #[.int .i64 (j:Int),y0,y1] W fun e w'=>e=.returned (.agg #[.float .f64 (G j).1,.float .f64 (G j).2])/\Below W.heap.size W w':=fun j hj W hW=>hc j hj W hW
   go_loopg [35] m (fun Gk s35 wx=>Below w.heap.size w wx/\Bex g0 V5 wx/\∃r:Nat,r+Gk=m/\s35=.int .i64 (r:Int)/\Img wx g0 m (fun i=>if i<r then G i else (0,0))/\Hid (∀j,j<r->bndB (G j)=true))
   case atStart=>exact⟨HB,BX,0,by omega,rfl,hI.congr fun i _=>by simp,fun j hj=>absurd hj (by omega)⟩
   case round =>
    clear HB hI BX
    obtain⟨HB,BX,r,hr,rfl,hI,hall⟩:=hrel
    by_cases cr:r=m
    ·subst cr
     go_wp2_with fail
     refine bodyPost_ret (v:=.tuple #[.slice (some ⟨g0,0,none⟩) r r,.int .i64 0]) (by simp [results,Tryz.results71,go_sem, *]) rfl ⟨Or.inl ⟨allT_all hall,g0,hg0,rfl,hI.congr fun i hi=>by simp [hi]⟩,HB⟩
    ·have hlt:(r:Int)<(m:Int):=by omega
     have cc:=hc r (by omega) wr BX
     have cb:=fun w=>cBnd (HG r (by omega)) w
     cases hbd:bndB (G r)
     ·rw [hbd] at cb
      have hno:allT m G=false:=allT_not (by omega) hbd
      clear hbd
      go_wp2_with (first
       | (go_at_call 243;refine cc.mono ?_;rintro _ w4 ⟨rfl,hb1⟩;replace hI:=hI.keep hb1;replace HB:=later HB hb1;obtain⟨i0,i1,f0,f1⟩:=id (hI.2 r (by omega)))
       | (go_at_call 135;refine (cb _).mono ?_;rintro _ w5 ⟨rfl,hb2⟩))
      refine bodyPost_ret (v:=.tuple #[.slice none 0 0,.int .i64 5]) (by simp [results,Tryz.results71,go_sem, *]) rfl ⟨Or.inr ⟨hno,rfl⟩,later ?_ hb2⟩
      repeat' (first | (with_reducible exact HB) | (with_reducible refine Below.setCell ?_ ?_ _) | go_size | omega)
     ·rw [hbd] at cb
      have hall2:Hid (∀j,j<r+1->bndB (G j)=true):=fun j hj=>by
       rcases Nat.lt_or_ge j r with c | c
       ·exact hall.out j c
       ·rw [show j=r by omega];exact hbd
      clear hbd hall
      go_wp2_with (first
       | (go_at_call 243;refine cc.mono ?_;rintro _ w4 ⟨rfl,hb1⟩;replace hI:=hI.keep hb1;replace HB:=later HB hb1;replace BX:=BX.trans (Bex.of g0 hb1);obtain⟨i0,i1,f0,f1⟩:=id (hI.2 r (by omega)))
       | (go_at_call 135;refine (cb _).mono ?_;rintro _ w5 ⟨rfl,hb2⟩))
      go_roundg (m-r-1)
      case measure=>omega
      case rel =>
       refine⟨later ?_ hb2,((BX.set _ _).set _ _).trans (Bex.of g0 hb2),r+1,by omega,by go_num,(img_new G (by omega) hI).keep hb2,hall2⟩
       repeat' (first | (with_reducible exact HB) | (with_reducible refine Below.setCell ?_ ?_ _) | go_size | omega)
end Go.Proofs.YtopfabemfbdccaaGreat
