/- kraw: the small functions. -/
import Derived.Test.YtopfabemfbdccaaGreatZk24
import Derived.Test.YtopfabemfbdccaaGreatZk27
namespace Go.Proofs.YtopfabemfbdccaaGreat
open Go.ChangeShapes Go.WideShapes Go.ChangeAt Go.RowKit
theorem away_w {p:Nat×Nat} (h1:p.1<18446744073709551616) (h2:p.2<18446744073709551616) (w:World):Calls Tryz.prog 179 #[.agg #[.float .f64 p.1,.float .f64 p.2]] w fun e w'=>e=.returned (.bool (!hasB p.1 p.2 0))/\Below w.heap.size w w':=by
 have c:=fun w=>has_w p.1 p.2 0 h1 h2 (by omega) w
 generalize hasB p.1 p.2 0=b at *
 go_enter Tryz.func179,Tryz.ntmps179
 go_wp2_with (go_at_call 136;(with_reducible refine (c _).mono ?_);rintro _ W1 ⟨rfl,hb1⟩)
 go_ret
 exact⟨rfl,later (by go_grown) hb1⟩
theorem iswide_w {p:Nat×Nat} (h1:p.1<18446744073709551616) (h2:p.2<18446744073709551616) (w:World):Calls Tryz.prog 180 #[.agg #[.float .f64 p.1,.float .f64 p.2]] w fun e w'=>e=.returned (.bool (ltB p.1 p.2))/\Below w.heap.size w w':=by
 have o:=o_lt h1 h2
 generalize ltB p.1 p.2=b at *
 go_enter Tryz.func180,Tryz.ntmps180
 go_wp2_with fail
 go_ret
 exact⟨rfl,by go_grown⟩
set_option maxHeartbeats 1000000 in
theorem saway_i (A:Option Addr) (n C:Nat) (X:Nat->Nat×Nat) (hn:n<=9223372036854775807) (w:World) (V:Ivs w A n X) :
  Calls Tryz.prog 225 #[.slice A n C,.func (.func 179) #[] #[]] w fun e w'=>(∃k:Int,e=.returned (.int .i64 k)/\-1<=k/\decide (k>=0)=someU n fun i=>!hasB (X i).1 (X i).2 0)/\Below w.heap.size w w':=by
 go_enter Tryz.func225,Tryz.ntmps225
 go_wp2_with fail
 go_loopg [8] n (fun G s8 wx=>Below w.heap.size w wx/\∃i:Nat,i+G=n/\s8=.int .i64 (i:Int)/\Hid (∀i',i'<i->(!hasB (X i').1 (X i').2 0)=false))
 case atStart=>exact⟨Below.refl _ _,0,by omega,rfl,fun j hj=>absurd hj (by omega)⟩
 case round =>
  obtain⟨HB,i,hi,rfl,hall⟩:=hrel
  by_cases ci:i=n
  ·subst ci
   go_wp2_with fail
   go_ret
   exact⟨⟨-1,rfl,by omega,(someU_false.2 hall).symm⟩,HB⟩
  ·have hlt:(i:Int)<(n:Int):=by omega
   obtain⟨b,o,hA,hb,x0,x1,l0,l1⟩:=(V.keep HB) i (by omega)
   have c:=fun w=>away_w (p:=X i) l0 l1 w
   have hcase:(!hasB (X i).1 (X i).2 0)=true\/(!hasB (X i).1 (X i).2 0)=false:=by cases (!hasB (X i).1 (X i).2 0) <;> simp
   rcases hcase with hq | hq
   ·rw [hq] at c
    have e:(someU n fun i=>!hasB (X i).1 (X i).2 0)=true:=someU_true (i:=i) (by omega) hq
    replace hq:Hid ((!hasB (X i).1 (X i).2 0)=true):=hq
    subst hA
    go_wp2_with (go_at_call 179;refine (c _).mono ?_;rintro _ w1 ⟨rfl,hb1⟩;replace HB:=later HB hb1)
    go_ret
    exact⟨⟨(i:Int),rfl,by omega,by rw [e];exact decide_eq_true (by omega)⟩,HB⟩
   ·rw [hq] at c
    replace hq:Hid ((!hasB (X i).1 (X i).2 0)=false):=hq
    subst hA
    go_wp2_with (go_at_call 179;refine (c _).mono ?_;rintro _ w1 ⟨rfl,hb1⟩;replace HB:=later HB hb1)
    go_roundg (n-i-1)
    case measure=>omega
    case rel=>exact⟨HB,i+1,by omega,by go_num,fun j hj=>by rcases Nat.lt_or_ge j i with h | h;exact hall j h;rw [show j=i by omega];exact hq⟩
theorem saway_w (A:Option Addr) (n C:Nat) (X:Nat->Nat×Nat) (hn:n<=9223372036854775807) (w:World) (V:Ivs w A n X) :
  Calls Tryz.prog 178 #[.slice A n C,.func (.func 179) #[] #[]] w fun e w'=>e=.returned (.bool (someU n fun i=>!hasB (X i).1 (X i).2 0))/\Below w.heap.size w w':=by
 have c:=saway_i A n C X hn w V
 go_enter Tryz.func178,Tryz.ntmps178
 go_wp2_with (go_at_call 225;refine c.mono ?_;rintro _ w1 ⟨⟨k,rfl,k1,k2⟩,hb1⟩)
 go_ret
 exact⟨rfl,hb1⟩
set_option maxHeartbeats 1000000 in
theorem swide_i (A:Option Addr) (n C:Nat) (X:Nat->Nat×Nat) (hn:n<=9223372036854775807) (w:World) (V:Ivs w A n X) :
  Calls Tryz.prog 225 #[.slice A n C,.func (.func 180) #[] #[]] w fun e w'=>(∃k:Int,e=.returned (.int .i64 k)/\-1<=k/\decide (k>=0)=someU n fun i=>ltB (X i).1 (X i).2)/\Below w.heap.size w w':=by
 go_enter Tryz.func225,Tryz.ntmps225
 go_wp2_with fail
 go_loopg [8] n (fun G s8 wx=>Below w.heap.size w wx/\∃i:Nat,i+G=n/\s8=.int .i64 (i:Int)/\Hid (∀i',i'<i->(ltB (X i').1 (X i').2)=false))
 case atStart=>exact⟨Below.refl _ _,0,by omega,rfl,fun j hj=>absurd hj (by omega)⟩
 case round =>
  obtain⟨HB,i,hi,rfl,hall⟩:=hrel
  by_cases ci:i=n
  ·subst ci
   go_wp2_with fail
   go_ret
   exact⟨⟨-1,rfl,by omega,(someU_false.2 hall).symm⟩,HB⟩
  ·have hlt:(i:Int)<(n:Int):=by omega
   obtain⟨b,o,hA,hb,x0,x1,l0,l1⟩:=(V.keep HB) i (by omega)
   have c:=fun w=>iswide_w (p:=X i) l0 l1 w
   have hcase:(ltB (X i).1 (X i).2)=true\/(ltB (X i).1 (X i).2)=false:=by cases (ltB (X i).1 (X i).2) <;> simp
   rcases hcase with hq | hq
   ·rw [hq] at c
    have e:(someU n fun i=>ltB (X i).1 (X i).2)=true:=someU_true (i:=i) (by omega) hq
    replace hq:Hid ((ltB (X i).1 (X i).2)=true):=hq
    subst hA
    go_wp2_with (go_at_call 180;refine (c _).mono ?_;rintro _ w1 ⟨rfl,hb1⟩;replace HB:=later HB hb1)
    go_ret
    exact⟨⟨(i:Int),rfl,by omega,by rw [e];exact decide_eq_true (by omega)⟩,HB⟩
   ·rw [hq] at c
    replace hq:Hid ((ltB (X i).1 (X i).2)=false):=hq
    subst hA
    go_wp2_with (go_at_call 180;refine (c _).mono ?_;rintro _ w1 ⟨rfl,hb1⟩;replace HB:=later HB hb1)
    go_roundg (n-i-1)
    case measure=>omega
    case rel=>exact⟨HB,i+1,by omega,by go_num,fun j hj=>by rcases Nat.lt_or_ge j i with h | h;exact hall j h;rw [show j=i by omega];exact hq⟩
theorem swide_w (A:Option Addr) (n C:Nat) (X:Nat->Nat×Nat) (hn:n<=9223372036854775807) (w:World) (V:Ivs w A n X) :
  Calls Tryz.prog 178 #[.slice A n C,.func (.func 180) #[] #[]] w fun e w'=>e=.returned (.bool (someU n fun i=>ltB (X i).1 (X i).2))/\Below w.heap.size w w':=by
 have c:=swide_i A n C X hn w V
 go_enter Tryz.func178,Tryz.ntmps178
 go_wp2_with (go_at_call 225;refine c.mono ?_;rintro _ w1 ⟨⟨k,rfl,k1,k2⟩,hb1⟩)
 go_ret
 exact⟨rfl,hb1⟩
theorem meet_lt {p q:Nat×Nat} (h1:p.1<18446744073709551616) (h2:p.2<18446744073709551616) (h3:q.1<18446744073709551616) (h4:q.2<18446744073709551616):(meetP p.1 p.2 q.1 q.2).1<18446744073709551616/\(meetP p.1 p.2 q.1 q.2).2<18446744073709551616:=by
 unfold meetP
 split
 ·refine makeP_lt ?_ ?_
  ·unfold maxW;repeat' split
   all_goals (first | exact h1 | exact h3 | omega)
  ·unfold minW;repeat' split
   all_goals (first | exact h2 | exact h4 | omega)
 ·exact⟨infI_lt 1,infI_lt (-1)⟩
set_option maxHeartbeats 4000000 in
theorem eachMeet_w (A B:Option Addr) (n C D:Nat) (X Y:Nat->Nat×Nat) (n2:n<=100) (w:World) (V:Ivs w A n X) (U:Ivs w B n Y) :
  Calls Tryz.prog 184 #[.func (.func 113) #[] #[],.slice A n C,.slice B n D] w fun e w'=>(∃g,e=.returned (.slice (some ⟨g,0,none⟩) n n)/\Img w' g n (fun i=>meetP (X i).1 (X i).2 (Y i).1 (Y i).2)/\w.heap.size<=g)/\Below w.heap.size w w':=by
 go_enter Tryz.func184,Tryz.ntmps184
 go_wp2_with (at_make;refine wpList_makeI (by rfl) _ _ (by rfl) n (by rfl) (by rfl) (by omega) ?_;intro w3 hI HB hS3)
 have hg0:w.heap.size<=w.heap.size:=Nat.le_refl _
 obtain⟨g,eg⟩:∃g,g=w.heap.size:=⟨_,rfl⟩
 have hg:w.heap.size<=g:=by omega
 rw [<-eg] at hI ⊢
 clear eg hg0 hS3
 go_loopg [14] n (fun G s14 wx=>Below w.heap.size w wx/\∃i:Nat,i+G=n/\s14=.int .i64 (i:Int)/\Img wx g n (fun j=>if j<i then meetP (X j).1 (X j).2 (Y j).1 (Y j).2 else (0,0)))
 case atStart=>exact⟨HB,0,by omega,rfl,hI.congr fun i _=>by simp⟩
 case round =>
  clear HB hI
  obtain⟨HB,i,hi,rfl,hI⟩:=hrel
  by_cases ci:i=n
  ·subst ci
   go_wp2_with fail
   go_ret
   exact⟨⟨g,rfl,hI.congr fun j hj=>by simp [hj],hg⟩,HB⟩
  ·have hlt:(i:Int)<(n:Int):=by omega
   obtain⟨b,o,hA,hb,x0,x1,l0,l1⟩:=(V.keep HB) i (by omega)
   obtain⟨b',o',hB,hb',y0,y1,m0,m1⟩:=(U.keep HB) i (by omega)
   have c:=fun w=>meet_w (X i).1 (X i).2 (Y i).1 (Y i).2 l0 l1 m0 m1 w
   generalize hv:meetP (X i).1 (X i).2 (Y i).1 (Y i).2=v at c
   subst hA hB
   go_upto_region 5 with fail
   have k0:=fun q:Behind wr=>q.cell x0 hb
   have k1:=fun q:Behind wr=>q.cell x1 hb
   have k2:=fun q:Behind wr=>q.cell y0 hb'
   have k3:=fun q:Behind wr=>q.cell y1 hb'
   refine tail_behind 12 (by kernel_rfl) (by kernel_rfl) ?_
   simp only [List.take_succ_cons,List.take_zero,List.drop_succ_cons,List.drop_zero]
   repeat (go_big_quiet_step (first
    | (go_at_call 113;with_reducible refine Behind.call (c _))))
   refine wpQuiet_nil ?_
   rintro _ ⟨q,rfl⟩
   obtain⟨W,hb1⟩:=q
   dsimp only
   clear k0 k1 k2 k3 x0 x1 y0 y1 c
   replace hI:=hI.keep hb1
   replace HB:=later HB hb1
   clear hb1
   obtain⟨i0,i1,f0,f1⟩:=id (hI.2 i (by omega))
   have gl:=hI.1
   replace hv:Hid (meetP (X i).1 (X i).2 (Y i).1 (Y i).2=v):=hv
   go_wp2_with fail
   go_roundg (n-i-1)
   case measure=>omega
   case rel =>
    refine⟨?_,i+1,by omega,by go_num,(hI.set i _ _ (by omega)).congr fun j hj=>?_⟩
    ·repeat' (first | (with_reducible exact HB) | (with_reducible refine Below.setCell ?_ ?_ _) | go_size | omega)
    ·by_cases e:j=i
     ·subst e
      simp only [if_true,show j<j+1 by omega]
      exact (show meetP (X j).1 (X j).2 (Y j).1 (Y j).2=v from hv).symm
     ·simp only [e,if_false]
      by_cases q:j<i
      ·simp [q,show j<i+1 by omega]
      ·simp [q,show ¬j<i+1 by omega]
set_option maxHeartbeats 4000000 in
theorem eachSub_w (A B:Option Addr) (n C D:Nat) (X Y:Nat->Nat×Nat) (n2:n<=100) (w:World) (V:Ivs w A n X) (U:Ivs w B n Y) :
  Calls Tryz.prog 184 #[.func (.func 56) #[] #[],.slice A n C,.slice B n D] w fun e w'=>(∃g,e=.returned (.slice (some ⟨g,0,none⟩) n n)/\Img w' g n (fun i=>addP (X i).1 (X i).2 (negP (Y i)).1 (negP (Y i)).2)/\w.heap.size<=g)/\Below w.heap.size w w':=by
 go_enter Tryz.func184,Tryz.ntmps184
 go_wp2_with (at_make;refine wpList_makeI (by rfl) _ _ (by rfl) n (by rfl) (by rfl) (by omega) ?_;intro w3 hI HB hS3)
 have hg0:w.heap.size<=w.heap.size:=Nat.le_refl _
 obtain⟨g,eg⟩:∃g,g=w.heap.size:=⟨_,rfl⟩
 have hg:w.heap.size<=g:=by omega
 rw [<-eg] at hI ⊢
 clear eg hg0 hS3
 go_loopg [14] n (fun G s14 wx=>Below w.heap.size w wx/\∃i:Nat,i+G=n/\s14=.int .i64 (i:Int)/\Img wx g n (fun j=>if j<i then addP (X j).1 (X j).2 (negP (Y j)).1 (negP (Y j)).2 else (0,0)))
 case atStart=>exact⟨HB,0,by omega,rfl,hI.congr fun i _=>by simp⟩
 case round =>
  clear HB hI
  obtain⟨HB,i,hi,rfl,hI⟩:=hrel
  by_cases ci:i=n
  ·subst ci
   go_wp2_with fail
   go_ret
   exact⟨⟨g,rfl,hI.congr fun j hj=>by simp [hj],hg⟩,HB⟩
  ·have hlt:(i:Int)<(n:Int):=by omega
   obtain⟨b,o,hA,hb,x0,x1,l0,l1⟩:=(V.keep HB) i (by omega)
   obtain⟨b',o',hB,hb',y0,y1,m0,m1⟩:=(U.keep HB) i (by omega)
   have c:=fun w=>Sub_w (X i).1 (X i).2 (Y i).1 (Y i).2 l0 l1 m0 m1 w
   generalize hv:addP (X i).1 (X i).2 (negP (Y i)).1 (negP (Y i)).2=v at c
   subst hA hB
   go_upto_region 5 with fail
   have k0:=fun q:Behind wr=>q.cell x0 hb
   have k1:=fun q:Behind wr=>q.cell x1 hb
   have k2:=fun q:Behind wr=>q.cell y0 hb'
   have k3:=fun q:Behind wr=>q.cell y1 hb'
   refine tail_behind 12 (by kernel_rfl) (by kernel_rfl) ?_
   simp only [List.take_succ_cons,List.take_zero,List.drop_succ_cons,List.drop_zero]
   repeat (go_big_quiet_step (first
    | (go_at_call 56;with_reducible refine Behind.call (c _))))
   refine wpQuiet_nil ?_
   rintro _ ⟨q,rfl⟩
   obtain⟨W,hb1⟩:=q
   dsimp only
   clear k0 k1 k2 k3 x0 x1 y0 y1 c
   replace hI:=hI.keep hb1
   replace HB:=later HB hb1
   clear hb1
   obtain⟨i0,i1,f0,f1⟩:=id (hI.2 i (by omega))
   have gl:=hI.1
   replace hv:Hid (addP (X i).1 (X i).2 (negP (Y i)).1 (negP (Y i)).2=v):=hv
   go_wp2_with fail
   go_roundg (n-i-1)
   case measure=>omega
   case rel =>
    refine⟨?_,i+1,by omega,by go_num,(hI.set i _ _ (by omega)).congr fun j hj=>?_⟩
    ·repeat' (first | (with_reducible exact HB) | (with_reducible refine Below.setCell ?_ ?_ _) | go_size | omega)
    ·by_cases e:j=i
     ·subst e
      simp only [if_true,show j<j+1 by omega]
      exact (show addP (X j).1 (X j).2 (negP (Y j)).1 (negP (Y j)).2=v from hv).symm
     ·simp only [e,if_false]
      by_cases q:j<i
      ·simp [q,show j<i+1 by omega]
      ·simp [q,show ¬j<i+1 by omega]
set_option maxHeartbeats 4000000 in
theorem eachAdd_w (A B:Option Addr) (n C D:Nat) (X Y:Nat->Nat×Nat) (n2:n<=100) (w:World) (V:Ivs w A n X) (U:Ivs w B n Y) :
  Calls Tryz.prog 184 #[.func (.func 61) #[] #[],.slice A n C,.slice B n D] w fun e w'=>(∃g,e=.returned (.slice (some ⟨g,0,none⟩) n n)/\Img w' g n (fun i=>addP (X i).1 (X i).2 (Y i).1 (Y i).2)/\w.heap.size<=g)/\Below w.heap.size w w':=by
 go_enter Tryz.func184,Tryz.ntmps184
 go_wp2_with (at_make;refine wpList_makeI (by rfl) _ _ (by rfl) n (by rfl) (by rfl) (by omega) ?_;intro w3 hI HB hS3)
 have hg0:w.heap.size<=w.heap.size:=Nat.le_refl _
 obtain⟨g,eg⟩:∃g,g=w.heap.size:=⟨_,rfl⟩
 have hg:w.heap.size<=g:=by omega
 rw [<-eg] at hI ⊢
 clear eg hg0 hS3
 go_loopg [14] n (fun G s14 wx=>Below w.heap.size w wx/\∃i:Nat,i+G=n/\s14=.int .i64 (i:Int)/\Img wx g n (fun j=>if j<i then addP (X j).1 (X j).2 (Y j).1 (Y j).2 else (0,0)))
 case atStart=>exact⟨HB,0,by omega,rfl,hI.congr fun i _=>by simp⟩
 case round =>
  clear HB hI
  obtain⟨HB,i,hi,rfl,hI⟩:=hrel
  by_cases ci:i=n
  ·subst ci
   go_wp2_with fail
   go_ret
   exact⟨⟨g,rfl,hI.congr fun j hj=>by simp [hj],hg⟩,HB⟩
  ·have hlt:(i:Int)<(n:Int):=by omega
   obtain⟨b,o,hA,hb,x0,x1,l0,l1⟩:=(V.keep HB) i (by omega)
   obtain⟨b',o',hB,hb',y0,y1,m0,m1⟩:=(U.keep HB) i (by omega)
   have c:=fun w=>Add_w (X i).1 (X i).2 (Y i).1 (Y i).2 l0 l1 m0 m1 w
   generalize hv:addP (X i).1 (X i).2 (Y i).1 (Y i).2=v at c
   subst hA hB
   go_upto_region 5 with fail
   have k0:=fun q:Behind wr=>q.cell x0 hb
   have k1:=fun q:Behind wr=>q.cell x1 hb
   have k2:=fun q:Behind wr=>q.cell y0 hb'
   have k3:=fun q:Behind wr=>q.cell y1 hb'
   refine tail_behind 12 (by kernel_rfl) (by kernel_rfl) ?_
   simp only [List.take_succ_cons,List.take_zero,List.drop_succ_cons,List.drop_zero]
   repeat (go_big_quiet_step (first
    | (go_at_call 61;with_reducible refine Behind.call (c _))))
   refine wpQuiet_nil ?_
   rintro _ ⟨q,rfl⟩
   obtain⟨W,hb1⟩:=q
   dsimp only
   clear k0 k1 k2 k3 x0 x1 y0 y1 c
   replace hI:=hI.keep hb1
   replace HB:=later HB hb1
   clear hb1
   obtain⟨i0,i1,f0,f1⟩:=id (hI.2 i (by omega))
   have gl:=hI.1
   replace hv:Hid (addP (X i).1 (X i).2 (Y i).1 (Y i).2=v):=hv
   go_wp2_with fail
   go_roundg (n-i-1)
   case measure=>omega
   case rel =>
    refine⟨?_,i+1,by omega,by go_num,(hI.set i _ _ (by omega)).congr fun j hj=>?_⟩
    ·repeat' (first | (with_reducible exact HB) | (with_reducible refine Below.setCell ?_ ?_ _) | go_size | omega)
    ·by_cases e:j=i
     ·subst e
      simp only [if_true,show j<j+1 by omega]
      exact (show addP (X j).1 (X j).2 (Y j).1 (Y j).2=v from hv).symm
     ·simp only [e,if_false]
      by_cases q:j<i
      ·simp [q,show j<i+1 by omega]
      ·simp [q,show ¬j<i+1 by omega]
end Go.Proofs.YtopfabemfbdccaaGreat
