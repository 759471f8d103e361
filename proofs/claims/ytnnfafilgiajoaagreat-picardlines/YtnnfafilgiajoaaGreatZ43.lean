/- picard: which intervals hold nothing, which have no end; slices.ContainsFunc and slices.Equal of intervals; allInside, hull. -/
import Derived.Test.YtnnfafilgiajoaaGreatZ33
import Derived.Test.YtnnfafilgiajoaaGreatZ42
namespace Go.Proofs.YtnnfafilgiajoaaGreat
open Go.ChangeShapes Go.WideShapes Go.ChangeAt Go.RowKit
set_option maxHeartbeats 400000 in
theorem noend_core (p:Nat×Nat) (b1 b2:Bool) (c1:∀w,Calls Tryz.prog 70 #[.float .f64 p.1,.int .i64 0] w fun e w'=>e=.returned (.bool b1)∧w=w') (c2:∀w,Calls Tryz.prog 70 #[.float .f64 p.2,.int .i64 0] w fun e w'=>e=.returned (.bool b2)∧w=w') (w:World):Calls Tryz.prog 44 #[.agg #[.float .f64 p.1,.float .f64 p.2]] w fun e w'=>e=.returned (.bool (Bool.or b1 b2))∧Below w.heap.size w w':=by
 cases b1
 all_goals
   go_enter Tryz.func44,Tryz.ntmps44
   go_wp2_with (first
     | (go_at_call 70;with_reducible refine (c1 _).mono ?_;rintro _ _ ⟨rfl,rfl⟩)
     | (go_at_call 70;with_reducible refine (c2 _).mono ?_;rintro _ _ ⟨rfl,rfl⟩))
   go_ret
   exact⟨rfl,by go_grown⟩
theorem noend_w {p:Nat×Nat} (hp:W2 p) (w:World):Calls Tryz.prog 44 #[.agg #[.float .f64 p.1,.float .f64 p.2]] w fun e w'=>e=.returned (.bool (!bndB p))∧Below w.heap.size w w':=by
 have e:(!bndB p)=(infB p.1 || infB p.2):=by unfold bndB;cases infB p.1 <;> cases infB p.2 <;> rfl
 rw [e]
 exact noend_core p _ _ (fun w=>isInf0_w p.1 hp.1 w) (fun w=>isInf0_w p.2 hp.2 w) w
set_option maxHeartbeats 400000 in
theorem nothing_core (lo hi:Nat) (r b1 b2:Bool) (cr:∀w,Calls Tryz.prog 68 #[.agg #[.float .f64 lo,.float .f64 hi]] w fun e w'=>e=.returned (.bool r)∧Below w.heap.size w w')
   (o1:(FloatKind.f64.format.order lo (infI 1)==some .eq)=b1) (o2:(FloatKind.f64.format.order hi (infI (-1))==some .eq)=b2) (w:World) :
   Calls Tryz.prog 43 #[.agg #[.float .f64 lo,.float .f64 hi]] w fun e w'=>e=.returned (.bool (!r || (b1&&b2)))∧Below w.heap.size w w':=by
 cases r
 case' true=>cases b1
 case' true.true=>cases b2
 all_goals
   go_enter Tryz.func43,Tryz.ntmps43
   go_wp2_with fail
   have e0:(w.alloc (Obj.cells #[.float .f64 lo,.float .f64 hi] 40)).cell? ⟨w.heap.size,0,none⟩=some (.float .f64 lo):=by go_simp
   have e1:(w.alloc (Obj.cells #[.float .f64 lo,.float .f64 hi] 40)).cell? ⟨w.heap.size,1,none⟩=some (.float .f64 hi):=by go_simp
   have es:w.heap.size<(w.alloc (Obj.cells #[.float .f64 lo,.float .f64 hi] 40)).heap.size:=by go_size
   have eb:Below w.heap.size w (w.alloc (Obj.cells #[.float .f64 lo,.float .f64 hi] 40)):=by go_grown
   generalize w.alloc (Obj.cells #[.float .f64 lo,.float .f64 hi] 40)=wc at *
   have k0:=fun n:Behind wc=>n.cell e0 es
   have k1:=fun n:Behind wc=>n.cell e1 es
   refine region_behind (by kernel_rfl) (by kernel_rfl) ?_
   repeat (go_big_quiet_step (first | (go_at_call 68;with_reducible refine Behind.call (cr _)) | (go_at_call 69;with_reducible refine Behind.call (empty_w _))))
   refine wpQuiet_nil ?_
   rintro _ ⟨n,rfl⟩
   obtain⟨W,hb⟩:=n
   go_wp2_with fail
   go_ret
   exact⟨rfl,later eb hb⟩
theorem nothing_w {p:Nat×Nat} (hp:W2 p) (w:World):Calls Tryz.prog 43 #[.agg #[.float .f64 p.1,.float .f64 p.2]] w fun e w'=>e=.returned (.bool (!hsB p.1 p.2))∧Below w.heap.size w w':=by
 have e:(!hsB p.1 p.2)=(!rightB p.1 p.2 || (eqB p.1 (infI 1)&&eqB p.2 (infI (-1)))):=by
   rw [←holds_eq]
   cases rightB p.1 p.2 <;> cases (eqB p.1 (infI 1)&&eqB p.2 (infI (-1))) <;> rfl
 rw [e]
 exact nothing_core p.1 p.2 _ _ _ (fun w=>right_w p.1 p.2 hp.1 hp.2 w) (o_eq hp.1 (infI_lt 1)) (o_eq hp.2 (infI_lt (-1))) w
def anyU (n:Nat) (p:Nat→Bool):Bool:=!((List.range n).all fun i=>!p i)
theorem anyU_false {n:Nat} {p:Nat→Bool}:anyU n p=false↔∀i,i<n→p i=false:=by
 unfold anyU
 rw [Bool.not_eq_false',all_upto]
 exact⟨fun h i hi=>by have:=h i hi;simpa using this,fun h i hi=>by rw [h i hi];rfl⟩
theorem anyU_true {n i:Nat} {p:Nat→Bool} (hi:i<n) (h:p i=true):anyU n p=true:=by
 unfold anyU
 rw [all_not (i:=i) hi (by rw [h];rfl)]
 rfl
set_option maxHeartbeats 1000000 in
theorem any_end (A:Option Addr) (n C:Nat) (X:Nat→Nat×Nat) (hn:n≤9223372036854775807) (w:World) (V:Ivs w A n X) :
   Calls Tryz.prog 67 #[.slice A n C,.func (.func 44) #[] #[]] w fun e w'=>(∃k:Int,e=.returned (.int .i64 k)∧-1≤k∧decide (k≥0)=anyU n fun i=>!bndB (X i))∧Below w.heap.size w w':=by
 go_enter Tryz.func67,Tryz.ntmps67
 go_wp2_with fail
 go_loopg [8] n (fun G s8 wx=>Below w.heap.size w wx∧∃i:Nat,i+G=n∧s8=.int .i64 (i:Int)∧Hid (∀j,j<i→(!bndB (X j))=false))
 case atStart=>exact⟨Below.refl _ _,0,by omega,rfl,fun j hj=>absurd hj (by omega)⟩
 case round =>
   obtain⟨HB,i,hi,rfl,hall⟩:=hrel
   by_cases ci:i=n
   · subst ci
     go_wp2_with fail
     go_ret
     exact⟨⟨-1,rfl,by omega,(anyU_false.2 hall).symm⟩,HB⟩
   · have hlt:(i:Int)<(n:Int):=by omega
     obtain⟨b,o,hA,hb,x0,x1,l0,l1⟩:=(V.keep HB) i (by omega)
     have c:=fun w=>noend_w (p:=X i) ⟨l0,l1⟩ w
     have hcase:(!bndB (X i))=true∨(!bndB (X i))=false:=by cases bndB (X i) <;> simp
     rcases hcase with hq | hq
     · rw [hq] at c
       have e:(anyU n fun i=>!bndB (X i))=true:=anyU_true (i:=i) (by omega) hq
       replace hq:Hid ((!bndB (X i))=true):=hq
       subst hA
       go_wp2_with (go_at_call 44;refine (c _).mono ?_;rintro _ w1 ⟨rfl,hb1⟩;replace HB:=later HB hb1)
       go_ret
       exact⟨⟨(i:Int),rfl,by omega,by rw [e];exact decide_eq_true (by omega)⟩,HB⟩
     · rw [hq] at c
       replace hq:Hid ((!bndB (X i))=false):=hq
       subst hA
       go_wp2_with (go_at_call 44;refine (c _).mono ?_;rintro _ w1 ⟨rfl,hb1⟩;replace HB:=later HB hb1)
       go_roundg (n-i-1)
       case measure=>omega
       case rel=>exact⟨HB,i+1,by omega,by go_num,fun j hj=>by rcases Nat.lt_or_ge j i with h | h;exact hall j h;rw [show j=i by omega];exact hq⟩
set_option maxHeartbeats 1000000 in
theorem any_none (A:Option Addr) (n C:Nat) (X:Nat→Nat×Nat) (hn:n≤9223372036854775807) (w:World) (V:Ivs w A n X) :
   Calls Tryz.prog 67 #[.slice A n C,.func (.func 43) #[] #[]] w fun e w'=>(∃k:Int,e=.returned (.int .i64 k)∧-1≤k∧decide (k≥0)=anyU n fun i=>!hsB (X i).1 (X i).2)∧Below w.heap.size w w':=by
 go_enter Tryz.func67,Tryz.ntmps67
 go_wp2_with fail
 go_loopg [8] n (fun G s8 wx=>Below w.heap.size w wx∧∃i:Nat,i+G=n∧s8=.int .i64 (i:Int)∧Hid (∀j,j<i→(!hsB (X j).1 (X j).2)=false))
 case atStart=>exact⟨Below.refl _ _,0,by omega,rfl,fun j hj=>absurd hj (by omega)⟩
 case round =>
   obtain⟨HB,i,hi,rfl,hall⟩:=hrel
   by_cases ci:i=n
   · subst ci
     go_wp2_with fail
     go_ret
     exact⟨⟨-1,rfl,by omega,(anyU_false.2 hall).symm⟩,HB⟩
   · have hlt:(i:Int)<(n:Int):=by omega
     obtain⟨b,o,hA,hb,x0,x1,l0,l1⟩:=(V.keep HB) i (by omega)
     have c:=fun w=>nothing_w (p:=X i) ⟨l0,l1⟩ w
     have hcase:(!hsB (X i).1 (X i).2)=true∨(!hsB (X i).1 (X i).2)=false:=by cases hsB (X i).1 (X i).2 <;> simp
     rcases hcase with hq | hq
     · rw [hq] at c
       have e:(anyU n fun i=>!hsB (X i).1 (X i).2)=true:=anyU_true (i:=i) (by omega) hq
       replace hq:Hid ((!hsB (X i).1 (X i).2)=true):=hq
       subst hA
       go_wp2_with (go_at_call 43;refine (c _).mono ?_;rintro _ w1 ⟨rfl,hb1⟩;replace HB:=later HB hb1)
       go_ret
       exact⟨⟨(i:Int),rfl,by omega,by rw [e];exact decide_eq_true (by omega)⟩,HB⟩
     · rw [hq] at c
       replace hq:Hid ((!hsB (X i).1 (X i).2)=false):=hq
       subst hA
       go_wp2_with (go_at_call 43;refine (c _).mono ?_;rintro _ w1 ⟨rfl,hb1⟩;replace HB:=later HB hb1)
       go_roundg (n-i-1)
       case measure=>omega
       case rel=>exact⟨HB,i+1,by omega,by go_num,fun j hj=>by rcases Nat.lt_or_ge j i with h | h;exact hall j h;rw [show j=i by omega];exact hq⟩
theorem someEnd_w (A:Option Addr) (n C:Nat) (X:Nat→Nat×Nat) (hn:n≤9223372036854775807) (w:World) (V:Ivs w A n X) :
   Calls Tryz.prog 42 #[.slice A n C,.func (.func 44) #[] #[]] w fun e w'=>e=.returned (.bool (anyU n fun i=>!bndB (X i)))∧Below w.heap.size w w':=by
 have c:=any_end A n C X hn w V
 go_enter Tryz.func42,Tryz.ntmps42
 go_wp2_with (go_at_call 67;refine c.mono ?_;rintro _ w1 ⟨⟨k,rfl,k1,k2⟩,hb1⟩)
 go_ret
 exact⟨rfl,hb1⟩
theorem someNone_w (A:Option Addr) (n C:Nat) (X:Nat→Nat×Nat) (hn:n≤9223372036854775807) (w:World) (V:Ivs w A n X) :
   Calls Tryz.prog 42 #[.slice A n C,.func (.func 43) #[] #[]] w fun e w'=>e=.returned (.bool (anyU n fun i=>!hsB (X i).1 (X i).2))∧Below w.heap.size w w':=by
 have c:=any_none A n C X hn w V
 go_enter Tryz.func42,Tryz.ntmps42
 go_wp2_with (go_at_call 67;refine c.mono ?_;rintro _ w1 ⟨⟨k,rfl,k1,k2⟩,hb1⟩)
 go_ret
 exact⟨rfl,hb1⟩
def allIn (n:Nat) (X Y:Nat→Nat×Nat):Bool:=(List.range n).all fun i=>insideB (X i).1 (X i).2 (Y i).1 (Y i).2
set_option maxHeartbeats 1000000 in
theorem allIn_w (A B:Option Addr) (n C D:Nat) (X Y:Nat→Nat×Nat) (hn:n≤9223372036854775807) (w:World) (V:Ivs w A n X) (U:Ivs w B n Y) :
   Calls Tryz.prog 106 #[.slice A n C,.slice B n D] w fun e w'=>e=.returned (.bool (allIn n X Y))∧Below w.heap.size w w':=by
 go_enter Tryz.func106,Tryz.ntmps106
 go_wp2_with fail
 go_loopg [8] n (fun G s8 wx=>Below w.heap.size w wx∧∃i:Nat,i+G=n∧s8=.int .i64 (i:Int)∧Hid (∀j,j<i→insideB (X j).1 (X j).2 (Y j).1 (Y j).2=true))
 case atStart=>exact⟨Below.refl _ _,0,by omega,rfl,fun j hj=>absurd hj (by omega)⟩
 case round =>
   obtain⟨HB,i,hi,rfl,hall⟩:=hrel
   by_cases ci:i=n
   · subst ci
     have e:allIn i X Y=true:=by unfold allIn;exact all_upto.2 hall
     go_wp2_with fail
     go_ret
     exact⟨(congrArg (fun q=>Ending.returned (Value.bool q)) e).symm,HB⟩
   · have hlt:(i:Int)<(n:Int):=by omega
     obtain⟨b,o,hA,hb,x0,x1,l0,l1⟩:=(V.keep HB) i (by omega)
     obtain⟨b',o',hB,hb',y0,y1,m0,m1⟩:=(U.keep HB) i (by omega)
     have c:=fun w=>inside_w (X i).1 (X i).2 (Y i).1 (Y i).2 l0 l1 m0 m1 w
     have hcase:insideB (X i).1 (X i).2 (Y i).1 (Y i).2=true∨insideB (X i).1 (X i).2 (Y i).1 (Y i).2=false:=by cases insideB (X i).1 (X i).2 (Y i).1 (Y i).2 <;> simp
     subst hA hB
     have kx0:=fun n:Behind wr=>n.cell x0 hb
     have kx1:=fun n:Behind wr=>n.cell x1 hb
     have ky0:=fun n:Behind wr=>n.cell y0 hb'
     have ky1:=fun n:Behind wr=>n.cell y1 hb'
     clear x0 x1 y0 y1
     rcases hcase with hq | hq
     · rw [hq] at c
       replace hq:Hid (insideB (X i).1 (X i).2 (Y i).1 (Y i).2=true):=hq
       go_upto_region 4 with fail
       refine region_behind (by kernel_rfl) (by kernel_rfl) ?_
       repeat (go_big_quiet_step (first | (go_at_call 15;with_reducible refine Behind.call (c _))))
       refine wpQuiet_nil ?_
       rintro _ ⟨q,rfl⟩
       obtain⟨W,hb1⟩:=q
       dsimp only
       replace HB:=later HB hb1
       clear kx0 kx1 ky0 ky1 hb1
       go_wp2_with fail
       go_roundg (n-i-1)
       case measure=>omega
       case rel=>exact⟨HB,i+1,by omega,by go_num,fun j hj=>by rcases Nat.lt_or_ge j i with h | h;exact hall j h;rw [show j=i by omega];exact hq⟩
     · rw [hq] at c
       have e:allIn n X Y=false:=by unfold allIn;exact all_not (i:=i) (by omega) hq
       replace hq:Hid (insideB (X i).1 (X i).2 (Y i).1 (Y i).2=false):=hq
       go_upto_region 4 with fail
       refine region_behind (by kernel_rfl) (by kernel_rfl) ?_
       repeat (go_big_quiet_step (first | (go_at_call 15;with_reducible refine Behind.call (c _))))
       refine wpQuiet_nil ?_
       rintro _ ⟨q,rfl⟩
       obtain⟨W,hb1⟩:=q
       dsimp only
       replace HB:=later HB hb1
       clear kx0 kx1 ky0 ky1 hb1
       go_wp2_with fail
       go_ret
       exact⟨(congrArg (fun q=>Ending.returned (Value.bool q)) e).symm,HB⟩
def sameE (n:Nat) (X Y:Nat→Nat×Nat):Bool:=(List.range n).all fun i=>eqB (X i).1 (Y i).1&&eqB (X i).2 (Y i).2
set_option maxHeartbeats 1000000 in
theorem sameI_w (A B:Option Addr) (n C D:Nat) (X Y:Nat→Nat×Nat) (hn:n≤9223372036854775807) (w:World) (V:Ivs w A n X) (U:Ivs w B n Y) :
   Calls Tryz.prog 79 #[.slice A n C,.slice B n D] w fun e w'=>e=.returned (.bool (sameE n X Y))∧Below w.heap.size w w':=by
 go_enter Tryz.func79,Tryz.ntmps79
 go_wp2_with fail
 go_loopg [13] n (fun G s13 wx=>Below w.heap.size w wx∧∃i:Nat,i+G=n∧s13=.int .i64 (i:Int)∧Hid (∀j,j<i→(eqB (X j).1 (Y j).1&&eqB (X j).2 (Y j).2)=true))
 case atStart=>exact⟨Below.refl _ _,0,by omega,rfl,fun j hj=>absurd hj (by omega)⟩
 case round =>
   obtain⟨HB,i,hi,rfl,hall⟩:=hrel
   by_cases ci:i=n
   · subst ci
     have e:sameE i X Y=true:=by unfold sameE;exact all_upto.2 hall
     go_wp2_with fail
     go_ret
     exact⟨(congrArg (fun q=>Ending.returned (Value.bool q)) e).symm,HB⟩
   · have hlt:(i:Int)<(n:Int):=by omega
     obtain⟨b,o,hA,hb,x0,x1,l0,l1⟩:=(V.keep HB) i (by omega)
     obtain⟨b',o',hB,hb',y0,y1,m0,m1⟩:=(U.keep HB) i (by omega)
     have o1:=o_eq l0 m0
     have o2:=o_eq l1 m1
     have no:(eqB (X i).1 (Y i).1&&eqB (X i).2 (Y i).2)=false→sameE n X Y=false:=fun h=>by unfold sameE;exact all_not (i:=i) (by omega) h
     have yes:(eqB (X i).1 (Y i).1&&eqB (X i).2 (Y i).2)=true→Hid (∀j,j<i+1→(eqB (X j).1 (Y j).1&&eqB (X j).2 (Y j).2)=true):=fun h j hj=>by
       rcases Nat.lt_or_ge j i with h' | h'
       · exact hall j h'
       · rw [show j=i by omega];exact h
     replace no:Hid _:=no
     replace yes:Hid _:=yes
     subst hA hB
     have kx0:=fun n:Behind wr=>n.cell x0 hb
     have kx1:=fun n:Behind wr=>n.cell x1 hb
     have ky0:=fun n:Behind wr=>n.cell y0 hb'
     have ky1:=fun n:Behind wr=>n.cell y1 hb'
     clear x0 x1 y0 y1 hall
     generalize eqB (X i).1 (Y i).1=b1 at *
     generalize eqB (X i).2 (Y i).2=b2 at *
     cases b1
     case' true=>cases b2
     all_goals
       go_upto_region 6 with fail
       refine region_behind (by kernel_rfl) (by kernel_rfl) ?_
       repeat (go_big_quiet_step (fail))
       refine wpQuiet_nil ?_
       rintro _ ⟨q,rfl⟩
       obtain⟨W,hb1⟩:=q
       dsimp only
       replace HB:=later HB hb1
       clear kx0 kx1 ky0 ky1 hb1
       go_wp2_with fail
       first
         | (go_ret
            exact⟨(congrArg (fun q=>Ending.returned (Value.bool q)) (no.out rfl)).symm,HB⟩)
         | (go_roundg (n-i-1)
            case measure=>omega
            case rel=>exact⟨HB,i+1,by omega,by go_num,yes.out rfl⟩)
theorem same0_w (C D:Nat) (w:World) :
   Calls Tryz.prog 79 #[.slice none 0 C,.slice none 0 D] w fun e w'=>e=.returned (.bool true)∧Below w.heap.size w w':=by
 go_enter Tryz.func79,Tryz.ntmps79
 go_wp2_with fail
 go_loopg [13] 0 (fun G s13 wx=>Below w.heap.size w wx∧s13=.int .i64 0)
 case atStart=>exact⟨Below.refl _ _,rfl⟩
 case round =>
   obtain⟨HB,rfl⟩:=hrel
   go_wp2_with fail
   go_ret
   exact⟨rfl,HB⟩
set_option maxHeartbeats 2000000 in
theorem hullI_w (A B:Option Addr) (n C D:Nat) (X Y:Nat→Nat×Nat) (hn:n≤24) (w:World) (V:Ivs w A n X) (U:Ivs w B n Y) :
   Calls Tryz.prog 76 #[.slice A n C,.slice B n D] w fun e w'=>(∃g,e=.returned (.slice (some ⟨g,0,none⟩) n n)∧Img w' g n (fun i=>hullQ (X i) (Y i)))∧Below w.heap.size w w':=by
 have HB:Below w.heap.size w w:=Below.refl _ _
 go_enter Tryz.func76,Tryz.ntmps76
 go_wp2_with (at_make;refine wpList_makeI (by rfl) _ _ (by rfl) n (by rfl) (by rfl) (by omega) ?_;intro w3 hI hb3 hS3;replace HB:=later HB hb3)
 go_loopg [12] n (fun G s12 wx=>Below w.heap.size w wx∧∃r:Nat,r+G=n∧s12=.int .i64 (r:Int)∧Img wx w.heap.size n (fun i=>if i<r then hullQ (X i) (Y i) else (0,0)))
 case atStart=>exact⟨HB,0,by omega,rfl,hI.congr fun i _=>by simp⟩
 case round =>
   clear HB hI hb3
   obtain⟨HB,r,hr,rfl,hI⟩:=hrel
   by_cases cr:r=n
   · subst cr
     go_wp2_with fail
     go_ret
     exact⟨⟨w.heap.size,rfl,hI.congr fun i hi=>by simp [hi]⟩,HB⟩
   · have hlt:(r:Int)<(n:Int):=by omega
     obtain⟨b,o,hA,hb,x0,x1,l0,l1⟩:=(V.keep HB) r (by omega)
     obtain⟨b',o',hB,hb',y0,y1,m0,m1⟩:=(U.keep HB) r (by omega)
     have c:=fun w=>cHull (p:=X r) (q:=Y r) ⟨l0,l1⟩ ⟨m0,m1⟩ w
     subst hA hB
     have kx0:=fun n:Behind wr=>n.cell x0 hb
     have kx1:=fun n:Behind wr=>n.cell x1 hb
     have ky0:=fun n:Behind wr=>n.cell y0 hb'
     have ky1:=fun n:Behind wr=>n.cell y1 hb'
     clear x0 x1 y0 y1
     go_upto_region 5 with fail
     refine tail_behind 11 (by kernel_rfl) (by kernel_rfl) ?_
     simp only [List.take_succ_cons,List.take_zero,List.drop_succ_cons,List.drop_zero]
     repeat (go_big_quiet_step (first | (go_at_call 109;with_reducible refine Behind.call (c _))))
     refine wpQuiet_nil ?_
     rintro _ ⟨q,rfl⟩
     obtain⟨W,hb1⟩:=q
     dsimp only
     replace HB:=later HB hb1
     replace hI:=hI.keep hb1
     clear kx0 kx1 ky0 ky1 hb1
     obtain⟨i0,i1,f0,f1⟩:=id (hI.2 r (by omega))
     go_wp2_with fail
     go_roundg (n-r-1)
     case measure=>omega
     case rel =>
       refine⟨?_,r+1,by omega,by go_num,(hI.set r _ _ (by omega)).congr fun i hi=>?_⟩
       · repeat' (first | (with_reducible exact HB) | (with_reducible refine Below.setCell ?_ ?_ _) | go_size | omega)
       · by_cases e:i=r
         · subst e
           simp
         · simp only [e,if_false]
           by_cases q:i<r
           · simp [q,show i<r+1 by omega]
           · simp [q,show ¬i<r+1 by omega]
end Go.Proofs.YtnnfafilgiajoaaGreat
