/- lohner: which sets may be: Right, and the reference's. -/
import Derived.Test.YtdokikhhlmelkaaGreatZs39
namespace Go.Proofs.YtdokikhhlmelkaaGreat
open Go.ChangeShapes Go.WideShapes Go.ChangeAt Go.RowKit
def setV (A:Option Addr) (n C:Nat) (B:Option Addr) (N D:Nat) (R:Option Addr) (L E:Nat):Value:=.agg #[.slice A n C,.slice B N D,.slice R L E]
def SetOk (n N L:Nat) (RL:Nat→Nat) (X:Nat→Nat) (Y:Nat→Nat→Nat) (Z:Nat→Nat×Nat):Prop :=
 (1≤n∧n≤24)∧N=n∧L=n∧(∀r,r<n→RL r=n∧∀c,c<n→finB (Y r c)=true)∧(∀i,i<n→finB (X i)=true)∧∀i,i<n→bdB (Z i)=true
def setB (n N L:Nat) (RL:Nat→Nat) (X:Nat→Nat) (Y:Nat→Nat→Nat) (Z:Nat→Nat×Nat):Bool :=
 dimB n&&(decide (N=n)&&(decide (L=n)&&((List.range n).all (fun r=>decide (RL r=n)&&finsB n (Y r))&&(finsB n X&&(List.range n).all fun i=>bdB (Z i)))))
theorem setB_iff {n N L:Nat} {RL:Nat→Nat} {X:Nat→Nat} {Y:Nat→Nat→Nat} {Z:Nat→Nat×Nat}:setB n N L RL X Y Z=true↔SetOk n N L RL X Y Z:=by
 unfold setB SetOk dimB
 simp only [Bool.and_eq_true,decide_eq_true_eq,all_upto,finsB]
theorem setB_no {n N L:Nat} {RL:Nat→Nat} {X:Nat→Nat} {Y:Nat→Nat→Nat} {Z:Nat→Nat×Nat} (h:¬SetOk n N L RL X Y Z):setB n N L RL X Y Z=false:=by
 cases q:setB n N L RL X Y Z
 · rfl
 · exact absurd (setB_iff.1 q) h
theorem set3_new (w:World) (x y z:Value) (T:TypeId):Has3 (w.alloc (.cells #[x,y,z] T)) w.heap.size x y z:=⟨by go_simp,by go_simp,by go_simp,by go_simp,by go_simp,by go_simp,by go_size⟩
theorem bool_said {p q:Bool} (h:p=q):Ending.returned (Value.bool q)=.returned (.bool p):=by rw [h]
set_option maxHeartbeats 8000000 in
theorem lright_w (A B R:Option Addr) (n C N D L E:Nat) (RA:Nat→Option Addr) (RL RC:Nat→Nat) (X:Nat→Nat) (Y:Nat→Nat→Nat) (Z:Nat→Nat×Nat) (hn:n≤9223372036854775807) (hN:N≤9223372036854775807) (hL:L≤9223372036854775807) (w:World) (VX:Fls w A n X) (VY:Rfs w B N RA RL RC Y) (VZ:Ivs w R L Z) :
   Calls Tryz.prog 4 #[setV A n C B N D R L E] w fun e w'=>e=.returned (.bool (setB n N L RL X Y Z))∧Below w.heap.size w w':=by
 unfold setV
 have S:Has3 (w.alloc (.cells #[.slice A n C,.slice B N D,.slice R L E] 26)) w.heap.size (.slice A n C) (.slice B N D) (.slice R L E):=set3_new _ _ _ _ _
 have HB:Below w.heap.size w (w.alloc (.cells #[.slice A n C,.slice B N D,.slice R L E] 26)):=by go_grown
 by_cases g1:1≤n
 case neg =>
   have e1:(n:Int)<1:=by omega
   go_enter Tryz.func4,Tryz.ntmps4
   go_upto_region 1 with fail
   generalize (w.alloc (.cells #[.slice A n C,.slice B N D,.slice R L E] 26))=V1 at *
   obtain⟨s0,s1,s2,s3,s4,s5,s6⟩:=id S
   go_wp2_with fail
   go_ret
   exact⟨bool_said (setB_no fun h=>g1 h.1.1),HB⟩
 have e1:¬(n:Int)<1:=by omega
 by_cases g2:n≤24
 case neg =>
   have e2:(24:Int)<(n:Int):=by omega
   go_enter Tryz.func4,Tryz.ntmps4
   go_upto_region 1 with fail
   generalize (w.alloc (.cells #[.slice A n C,.slice B N D,.slice R L E] 26))=V1 at *
   obtain⟨s0,s1,s2,s3,s4,s5,s6⟩:=id S
   go_wp2_with fail
   go_ret
   exact⟨bool_said (setB_no fun h=>g2 h.1.2),HB⟩
 have e2:¬(24:Int)<(n:Int):=by omega
 by_cases g3:N=n
 case neg =>
   have e3:((N:Int) != (n:Int))=true:=by simp;omega
   go_enter Tryz.func4,Tryz.ntmps4
   go_upto_region 1 with fail
   generalize (w.alloc (.cells #[.slice A n C,.slice B N D,.slice R L E] 26))=V1 at *
   obtain⟨s0,s1,s2,s3,s4,s5,s6⟩:=id S
   go_wp2_with fail
   go_ret
   exact⟨bool_said (setB_no fun h=>g3 h.2.1),HB⟩
 subst g3
 by_cases g4:L=N
 case neg =>
   have e3:((L:Int) != (N:Int))=true:=by simp;omega
   go_enter Tryz.func4,Tryz.ntmps4
   go_upto_region 1 with fail
   generalize (w.alloc (.cells #[.slice A N C,.slice B N D,.slice R L E] 26))=V1 at *
   obtain⟨s0,s1,s2,s3,s4,s5,s6⟩:=id S
   go_wp2_with fail
   go_ret
   exact⟨bool_said (setB_no fun h=>g4 h.2.2.1),HB⟩
 subst g4
 go_enter Tryz.func4,Tryz.ntmps4
 go_upto_region 1 with fail
 generalize (w.alloc (.cells #[.slice A L C,.slice B L D,.slice R L E] 26))=V1 at *
 obtain⟨s0,s1,s2,s3,s4,s5,s6⟩:=id S
 go_wp2_with fail
 clear s0 s1 s2 s3 s4 s5 s6
 go_loopg [32] L (fun G s32 wx=>Below w.heap.size w wx∧Has3 wx w.heap.size (.slice A L C) (.slice B L D) (.slice R L E)∧∃r:Nat,r+G=L∧s32=.int .i64 (r:Int)∧Hid (∀j,j<r→RL j=L∧∀c,c<L→finB (Y j c)=true))
 case atStart=>exact⟨HB,S,0,by omega,rfl,fun j hj=>absurd hj (by omega)⟩
 case round =>
   clear HB S
   obtain⟨HB,S,r,hr,rfl,hall⟩:=hrel
   obtain⟨s0,s1,s2,s3,s4,s5,s6⟩:=id S
   by_cases cr:r=L
   · subst cr
     have c1:=snum_w A r C X hn wr (VX.keep HB)
     have c2:=fun w2 (h:Below w.heap.size w w2)=>send_w R r E Z hL w2 (VZ.keep h)
     cases hu:(someU r fun i=>!finB (X i))
     · rw [hu] at c1
       have h1:=someU_false.1 hu
       cases hv:(someU r fun i=>!bdB (Z i))
       · rw [hv] at c2
         have h2:=someU_false.1 hv
         have ok:setB r r r RL X Y Z=true:=setB_iff.2 ⟨⟨g1,g2⟩,rfl,rfl,hall,fun i hi=>by have:=h1 i hi;simpa using this,fun i hi=>by have:=h2 i hi;simpa using this⟩
         clear hu hv h1 h2
         go_wp2_with (first
           | (go_at_call 20;(with_reducible refine c1.mono ?_);rintro _ w1 ⟨rfl,hb1⟩;replace HB:=later HB hb1;replace S:=S.keep hb1;clear s0 s1 s2 s3 s4 s5 s6;obtain⟨s0,s1,s2,s3,s4,s5,s6⟩:=id S)
           | (go_at_call 22;(with_reducible refine (c2 _ HB).mono ?_);rintro _ w2 ⟨rfl,hb2⟩;replace HB:=later HB hb2))
         go_ret
         exact⟨bool_said ok,HB⟩
       · rw [hv] at c2
         have no:setB r r r RL X Y Z=false:=setB_no fun h=>by
           have q:(someU r fun i=>!bdB (Z i))=false:=someU_false.2 fun i hi=>by rw [h.2.2.2.2.2 i hi];rfl
           rw [q] at hv;cases hv
         clear hu hv h1
         go_wp2_with (first
           | (go_at_call 20;(with_reducible refine c1.mono ?_);rintro _ w1 ⟨rfl,hb1⟩;replace HB:=later HB hb1;replace S:=S.keep hb1;clear s0 s1 s2 s3 s4 s5 s6;obtain⟨s0,s1,s2,s3,s4,s5,s6⟩:=id S)
           | (go_at_call 22;(with_reducible refine (c2 _ HB).mono ?_);rintro _ w2 ⟨rfl,hb2⟩;replace HB:=later HB hb2))
         go_ret
         exact⟨bool_said no,HB⟩
     · rw [hu] at c1
       have no:setB r r r RL X Y Z=false:=setB_no fun h=>by
         have q:(someU r fun i=>!finB (X i))=false:=someU_false.2 fun i hi=>by rw [h.2.2.2.2.1 i hi];rfl
         rw [q] at hu;cases hu
       clear hu c2
       go_wp2_with (go_at_call 20;(with_reducible refine c1.mono ?_);rintro _ w1 ⟨rfl,hb1⟩;replace HB:=later HB hb1)
       go_ret
       exact⟨bool_said no,HB⟩
   · have hlt:(r:Int)<(L:Int):=by omega
     obtain⟨b,o,hA,hb,y0,l0,I⟩:=(VY.keep HB) r (by omega)
     subst hA
     by_cases gl:RL r=L
     · have e3:((RL r:Int) != (L:Int))=false:=by simp [gl]
       have c1:=snum_w (RA r) (RL r) (RC r) (Y r) l0 wr I
       cases hu:(someU (RL r) fun i=>!finB (Y r i))
       · rw [hu] at c1
         have h1:=someU_false.1 hu
         have hrow:Hid (RL r=L∧∀c,c<L→finB (Y r c)=true):=⟨gl,fun c hc=>by have:=h1 c (by omega);simpa using this⟩
         clear hu h1 gl
         go_wp2_with (go_at_call 20;(with_reducible refine c1.mono ?_);rintro _ w1 ⟨rfl,hb1⟩;replace HB:=later HB hb1;replace S:=S.keep hb1)
         go_roundg (L-r-1)
         case measure=>omega
         case rel=>exact⟨HB,S,r+1,by omega,by go_num,fun j hj=>by rcases Nat.lt_or_ge j r with h | h;exact hall j h;rw [show j=r by omega];exact hrow⟩
       · rw [hu] at c1
         have no:setB L L L RL X Y Z=false:=setB_no fun h=>by
           have q:(someU (RL r) fun i=>!finB (Y r i))=false:=someU_false.2 fun i hi=>by rw [(h.2.2.2.1 r (by omega)).2 i (by omega)];rfl
           rw [q] at hu;cases hu
         clear hu gl
         go_wp2_with (go_at_call 20;(with_reducible refine c1.mono ?_);rintro _ w1 ⟨rfl,hb1⟩;replace HB:=later HB hb1)
         go_ret
         exact⟨bool_said no,HB⟩
     · have e3:((RL r:Int) != (L:Int))=true:=by simp;omega
       have no:setB L L L RL X Y Z=false:=setB_no fun h=>gl (h.2.2.2.1 r (by omega)).1
       clear gl
       go_wp2_with fail
       go_ret
       exact⟨bool_said no,HB⟩
set_option maxRecDepth 4000 in
set_option maxHeartbeats 8000000 in
theorem rright9_w (A B R:Option Addr) (n C N D L E:Nat) (RA:Nat→Option Addr) (RL RC:Nat→Nat) (X:Nat→Nat) (Y:Nat→Nat→Nat) (Z:Nat→Nat×Nat) (hn:n≤9223372036854775807) (hN:N≤9223372036854775807) (hL:L≤9223372036854775807) (w:World) (VX:Fls w A n X) (VY:Rfs w B N RA RL RC Y) (VZ:Ivs w R L Z) :
   Calls Tryz.prog 5 #[setV A n C B N D R L E] w fun e w'=>e=.returned (.bool (setB n N L RL X Y Z))∧Below w.heap.size w w':=by
 unfold setV
 have S:Has3 (w.alloc (.cells #[.slice A n C,.slice B N D,.slice R L E] 26)) w.heap.size (.slice A n C) (.slice B N D) (.slice R L E):=set3_new _ _ _ _ _
 have HB:Below w.heap.size w (w.alloc (.cells #[.slice A n C,.slice B N D,.slice R L E] 26)):=by go_grown
 by_cases g1:1≤n
 case neg =>
   have e1:(n:Int)<1:=by omega
   go_enter Tryz.func5,Tryz.ntmps5
   go_upto_region 1 with fail
   generalize (w.alloc (.cells #[.slice A n C,.slice B N D,.slice R L E] 26))=V1 at *
   obtain⟨s0,s1,s2,s3,s4,s5,s6⟩:=id S
   go_wp2_with fail
   go_ret
   exact⟨bool_said (setB_no fun h=>g1 h.1.1),HB⟩
 have e1:¬(n:Int)<1:=by omega
 by_cases g2:n≤24
 case neg =>
   have e2:(24:Int)<(n:Int):=by omega
   go_enter Tryz.func5,Tryz.ntmps5
   go_upto_region 1 with fail
   generalize (w.alloc (.cells #[.slice A n C,.slice B N D,.slice R L E] 26))=V1 at *
   obtain⟨s0,s1,s2,s3,s4,s5,s6⟩:=id S
   go_wp2_with fail
   go_ret
   exact⟨bool_said (setB_no fun h=>g2 h.1.2),HB⟩
 have e2:¬(24:Int)<(n:Int):=by omega
 by_cases g3:N=n
 case neg =>
   have e3:((N:Int) != (n:Int))=true:=by simp;omega
   go_enter Tryz.func5,Tryz.ntmps5
   go_upto_region 1 with fail
   generalize (w.alloc (.cells #[.slice A n C,.slice B N D,.slice R L E] 26))=V1 at *
   obtain⟨s0,s1,s2,s3,s4,s5,s6⟩:=id S
   go_wp2_with fail
   go_ret
   exact⟨bool_said (setB_no fun h=>g3 h.2.1),HB⟩
 subst g3
 by_cases g4:L=N
 case neg =>
   have e3:((L:Int) != (N:Int))=true:=by simp;omega
   go_enter Tryz.func5,Tryz.ntmps5
   go_upto_region 1 with fail
   generalize (w.alloc (.cells #[.slice A N C,.slice B N D,.slice R L E] 26))=V1 at *
   obtain⟨s0,s1,s2,s3,s4,s5,s6⟩:=id S
   go_wp2_with fail
   go_ret
   exact⟨bool_said (setB_no fun h=>g4 h.2.2.1),HB⟩
 subst g4
 go_enter Tryz.func5,Tryz.ntmps5
 go_upto_region 1 with fail
 generalize (w.alloc (.cells #[.slice A L C,.slice B L D,.slice R L E] 26))=V1 at *
 obtain⟨s0,s1,s2,s3,s4,s5,s6⟩:=id S
 go_wp2_with fail
 clear s0 s1 s2 s3 s4 s5 s6
 go_loopg [33] L (fun G s33 wx=>Below w.heap.size w wx∧Has3 wx w.heap.size (.slice A L C) (.slice B L D) (.slice R L E)∧∃r:Nat,r+G=L∧s33=.int .i64 (r:Int)∧Hid (∀j,j<r→(RL j=L∧∀c,c<L→finB (Y j c)=true)∧finB (X j)=true∧bdB (Z j)=true))
 case atStart=>exact⟨HB,S,0,by omega,rfl,fun j hj=>absurd hj (by omega)⟩
 case round =>
   clear HB S
   obtain⟨HB,S,r,hr,rfl,hall⟩:=hrel
   obtain⟨s0,s1,s2,s3,s4,s5,s6⟩:=id S
   by_cases cr:r=L
   · subst cr
     have ok:setB r r r RL X Y Z=true:=setB_iff.2 ⟨⟨g1,g2⟩,rfl,rfl,fun j hj=>(hall j hj).1,fun j hj=>(hall j hj).2.1,fun j hj=>(hall j hj).2.2⟩
     go_wp2_with fail
     go_ret
     exact⟨bool_said ok,HB⟩
   · have hlt:(r:Int)<(L:Int):=by omega
     obtain⟨b,o,hA,hb,y0,l0,I⟩:=(VY.keep HB) r (by omega)
     obtain⟨bx,ox,hAx,hbx,x0,lx⟩:=(VX.keep HB) r (by omega)
     have VZr:=VZ.keep HB
     subst hA hAx
     by_cases gl:RL r=L
     case neg =>
       have e3:((RL r:Int) != (L:Int))=true:=by simp;omega
       have no:setB L L L RL X Y Z=false:=setB_no fun h=>gl (h.2.2.2.1 r (by omega)).1
       clear gl
       go_wp2_with fail
       go_ret
       exact⟨bool_said no,HB⟩
     have e3:((RL r:Int) != (L:Int))=false:=by simp [gl]
     have GL:Hid (RL r=L):=gl
     clear gl
     have c1:=fun w=>rfin9_w (x:=X r) lx w
     cases hu:finB (X r)
     · rw [hu] at c1
       have no:setB L L L RL X Y Z=false:=setB_no fun h=>by rw [h.2.2.2.2.1 r (by omega)] at hu;cases hu
       clear hu
       go_wp2_with (go_at_call 24;(with_reducible refine (c1 _).mono ?_);rintro _ w1 ⟨rfl,hb1⟩;replace HB:=later HB hb1)
       go_ret
       exact⟨bool_said no,HB⟩
     rw [hu] at c1
     replace hu:Hid (finB (X r)=true):=hu
     obtain⟨bz,oz,hAz,hbz,z0,z1,lz0,lz1⟩:=VZr r (by omega)
     have c2:=fun w=>rbd_w (v:=Z r) lz0 lz1 w
     subst hAz
     cases hv:bdB (Z r)
     · rw [hv] at c2
       have no:setB L L L RL X Y Z=false:=setB_no fun h=>by rw [h.2.2.2.2.2 r (by omega)] at hv;cases hv
       clear hv
       go_wp2_with (first
         | (go_at_call 24;(with_reducible refine (c1 _).mono ?_);rintro _ w1 ⟨rfl,hb1⟩;replace HB:=later HB hb1;replace z0:=keepsC hb1 z0 hbz;replace z1:=keepsC hb1 z1 hbz;replace S:=S.keep hb1;clear s0 s1 s2 s3 s4 s5 s6;obtain⟨s0,s1,s2,s3,s4,s5,s6⟩:=id S)
         | (go_at_call 15;(with_reducible refine (c2 _).mono ?_);rintro _ w2 ⟨rfl,hb2⟩;replace HB:=later HB hb2))
       go_ret
       exact⟨bool_said no,HB⟩
     rw [hv] at c2
     replace hv:Hid (bdB (Z r)=true):=hv
     go_wp2_with (first
       | (go_at_call 24;(with_reducible refine (c1 _).mono ?_);rintro _ w1 ⟨rfl,hb1⟩;replace HB:=later HB hb1;replace z0:=keepsC hb1 z0 hbz;replace z1:=keepsC hb1 z1 hbz;replace y0:=keepsC hb1 y0 hb;replace hb:=Nat.lt_of_lt_of_le hb hb1.size;replace S:=S.keep hb1;clear s0 s1 s2 s3 s4 s5 s6;obtain⟨s0,s1,s2,s3,s4,s5,s6⟩:=id S)
       | (go_at_call 15;(with_reducible refine (c2 _).mono ?_);rintro _ w2 ⟨rfl,hb2⟩;replace HB:=later HB hb2;replace y0:=keepsC hb2 y0 hb;replace S:=S.keep hb2;clear s0 s1 s2 s3 s4 s5 s6;obtain⟨s0,s1,s2,s3,s4,s5,s6⟩:=id S))
     clear s0 s1 s2 s3 s4 s5 s6 x0 y0 z0 z1 c1 c2 I VZr
     go_loopg [68] (RL r) (fun G s68 wy=>Below w.heap.size w wy∧Has3 wy w.heap.size (.slice (some ⟨bx,ox,none⟩) L C) (.slice (some ⟨b,o,none⟩) L D) (.slice (some ⟨bz,oz,none⟩) L E)∧∃c:Nat,c+G=RL r∧s68=.int .i64 (c:Int)∧Hid (∀j,j<c→finB (Y r j)=true))
     case atStart=>exact⟨HB,S,0,by omega,rfl,fun j hj=>absurd hj (by omega)⟩
     case round =>
       clear HB S
       obtain⟨HB,S,c,hc,rfl,hin⟩:=hrel
       by_cases cc:c=RL r
       · have cc':¬(c:Int)<(RL r:Int):=by omega
         go_wp2_with fail
         go_roundg (L-r-1)
         case measure=>omega
         case rel =>
           refine⟨HB,S,r+1,by omega,by go_num,fun j hj=>?_⟩
           rcases Nat.lt_or_ge j r with h | h
           · exact hall j h
           · rw [show j=r by omega]
             exact⟨⟨GL,fun c' hc'=>hin c' (by have:RL r=L:=GL;omega)⟩,hu,hv⟩
       · have hlt2:(c:Int)<(RL r:Int):=by omega
         obtain⟨_,_, -, -, -, -,I⟩:=(VY.keep HB) r (by omega)
         obtain⟨b2,o2,hA2,hb2,q0,m0⟩:=I c (by omega)
         have c1:=fun w=>rfin9_w (x:=Y r c) m0 w
         cases hw:finB (Y r c)
         · rw [hw] at c1
           have no:setB L L L RL X Y Z=false:=setB_no fun h=>by rw [(h.2.2.2.1 r (by omega)).2 c (by have:RL r=L:=GL;omega)] at hw;cases hw
           clear hw I
           generalize RA r=P at *
           subst hA2
           go_wp2_with (go_at_call 24;(with_reducible refine (c1 _).mono ?_);rintro _ w1 ⟨rfl,hb1⟩;replace HB:=later HB hb1)
           go_ret
           exact⟨bool_said no,HB⟩
         · rw [hw] at c1
           replace hw:Hid (finB (Y r c)=true):=hw
           clear I
           generalize RA r=P at *
           subst hA2
           go_wp2_with (go_at_call 24;(with_reducible refine (c1 _).mono ?_);rintro _ w1 ⟨rfl,hb1⟩;replace HB:=later HB hb1;replace S:=S.keep hb1)
           go_roundg (RL r-c-1)
           case measure=>omega
           case rel=>exact⟨HB,S,c+1,by omega,by go_num,fun j hj=>by rcases Nat.lt_or_ge j c with h | h;exact hin j h;rw [show j=c by omega];exact hw⟩
end Go.Proofs.YtdokikhhlmelkaaGreat
