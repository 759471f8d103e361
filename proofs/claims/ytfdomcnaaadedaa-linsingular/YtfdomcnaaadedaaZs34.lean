/- The greatest powers' bounds; what was picked are rows of no floats, or of as many as there are rows. A column of floats; squares of floats. -/
import Derived.Test.YtfdomcnaaadedaaZs30
import Derived.Test.YtfdomcnaaadedaaZs33
import Derived.Test.YtfdomcnaaadedaaZs25
import Derived.Test.YtfdomcnaaadedaaZs31
namespace Go.Proofs.Ytfdomcnaaadedaa
open Go.ChangeShapes Go.WideShapes Go.ChangeAt Go.RowKit
theorem gp_some (X:Nat→Nat) (D:Nat→Int) (lo hi:Int) (hlo:-100000≤lo) (hhi:hi≤100000):∀n,(∀j,j<n→finB (X j)=true)→(∀j,j<n→zeB (X j)=false→lo≤D j∧D j≤hi)→gpI X D n=-9223372036854775808∨(-1074-hi≤gpI X D n∧gpI X D n≤1035-lo)
 | 0,_,_=>Or.inl rfl
 | n+1,hf,hD=>by
   have ih:=gp_some X D lo hi hlo hhi n (fun j hj=>hf j (by omega)) (fun j hj=>hD j (by omega))
   unfold gpI
   cases hz:zeB (X n)
   · rw [if_neg (by simp)]
     have b:=pw_bounds (hf n (by omega))
     have d:=hD n (by omega) hz
     right
     omega
   · rw [if_pos rfl]
     exact ih
theorem gp_seen (X:Nat→Nat) (D:Nat→Int) (lo hi:Int) (hlo:-100000≤lo) (hhi:hi≤100000) (n:Nat) (hf:∀j,j<n→finB (X j)=true) (hD:∀j,j<n→zeB (X j)=false→lo≤D j∧D j≤hi) (j:Nat) (hj:j<n) (hz:zeB (X j)=false):-1074-hi≤gpI X D n∧gpI X D n≤1035-lo:=by
 rcases gp_some X D lo hi hlo hhi n hf hD with h | h
 · exfalso
   have up:∀m,j<m→m≤n→-1074-hi≤gpI X D m:=fun m=>by
     induction m with
     | zero=>intro h;omega
     | succ m ih =>
       intro h1 h2
       unfold gpI
       by_cases e:j=m
       · subst e
         rw [hz,if_neg (by simp)]
         have b:=pw_bounds (hf j hj)
         have d:=hD j hj hz
         omega
       · have q:=ih (by omega) (by omega)
         cases zeB (X m)
         · rw [if_neg (by simp)];omega
         · rw [if_pos rfl];exact q
   have:=up n hj (Nat.le_refl _)
   omega
 · exact h
theorem Pick.rows {w:World} {c n:Nat} {f:Nat→Value} (h:Pick w c n f) (hn:n≤24):∃(RA:Nat→Option Addr) (RL RC:Nat→Nat) (X:Nat→Nat→Nat),Rfs w (some ⟨c,0,none⟩) n RA RL RC X∧∀r,r<n→RL r=0∨RL r=n:=by
 have q:∀r,∃p:Option Addr×Nat×Nat×(Nat→Nat),r<n→f r=.slice p.1 p.2.1 p.2.2.1∧p.2.1≤9223372036854775807∧Fls w p.1 p.2.1 p.2.2.2∧(p.2.1=0∨p.2.1=n):=fun r=>by
   by_cases hr:r<n
   · rcases h.half r hr with e | ⟨d,e,F⟩
     · exact⟨(none,0,0,fun _=>0),fun _=>⟨e,by simp,fun i hi=>absurd hi (by simp),Or.inl rfl⟩⟩
     · obtain⟨X,hX⟩:=F.fls n n (Nat.le_refl _)
       exact⟨(some ⟨d,n,none⟩,n,n,X),fun _=>⟨e,by show n≤_;omega,fun i hi=>⟨d,n,rfl,F.lt,(hX i hi).1,(hX i hi).2⟩,Or.inr rfl⟩⟩
   · exact⟨(none,0,0,fun _=>0),fun a=>absurd a hr⟩
 obtain⟨R,hR⟩:=Classical.axiomOfChoice q
 refine⟨fun r=>(R r).1,fun r=>(R r).2.1,fun r=>(R r).2.2.1,fun r=>(R r).2.2.2,fun r hr=>?_,fun r hr=>(hR r hr).2.2.2⟩
 obtain⟨e,l,J, -⟩:=hR r hr
 exact⟨c,0,rfl,h.out.1,by rw [Nat.zero_add,(h.out.2 r hr).1,e],l,J⟩
set_option maxHeartbeats 2000000 in
theorem columnF_w (A:Option Addr) (N C j:Nat) (RA:Nat→Option Addr) (RL RC:Nat→Nat) (X:Nat→Nat→Nat) (hN:N≤24) (hR:∀r,r<N→j<RL r) (w:World) (V:Rfs w A N RA RL RC X) :
   Calls Try.prog 33 #[.slice A N C,.int .i64 (j:Int)] w fun e w'=>∃g,e=.returned (.slice (some ⟨g,0,none⟩) N N)∧Fls w' (some ⟨g,0,none⟩) N (fun r=>X r j)∧w.heap.size≤g∧Below w.heap.size w w':=by
 have HR:Hid (∀r,r<N→j<RL r):=hR
 clear hR
 go_enter Try.func33,Try.ntmps33
 go_wp2_with (at_make;refine wpList_makeF (by rfl) _ _ (by rfl) N (by rfl) (by rfl) (by omega) ?_;intro w3 hI HB hS3)
 have HI:Hid (Flo w3 w.heap.size N):=hI
 clear hI
 go_loopg [12] N (fun G s12 wx=>Below w.heap.size w wx∧∃r:Nat,r+G=N∧s12=.int .i64 (r:Int)∧Hid (Flo wx w.heap.size N)∧Hid (∀i,i<r→wx.cell? ⟨w.heap.size,i,none⟩=some (.float .f64 (X i j))∧X i j<18446744073709551616))
 case atStart=>exact⟨HB,0,by omega,rfl,HI,fun i hi=>absurd hi (by omega)⟩
 case round =>
   clear HB HI
   obtain⟨HB,r,hr,rfl,HI,HK⟩:=hrel
   by_cases cr:r=N
   · subst cr
     go_wp2_with fail
     go_ret
     exact⟨_,rfl,fun i hi=>⟨_,_,rfl,HI.out.lt,by rw [Nat.zero_add];exact (HK.out i hi).1,(HK.out i hi).2⟩,Nat.le_refl _,HB⟩
   · have hlt:(r:Int)<(N:Int):=by omega
     obtain⟨b',o',hA,hb',x0,l0,I⟩:=(V.keep HB) r (by omega)
     have hjr:=HR.out r (by omega)
     have hlt2:(j:Int)<(RL r:Int):=by omega
     obtain⟨b2,o2,hA2,hb2,y0,ly⟩:=I j hjr
     obtain⟨z,z0,z1, -⟩:=HI.out.at r (by omega)
     have HX:Hid (X r j<18446744073709551616):=ly
     subst hA
     rw [hA2] at x0
     go_wp2_with fail
     go_roundg (N-r-1)
     case measure=>omega
     case rel =>
       refine⟨HB.setCell (Nat.le_refl _) _,r+1,by omega,by go_num,HI.out.set _ _ _ HX,fun i hi=>?_⟩
       by_cases e:i=r
       · subst e
         exact⟨by go_simp,HX⟩
       · have m:r≠i:=fun c=>e c.symm
         obtain⟨p,q⟩:=HK.out i (by omega)
         exact⟨by go_simp,q⟩
theorem square_w (A:Option Addr) (N C:Nat) (RA:Nat→Option Addr) (RL RC:Nat→Nat) (X:Nat→Nat→Nat) (hN:N≤9223372036854775807) (w:World) (V:Rfs w A N RA RL RC X) :
   Calls Try.prog 10 #[.slice A N C] w fun e w'=>e=.returned (.bool (fltB N RL X&&decide (N=RL 0)))∧Below w.heap.size w w':=by
 have c:=floatsMay_w A N C RA RL RC X hN w V
 cases hf:fltB N RL X
 · rw [hf] at c
   go_enter Try.func10,Try.ntmps10
   go_wp2_with (go_at_call 31;refine c.mono ?_;rintro _ w1 ⟨rfl,hb1⟩)
   go_ret
   exact⟨rfl,hb1⟩
 · rw [hf] at c
   obtain⟨m1,m2, -, -, -⟩:=fltB_parts hf
   obtain⟨b,o,hA,hb,x0,l0, -⟩:=V 0 (by omega)
   rw [Nat.add_zero] at x0
   have h0:(0:Int)<(N:Int):=by omega
   have he:((N:Int)==(RL 0:Int))=decide (N=RL 0):=by
     by_cases q:N=RL 0
     · rw [←q];simp
     · rw [decide_eq_false q];simp;omega
   generalize decide (N=RL 0)=d at *
   subst hA
   go_enter Try.func10,Try.ntmps10
   go_wp2_with (go_at_call 31;refine c.mono ?_;rintro _ w1 ⟨rfl,hb1⟩;replace x0:=keepsC hb1 x0 hb)
   go_ret
   exact⟨by simp,hb1⟩
end Go.Proofs.Ytfdomcnaaadedaa
