/- Slices of intervals, and slices of those, as they lie in memory; what vectorMayBe, Vector and isDimension answer. Matrices of intervals: may they be? Sums of products of intervals: the program's and the reference's. Slices of intervals that a call makes: one more at their end, as many noughts, and what they hold. The program's Dot, a matrix's first row, and both images of a vector. -/
import Derived.Test.YtfdomcnaaadedaaZs18
import Derived.Deep.LoopGhost
import Derived.Test.YtfdomcnaaadedaaZs22
import Derived.Test.YtfdomcnaaadedaaZs12
import Derived.Handy
namespace Go.Proofs.Ytfdomcnaaadedaa
open Go.ChangeShapes Go.WideShapes Go.ChangeAt Go.RowKit
def Ivs (w:World) (A:Option Addr) (n:Nat) (X:Nat→Nat×Nat):Prop :=
 ∀i,i<n→∃b o,A=some ⟨b,o,none⟩∧b<w.heap.size∧w.cell? ⟨b,o+i*2,none⟩=some (.float .f64 (X i).1)∧w.cell? ⟨b,o+i*2+1,none⟩=some (.float .f64 (X i).2)∧(X i).1<18446744073709551616∧(X i).2<18446744073709551616
theorem Ivs.keep {w w2:World} {A:Option Addr} {n:Nat} {X:Nat→Nat×Nat} (h:Ivs w A n X) (hb:Below w.heap.size w w2):Ivs w2 A n X:=fun i hi=>by
 obtain⟨b,o,e,l,c0,c1,r⟩:=h i hi
 exact⟨b,o,e,Nat.lt_of_lt_of_le l hb.size,keepsC hb c0 l,keepsC hb c1 l,r⟩
def dimB (n:Nat):Bool:=decide (1≤n∧n≤24)
theorem dim_yes {n:Nat} (h1:1≤n) (h2:n≤24):dimB n=true:=decide_eq_true ⟨h1,h2⟩
theorem dim_no {n:Nat} (h:n=0∨24<n):dimB n=false:=decide_eq_false (by omega)
theorem all_upto {p:Nat→Bool} {n:Nat}:(List.range n).all p=true↔∀i,i<n→p i=true:=by
 rw [List.all_eq_true]
 exact⟨fun h i hi=>h i (List.mem_range.2 hi),fun h i hi=>h i (List.mem_range.1 hi)⟩
theorem all_not {p:Nat→Bool} {n i:Nat} (hi:i<n) (h:p i=false):(List.range n).all p=false:=by
 cases c:(List.range n).all p
 · rfl
 · rw [all_upto.1 c i hi] at h;cases h
theorem isDim_w (n:Nat) (hn:n≤9223372036854775807) (w:World):Calls Try.prog 45 #[.int .i64 (n:Int)] w fun e w'=>e=.returned (.bool (dimB n))∧w=w':=by
 by_cases c1:1≤n
 · by_cases c2:n≤24
   · have h1:(1:Int)≤(n:Int):=by omega
     have h2:(n:Int)≤24:=by omega
     rw [dim_yes c1 c2]
     go_enter Try.func45,Try.ntmps45
     go_wp2_with fail
     go_ret
     exact⟨rfl,rfl⟩
   · have h1:(1:Int)≤(n:Int):=by omega
     have h2:¬(n:Int)≤24:=by omega
     rw [dim_no (by omega)]
     go_enter Try.func45,Try.ntmps45
     go_wp2_with fail
     go_ret
     exact⟨rfl,rfl⟩
 · have h1:¬(1:Int)≤(n:Int):=by omega
   rw [dim_no (by omega)]
   go_enter Try.func45,Try.ntmps45
   go_wp2_with fail
   go_ret
   exact⟨rfl,rfl⟩
def Rws (w:World) (A:Option Addr) (N:Nat) (RA:Nat→Option Addr) (RL RC:Nat→Nat) (X:Nat→Nat→Nat×Nat):Prop :=
 ∀r,r<N→∃b o,A=some ⟨b,o,none⟩∧b<w.heap.size∧w.cell? ⟨b,o+r,none⟩=some (.slice (RA r) (RL r) (RC r))∧RL r≤9223372036854775807∧Ivs w (RA r) (RL r) (X r)
theorem Rws.keep {w w2:World} {A:Option Addr} {N:Nat} {RA:Nat→Option Addr} {RL RC:Nat→Nat} {X:Nat→Nat→Nat×Nat} (h:Rws w A N RA RL RC X) (hb:Below w.heap.size w w2):Rws w2 A N RA RL RC X:=fun r hr=>by
 obtain⟨b,o,e,l,c0,c1,i⟩:=h r hr
 exact⟨b,o,e,Nat.lt_of_lt_of_le l hb.size,keepsC hb c0 l,c1,i.keep hb⟩
def dotP (X Y:Nat→Nat×Nat):Nat→Nat×Nat
 | 0=>(0,0)
 | k+1=>addP (dotP X Y k).1 (dotP X Y k).2 (mulP (X k).1 (X k).2 (Y k).1 (Y k).2).1 (mulP (X k).1 (X k).2 (Y k).1 (Y k).2).2
theorem dotP_lt {n:Nat} {X Y:Nat→Nat×Nat} (hx:∀i,i<n→(X i).1<18446744073709551616∧(X i).2<18446744073709551616) (hy:∀i,i<n→(Y i).1<18446744073709551616∧(Y i).2<18446744073709551616):(dotP X Y n).1<18446744073709551616∧(dotP X Y n).2<18446744073709551616:=by
 induction n with
 | zero=>exact⟨show 0<18446744073709551616 by omega,show 0<18446744073709551616 by omega⟩
 | succ n ih =>
   have d:=ih (fun i hi=>hx i (by omega)) (fun i hi=>hy i (by omega))
   have a:=hx n (by omega)
   have b:=hy n (by omega)
   have m:=mulP_lt a.1 a.2 b.1 b.2
   exact addP_lt d.1 d.2 m.1 m.2
set_option maxHeartbeats 4000000 in
theorem dot_core (A B:Option Addr) (n m C D:Nat) (X Y P Q:Nat→Nat×Nat) (hn:n≤9223372036854775807) (hm:m≤9223372036854775807) (hnm:n≤m) (w:World) (V:Ivs w A n X) (U:Ivs w B m Y)
   (cz:∀w,Calls Try.prog 36 #[.float .f64 0] w fun e w'=>e=.returned (.agg #[.float .f64 (P 0).1,.float .f64 (P 0).2])∧Below w.heap.size w w')
   (cm:∀i,i<n→∀w,Calls Try.prog 67 #[.agg #[.float .f64 (X i).1,.float .f64 (X i).2],.agg #[.float .f64 (Y i).1,.float .f64 (Y i).2]] w fun e w'=>e=.returned (.agg #[.float .f64 (Q i).1,.float .f64 (Q i).2])∧Below w.heap.size w w')
   (ca:∀i,i<n→∀w,Calls Try.prog 53 #[.agg #[.float .f64 (P i).1,.float .f64 (P i).2],.agg #[.float .f64 (Q i).1,.float .f64 (Q i).2]] w fun e w'=>e=.returned (.agg #[.float .f64 (P (i+1)).1,.float .f64 (P (i+1)).2])∧Below w.heap.size w w') :
   Calls Try.prog 47 #[.slice A n C,.slice B m D] w fun e w'=>e=.returned (.agg #[.float .f64 (P n).1,.float .f64 (P n).2])∧Below w.heap.size w w':=by
 have R:Has2 (w.alloc (.cells #[.float .f64 0,.float .f64 0] 64)) w.heap.size (.float .f64 0) (.float .f64 0):=has2_new _ _ _ _
 have HB:Below w.heap.size w (w.alloc (.cells #[.float .f64 0,.float .f64 0] 64)):=below_alloc (Below.refl _ _) _
 go_enter Try.func47,Try.ntmps47
 go_upto_region 1 with fail
 generalize w.alloc (.cells #[.float .f64 0,.float .f64 0] 64)=V0 at *
 go_upto_region 2 with (go_at_call 36;refine (cz _).mono ?_;rintro _ V1 ⟨rfl,hb1⟩;replace R:=R.keep hb1;replace HB:=later HB hb1;clear hb1)
 have lo:w.heap.size<V1.heap.size:=R.2.2.2.2
 have O:=has2_new V1 (.float .f64 (P 0).1) (.float .f64 (P 0).2) 64
 replace R:=R.alloc (.cells #[.float .f64 (P 0).1,.float .f64 (P 0).2] 64)
 replace HB:=below_alloc HB (.cells #[.float .f64 (P 0).1,.float .f64 (P 0).2] 64)
 generalize V1.alloc (.cells #[.float .f64 (P 0).1,.float .f64 (P 0).2] 64)=V2 at *
 generalize V1.heap.size=ob at *
 clear V1 V0 cz
 go_wp2_with fail
 go_loopg [10] n (fun G s10 wx=>Below w.heap.size w wx∧Has2 wx w.heap.size (.float .f64 0) (.float .f64 0)∧∃i:Nat,i+G=n∧s10=.int .i64 (i:Int)∧Has2 wx ob (.float .f64 (P i).1) (.float .f64 (P i).2))
 case atStart=>exact⟨HB,R,0,by omega,rfl,O⟩
 case round =>
   clear HB R O
   obtain⟨HB,R,i,hi,rfl,O⟩:=hrel
   by_cases ci:i=n
   · subst ci
     obtain⟨z0,z1,z2,z3,z4⟩:=id O
     obtain⟨r0,r1,r2,r3,r4⟩:=id R
     go_wp2_with fail
     refine bodyPost_ret (v:=.agg #[.float .f64 (P i).1,.float .f64 (P i).2]) (by simp [results,Try.results47,go_sem, *]) rfl ⟨rfl, ?_⟩
     repeat' (first | (with_reducible exact HB) | (with_reducible refine Below.setCell ?_ ?_ _) | go_size)
   · have hlt:(i:Int)<(n:Int):=by omega
     have hlt2:(i:Int)<(m:Int):=by omega
     obtain⟨b,o,hA,hb,x0,x1, -, -⟩:=(V.keep HB) i (by omega)
     obtain⟨b',o',hB,hb',y0,y1, -, -⟩:=(U.keep HB) i (by omega)
     have c1:=cm i (by omega)
     have c2:=ca i (by omega)
     subst hA hB
     go_upto_region 5 with fail
     have kx0:=fun n:Behind wr=>n.cell x0 hb
     have kx1:=fun n:Behind wr=>n.cell x1 hb
     have ky0:=fun n:Behind wr=>n.cell y0 hb'
     have ky1:=fun n:Behind wr=>n.cell y1 hb'
     have ko0:=fun n:Behind wr=>n.cell O.1 O.2.2.2.2
     have ko1:=fun n:Behind wr=>n.cell O.2.1 O.2.2.2.2
     clear x0 x1 y0 y1
     refine tail_behind 11 (by kernel_rfl) (by kernel_rfl) ?_
     simp only [List.take_succ_cons,List.take_zero,List.drop_succ_cons,List.drop_zero]
     repeat (go_big_quiet_step (first
       | (go_at_call 67;with_reducible refine Behind.call (c1 _))
       | (go_at_call 53;with_reducible refine Behind.call (c2 _))))
     refine wpQuiet_nil ?_
     rintro _ ⟨q,rfl⟩
     obtain⟨W,hb1⟩:=q
     dsimp only
     clear kx0 kx1 ky0 ky1 ko0 ko1
     replace R:=R.keep hb1;replace O:=O.keep hb1;replace HB:=later HB hb1;clear hb1
     obtain⟨z0,z1,z2,z3,z4⟩:=id O
     go_wp2_with fail
     go_roundg (n-i-1)
     case measure=>omega
     case rel =>
       refine⟨?_,R.far (by omega) _ _,i+1,by omega,by go_num,O.put _ _⟩
       repeat' (first | (with_reducible exact HB) | (with_reducible refine Below.setCell ?_ ?_ _) | go_size | omega)
theorem ivs_words {w:World} {A:Option Addr} {n:Nat} {X:Nat→Nat×Nat} (V:Ivs w A n X):∀i,i<n→(X i).1<18446744073709551616∧(X i).2<18446744073709551616:=fun i hi=>by
 obtain⟨b,o,e,l,c0,c1,r⟩:=V i hi
 exact r
theorem dot_w (A B:Option Addr) (n m C D:Nat) (X Y:Nat→Nat×Nat) (hn:n≤9223372036854775807) (hm:m≤9223372036854775807) (hnm:n≤m) (w:World) (V:Ivs w A n X) (U:Ivs w B m Y) :
   Calls Try.prog 47 #[.slice A n C,.slice B m D] w fun e w'=>e=.returned (.agg #[.float .f64 (dotP X Y n).1,.float .f64 (dotP X Y n).2])∧Below w.heap.size w w':=by
 have a:=ivs_words V
 have b:=ivs_words U
 exact dot_core A B n m C D X Y (dotP X Y) (fun i=>mulP (X i).1 (X i).2 (Y i).1 (Y i).2) hn hm hnm w V U point0_w (fun i hi w=>Mul_w _ _ _ _ (a i hi).1 (a i hi).2 (b i (by omega)).1 (b i (by omega)).2 w)
   (fun i hi w=>Add_w _ _ _ _ (dotP_lt (n:=i) (fun j hj=>a j (by omega)) (fun j hj=>b j (by omega))).1 (dotP_lt (n:=i) (fun j hj=>a j (by omega)) (fun j hj=>b j (by omega))).2 (mulP_lt (a i hi).1 (a i hi).2 (b i (by omega)).1 (b i (by omega)).2).1 (mulP_lt (a i hi).1 (a i hi).2 (b i (by omega)).1 (b i (by omega)).2).2 w)
theorem Try.infoIval:(Try.prog.info? 64).map (fun i=>(i.zero,i.size,i.bytes))=some (some (.agg #[.float .f64 0,.float .f64 0]),2,16):=by kernel_rfl
end Go.Proofs.Ytfdomcnaaadedaa
