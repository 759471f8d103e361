/- The series: each closure's step, and the loop over them. The loop over a series' terms, once for each closure that it is handed. -/
import Derived.Test.YtnnfafilgiajoaaGreatZ30
import Derived.Test.YtnnfafilgiajoaaGreatZ19
namespace Go.Proofs.YtnnfafilgiajoaaGreat
open Go.ChangeShapes Go.WideShapes Go.ChangeAt Go.RowKit
set_option maxHeartbeats 1000000 in
theorem pow_step (o1 o2 r1 r2 t1 t2:Nat) (m p q s:Nat×Nat) (n:Int) (hn0:0≤n) (hn1:n<1000)
   (c1:∀w,Calls Tryz.prog 186 #[.int .i64 (n+1)] w fun e w'=>e=.returned (.agg #[.float .f64 m.1,.float .f64 m.2])∧Below w.heap.size w w')
   (c2:∀w,Calls Tryz.prog 85 #[.agg #[.float .f64 r1,.float .f64 r2],.agg #[.float .f64 t1,.float .f64 t2]] w fun e w'=>e=.returned (.agg #[.float .f64 p.1,.float .f64 p.2])∧Below w.heap.size w w')
   (c3:∀w,Calls Tryz.prog 86 #[.agg #[.float .f64 p.1,.float .f64 p.2],.agg #[.float .f64 m.1,.float .f64 m.2]] w fun e w'=>e=.returned (.agg #[.float .f64 q.1,.float .f64 q.2])∧Below w.heap.size w w')
   (c4:∀w,Calls Tryz.prog 83 #[.agg #[.float .f64 o1,.float .f64 o2],.agg #[.float .f64 q.1,.float .f64 q.2]] w fun e w'=>e=.returned (.agg #[.float .f64 s.1,.float .f64 s.2])∧Below w.heap.size w w')
   (a b:Nat) (w:World) (A:Has2 w a (.float .f64 o1) (.float .f64 o2)) (B:Has2 w b (.float .f64 r1) (.float .f64 r2)) :
   Calls Tryz.prog 185 #[.int .i64 n,.agg #[.float .f64 t1,.float .f64 t2],.pointer (some ⟨a,0,none⟩),.pointer (some ⟨b,0,none⟩)] w fun e w'=>e=.returned (.agg #[.float .f64 s.1,.float .f64 s.2])∧Below w.heap.size w w':=by
 have X:Has2 ((w.alloc (.cells #[.float .f64 t1,.float .f64 t2] 40)).alloc (.cells #[.float .f64 0,.float .f64 0] 40)) w.heap.size (.float .f64 t1) (.float .f64 t2):=⟨by go_simp,by go_simp,by go_simp,by go_simp,by go_size⟩
 have R:Has2 ((w.alloc (.cells #[.float .f64 t1,.float .f64 t2] 40)).alloc (.cells #[.float .f64 0,.float .f64 0] 40)) (w.heap.size+1) (.float .f64 0) (.float .f64 0):=⟨by go_simp,by go_simp,by go_simp,by go_simp,by go_size⟩
 have HB:Below w.heap.size w ((w.alloc (.cells #[.float .f64 t1,.float .f64 t2] 40)).alloc (.cells #[.float .f64 0,.float .f64 0] 40)):=by go_grown
 replace A:=A.keep HB
 replace B:=B.keep HB
 go_enter Tryz.func185,Tryz.ntmps185
 go_upto_region 4 with fail
 generalize ((w.alloc (.cells #[.float .f64 t1,.float .f64 t2] 40)).alloc (.cells #[.float .f64 0,.float .f64 0] 40))=V1 at *
 have ka0:=fun n:Behind V1=>n.cell A.1 A.2.2.2.2
 have ka1:=fun n:Behind V1=>n.cell A.2.1 A.2.2.2.2
 have kb0:=fun n:Behind V1=>n.cell B.1 B.2.2.2.2
 have kb1:=fun n:Behind V1=>n.cell B.2.1 B.2.2.2.2
 have kx0:=fun n:Behind V1=>n.cell X.1 X.2.2.2.2
 have kx1:=fun n:Behind V1=>n.cell X.2.1 X.2.2.2.2
 refine tail_behind 9 (by kernel_rfl) (by kernel_rfl) ?_
 simp only [List.take_succ_cons,List.take_zero,List.drop_succ_cons,List.drop_zero]
 repeat (go_big_quiet_step (first
   | (go_at_call 186;with_reducible refine Behind.call (c1 _))
   | (go_at_call 85;with_reducible refine Behind.call (c2 _))
   | (go_at_call 86;with_reducible refine Behind.call (c3 _))
   | (go_at_call 83;with_reducible refine Behind.call (c4 _))))
 refine wpQuiet_nil ?_
 rintro _ ⟨m',rfl⟩
 obtain⟨W,hb1⟩:=m'
 dsimp only
 clear kx0 kx1 ka0 ka1 kb0 kb1 A B
 replace R:=R.keep hb1;replace HB:=later HB hb1;clear hb1
 obtain⟨k0,k1,k2,k3,k4⟩:=id R
 go_wp2_with fail
 refine bodyPost_ret (v:=.agg #[.float .f64 s.1,.float .f64 s.2]) (by simp [results,Tryz.results185,go_sem, *]) rfl ⟨rfl, ?_⟩
 repeat' (first | (with_reducible exact HB) | (with_reducible refine Below.setCell ?_ ?_ _) | go_size)
set_option maxHeartbeats 1000000 in
theorem odd_step (o1 o2 r1 r2 t1 t2:Nat) (m p q s:Nat×Nat) (n:Int) (hn0:0≤n) (hn1:n<1000)
   (c1:∀w,Calls Tryz.prog 186 #[.int .i64 (2*n+1)] w fun e w'=>e=.returned (.agg #[.float .f64 m.1,.float .f64 m.2])∧Below w.heap.size w w')
   (c2:∀w,Calls Tryz.prog 86 #[.agg #[.float .f64 o1,.float .f64 o2],.agg #[.float .f64 m.1,.float .f64 m.2]] w fun e w'=>e=.returned (.agg #[.float .f64 q.1,.float .f64 q.2])∧Below w.heap.size w w')
   (c3:∀w,Calls Tryz.prog 85 #[.agg #[.float .f64 r1,.float .f64 r2],.agg #[.float .f64 t1,.float .f64 t2]] w fun e w'=>e=.returned (.agg #[.float .f64 p.1,.float .f64 p.2])∧Below w.heap.size w w')
   (c4:∀w,Calls Tryz.prog 83 #[.agg #[.float .f64 q.1,.float .f64 q.2],.agg #[.float .f64 p.1,.float .f64 p.2]] w fun e w'=>e=.returned (.agg #[.float .f64 s.1,.float .f64 s.2])∧Below w.heap.size w w')
   (a b:Nat) (w:World) (A:Has2 w a (.float .f64 o1) (.float .f64 o2)) (B:Has2 w b (.float .f64 r1) (.float .f64 r2)) :
   Calls Tryz.prog 205 #[.int .i64 n,.agg #[.float .f64 t1,.float .f64 t2],.pointer (some ⟨a,0,none⟩),.pointer (some ⟨b,0,none⟩)] w fun e w'=>e=.returned (.agg #[.float .f64 s.1,.float .f64 s.2])∧Below w.heap.size w w':=by
 have X:Has2 ((w.alloc (.cells #[.float .f64 t1,.float .f64 t2] 40)).alloc (.cells #[.float .f64 0,.float .f64 0] 40)) w.heap.size (.float .f64 t1) (.float .f64 t2):=⟨by go_simp,by go_simp,by go_simp,by go_simp,by go_size⟩
 have R:Has2 ((w.alloc (.cells #[.float .f64 t1,.float .f64 t2] 40)).alloc (.cells #[.float .f64 0,.float .f64 0] 40)) (w.heap.size+1) (.float .f64 0) (.float .f64 0):=⟨by go_simp,by go_simp,by go_simp,by go_simp,by go_size⟩
 have HB:Below w.heap.size w ((w.alloc (.cells #[.float .f64 t1,.float .f64 t2] 40)).alloc (.cells #[.float .f64 0,.float .f64 0] 40)):=by go_grown
 replace A:=A.keep HB
 replace B:=B.keep HB
 go_enter Tryz.func205,Tryz.ntmps205
 go_upto_region 4 with fail
 generalize ((w.alloc (.cells #[.float .f64 t1,.float .f64 t2] 40)).alloc (.cells #[.float .f64 0,.float .f64 0] 40))=V1 at *
 have ka0:=fun n:Behind V1=>n.cell A.1 A.2.2.2.2
 have ka1:=fun n:Behind V1=>n.cell A.2.1 A.2.2.2.2
 have kb0:=fun n:Behind V1=>n.cell B.1 B.2.2.2.2
 have kb1:=fun n:Behind V1=>n.cell B.2.1 B.2.2.2.2
 have kx0:=fun n:Behind V1=>n.cell X.1 X.2.2.2.2
 have kx1:=fun n:Behind V1=>n.cell X.2.1 X.2.2.2.2
 refine tail_behind 10 (by kernel_rfl) (by kernel_rfl) ?_
 simp only [List.take_succ_cons,List.take_zero,List.drop_succ_cons,List.drop_zero]
 repeat (go_big_quiet_step (first
   | (go_at_call 186;with_reducible refine Behind.call (c1 _))
   | (go_at_call 86;with_reducible refine Behind.call (c2 _))
   | (go_at_call 85;with_reducible refine Behind.call (c3 _))
   | (go_at_call 83;with_reducible refine Behind.call (c4 _))))
 refine wpQuiet_nil ?_
 rintro _ ⟨m',rfl⟩
 obtain⟨W,hb1⟩:=m'
 dsimp only
 clear kx0 kx1 ka0 ka1 kb0 kb1 A B
 replace R:=R.keep hb1;replace HB:=later HB hb1;clear hb1
 obtain⟨k0,k1,k2,k3,k4⟩:=id R
 go_wp2_with fail
 refine bodyPost_ret (v:=.agg #[.float .f64 s.1,.float .f64 s.2]) (by simp [results,Tryz.results205,go_sem, *]) rfl ⟨rfl, ?_⟩
 repeat' (first | (with_reducible exact HB) | (with_reducible refine Below.setCell ?_ ?_ _) | go_size)
set_option maxHeartbeats 1000000 in
theorem turn_step (o1 o2 r1 r2 t1 t2:Nat) (m p q s:Nat×Nat) (n f:Int) (hn0:0≤n) (hn1:n<1000) (hf0:0≤f) (hf1:f<1000)
   (c1:∀w,Calls Tryz.prog 186 #[.int .i64 ((2*n+f+1)*(2*n+f+2))] w fun e w'=>e=.returned (.agg #[.float .f64 m.1,.float .f64 m.2])∧Below w.heap.size w w')
   (c2:∀w,Calls Tryz.prog 85 #[.agg #[.float .f64 r1,.float .f64 r2],.agg #[.float .f64 t1,.float .f64 t2]] w fun e w'=>e=.returned (.agg #[.float .f64 p.1,.float .f64 p.2])∧Below w.heap.size w w')
   (c3:∀w,Calls Tryz.prog 86 #[.agg #[.float .f64 p.1,.float .f64 p.2],.agg #[.float .f64 m.1,.float .f64 m.2]] w fun e w'=>e=.returned (.agg #[.float .f64 q.1,.float .f64 q.2])∧Below w.heap.size w w')
   (c4:∀w,Calls Tryz.prog 84 #[.agg #[.float .f64 o1,.float .f64 o2],.agg #[.float .f64 q.1,.float .f64 q.2]] w fun e w'=>e=.returned (.agg #[.float .f64 s.1,.float .f64 s.2])∧Below w.heap.size w w')
   (z a b:Nat) (w:World) (Z:w.cell? ⟨z,0,none⟩=some (.int .i64 f)) (Zl:z<w.heap.size) (hm:0≤(2*n+f+1)*(2*n+f+2)∧(2*n+f+1)*(2*n+f+2)<100000000) (A:Has2 w a (.float .f64 o1) (.float .f64 o2)) (B:Has2 w b (.float .f64 r1) (.float .f64 r2)) :
   Calls Tryz.prog 210 #[.int .i64 n,.agg #[.float .f64 t1,.float .f64 t2],.pointer (some ⟨z,0,none⟩),.pointer (some ⟨a,0,none⟩),.pointer (some ⟨b,0,none⟩)] w fun e w'=>e=.returned (.agg #[.float .f64 s.1,.float .f64 s.2])∧Below w.heap.size w w':=by
 have X:Has2 ((w.alloc (.cells #[.float .f64 t1,.float .f64 t2] 40)).alloc (.cells #[.float .f64 0,.float .f64 0] 40)) w.heap.size (.float .f64 t1) (.float .f64 t2):=⟨by go_simp,by go_simp,by go_simp,by go_simp,by go_size⟩
 have R:Has2 ((w.alloc (.cells #[.float .f64 t1,.float .f64 t2] 40)).alloc (.cells #[.float .f64 0,.float .f64 0] 40)) (w.heap.size+1) (.float .f64 0) (.float .f64 0):=⟨by go_simp,by go_simp,by go_simp,by go_simp,by go_size⟩
 have HB:Below w.heap.size w ((w.alloc (.cells #[.float .f64 t1,.float .f64 t2] 40)).alloc (.cells #[.float .f64 0,.float .f64 0] 40)):=by go_grown
 replace A:=A.keep HB
 replace B:=B.keep HB
 replace Z:=(HB.cell Zl).trans Z
 go_enter Tryz.func210,Tryz.ntmps210
 go_upto_region 7 with
   (go_at_call 186;refine (c1 _).mono ?_;rintro _ V1 ⟨rfl,hb1⟩
    replace X:=X.keep hb1;replace R:=R.keep hb1;replace A:=A.keep hb1;replace B:=B.keep hb1;replace HB:=later HB hb1;clear hb1)
 have D:Has2 (V1.alloc (.cells #[.float .f64 m.1,.float .f64 m.2] 40)) V1.heap.size (.float .f64 m.1) (.float .f64 m.2):=⟨by go_simp,by go_simp,by go_simp,by go_simp,by go_size⟩
 have hb1:Below V1.heap.size V1 (V1.alloc (.cells #[.float .f64 m.1,.float .f64 m.2] 40)):=by go_grown
 replace X:=X.keep hb1;replace R:=R.keep hb1;replace A:=A.keep hb1;replace B:=B.keep hb1;replace HB:=later HB hb1;clear hb1
 clear Z Zl hm c1
 generalize V1.alloc (.cells #[.float .f64 m.1,.float .f64 m.2] 40)=V2 at *
 generalize V1.heap.size=d at *
 have kd0:=fun n:Behind V2=>n.cell D.1 D.2.2.2.2
 have kd1:=fun n:Behind V2=>n.cell D.2.1 D.2.2.2.2
 have ka0:=fun n:Behind V2=>n.cell A.1 A.2.2.2.2
 have ka1:=fun n:Behind V2=>n.cell A.2.1 A.2.2.2.2
 have kb0:=fun n:Behind V2=>n.cell B.1 B.2.2.2.2
 have kb1:=fun n:Behind V2=>n.cell B.2.1 B.2.2.2.2
 have kx0:=fun n:Behind V2=>n.cell X.1 X.2.2.2.2
 have kx1:=fun n:Behind V2=>n.cell X.2.1 X.2.2.2.2
 refine tail_behind 7 (by kernel_rfl) (by kernel_rfl) ?_
 simp only [List.take_succ_cons,List.take_zero,List.drop_succ_cons,List.drop_zero]
 repeat (go_big_quiet_step (first
   | (go_at_call 85;with_reducible refine Behind.call (c2 _))
   | (go_at_call 86;with_reducible refine Behind.call (c3 _))
   | (go_at_call 84;with_reducible refine Behind.call (c4 _))))
 refine wpQuiet_nil ?_
 rintro _ ⟨m',rfl⟩
 obtain⟨W,hb1⟩:=m'
 dsimp only
 clear kx0 kx1 ka0 ka1 kb0 kb1 kd0 kd1 A B
 replace R:=R.keep hb1;replace HB:=later HB hb1;clear hb1
 obtain⟨k0,k1,k2,k3,k4⟩:=id R
 go_wp2_with fail
 refine bodyPost_ret (v:=.agg #[.float .f64 s.1,.float .f64 s.2]) (by simp [results,Tryz.results210,go_sem, *]) rfl ⟨rfl, ?_⟩
 repeat' (first | (with_reducible exact HB) | (with_reducible refine Below.setCell ?_ ?_ _) | go_size)
def upS (f:Nat→Nat×Nat→Nat×Nat) (t:Nat×Nat) (N:Nat):Nat→Nat×Nat
 | 0=>t
 | j+1=>f (N-1-j) (upS f t N j)
def serS (f:Nat→Nat×Nat→Nat×Nat) (t:Nat×Nat) (N i:Nat):Nat×Nat:=upS f t N (N-i)
theorem serS_end (f:Nat→Nat×Nat→Nat×Nat) (t:Nat×Nat) (N:Nat):serS f t N N=t:=by unfold serS;rw [Nat.sub_self];rfl
theorem serS_step (f:Nat→Nat×Nat→Nat×Nat) (t:Nat×Nat) (N i:Nat) (h:i<N):serS f t N i=f i (serS f t N (i+1)):=by
 unfold serS
 rw [show N-i=(N-(i+1))+1 by omega]
 show f (N-1-(N-(i+1))) _=_
 rw [show N-1-(N-(i+1))=i by omega]
theorem serS_lt {f:Nat→Nat×Nat→Nat×Nat} {t:Nat×Nat} (P:Nat×Nat→Prop) (ht:P t) (hf:∀i x,P x→P (f i x)) (N i:Nat):P (serS f t N i):=by
 unfold serS
 generalize N-i=k
 induction k with
 | zero=>exact ht
 | succ k ih=>exact hf _ _ ih
set_option maxHeartbeats 1000000 in
theorem ser_pow (S:Nat→Nat×Nat) (N a b:Nat) (hN:N<1000) (w:World)
   (c:∀i,i<N→∀W,Below w.heap.size w W→Calls Tryz.prog 185 #[.int .i64 (i:Int),.agg #[.float .f64 (S (i+1)).1,.float .f64 (S (i+1)).2],.pointer (some ⟨a,0,none⟩),.pointer (some ⟨b,0,none⟩)] W fun e w'=>e=.returned (.agg #[.float .f64 (S i).1,.float .f64 (S i).2])∧Below W.heap.size W w') :
   Calls Tryz.prog 183 #[.int .i64 (N:Int),.agg #[.float .f64 (S N).1,.float .f64 (S N).2],.func (.func 185) #[] #[.pointer (some ⟨a,0,none⟩),.pointer (some ⟨b,0,none⟩)]] w fun e w'=>e=.returned (.agg #[.float .f64 (S 0).1,.float .f64 (S 0).2])∧Below w.heap.size w w':=by
 have X:Has2 ((w.alloc (.cells #[.float .f64 (S N).1,.float .f64 (S N).2] 40)).alloc (.cells #[.float .f64 0,.float .f64 0] 40)) w.heap.size (.float .f64 (S N).1) (.float .f64 (S N).2):=⟨by go_simp,by go_simp,by go_simp,by go_simp,by go_size⟩
 have R:Has2 ((w.alloc (.cells #[.float .f64 (S N).1,.float .f64 (S N).2] 40)).alloc (.cells #[.float .f64 0,.float .f64 0] 40)) (w.heap.size+1) (.float .f64 0) (.float .f64 0):=⟨by go_simp,by go_simp,by go_simp,by go_simp,by go_size⟩
 have HB:Below w.heap.size w ((w.alloc (.cells #[.float .f64 (S N).1,.float .f64 (S N).2] 40)).alloc (.cells #[.float .f64 0,.float .f64 0] 40)):=by go_grown
 go_enter Tryz.func183,Tryz.ntmps183
 go_wp2_with fail
 generalize ((w.alloc (.cells #[.float .f64 (S N).1,.float .f64 (S N).2] 40)).alloc (.cells #[.float .f64 0,.float .f64 0] 40))=V0 at *
 go_loopg [7] N (fun G s7 wx=>Below w.heap.size w wx∧∃k:Nat,k≤G∧k≤N∧s7=.int .i64 ((k:Int)-1)∧Has2 wx w.heap.size (.float .f64 (S k).1) (.float .f64 (S k).2)∧Has2 wx (w.heap.size+1) (.float .f64 0) (.float .f64 0))
 case atStart=>exact⟨HB,N,Nat.le_refl _,Nat.le_refl _,rfl,X,R⟩
 case round =>
   clear X R HB
   obtain⟨HB,k,hk,hl,rfl,X,R⟩:=hrel
   cases k with
   | zero =>
     obtain⟨x0,x1,x2,x3,x4⟩:=id X
     obtain⟨r0,r1,r2,r3,r4⟩:=id R
     go_wp2_with fail
     refine bodyPost_ret (v:=.agg #[.float .f64 (S 0).1,.float .f64 (S 0).2]) (by simp [results,Tryz.results183,go_sem, *]) rfl ⟨rfl, ?_⟩
     repeat' (first | (with_reducible exact HB) | (with_reducible refine Below.setCell ?_ ?_ _) | go_size)
   | succ i =>
     obtain⟨x0,x1,x2,x3,x4⟩:=id X
     have hlt:(0:Int)≤(i:Int):=by omega
     have ei:((i+1:Nat):Int)-1=(i:Int):=by omega
     rw [ei]
     clear ei
     have c':=c i (by omega)
     clear c
     go_wp2_with (go_at_call 185;refine (c' _ HB).mono ?_;rintro _ w1 ⟨rfl,hb1⟩;replace X:=X.keep hb1;replace R:=R.keep hb1;replace HB:=later HB hb1;clear hb1;clear x0 x1 x2 x3 x4;obtain⟨x0,x1,x2,x3,x4⟩:=id X)
     go_roundg i
     case measure=>omega
     case rel =>
       refine⟨?_,i,Nat.le_refl _,by omega,rfl,X.put _ _,R.far (by omega) _ _⟩
       repeat' (first | (with_reducible exact HB) | (with_reducible refine Below.setCell ?_ ?_ _) | go_size)
set_option maxHeartbeats 1000000 in
theorem ser_odd (S:Nat→Nat×Nat) (N a b:Nat) (hN:N<1000) (w:World)
   (c:∀i,i<N→∀W,Below w.heap.size w W→Calls Tryz.prog 205 #[.int .i64 (i:Int),.agg #[.float .f64 (S (i+1)).1,.float .f64 (S (i+1)).2],.pointer (some ⟨a,0,none⟩),.pointer (some ⟨b,0,none⟩)] W fun e w'=>e=.returned (.agg #[.float .f64 (S i).1,.float .f64 (S i).2])∧Below W.heap.size W w') :
   Calls Tryz.prog 183 #[.int .i64 (N:Int),.agg #[.float .f64 (S N).1,.float .f64 (S N).2],.func (.func 205) #[] #[.pointer (some ⟨a,0,none⟩),.pointer (some ⟨b,0,none⟩)]] w fun e w'=>e=.returned (.agg #[.float .f64 (S 0).1,.float .f64 (S 0).2])∧Below w.heap.size w w':=by
 have X:Has2 ((w.alloc (.cells #[.float .f64 (S N).1,.float .f64 (S N).2] 40)).alloc (.cells #[.float .f64 0,.float .f64 0] 40)) w.heap.size (.float .f64 (S N).1) (.float .f64 (S N).2):=⟨by go_simp,by go_simp,by go_simp,by go_simp,by go_size⟩
 have R:Has2 ((w.alloc (.cells #[.float .f64 (S N).1,.float .f64 (S N).2] 40)).alloc (.cells #[.float .f64 0,.float .f64 0] 40)) (w.heap.size+1) (.float .f64 0) (.float .f64 0):=⟨by go_simp,by go_simp,by go_simp,by go_simp,by go_size⟩
 have HB:Below w.heap.size w ((w.alloc (.cells #[.float .f64 (S N).1,.float .f64 (S N).2] 40)).alloc (.cells #[.float .f64 0,.float .f64 0] 40)):=by go_grown
 go_enter Tryz.func183,Tryz.ntmps183
 go_wp2_with fail
 generalize ((w.alloc (.cells #[.float .f64 (S N).1,.float .f64 (S N).2] 40)).alloc (.cells #[.float .f64 0,.float .f64 0] 40))=V0 at *
 go_loopg [7] N (fun G s7 wx=>Below w.heap.size w wx∧∃k:Nat,k≤G∧k≤N∧s7=.int .i64 ((k:Int)-1)∧Has2 wx w.heap.size (.float .f64 (S k).1) (.float .f64 (S k).2)∧Has2 wx (w.heap.size+1) (.float .f64 0) (.float .f64 0))
 case atStart=>exact⟨HB,N,Nat.le_refl _,Nat.le_refl _,rfl,X,R⟩
 case round =>
   clear X R HB
   obtain⟨HB,k,hk,hl,rfl,X,R⟩:=hrel
   cases k with
   | zero =>
     obtain⟨x0,x1,x2,x3,x4⟩:=id X
     obtain⟨r0,r1,r2,r3,r4⟩:=id R
     go_wp2_with fail
     refine bodyPost_ret (v:=.agg #[.float .f64 (S 0).1,.float .f64 (S 0).2]) (by simp [results,Tryz.results183,go_sem, *]) rfl ⟨rfl, ?_⟩
     repeat' (first | (with_reducible exact HB) | (with_reducible refine Below.setCell ?_ ?_ _) | go_size)
   | succ i =>
     obtain⟨x0,x1,x2,x3,x4⟩:=id X
     have hlt:(0:Int)≤(i:Int):=by omega
     have ei:((i+1:Nat):Int)-1=(i:Int):=by omega
     rw [ei]
     clear ei
     have c':=c i (by omega)
     clear c
     go_wp2_with (go_at_call 205;refine (c' _ HB).mono ?_;rintro _ w1 ⟨rfl,hb1⟩;replace X:=X.keep hb1;replace R:=R.keep hb1;replace HB:=later HB hb1;clear hb1;clear x0 x1 x2 x3 x4;obtain⟨x0,x1,x2,x3,x4⟩:=id X)
     go_roundg i
     case measure=>omega
     case rel =>
       refine⟨?_,i,Nat.le_refl _,by omega,rfl,X.put _ _,R.far (by omega) _ _⟩
       repeat' (first | (with_reducible exact HB) | (with_reducible refine Below.setCell ?_ ?_ _) | go_size)
set_option maxHeartbeats 1000000 in
theorem ser_turn (S:Nat→Nat×Nat) (N z a b:Nat) (hN:N<1000) (w:World)
   (c:∀i,i<N→∀W,Below w.heap.size w W→Calls Tryz.prog 210 #[.int .i64 (i:Int),.agg #[.float .f64 (S (i+1)).1,.float .f64 (S (i+1)).2],.pointer (some ⟨z,0,none⟩),.pointer (some ⟨a,0,none⟩),.pointer (some ⟨b,0,none⟩)] W fun e w'=>e=.returned (.agg #[.float .f64 (S i).1,.float .f64 (S i).2])∧Below W.heap.size W w') :
   Calls Tryz.prog 183 #[.int .i64 (N:Int),.agg #[.float .f64 (S N).1,.float .f64 (S N).2],.func (.func 210) #[] #[.pointer (some ⟨z,0,none⟩),.pointer (some ⟨a,0,none⟩),.pointer (some ⟨b,0,none⟩)]] w fun e w'=>e=.returned (.agg #[.float .f64 (S 0).1,.float .f64 (S 0).2])∧Below w.heap.size w w':=by
 have X:Has2 ((w.alloc (.cells #[.float .f64 (S N).1,.float .f64 (S N).2] 40)).alloc (.cells #[.float .f64 0,.float .f64 0] 40)) w.heap.size (.float .f64 (S N).1) (.float .f64 (S N).2):=⟨by go_simp,by go_simp,by go_simp,by go_simp,by go_size⟩
 have R:Has2 ((w.alloc (.cells #[.float .f64 (S N).1,.float .f64 (S N).2] 40)).alloc (.cells #[.float .f64 0,.float .f64 0] 40)) (w.heap.size+1) (.float .f64 0) (.float .f64 0):=⟨by go_simp,by go_simp,by go_simp,by go_simp,by go_size⟩
 have HB:Below w.heap.size w ((w.alloc (.cells #[.float .f64 (S N).1,.float .f64 (S N).2] 40)).alloc (.cells #[.float .f64 0,.float .f64 0] 40)):=by go_grown
 go_enter Tryz.func183,Tryz.ntmps183
 go_wp2_with fail
 generalize ((w.alloc (.cells #[.float .f64 (S N).1,.float .f64 (S N).2] 40)).alloc (.cells #[.float .f64 0,.float .f64 0] 40))=V0 at *
 go_loopg [7] N (fun G s7 wx=>Below w.heap.size w wx∧∃k:Nat,k≤G∧k≤N∧s7=.int .i64 ((k:Int)-1)∧Has2 wx w.heap.size (.float .f64 (S k).1) (.float .f64 (S k).2)∧Has2 wx (w.heap.size+1) (.float .f64 0) (.float .f64 0))
 case atStart=>exact⟨HB,N,Nat.le_refl _,Nat.le_refl _,rfl,X,R⟩
 case round =>
   clear X R HB
   obtain⟨HB,k,hk,hl,rfl,X,R⟩:=hrel
   cases k with
   | zero =>
     obtain⟨x0,x1,x2,x3,x4⟩:=id X
     obtain⟨r0,r1,r2,r3,r4⟩:=id R
     go_wp2_with fail
     refine bodyPost_ret (v:=.agg #[.float .f64 (S 0).1,.float .f64 (S 0).2]) (by simp [results,Tryz.results183,go_sem, *]) rfl ⟨rfl, ?_⟩
     repeat' (first | (with_reducible exact HB) | (with_reducible refine Below.setCell ?_ ?_ _) | go_size)
   | succ i =>
     obtain⟨x0,x1,x2,x3,x4⟩:=id X
     have hlt:(0:Int)≤(i:Int):=by omega
     have ei:((i+1:Nat):Int)-1=(i:Int):=by omega
     rw [ei]
     clear ei
     have c':=c i (by omega)
     clear c
     go_wp2_with (go_at_call 210;refine (c' _ HB).mono ?_;rintro _ w1 ⟨rfl,hb1⟩;replace X:=X.keep hb1;replace R:=R.keep hb1;replace HB:=later HB hb1;clear hb1;clear x0 x1 x2 x3 x4;obtain⟨x0,x1,x2,x3,x4⟩:=id X)
     go_roundg i
     case measure=>omega
     case rel =>
       refine⟨?_,i,Nat.le_refl _,by omega,rfl,X.put _ _,R.far (by omega) _ _⟩
       repeat' (first | (with_reducible exact HB) | (with_reducible refine Below.setCell ?_ ?_ _) | go_size)
end Go.Proofs.YtnnfafilgiajoaaGreat
