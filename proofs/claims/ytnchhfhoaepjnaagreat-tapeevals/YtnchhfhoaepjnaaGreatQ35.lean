/- The loop over a series' terms, once for each closure that it is handed. -/
import Derived.Test.YtnchhfhoaepjnaaGreatQ34
namespace Go.Proofs.YtnchhfhoaepjnaaGreat
open Go.ChangeShapes Go.WideShapes Go.ChangeAt Go.RowKit
def upS (f:Nat→Nat×Nat→Nat×Nat) (t:Nat×Nat) (N:Nat):Nat→Nat×Nat
 | 0=>t
 | j+1=>f (N-1-j) (upS f t N j)
def serS (f:Nat→Nat×Nat→Nat×Nat) (t:Nat×Nat) (N i:Nat):Nat×Nat:=upS f t N (N-i)
theorem serS_end (f:Nat→Nat×Nat→Nat×Nat) (t:Nat×Nat) (N:Nat):serS f t N N=t:=by unfold serS;rw [Nat.sub_self];rfl
theorem serS_step (f:Nat→Nat×Nat→Nat×Nat) (t:Nat×Nat) (N i:Nat) (h:i<N):serS f t N i=f i (serS f t N (i+1)):=by
 unfold serS
 rw [show N-i=(N-(i+1))+1 by omega]
 show f (N-1-(N-(i+1))) _=_
 rw [show N-1-(N-(i+1))=i by omega]
theorem serS_lt {f:Nat→Nat×Nat→Nat×Nat} {t:Nat×Nat} (P:Nat×Nat→Prop) (ht:P t) (hf:∀i x,P x→P (f i x)) (N i:Nat):P (serS f t N i):=by
 unfold serS
 generalize N-i=k
 induction k with
 | zero=>exact ht
 | succ k ih=>exact hf _ _ ih
set_option maxHeartbeats 1000000 in
theorem ser_pow (S:Nat→Nat×Nat) (N a b:Nat) (hN:N<1000) (w:World)
   (c:∀i,i<N→∀W,Below w.heap.size w W→Calls Tryz.prog 175 #[.int .i64 (i:Int),.agg #[.float .f64 (S (i+1)).1,.float .f64 (S (i+1)).2],.pointer (some ⟨a,0,none⟩),.pointer (some ⟨b,0,none⟩)] W fun e w'=>e=.returned (.agg #[.float .f64 (S i).1,.float .f64 (S i).2])∧Below W.heap.size W w') :
   Calls Tryz.prog 173 #[.int .i64 (N:Int),.agg #[.float .f64 (S N).1,.float .f64 (S N).2],.func (.func 175) #[] #[.pointer (some ⟨a,0,none⟩),.pointer (some ⟨b,0,none⟩)]] w fun e w'=>e=.returned (.agg #[.float .f64 (S 0).1,.float .f64 (S 0).2])∧Below w.heap.size w w':=by
 have X:Has2 ((w.alloc (.cells #[.float .f64 (S N).1,.float .f64 (S N).2] 46)).alloc (.cells #[.float .f64 0,.float .f64 0] 46)) w.heap.size (.float .f64 (S N).1) (.float .f64 (S N).2):=⟨by go_simp,by go_simp,by go_simp,by go_simp,by go_size⟩
 have R:Has2 ((w.alloc (.cells #[.float .f64 (S N).1,.float .f64 (S N).2] 46)).alloc (.cells #[.float .f64 0,.float .f64 0] 46)) (w.heap.size+1) (.float .f64 0) (.float .f64 0):=⟨by go_simp,by go_simp,by go_simp,by go_simp,by go_size⟩
 have HB:Below w.heap.size w ((w.alloc (.cells #[.float .f64 (S N).1,.float .f64 (S N).2] 46)).alloc (.cells #[.float .f64 0,.float .f64 0] 46)):=by go_grown
 go_enter Tryz.func173,Tryz.ntmps173
 go_wp2_with fail
 generalize ((w.alloc (.cells #[.float .f64 (S N).1,.float .f64 (S N).2] 46)).alloc (.cells #[.float .f64 0,.float .f64 0] 46))=V0 at *
 go_loopg [7] N (fun G s7 wx=>Below w.heap.size w wx∧∃k:Nat,k≤G∧k≤N∧s7=.int .i64 ((k:Int)-1)∧Has2 wx w.heap.size (.float .f64 (S k).1) (.float .f64 (S k).2)∧Has2 wx (w.heap.size+1) (.float .f64 0) (.float .f64 0))
 case atStart=>exact⟨HB,N,Nat.le_refl _,Nat.le_refl _,rfl,X,R⟩
 case round =>
   clear X R HB
   obtain⟨HB,k,hk,hl,rfl,X,R⟩:=hrel
   cases k with
   | zero =>
     obtain⟨x0,x1,x2,x3,x4⟩:=id X
     obtain⟨r0,r1,r2,r3,r4⟩:=id R
     go_wp2_with fail
     refine bodyPost_ret (v:=.agg #[.float .f64 (S 0).1,.float .f64 (S 0).2]) (by simp [results,Tryz.results173,go_sem, *]) rfl ⟨rfl, ?_⟩
     repeat' (first | (with_reducible exact HB) | (with_reducible refine Below.setCell ?_ ?_ _) | go_size)
   | succ i =>
     obtain⟨x0,x1,x2,x3,x4⟩:=id X
     have hlt:(0:Int)≤(i:Int):=by omega
     have ei:((i+1:Nat):Int)-1=(i:Int):=by omega
     rw [ei]
     clear ei
     have c':=c i (by omega)
     clear c
     go_wp2_with (go_at_call 175;refine (c' _ HB).mono ?_;rintro _ w1 ⟨rfl,hb1⟩;replace X:=X.keep hb1;replace R:=R.keep hb1;replace HB:=later HB hb1;clear hb1;clear x0 x1 x2 x3 x4;obtain⟨x0,x1,x2,x3,x4⟩:=id X)
     go_roundg i
     case measure=>omega
     case rel =>
       refine⟨?_,i,Nat.le_refl _,by omega,rfl,X.put _ _,R.far (by omega) _ _⟩
       repeat' (first | (with_reducible exact HB) | (with_reducible refine Below.setCell ?_ ?_ _) | go_size)
set_option maxHeartbeats 1000000 in
theorem ser_odd (S:Nat→Nat×Nat) (N a b:Nat) (hN:N<1000) (w:World)
   (c:∀i,i<N→∀W,Below w.heap.size w W→Calls Tryz.prog 208 #[.int .i64 (i:Int),.agg #[.float .f64 (S (i+1)).1,.float .f64 (S (i+1)).2],.pointer (some ⟨a,0,none⟩),.pointer (some ⟨b,0,none⟩)] W fun e w'=>e=.returned (.agg #[.float .f64 (S i).1,.float .f64 (S i).2])∧Below W.heap.size W w') :
   Calls Tryz.prog 173 #[.int .i64 (N:Int),.agg #[.float .f64 (S N).1,.float .f64 (S N).2],.func (.func 208) #[] #[.pointer (some ⟨a,0,none⟩),.pointer (some ⟨b,0,none⟩)]] w fun e w'=>e=.returned (.agg #[.float .f64 (S 0).1,.float .f64 (S 0).2])∧Below w.heap.size w w':=by
 have X:Has2 ((w.alloc (.cells #[.float .f64 (S N).1,.float .f64 (S N).2] 46)).alloc (.cells #[.float .f64 0,.float .f64 0] 46)) w.heap.size (.float .f64 (S N).1) (.float .f64 (S N).2):=⟨by go_simp,by go_simp,by go_simp,by go_simp,by go_size⟩
 have R:Has2 ((w.alloc (.cells #[.float .f64 (S N).1,.float .f64 (S N).2] 46)).alloc (.cells #[.float .f64 0,.float .f64 0] 46)) (w.heap.size+1) (.float .f64 0) (.float .f64 0):=⟨by go_simp,by go_simp,by go_simp,by go_simp,by go_size⟩
 have HB:Below w.heap.size w ((w.alloc (.cells #[.float .f64 (S N).1,.float .f64 (S N).2] 46)).alloc (.cells #[.float .f64 0,.float .f64 0] 46)):=by go_grown
 go_enter Tryz.func173,Tryz.ntmps173
 go_wp2_with fail
 generalize ((w.alloc (.cells #[.float .f64 (S N).1,.float .f64 (S N).2] 46)).alloc (.cells #[.float .f64 0,.float .f64 0] 46))=V0 at *
 go_loopg [7] N (fun G s7 wx=>Below w.heap.size w wx∧∃k:Nat,k≤G∧k≤N∧s7=.int .i64 ((k:Int)-1)∧Has2 wx w.heap.size (.float .f64 (S k).1) (.float .f64 (S k).2)∧Has2 wx (w.heap.size+1) (.float .f64 0) (.float .f64 0))
 case atStart=>exact⟨HB,N,Nat.le_refl _,Nat.le_refl _,rfl,X,R⟩
 case round =>
   clear X R HB
   obtain⟨HB,k,hk,hl,rfl,X,R⟩:=hrel
   cases k with
   | zero =>
     obtain⟨x0,x1,x2,x3,x4⟩:=id X
     obtain⟨r0,r1,r2,r3,r4⟩:=id R
     go_wp2_with fail
     refine bodyPost_ret (v:=.agg #[.float .f64 (S 0).1,.float .f64 (S 0).2]) (by simp [results,Tryz.results173,go_sem, *]) rfl ⟨rfl, ?_⟩
     repeat' (first | (with_reducible exact HB) | (with_reducible refine Below.setCell ?_ ?_ _) | go_size)
   | succ i =>
     obtain⟨x0,x1,x2,x3,x4⟩:=id X
     have hlt:(0:Int)≤(i:Int):=by omega
     have ei:((i+1:Nat):Int)-1=(i:Int):=by omega
     rw [ei]
     clear ei
     have c':=c i (by omega)
     clear c
     go_wp2_with (go_at_call 208;refine (c' _ HB).mono ?_;rintro _ w1 ⟨rfl,hb1⟩;replace X:=X.keep hb1;replace R:=R.keep hb1;replace HB:=later HB hb1;clear hb1;clear x0 x1 x2 x3 x4;obtain⟨x0,x1,x2,x3,x4⟩:=id X)
     go_roundg i
     case measure=>omega
     case rel =>
       refine⟨?_,i,Nat.le_refl _,by omega,rfl,X.put _ _,R.far (by omega) _ _⟩
       repeat' (first | (with_reducible exact HB) | (with_reducible refine Below.setCell ?_ ?_ _) | go_size)
set_option maxHeartbeats 1000000 in
theorem ser_turn (S:Nat→Nat×Nat) (N z a b:Nat) (hN:N<1000) (w:World)
   (c:∀i,i<N→∀W,Below w.heap.size w W→Calls Tryz.prog 222 #[.int .i64 (i:Int),.agg #[.float .f64 (S (i+1)).1,.float .f64 (S (i+1)).2],.pointer (some ⟨z,0,none⟩),.pointer (some ⟨a,0,none⟩),.pointer (some ⟨b,0,none⟩)] W fun e w'=>e=.returned (.agg #[.float .f64 (S i).1,.float .f64 (S i).2])∧Below W.heap.size W w') :
   Calls Tryz.prog 173 #[.int .i64 (N:Int),.agg #[.float .f64 (S N).1,.float .f64 (S N).2],.func (.func 222) #[] #[.pointer (some ⟨z,0,none⟩),.pointer (some ⟨a,0,none⟩),.pointer (some ⟨b,0,none⟩)]] w fun e w'=>e=.returned (.agg #[.float .f64 (S 0).1,.float .f64 (S 0).2])∧Below w.heap.size w w':=by
 have X:Has2 ((w.alloc (.cells #[.float .f64 (S N).1,.float .f64 (S N).2] 46)).alloc (.cells #[.float .f64 0,.float .f64 0] 46)) w.heap.size (.float .f64 (S N).1) (.float .f64 (S N).2):=⟨by go_simp,by go_simp,by go_simp,by go_simp,by go_size⟩
 have R:Has2 ((w.alloc (.cells #[.float .f64 (S N).1,.float .f64 (S N).2] 46)).alloc (.cells #[.float .f64 0,.float .f64 0] 46)) (w.heap.size+1) (.float .f64 0) (.float .f64 0):=⟨by go_simp,by go_simp,by go_simp,by go_simp,by go_size⟩
 have HB:Below w.heap.size w ((w.alloc (.cells #[.float .f64 (S N).1,.float .f64 (S N).2] 46)).alloc (.cells #[.float .f64 0,.float .f64 0] 46)):=by go_grown
 go_enter Tryz.func173,Tryz.ntmps173
 go_wp2_with fail
 generalize ((w.alloc (.cells #[.float .f64 (S N).1,.float .f64 (S N).2] 46)).alloc (.cells #[.float .f64 0,.float .f64 0] 46))=V0 at *
 go_loopg [7] N (fun G s7 wx=>Below w.heap.size w wx∧∃k:Nat,k≤G∧k≤N∧s7=.int .i64 ((k:Int)-1)∧Has2 wx w.heap.size (.float .f64 (S k).1) (.float .f64 (S k).2)∧Has2 wx (w.heap.size+1) (.float .f64 0) (.float .f64 0))
 case atStart=>exact⟨HB,N,Nat.le_refl _,Nat.le_refl _,rfl,X,R⟩
 case round =>
   clear X R HB
   obtain⟨HB,k,hk,hl,rfl,X,R⟩:=hrel
   cases k with
   | zero =>
     obtain⟨x0,x1,x2,x3,x4⟩:=id X
     obtain⟨r0,r1,r2,r3,r4⟩:=id R
     go_wp2_with fail
     refine bodyPost_ret (v:=.agg #[.float .f64 (S 0).1,.float .f64 (S 0).2]) (by simp [results,Tryz.results173,go_sem, *]) rfl ⟨rfl, ?_⟩
     repeat' (first | (with_reducible exact HB) | (with_reducible refine Below.setCell ?_ ?_ _) | go_size)
   | succ i =>
     obtain⟨x0,x1,x2,x3,x4⟩:=id X
     have hlt:(0:Int)≤(i:Int):=by omega
     have ei:((i+1:Nat):Int)-1=(i:Int):=by omega
     rw [ei]
     clear ei
     have c':=c i (by omega)
     clear c
     go_wp2_with (go_at_call 222;refine (c' _ HB).mono ?_;rintro _ w1 ⟨rfl,hb1⟩;replace X:=X.keep hb1;replace R:=R.keep hb1;replace HB:=later HB hb1;clear hb1;clear x0 x1 x2 x3 x4;obtain⟨x0,x1,x2,x3,x4⟩:=id X)
     go_roundg i
     case measure=>omega
     case rel =>
       refine⟨?_,i,Nat.le_refl _,by omega,rfl,X.put _ _,R.far (by omega) _ _⟩
       repeat' (first | (with_reducible exact HB) | (with_reducible refine Below.setCell ?_ ?_ _) | go_size)
end Go.Proofs.YtnchhfhoaepjnaaGreat
