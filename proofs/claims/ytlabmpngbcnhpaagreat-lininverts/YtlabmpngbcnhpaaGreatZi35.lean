/- Matrices of intervals, added and taken off one another place by place. -/
import Derived.Test.YtlabmpngbcnhpaaGreatZi23
import Derived.Test.YtlabmpngbcnhpaaGreatZi21
namespace Go.Proofs.YtlabmpngbcnhpaaGreat
open Go.ChangeShapes Go.WideShapes Go.ChangeAt Go.RowKit
set_option maxHeartbeats 4000000 in
theorem placedAdd_w (A B:Option Addr) (N M C D:Nat) (RA SA:Nat→Option Addr) (RL RC SL SC:Nat→Nat) (X Y Z:Nat→Nat→Nat×Nat) (hN:N≤24) (hN0:0<N) (hM:M≤24) (hR:∀r,r<N→RL r=M) (hS:∀r,r<N→SL r=M) (w:World) (V:Rws w A N RA RL RC X) (U:Rws w B N SA SL SC Y)
   (cd:∀i,i<N→∀j,j<M→∀w,Calls Tryz.prog 59 #[.agg #[.float .f64 (X i j).1,.float .f64 (X i j).2],.agg #[.float .f64 (Y i j).1,.float .f64 (Y i j).2]] w fun e w'=>e=.returned (.agg #[.float .f64 (Z i j).1,.float .f64 (Z i j).2])∧Below w.heap.size w w') :
   Calls Tryz.prog 49 #[.func (.func 59) #[] #[],.slice A N C,.slice B N D] w fun e w'=>∃g h,e=.returned (.slice (some ⟨g,0,none⟩) N N)∧Grd w' g N M h Z∧Below w.heap.size w w':=by
 have HR:Hid (∀r,r<N→RL r=M):=hR
 have HS:Hid (∀r,r<N→SL r=M):=hS
 have HC:Hid (∀i,i<N→∀j,j<M→∀w,Calls Tryz.prog 59 #[.agg #[.float .f64 (X i j).1,.float .f64 (X i j).2],.agg #[.float .f64 (Y i j).1,.float .f64 (Y i j).2]] w fun e w'=>e=.returned (.agg #[.float .f64 (Z i j).1,.float .f64 (Z i j).2])∧Below w.heap.size w w'):=cd
 clear cd
 have h4:(0:Int)<(N:Int):=by omega
 obtain⟨b,o,hA,hb,x0, -, -⟩:=V 0 hN0
 rw [Nat.add_zero,hR 0 hN0] at x0
 clear hR hS
 have cg:=fun w=>grid_w N M hN hM w
 subst hA
 go_enter Tryz.func49,Tryz.ntmps49
 go_wp2_with (go_at_call 41;refine (cg _).mono ?_;rintro _ w1 ⟨g,h,rfl,G0,hg,hh,HB⟩)
 clear x0 cg
 have HH:Hid (∀r,r<N→w.heap.size≤h r):=hh
 clear hh
 go_loopg [19] N (fun G s19 wx=>Below w.heap.size w wx∧∃i:Nat,i+G=N∧s19=.int .i64 (i:Int)∧Grd wx g N M h (fun r c=>if r<i then Z r c else (0,0)))
 case atStart=>exact⟨HB,0,by omega,rfl,G0.congr fun r _ c _=>by simp⟩
 case round =>
   clear HB G0
   obtain⟨HB,i,hi,rfl,G0⟩:=hrel
   by_cases ci:i=N
   · subst ci
     go_wp2_with fail
     go_ret
     exact⟨g,h,rfl,G0.congr fun r hr c hc=>by simp [hr],HB⟩
   · have hlti:(i:Int)<(N:Int):=by omega
     obtain⟨g0, -⟩:=G0.out.2 i (by omega)
     go_wp2_with fail
     clear g0
     go_loopg [27] M (fun G s27 wy=>Below w.heap.size w wy∧∃j:Nat,j+G=M∧s27=.int .i64 (j:Int)∧Grd wy g N M h (fun r c=>if r<i∨(r=i∧c<j) then Z r c else (0,0)))
     case atStart=>exact⟨HB,0,by omega,rfl,G0.congr fun r _ c _=>by simp⟩
     case round =>
       clear HB G0
       obtain⟨HB,j,hj,rfl,G0⟩:=hrel
       by_cases cj:j=M
       · subst cj
         go_wp2_with fail
         go_roundg (N-i-1)
         case measure=>omega
         case rel =>
           refine⟨HB,i+1,by omega,by go_num,G0.congr fun r hr c hc=>?_⟩
           by_cases q:r<i+1
           · rw [if_pos q,if_pos (by omega)]
           · rw [if_neg q,if_neg (by omega)]
       · have hltj:(j:Int)<(M:Int):=by omega
         obtain⟨b1,o1,hA1,lb1,v0, -,I⟩:=(V.keep HB) i (by omega)
         obtain⟨b2,o2,hA2,lb2,u0, -,J⟩:=(U.keep HB) i (by omega)
         rw [HR.out i (by omega)] at v0 I
         rw [HS.out i (by omega)] at u0 J
         obtain⟨b3,o3,hA3,lb3,v1,v2, -, -⟩:=I j (by omega)
         obtain⟨b4,o4,hA4,lb4,u1,u2, -, -⟩:=J j (by omega)
         rw [hA3] at v0
         rw [hA4] at u0
         simp only [Option.some.injEq,Addr.mk.injEq,and_true] at hA1
         obtain⟨rfl,rfl⟩:=hA1
         have cc:=HC.out i (by omega) j (by omega)
         obtain⟨g0, -⟩:=G0.out.2 i (by omega)
         have gl:=G0.out.1
         clear I J hA3 hA4
         subst hA2
         obtain⟨z,hz⟩:∃z,Z i j=z:=⟨_,rfl⟩
         rw [hz] at cc
         have HZ:Hid (Z i j=z):=hz
         clear hz
         generalize X i j=x at *
         generalize Y i j=y at *
         go_upto_region 8 with fail
         have k0:=fun n:Behind wr=>n.cell g0 gl
         have k1:=fun n:Behind wr=>n.cell v0 lb1
         have k2:=fun n:Behind wr=>n.cell u0 lb2
         have k3:=fun n:Behind wr=>n.cell v1 lb3
         have k4:=fun n:Behind wr=>n.cell v2 lb3
         have k5:=fun n:Behind wr=>n.cell u1 lb4
         have k6:=fun n:Behind wr=>n.cell u2 lb4
         refine tail_behind 21 (by kernel_rfl) (by kernel_rfl) ?_
         simp only [List.take_succ_cons,List.take_zero,List.drop_succ_cons,List.drop_zero]
         repeat (go_big_quiet_step (first
           | (go_at_call 59;with_reducible refine Behind.call (cc _))))
         refine wpQuiet_nil ?_
         rintro _ ⟨q,rfl⟩
         obtain⟨W,hb1⟩:=q
         dsimp only
         clear k0 k1 k2 k3 k4 k5 k6 g0 gl v0 v1 v2 u0 u1 u2 cc
         replace G0:=G0.keep hb1
         replace HB:=later HB hb1
         clear hb1
         obtain⟨i0,i1,f0,f1⟩:=id ((G0.row i (by omega)).2 j (by omega))
         go_wp2_with fail
         go_roundg (M-j-1)
         case measure=>omega
         case rel =>
           have hhi:=HH.out i (by omega)
           refine⟨?_,j+1,by omega,by go_num,(G0.set i j _ _ (by omega) (by omega)).congr fun r hr c hc=>?_⟩
           · repeat' (first | (with_reducible exact HB) | (with_reducible refine Below.setCell ?_ ?_ _) | go_size | omega)
           · by_cases e:r=i∧c=j
             · obtain⟨rfl,rfl⟩:=e
               rw [if_pos ⟨rfl,rfl⟩,if_pos (by omega),HZ.out]
             · rw [if_neg e]
               by_cases q:r<i∨r=i∧c<j
               · rw [if_pos q,if_pos (by omega)]
               · rw [if_neg q,if_neg (by omega)]
set_option maxHeartbeats 4000000 in
theorem placedSub_w (A B:Option Addr) (N M C D:Nat) (RA SA:Nat→Option Addr) (RL RC SL SC:Nat→Nat) (X Y Z:Nat→Nat→Nat×Nat) (hN:N≤24) (hN0:0<N) (hM:M≤24) (hR:∀r,r<N→RL r=M) (hS:∀r,r<N→SL r=M) (w:World) (V:Rws w A N RA RL RC X) (U:Rws w B N SA SL SC Y)
   (cd:∀i,i<N→∀j,j<M→∀w,Calls Tryz.prog 50 #[.agg #[.float .f64 (X i j).1,.float .f64 (X i j).2],.agg #[.float .f64 (Y i j).1,.float .f64 (Y i j).2]] w fun e w'=>e=.returned (.agg #[.float .f64 (Z i j).1,.float .f64 (Z i j).2])∧Below w.heap.size w w') :
   Calls Tryz.prog 49 #[.func (.func 50) #[] #[],.slice A N C,.slice B N D] w fun e w'=>∃g h,e=.returned (.slice (some ⟨g,0,none⟩) N N)∧Grd w' g N M h Z∧Below w.heap.size w w':=by
 have HR:Hid (∀r,r<N→RL r=M):=hR
 have HS:Hid (∀r,r<N→SL r=M):=hS
 have HC:Hid (∀i,i<N→∀j,j<M→∀w,Calls Tryz.prog 50 #[.agg #[.float .f64 (X i j).1,.float .f64 (X i j).2],.agg #[.float .f64 (Y i j).1,.float .f64 (Y i j).2]] w fun e w'=>e=.returned (.agg #[.float .f64 (Z i j).1,.float .f64 (Z i j).2])∧Below w.heap.size w w'):=cd
 clear cd
 have h4:(0:Int)<(N:Int):=by omega
 obtain⟨b,o,hA,hb,x0, -, -⟩:=V 0 hN0
 rw [Nat.add_zero,hR 0 hN0] at x0
 clear hR hS
 have cg:=fun w=>grid_w N M hN hM w
 subst hA
 go_enter Tryz.func49,Tryz.ntmps49
 go_wp2_with (go_at_call 41;refine (cg _).mono ?_;rintro _ w1 ⟨g,h,rfl,G0,hg,hh,HB⟩)
 clear x0 cg
 have HH:Hid (∀r,r<N→w.heap.size≤h r):=hh
 clear hh
 go_loopg [19] N (fun G s19 wx=>Below w.heap.size w wx∧∃i:Nat,i+G=N∧s19=.int .i64 (i:Int)∧Grd wx g N M h (fun r c=>if r<i then Z r c else (0,0)))
 case atStart=>exact⟨HB,0,by omega,rfl,G0.congr fun r _ c _=>by simp⟩
 case round =>
   clear HB G0
   obtain⟨HB,i,hi,rfl,G0⟩:=hrel
   by_cases ci:i=N
   · subst ci
     go_wp2_with fail
     go_ret
     exact⟨g,h,rfl,G0.congr fun r hr c hc=>by simp [hr],HB⟩
   · have hlti:(i:Int)<(N:Int):=by omega
     obtain⟨g0, -⟩:=G0.out.2 i (by omega)
     go_wp2_with fail
     clear g0
     go_loopg [27] M (fun G s27 wy=>Below w.heap.size w wy∧∃j:Nat,j+G=M∧s27=.int .i64 (j:Int)∧Grd wy g N M h (fun r c=>if r<i∨(r=i∧c<j) then Z r c else (0,0)))
     case atStart=>exact⟨HB,0,by omega,rfl,G0.congr fun r _ c _=>by simp⟩
     case round =>
       clear HB G0
       obtain⟨HB,j,hj,rfl,G0⟩:=hrel
       by_cases cj:j=M
       · subst cj
         go_wp2_with fail
         go_roundg (N-i-1)
         case measure=>omega
         case rel =>
           refine⟨HB,i+1,by omega,by go_num,G0.congr fun r hr c hc=>?_⟩
           by_cases q:r<i+1
           · rw [if_pos q,if_pos (by omega)]
           · rw [if_neg q,if_neg (by omega)]
       · have hltj:(j:Int)<(M:Int):=by omega
         obtain⟨b1,o1,hA1,lb1,v0, -,I⟩:=(V.keep HB) i (by omega)
         obtain⟨b2,o2,hA2,lb2,u0, -,J⟩:=(U.keep HB) i (by omega)
         rw [HR.out i (by omega)] at v0 I
         rw [HS.out i (by omega)] at u0 J
         obtain⟨b3,o3,hA3,lb3,v1,v2, -, -⟩:=I j (by omega)
         obtain⟨b4,o4,hA4,lb4,u1,u2, -, -⟩:=J j (by omega)
         rw [hA3] at v0
         rw [hA4] at u0
         simp only [Option.some.injEq,Addr.mk.injEq,and_true] at hA1
         obtain⟨rfl,rfl⟩:=hA1
         have cc:=HC.out i (by omega) j (by omega)
         obtain⟨g0, -⟩:=G0.out.2 i (by omega)
         have gl:=G0.out.1
         clear I J hA3 hA4
         subst hA2
         obtain⟨z,hz⟩:∃z,Z i j=z:=⟨_,rfl⟩
         rw [hz] at cc
         have HZ:Hid (Z i j=z):=hz
         clear hz
         generalize X i j=x at *
         generalize Y i j=y at *
         go_upto_region 8 with fail
         have k0:=fun n:Behind wr=>n.cell g0 gl
         have k1:=fun n:Behind wr=>n.cell v0 lb1
         have k2:=fun n:Behind wr=>n.cell u0 lb2
         have k3:=fun n:Behind wr=>n.cell v1 lb3
         have k4:=fun n:Behind wr=>n.cell v2 lb3
         have k5:=fun n:Behind wr=>n.cell u1 lb4
         have k6:=fun n:Behind wr=>n.cell u2 lb4
         refine tail_behind 21 (by kernel_rfl) (by kernel_rfl) ?_
         simp only [List.take_succ_cons,List.take_zero,List.drop_succ_cons,List.drop_zero]
         repeat (go_big_quiet_step (first
           | (go_at_call 50;with_reducible refine Behind.call (cc _))))
         refine wpQuiet_nil ?_
         rintro _ ⟨q,rfl⟩
         obtain⟨W,hb1⟩:=q
         dsimp only
         clear k0 k1 k2 k3 k4 k5 k6 g0 gl v0 v1 v2 u0 u1 u2 cc
         replace G0:=G0.keep hb1
         replace HB:=later HB hb1
         clear hb1
         obtain⟨i0,i1,f0,f1⟩:=id ((G0.row i (by omega)).2 j (by omega))
         go_wp2_with fail
         go_roundg (M-j-1)
         case measure=>omega
         case rel =>
           have hhi:=HH.out i (by omega)
           refine⟨?_,j+1,by omega,by go_num,(G0.set i j _ _ (by omega) (by omega)).congr fun r hr c hc=>?_⟩
           · repeat' (first | (with_reducible exact HB) | (with_reducible refine Below.setCell ?_ ?_ _) | go_size | omega)
           · by_cases e:r=i∧c=j
             · obtain⟨rfl,rfl⟩:=e
               rw [if_pos ⟨rfl,rfl⟩,if_pos (by omega),HZ.out]
             · rw [if_neg e]
               by_cases q:r<i∨r=i∧c<j
               · rw [if_pos q,if_pos (by omega)]
               · rw [if_neg q,if_neg (by omega)]
def plusI (X Y:Nat→Nat→Nat×Nat) (i j:Nat):Nat×Nat:=addP (X i j).1 (X i j).2 (Y i j).1 (Y i j).2
def lessI (X Y:Nat→Nat→Nat×Nat) (i j:Nat):Nat×Nat:=addP (X i j).1 (X i j).2 (negP (Y i j)).1 (negP (Y i j)).2
theorem mplus_w (A B:Option Addr) (N M C D:Nat) (RA SA:Nat→Option Addr) (RL RC SL SC:Nat→Nat) (X Y:Nat→Nat→Nat×Nat) (hN:N≤24) (hN0:0<N) (hM:M≤24) (hR:∀r,r<N→RL r=M) (hS:∀r,r<N→SL r=M) (w:World) (V:Rws w A N RA RL RC X) (U:Rws w B N SA SL SC Y) :
   Calls Tryz.prog 23 #[.slice A N C,.slice B N D] w fun e w'=>(∃g h,e=.returned (.slice (some ⟨g,0,none⟩) N N)∧Grd w' g N M h (plusI X Y))∧Below w.heap.size w w':=by
 have c:=placedAdd_w A B N M C D RA SA RL RC SL SC X Y (plusI X Y) hN hN0 hM hR hS w V U (fun i hi j hj w=>Add_w _ _ _ _ (rws_words V hi (by rw [hR i hi];exact hj)).1 (rws_words V hi (by rw [hR i hi];exact hj)).2 (rws_words U hi (by rw [hS i hi];exact hj)).1 (rws_words U hi (by rw [hS i hi];exact hj)).2 w)
 clear hR hS V U
 go_enter Tryz.func23,Tryz.ntmps23
 go_wp2_with (go_at_call 49;refine c.mono ?_;rintro _ w1 ⟨g,h,rfl,G,hb⟩)
 go_ret
 exact⟨⟨g,h,rfl,G⟩,hb⟩
theorem mless_w (A B:Option Addr) (N M C D:Nat) (RA SA:Nat→Option Addr) (RL RC SL SC:Nat→Nat) (X Y:Nat→Nat→Nat×Nat) (hN:N≤24) (hN0:0<N) (hM:M≤24) (hR:∀r,r<N→RL r=M) (hS:∀r,r<N→SL r=M) (w:World) (V:Rws w A N RA RL RC X) (U:Rws w B N SA SL SC Y) :
   Calls Tryz.prog 17 #[.slice A N C,.slice B N D] w fun e w'=>(∃g h,e=.returned (.slice (some ⟨g,0,none⟩) N N)∧Grd w' g N M h (lessI X Y))∧Below w.heap.size w w':=by
 have c:=placedSub_w A B N M C D RA SA RL RC SL SC X Y (lessI X Y) hN hN0 hM hR hS w V U (fun i hi j hj w=>Sub_w _ _ _ _ (rws_words V hi (by rw [hR i hi];exact hj)).1 (rws_words V hi (by rw [hR i hi];exact hj)).2 (rws_words U hi (by rw [hS i hi];exact hj)).1 (rws_words U hi (by rw [hS i hi];exact hj)).2 w)
 clear hR hS V U
 go_enter Tryz.func17,Tryz.ntmps17
 go_wp2_with (go_at_call 49;refine c.mono ?_;rintro _ w1 ⟨g,h,rfl,G,hb⟩)
 go_ret
 exact⟨⟨g,h,rfl,G⟩,hb⟩
end Go.Proofs.YtlabmpngbcnhpaaGreat
