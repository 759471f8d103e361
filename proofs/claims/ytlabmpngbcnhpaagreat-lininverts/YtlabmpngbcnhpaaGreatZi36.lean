/- The middles of a matrix of intervals. The greatest amount of a row of intervals; balls about nought. -/
import Derived.Test.YtlabmpngbcnhpaaGreatZi31
import Derived.Test.YtlabmpngbcnhpaaGreatZi24
import Derived.Test.YtlabmpngbcnhpaaGreatZi34
namespace Go.Proofs.YtlabmpngbcnhpaaGreat
open Go.ChangeShapes Go.WideShapes Go.ChangeAt Go.RowKit
theorem midP_wd (lo hi:Nat) (hl:lo<18446744073709551616) (hh:hi<18446744073709551616):midP lo hi<18446744073709551616:=by
 unfold midP
 have a:=(midM_facts lo hi).2.2
 have b:midLo lo<18446744073709551616:=by unfold midLo;rcases (maxW_key lo 18442240474082181119).2 with c | c <;> rw [c] <;> omega
 have c:midHi hi<18446744073709551616:=by unfold midHi;rcases (minW_key hi 9218868437227405311).2 with c | c <;> rw [c] <;> omega
 split
 · split
   · exact b
   · split
     · exact c
     · exact a
 · omega
set_option maxHeartbeats 4000000 in
theorem middles_w (A:Option Addr) (N M C:Nat) (RA:Nat→Option Addr) (RL RC:Nat→Nat) (X:Nat→Nat→Nat×Nat) (hN:N≤24) (hN0:0<N) (hM:M≤24) (hM0:0<M) (hR:∀r,r<N→RL r=M) (w:World) (V:Rws w A N RA RL RC X) :
   Calls Tryz.prog 16 #[.slice A N C] w fun e w'=>∃g h,e=.returned (.slice (some ⟨g,0,none⟩) N N)∧Tab w.heap.size w' g N M h∧w.heap.size≤g∧Below w.heap.size w w':=by
 have HR:Hid (∀r,r<N→RL r=M):=hR
 have h4:(0:Int)<(N:Int):=by omega
 obtain⟨b,o,hA,hb,x0, -, -⟩:=V 0 hN0
 rw [Nat.add_zero,hR 0 hN0] at x0
 clear hR
 have cg:=fun w=>gridF_w N M hN (by omega) w
 subst hA
 go_enter Tryz.func16,Tryz.ntmps16
 go_wp2_with (go_at_call 47;refine (cg _).mono ?_;rintro _ w1 ⟨g,h,rfl,G0,hg,HB⟩)
 have HG:Hid (Tab w.heap.size w1 g N M h):=G0
 clear x0 cg G0
 go_loopg [17] N (fun G s17 wx=>Below w.heap.size w wx∧∃i:Nat,i+G=N∧s17=.int .i64 (i:Int)∧Hid (Tab w.heap.size wx g N M h))
 case atStart=>exact⟨HB,0,by omega,rfl,HG⟩
 case round =>
   clear HB HG
   obtain⟨HB,i,hi,rfl,HG⟩:=hrel
   by_cases ci:i=N
   · subst ci
     go_wp2_with fail
     go_ret
     exact⟨g,h,rfl,HG,hg,HB⟩
   · have hlti:(i:Int)<(N:Int):=by omega
     obtain⟨b1,o1,hA1,lb1,v0, -,I⟩:=(V.keep HB) i (by omega)
     rw [HR.out i (by omega)] at v0 I
     simp only [Option.some.injEq,Addr.mk.injEq,and_true] at hA1
     obtain⟨rfl,rfl⟩:=hA1
     obtain⟨b3,o3,hA3, -⟩:=I 0 hM0
     rw [hA3] at v0
     have HA3:Hid (RA i=some ⟨b3,o3,none⟩):=hA3
     clear I hA3
     go_wp2_with fail
     clear v0
     go_loopg [24] M (fun G s24 wy=>Below w.heap.size w wy∧∃j:Nat,j+G=M∧s24=.int .i64 (j:Int)∧Hid (Tab w.heap.size wy g N M h))
     case atStart=>exact⟨HB,0,by omega,rfl,HG⟩
     case round =>
       clear HB HG
       obtain⟨HB,j,hj,rfl,HG⟩:=hrel
       by_cases cj:j=M
       · subst cj
         go_wp2_with fail
         go_roundg (N-i-1)
         case measure=>omega
         case rel=>exact⟨HB,i+1,by omega,by go_num,HG⟩
       · have hltj:(j:Int)<(M:Int):=by omega
         obtain⟨b2,o2, -,lb2,v0, -,I⟩:=(V.keep HB) i (by omega)
         rw [HR.out i (by omega)] at I
         obtain⟨b4,o4,hA4,lb3,v1,v2,w1,w2⟩:=I j (by omega)
         rw [HA3.out] at hA4
         simp only [Option.some.injEq,Addr.mk.injEq,and_true] at hA4
         obtain⟨rfl,rfl⟩:=hA4
         have cm:=fun w=>Mid_w (X i j).1 (X i j).2 w1 w2 w
         have hmw:=midP_wd (X i j).1 (X i j).2 w1 w2
         generalize X i j=x at *
         clear I v0 lb2
         go_upto_region 8 with fail
         have HB1:Below w.heap.size w (wr.alloc (Obj.cells #[.float .f64 x.1,.float .f64 x.2] 36)):=below_alloc HB _
         have HG1:Hid (Tab w.heap.size (wr.alloc (Obj.cells #[.float .f64 x.1,.float .f64 x.2] 36)) g N M h):=HG.out.keep ((Below.refl _ _).alloc (Nat.le_refl _) _)
         have X2:Has2 (wr.alloc (Obj.cells #[.float .f64 x.1,.float .f64 x.2] 36)) wr.heap.size (.float .f64 x.1) (.float .f64 x.2):=⟨by go_simp,by go_simp,by go_simp,by go_simp,by go_size⟩
         clear v1 v2 HB HG lb3
         generalize wr.alloc (Obj.cells #[.float .f64 x.1,.float .f64 x.2] 36)=V1 at *
         generalize wr.heap.size=bx at *
         generalize midP x.1 x.2=mm at *
         obtain⟨g0, -⟩:=HG1.out.out.2 i (by omega)
         have gl:=HG1.out.out.1
         have k0:=fun n:Behind V1=>n.cell g0 gl
         have k1:=fun n:Behind V1=>n.cell X2.1 X2.2.2.2.2
         have k2:=fun n:Behind V1=>n.cell X2.2.1 X2.2.2.2.2
         refine tail_behind 7 (by kernel_rfl) (by kernel_rfl) ?_
         simp only [List.take_succ_cons,List.take_zero,List.drop_succ_cons,List.drop_zero]
         repeat (go_big_quiet_step (first
           | (go_at_call 48;with_reducible refine Behind.call (cm _))))
         refine wpQuiet_nil ?_
         rintro _ ⟨q,rfl⟩
         obtain⟨W,hb1⟩:=q
         dsimp only
         clear k0 k1 k2 g0 gl X2 cm
         replace HG1:Hid (Tab w.heap.size W g N M h):=HG1.out.keep hb1
         replace HB1:=later HB1 hb1
         clear hb1
         obtain⟨y,y0,y1,ly⟩:=(HG1.out.row i (by omega)).at j (by omega)
         go_wp2_with fail
         go_roundg (M-j-1)
         case measure=>omega
         case rel=>exact⟨HB1.setCell (HG1.out.ge i (by omega)) _,j+1,by omega,by go_num,HG1.out.wrt ((Wrt.refl w.heap.size (h i) _).set (HG1.out.ge i (by omega)) _ _ hmw) (fun e=>HG1.out.ne i (by omega) e.symm)⟩
def gmP (X:Nat→Nat×Nat):Nat→Nat
 | 0=>0
 | j+1=>maxW (gmP X j) (magP (X j).1 (X j).2)
theorem gm_am (X:Nat→Nat×Nat):∀j,Am (gmP X j)
 | 0=>by unfold gmP Am;omega
 | j+1=>by
   have a:=gm_am X j
   have b:=mag_am (lo:=(X j).1) (hi:=(X j).2)
   show Am (maxW (gmP X j) (magP (X j).1 (X j).2))
   rw [maxW_am a b]
   split
   · exact b
   · exact a
set_option maxHeartbeats 2000000 in
theorem gm_w (A:Option Addr) (n C:Nat) (X:Nat→Nat×Nat) (hn:n≤3000000) (w:World) (V:Ivs w A n X) :
   Calls Tryz.prog 57 #[.slice A n C] w fun e w'=>e=.returned (.float .f64 (gmP X n))∧Below w.heap.size w w':=by
 go_enter Tryz.func57,Tryz.ntmps57
 go_wp2_with fail
 go_loopg [3,8] n (fun G s3 s8 wx=>Below w.heap.size w wx∧∃j:Nat,j+G=n∧s8=.int .i64 (j:Int)∧s3=.float .f64 (gmP X j))
 case atStart=>exact⟨Below.refl _ _,0,by omega,rfl,rfl⟩
 case round =>
   obtain⟨HB,j,hj,rfl,rfl⟩:=hrel
   by_cases cj:j=n
   · subst cj
     go_wp2_with fail
     go_ret
     exact⟨rfl,HB⟩
   · have hltj:(j:Int)<(n:Int):=by omega
     obtain⟨b2,o2,hA2,hb2,z0,z1,k0,k1⟩:=(V.keep HB) j (by omega)
     have cm:=fun w=>mag_w (X j).1 (X j).2 k0 k1 w
     have a:=gm_am X j
     have b:=mag_am (lo:=(X j).1) (hi:=(X j).2)
     have hm:∀ts t w,(Builtin.max_ ts t #[.float .f64 (gmP X j),.float .f64 (magP (X j).1 (X j).2)]).run Tryz.prog w=.ok (.float .f64 (maxW (gmP X j) (magP (X j).1 (X j).2))) w:=fun ts t w=>max_f a.lt b.lt a.num b.num _ ts t w
     have nx:Hid (gmP X (j+1)=maxW (gmP X j) (magP (X j).1 (X j).2)):=rfl
     generalize maxW (gmP X j) (magP (X j).1 (X j).2)=mx at *
     clear a b
     subst hA2
     go_wp2_with (go_at_call 55;refine (cm _).mono ?_;rintro _ w1 ⟨rfl,hb1⟩;replace HB:=later (below_alloc HB _) hb1)
     go_roundg (n-j-1)
     case measure=>omega
     case rel=>exact⟨HB,j+1,by omega,by go_num,by rw [nx.out]⟩
end Go.Proofs.YtlabmpngbcnhpaaGreat
