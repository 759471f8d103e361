/- PicardLines: the law's walk. -/
import Derived.Lib.Strings
import Derived.Lib.Slices
import Derived.Lib.Small
import Derived.Lib.Walk
import Derived.Lib.BitFns
import Derived.KernelRfl
import Derived.WalkKit
import Derived.Laws.Cover2
import Derived.Laws.FloatArith
import Derived.Laws.BitsAllLaws
import Derived.ProofKit
import Derived.OpenShut
import Derived.WalkSpells
import Derived.WalkLawsBesides
import Derived.Laws.Externs
import Derived.Laws.Bits64b
import Derived.Handy
import Derived.Deep.RegionWith
import Derived.Deep.QuietTactic
import Derived.BigQuiet
import Derived.Deep.RegionHeld3
import Derived.Deep.CutRange
import Derived.Deep.CutBlock
import Derived.Deep.LoopGhost
import Derived.WalkSmall
import Derived.ChangeSame
import Derived.JoinedOf
import Derived.JoinedAt
import Derived.RowKit3
import Derived.Deep.Slices
import Derived.WideKeyArgs
import Derived.Deep.Quiet
import Derived.StillTail
import Derived.Deep.SlicePairs
import Derived.Deep.AppendLies
import Derived.Deep.RegionLaw
import Derived.Lib.SliceRun
import Derived.WideKeyRuns
import Derived.Maps.Own
import Derived.Test.YtnnfafilgiajoaaGreatZ01
import Derived.Test.YtnnfafilgiajoaaGreatZ02
import Derived.Test.YtnnfafilgiajoaaGreatZ03
import Derived.Test.YtnnfafilgiajoaaGreatZ04
import Derived.Test.YtnnfafilgiajoaaGreatZ05
import Derived.Test.YtnnfafilgiajoaaGreatZ06
import Derived.Test.YtnnfafilgiajoaaGreatZ07
import Derived.Test.YtnnfafilgiajoaaGreatZ08
import Derived.Test.YtnnfafilgiajoaaGreatZ09
import Derived.Test.YtnnfafilgiajoaaGreatZ10
import Derived.Test.YtnnfafilgiajoaaGreatZ11
import Derived.Test.YtnnfafilgiajoaaGreatZ12
import Derived.Test.YtnnfafilgiajoaaGreatZ13
import Derived.Test.YtnnfafilgiajoaaGreatZ14
import Derived.Test.YtnnfafilgiajoaaGreatZ15
import Derived.Test.YtnnfafilgiajoaaGreatZ16
import Derived.Test.YtnnfafilgiajoaaGreatZ17
import Derived.Test.YtnnfafilgiajoaaGreatZ18
import Derived.Test.YtnnfafilgiajoaaGreatZ19
import Derived.Test.YtnnfafilgiajoaaGreatZ20
import Derived.Test.YtnnfafilgiajoaaGreatZ21
import Derived.Test.YtnnfafilgiajoaaGreatZ22
import Derived.Test.YtnnfafilgiajoaaGreatZ23
import Derived.Test.YtnnfafilgiajoaaGreatZ24
import Derived.Test.YtnnfafilgiajoaaGreatZ25
import Derived.Test.YtnnfafilgiajoaaGreatZ26
import Derived.Test.YtnnfafilgiajoaaGreatZ27
import Derived.Test.YtnnfafilgiajoaaGreatZ28
import Derived.Test.YtnnfafilgiajoaaGreatZ29
import Derived.Test.YtnnfafilgiajoaaGreatZ30
import Derived.Test.YtnnfafilgiajoaaGreatZ31
import Derived.Test.YtnnfafilgiajoaaGreatZ32
import Derived.Test.YtnnfafilgiajoaaGreatZ33
import Derived.Test.YtnnfafilgiajoaaGreatZ34
import Derived.Test.YtnnfafilgiajoaaGreatZ35
import Derived.Test.YtnnfafilgiajoaaGreatZ36
import Derived.Test.YtnnfafilgiajoaaGreatZ37
import Derived.Test.YtnnfafilgiajoaaGreatZ38
import Derived.Test.YtnnfafilgiajoaaGreatZ39
import Derived.Test.YtnnfafilgiajoaaGreatZ40
import Derived.Test.YtnnfafilgiajoaaGreatZ41
import Derived.Test.YtnnfafilgiajoaaGreatZ42
import Derived.Test.YtnnfafilgiajoaaGreatZ43
import Derived.Test.YtnnfafilgiajoaaGreatZ44
import Derived.Test.YtnnfafilgiajoaaGreatZ45
import Derived.Test.YtnnfafilgiajoaaGreatZ46
import Derived.Test.YtnnfafilgiajoaaGreatZ47
import Derived.Test.YtnnfafilgiajoaaGreatZ48
import Derived.Test.YtnnfafilgiajoaaGreatZ49
import Derived.Test.YtnnfafilgiajoaaGreatU02
namespace Go.Proofs.YtnnfafilgiajoaaGreat
open Go.ChangeShapes Go.WideShapes Go.ChangeAt Go.RowKit
set_option maxHeartbeats 2000000 in
theorem pll_skip (AR:Option Addr) (kr CR:Nat) (AX:Option Addr) (k CX t:Nat) (bX bR b1 b2:Bool) (o1:(FloatKind.f64.format.order t 0==some .gt)=b1) (o2:(FloatKind.f64.format.order t 4607182418800017408==some .lt || FloatKind.f64.format.order t 4607182418800017408==some .eq)=b2)
   (he:(k:Int)<1∨(¬(k:Int)<1∧(k:Int)>12)∨(¬(k:Int)<1∧¬(k:Int)>12∧((kr:Int) != (k:Int))=true)∨(¬(k:Int)<1∧¬(k:Int)>12∧kr=k∧bX=false)∨(¬(k:Int)<1∧¬(k:Int)>12∧kr=k∧bX=true∧bR=false)∨(¬(k:Int)<1∧¬(k:Int)>12∧kr=k∧bX=true∧bR=true∧b1=false)∨(¬(k:Int)<1∧¬(k:Int)>12∧kr=k∧bX=true∧bR=true∧b1=true∧b2=false)) (w:World)
   (cX:∀W,Below w.heap.size w W→Calls Tryz.prog 10 #[.slice AX k CX] W fun r w'=>r=.returned (.bool bX)∧Below W.heap.size W w')
   (cR:∀W,Below w.heap.size w W→Calls Tryz.prog 10 #[.slice AR kr CR] W fun r w'=>r=.returned (.bool bR)∧Below W.heap.size W w') :
   Calls Tryz.prog 6 #[.slice AR kr CR,.slice AX k CX,.float .f64 t] w fun r w'=>r=.returned (.bool true)∧Below w.heap.size w w':=by
 have HB:Below w.heap.size w w:=Below.refl _ _
 rcases he with h1 | ⟨h1,h2⟩ | ⟨h1,h2,h3⟩ | ⟨h1,h2,rfl,rfl⟩ | ⟨h1,h2,rfl,rfl,rfl⟩ | ⟨h1,h2,rfl,rfl,rfl,rfl⟩ | ⟨h1,h2,rfl,rfl,rfl,rfl,rfl⟩
 all_goals
   go_enter Tryz.func6,Tryz.ntmps6
   go_wp2_with (first
     | (go_at_call 10;with_reducible refine (cX _ HB).mono ?_;rintro _ V4 ⟨rfl,hb1⟩;replace HB:=later HB hb1;clear hb1)
     | (go_at_call 10;with_reducible refine (cR _ HB).mono ?_;rintro _ V5 ⟨rfl,hb1⟩;replace HB:=later HB hb1;clear hb1))
   go_ret
   exact⟨rfl,HB⟩
set_option maxRecDepth 4000 in
set_option maxHeartbeats 2000000 in
theorem pll_core (AR:Option Addr) (CR:Nat) (AX:Option Addr) (k CX t s:Nat) (X R:Nat→Nat×Nat) (h1:¬(k:Int)<1) (h2:¬(k:Int)>12) (o1:(FloatKind.f64.format.order t 0==some .gt)=true) (o2:(FloatKind.f64.format.order t 4607182418800017408==some .lt || FloatKind.f64.format.order t 4607182418800017408==some .eq)=true) (hs:floatBits .quo .f64 t 4629700416936869888=some s) (hs2:s<18446744073709551616) (w:World) (VX:Ivs w AX k X) (VR:Ivs w AR k R)
   (cX:∀W,Below w.heap.size w W→Calls Tryz.prog 10 #[.slice AX k CX] W fun r w'=>r=.returned (.bool true)∧Below W.heap.size W w')
   (cR:∀W,Below w.heap.size w W→Calls Tryz.prog 10 #[.slice AR k CR] W fun r w'=>r=.returned (.bool true)∧Below W.heap.size W w')
   (cB:(∀i,i<k→ltB 4607182418800017408 (magQ (R i))=false∧ltB 4652007308841189376 (magQ (X i))=false)→∀(W:World) (A:Option Addr) (C:Nat) (D:Option Addr) (E:Nat),Below w.heap.size w W→Ops W A k (fun j=>(opsL R k).getD j zeroO)→Ins W D k (fun j=>(numL k).getD j 0)→Calls Tryz.prog 7 #[tapeV (k:Int) A k C D k E,.slice AX k CX,.float .f64 s] W fun r w'=>(∃b C' B,r=.returned (.tuple #[.slice (some ⟨b,0,none⟩) k C',.int .i64 0])∧Ivs w' (some ⟨b,0,none⟩) k B∧Hid (∀i,i<k→insideB (rchQ (X i) (R i) s).1 (rchQ (X i) (R i) s).2 (B i).1 (B i).2=true))∧Below W.heap.size W w') :
   Calls Tryz.prog 6 #[.slice AR k CR,.slice AX k CX,.float .f64 t] w fun r w'=>r=.returned (.bool true)∧Below w.heap.size w w':=by
 have HB:Below w.heap.size w w:=Below.refl _ _
 have hq:∀(ty:TypeId) (w:World),(binOp .quo ty (.float .f64 t) (.float .f64 4629700416936869888)).run Tryz.prog w=.ok (.float .f64 s) w:=fun ty w=>run_float_arith w .quo ty .f64 _ _ _ hs
 clear hs
 have HS:Hid (∀i,opsL R (i+1)=opsL R i++[cOp (R i)]):=opsL_step R
 have HN:Hid (∀i,numL (i+1)=numL i++[(i:Int)]):=numL_step
 have HSL:Hid (∀i,(opsL R i).length=i):=opsL_len R
 have HNL:Hid (∀i,(numL i).length=i):=numL_len
 replace cB:Hid _:=cB
 go_enter Tryz.func6,Tryz.ntmps6
 go_upto_region 5 with (first
   | (go_at_call 10;with_reducible refine (cX _ HB).mono ?_;rintro _ V4 ⟨rfl,hb1⟩;replace HB:=later HB hb1;clear hb1)
   | (go_at_call 10;with_reducible refine (cR _ HB).mono ?_;rintro _ V5 ⟨rfl,hb1⟩;replace HB:=later HB hb1;clear hb1))
 clear cX cR
 have T:=tap3_new V5 (.int .i64 (k:Int)) (.slice none 0 0) (.slice none 0 0) 25
 have hb1:Below V5.heap.size V5 (V5.alloc (.cells #[.int .i64 (k:Int),.slice none 0 0,.slice none 0 0] 25)):=by go_grown
 have htb:=HB.size
 replace HB:=later HB hb1
 clear hb1
 generalize V5.alloc (.cells #[.int .i64 (k:Int),.slice none 0 0,.slice none 0 0] 25)=V1 at *
 generalize V5.heap.size=tb at *
 have hBt:=T.lt
 obtain⟨Bs,hBs⟩:∃Bs,Bs=V1.heap.size:=⟨_,rfl⟩
 rw [←hBs] at hBt
 have O0:OwnO Bs V1 (.slice none 0 0) (opsL R 0):=⟨rfl,.inl ⟨rfl,rfl⟩⟩
 have N0:OwnN Bs V1 (.slice none 0 0) (numL 0):=⟨rfl,.inl ⟨rfl,rfl⟩⟩
 have hwB:w.heap.size≤Bs:=by rw [hBs];exact HB.size
 go_wp2_with fail
 go_loopg [51] k (fun G s51 wx=>Below w.heap.size w wx∧Bs≤wx.heap.size∧∃(i:Nat) (vO vN:Value),i+G=k∧s51=.int .i64 (i:Int)∧Tap3 wx tb (.int .i64 (k:Int)) vO vN∧OwnO Bs wx vO (opsL R i)∧OwnN Bs wx vN (numL i)∧Hid (∀j,j<i→ltB 4607182418800017408 (magQ (R j))=false∧ltB 4652007308841189376 (magQ (X j))=false))
 case atStart=>exact⟨HB,by omega,0,_,_,by omega,rfl,T,O0,N0,fun j hj=>absurd hj (by omega)⟩
 case round =>
   clear HB T O0 N0 hBs
   obtain⟨HB,hS,i,vO,vN,hi,rfl,T,OO,NN,hall⟩:=hrel
   obtain⟨aO,cO,rfl⟩:=own_form OO
   obtain⟨aN,cN,rfl⟩:=own_form NN
   rw [HSL.out i] at *
   rw [HNL.out i] at *
   by_cases ci:i=k
   · subst ci
     obtain⟨AO,CO,eO,UO⟩:=own_ops (T:=opsL R i) (show OwnO Bs wr (.slice aO i cO) (opsL R i) from OO) (fun x hx=>by
       unfold opsL at hx
       obtain⟨j,hj,rfl⟩:=List.mem_map.1 hx
       exact ivs_words VR j (List.mem_range.1 hj))
     obtain⟨AN,CN,eN,UN⟩:=own_ins (zs:=numL i) (show OwnN Bs wr (.slice aN i cN) (numL i) from NN)
     rw [HSL.out i] at eO UO
     rw [HNL.out i] at eN UN
     cases eO
     cases eN
     have cB1:=fun (W:World) (hW:Below w.heap.size w W) (u1:Ops W aO i (fun j=>(opsL R i).getD j zeroO)) (u2:Ins W aN i (fun j=>(numL i).getD j 0))=>cB.out (fun j hj=>hall.out j hj) W aO cO aN cN hW u1 u2
     unfold tapeV at cB1
     clear cB
     obtain⟨t0,t1,t2,t3,t4,t5,tl⟩:=id T
     go_wp2_with (go_at_call 7;refine (cB1 _ HB UO UN).mono ?_;rintro _ V7 ⟨⟨b,C',B,rfl,VB,hin⟩,hb1⟩;replace HB:=later HB hb1;clear hb1)
     clear T t0 t1 t2 t3 t4 t5 tl UO UN cB1 OO NN
     have HV0:=HB
     go_loopg [99] i (fun G s99 wx=>Below V7.heap.size V7 wx∧∃j:Nat,j+G=i∧s99=.int .i64 (j:Int))
     case atStart=>exact⟨Below.refl _ _,0,by omega,rfl⟩
     case round =>
       obtain⟨HV,j,hj,rfl⟩:=hrel
       have HW:=later HV0 HV
       by_cases cj:j=i
       · subst cj
         go_wp2_with fail
         go_ret
         exact⟨rfl,HW⟩
       · have hlt:(j:Int)<(i:Int):=by omega
         obtain⟨xb,xo,hX,hxb,x0,x1,l0,l1⟩:=(VX.keep HW) j (by omega)
         obtain⟨rb,ro,hA,hrb,y0,y1,m0,m1⟩:=(VR.keep HW) j (by omega)
         obtain⟨bb,bo,hB,hbb,z0,z1,k0,k1⟩:=(VB.keep HV) j (by omega)
         cases hB
         simp only [Nat.zero_add] at z0 z1
         have hp:=rchQ_W2 (x:=X j) (r:=R j) (t:=s) ⟨l0,l1⟩ ⟨m0,m1⟩ hs2
         have c1:=fun w=>cReach (x:=X j) (r:=R j) (t:=s) ⟨l0,l1⟩ ⟨m0,m1⟩ hs2 w
         have c2:=fun w=>rinside_w (rchQ (X j) (R j) s).1 (rchQ (X j) (R j) s).2 (B j).1 (B j).2 hp.1 hp.2 k0 k1 w
         rw [hin.out j (by omega)] at c2
         generalize rchQ (X j) (R j) s=p at *
         subst hX hA
         have kx0:=fun n:Behind wr=>n.cell x0 hxb
         have kx1:=fun n:Behind wr=>n.cell x1 hxb
         have ky0:=fun n:Behind wr=>n.cell y0 hrb
         have ky1:=fun n:Behind wr=>n.cell y1 hrb
         have kz0:=fun n:Behind wr=>n.cell z0 hbb
         have kz1:=fun n:Behind wr=>n.cell z1 hbb
         clear x0 x1 y0 y1 z0 z1
         go_upto_region 19 with fail
         refine region_behind (by kernel_rfl) (by kernel_rfl) ?_
         repeat (go_big_quiet_step (first | (go_at_call 19;with_reducible refine Behind.call (c1 _)) | (go_at_call 18;with_reducible refine Behind.call (c2 _))))
         refine wpQuiet_nil ?_
         rintro _ ⟨q',rfl⟩
         obtain⟨V9,hb1⟩:=q'
         dsimp only
         replace HV:=later HV hb1
         clear kx0 kx1 ky0 ky1 kz0 kz1 hb1
         go_wp2_with fail
         go_roundg (i-j-1)
         case measure=>omega
         case rel=>exact⟨HV,j+1,by omega,by go_num⟩
   · have hlt:(i:Int)<(k:Int):=by omega
     obtain⟨rb,ro,hA,hrb,x0,x1,l0,l1⟩:=(VR.keep HB) i (by omega)
     obtain⟨xb,xo,hX,hxb,y0,y1,m0,m1⟩:=(VX.keep HB) i (by omega)
     have c1:∀w,Calls Tryz.prog 17 #[.agg #[.float .f64 (R i).1,.float .f64 (R i).2]] w fun e w'=>e=.returned (.float .f64 (magQ (R i)))∧Below w.heap.size w w':=fun w=>rMag_w (R i).1 (R i).2 l0 l1 w
     have c2:∀w,Calls Tryz.prog 17 #[.agg #[.float .f64 (X i).1,.float .f64 (X i).2]] w fun e w'=>e=.returned (.float .f64 (magQ (X i)))∧Below w.heap.size w w':=fun w=>rMag_w (X i).1 (X i).2 m0 m1 w
     have o3:=o_gt (a:=magQ (R i)) (b:=4607182418800017408) magQ_lt (by omega)
     have o4:=o_gt (a:=magQ (X i)) (b:=4652007308841189376) magQ_lt (by omega)
     have hst:=HS.out i
     have hnt:=HN.out i
     have hl1:Hid ((opsL R i).length≤200000):=by show _≤_;rw [HSL.out i];omega
     have hl2:Hid ((numL i).length≤2000000):=by show _≤_;rw [HNL.out i];omega
     have hgo:ltB 4607182418800017408 (magQ (R i))=false→ltB 4652007308841189376 (magQ (X i))=false→Hid (∀j,j<i+1→ltB 4607182418800017408 (magQ (R j))=false∧ltB 4652007308841189376 (magQ (X j))=false):=fun a b j hj=>by
       rcases Nat.lt_or_ge j i with c | c
       · exact hall.out j c
       · rw [show j=i by omega];exact⟨a,b⟩
     replace hst:Hid _:=hst
     replace hnt:Hid _:=hnt
     replace hgo:Hid _:=hgo
     clear hall cB
     generalize magQ (R i)=mr at *
     generalize magQ (X i)=mx at *
     subst hA hX
     go_upto_region 8 with fail
     have DD:Has2 (wr.alloc (.cells #[.float .f64 (R i).1,.float .f64 (R i).2] 40)) wr.heap.size (.float .f64 (R i).1) (.float .f64 (R i).2):=has2_new _ _ _ _
     have hb1:Below wr.heap.size wr (wr.alloc (.cells #[.float .f64 (R i).1,.float .f64 (R i).2] 40)):=by go_grown
     replace y0:=keepsC hb1 y0 hxb
     replace y1:=keepsC hb1 y1 hxb
     replace hxb:=Nat.lt_of_lt_of_le hxb hb1.size
     replace OO:=own_keep OO hb1
     replace NN:=own_keep NN hb1
     replace T:=T.keep hb1
     replace hS:=Nat.le_trans hS hb1.size
     replace HB:=later HB hb1
     clear x0 x1 hrb hb1
     generalize wr.alloc (.cells #[.float .f64 (R i).1,.float .f64 (R i).2] 40)=V9 at *
     generalize wr.heap.size=rbx at *
     obtain⟨d0,d1,d2,d3,d4⟩:=id DD
     cases hb3:ltB 4607182418800017408 mr
     · rw [hb3] at o3
       cases hb4:ltB 4652007308841189376 mx
       · rw [hb4] at o4
         replace hgo:=hgo.out hb3 hb4
         clear hb3 hb4
         go_upto_region 10 with (first
           | (go_at_call_of 17 (Value.agg #[Value.float FloatKind.f64 (R i).1,Value.float FloatKind.f64 (R i).2]);refine (c1 _).mono ?_;rintro _ W1 ⟨rfl,hb1⟩;replace y0:=keepsC hb1 y0 hxb;replace y1:=keepsC hb1 y1 hxb;replace hxb:=Nat.lt_of_lt_of_le hxb hb1.size;replace OO:=own_keep OO hb1;replace NN:=own_keep NN hb1;replace hS:=Nat.le_trans hS hb1.size;replace T:=T.keep hb1;replace DD:=DD.keep hb1;replace HB:=later HB hb1;clear hb1;clear d0 d1 d2 d3 d4;obtain⟨d0,d1,d2,d3,d4⟩:=id DD)
           | (go_at_call_of 17 (Value.agg #[Value.float FloatKind.f64 (X i).1,Value.float FloatKind.f64 (X i).2]);refine (c2 _).mono ?_;rintro _ W2 ⟨rfl,hb1⟩;replace OO:=own_keep OO hb1;replace NN:=own_keep NN hb1;replace hS:=Nat.le_trans hS hb1.size;replace T:=T.keep hb1;replace DD:=DD.keep hb1;replace HB:=later HB hb1;clear hb1;clear d0 d1 d2 d3 d4 y0 y1 hxb;obtain⟨d0,d1,d2,d3,d4⟩:=id DD))
         clear c1 c2 o3 o4
         obtain⟨t0,t1,t2,t3,t4,t5,tl⟩:=id T
         have OO':OwnO Bs W2 (.slice aO i cO) (opsL R i):=OO
         have NN':OwnN Bs W2 (.slice aN i cN) (numL i):=NN
         clear OO NN
         go_upto_region 11 with (at_builtin;refine wpList_pushO4 (by rfl) _ _ (by rfl) _ (opsL R i) (cOp (R i)) (by rfl) (by rfl) OO' hl1.out hS (Below.refl _ _) ?_;intro v' w' own' _ hBw hSz hblk;have T2:=T.keepB hBw hBt hSz;obtain⟨a',c',hv'⟩:=own_form own';replace hv':v'=.slice a' (i+1) c':=(by rw [hv',List.length_append,HSL.out i];rfl);subst hv';clear t0 t1 t2 t3 t4 t5 tl;obtain⟨t0,t1,t2,t3,t4,t5,tl⟩:=id T2)
         clear t0 t1 t2 t3 t4 t5 tl d0 d1 d2 d3 d4 DD
         replace NN':=own_set (NN'.other OO' hblk) (k:=1) hBt (.slice a' (i+1) c')
         replace own':=own_set own' (k:=1) hBt (.slice a' (i+1) c')
         replace T2:=T2.set1 (.slice a' (i+1) c')
         replace HB:Below w.heap.size w (w'.setCell ⟨tb,1,none⟩ (.slice a' (i+1) c')):=(HB.trans (hBw.mono hwB)).setCell htb _
         have hS2:Bs≤(w'.setCell ⟨tb,1,none⟩ (.slice a' (i+1) c')).heap.size:=by rw [World.size_setCell];exact Nat.le_trans hS hSz
         clear T OO' hBw hSz hblk hS
         generalize w'.setCell ⟨tb,1,none⟩ (.slice a' (i+1) c')=V11 at *
         generalize hPO:opsL R i++[cOp (R i)]=PO at *
         have OP:OwnO Bs V11 (.slice a' (i+1) c') PO:=own'
         have NP:OwnN Bs V11 (.slice aN i cN) (numL i):=NN'
         clear own' NN'
         obtain⟨t0,t1,t2,t3,t4,t5,tl⟩:=id T2
         go_wp2_with (at_builtin;refine wpList_pushN4 (by rfl) _ _ (by rfl) _ (numL i) (i:Int) (by rfl) (by rfl) NP hl2.out hS2 (Below.refl _ _) ?_;intro v2 w2 own2 _ hBw hSz hblk;have T3:=T2.keepB hBw hBt hSz;obtain⟨a2,c2,hv'⟩:=own_form own2;replace hv':v2=.slice a2 (i+1) c2:=(by rw [hv',List.length_append,HNL.out i];rfl);subst hv';clear t0 t1 t2 t3 t4 t5 tl;obtain⟨t0,t1,t2,t3,t4,t5,tl⟩:=id T3)
         go_roundg (k-i-1)
         case measure=>omega
         case rel =>
           refine⟨(HB.trans (hBw.mono hwB)).setCell htb _,by rw [World.size_setCell];exact Nat.le_trans hS2 hSz,i+1,_,_,by omega,by go_num,T3.set2 _, ?_, ?_,hgo⟩
           · rw [hst.out]
             exact own_set (OP.other NP hblk) (k:=2) hBt _
           · rw [hnt.out]
             exact own_set own2 (k:=2) hBt _
       · rw [hb4] at o4
         go_wp2_with (first
           | (go_at_call_of 17 (Value.agg #[Value.float FloatKind.f64 (R i).1,Value.float FloatKind.f64 (R i).2]);refine (c1 _).mono ?_;rintro _ W1 ⟨rfl,hb1⟩;replace y0:=keepsC hb1 y0 hxb;replace y1:=keepsC hb1 y1 hxb;replace DD:=DD.keep hb1;replace HB:=later HB hb1;clear hb1;clear d0 d1 d2 d3 d4;obtain⟨d0,d1,d2,d3,d4⟩:=id DD)
           | (go_at_call_of 17 (Value.agg #[Value.float FloatKind.f64 (X i).1,Value.float FloatKind.f64 (X i).2]);refine (c2 _).mono ?_;rintro _ W2 ⟨rfl,hb1⟩;replace HB:=later HB hb1;clear hb1))
         go_ret
         exact⟨rfl,HB⟩
     · rw [hb3] at o3
       go_wp2_with (go_at_call 17;refine (c1 _).mono ?_;rintro _ W1 ⟨rfl,hb1⟩;replace HB:=later HB hb1;clear hb1)
       go_ret
       exact⟨rfl,HB⟩
end Go.Proofs.YtnnfafilgiajoaaGreat
