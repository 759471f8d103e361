/- PicardFinds: the law's walk; of tapes and boxes as they lie in memory. -/
import Derived.Lib.Strings
import Derived.Lib.Slices
import Derived.Lib.Small
import Derived.Lib.Walk
import Derived.Lib.BitFns
import Derived.KernelRfl
import Derived.WalkKit
import Derived.Laws.Cover2
import Derived.Laws.FloatArith
import Derived.Laws.BitsAllLaws
import Derived.ProofKit
import Derived.OpenShut
import Derived.WalkSpells
import Derived.WalkLawsBesides
import Derived.Laws.Externs
import Derived.Laws.Bits64b
import Derived.Handy
import Derived.Deep.RegionWith
import Derived.Deep.QuietTactic
import Derived.BigQuiet
import Derived.Deep.RegionHeld3
import Derived.Deep.CutRange
import Derived.Deep.CutBlock
import Derived.Deep.LoopGhost
import Derived.WalkSmall
import Derived.ChangeSame
import Derived.JoinedOf
import Derived.JoinedAt
import Derived.RowKit3
import Derived.Deep.Slices
import Derived.WideKeyArgs
import Derived.Deep.Quiet
import Derived.StillTail
import Derived.Deep.SlicePairs
import Derived.Deep.AppendLies
import Derived.Deep.RegionLaw
import Derived.Lib.SliceRun
import Derived.Test.YtnnfafilgiajoaaGreatZ01
import Derived.Test.YtnnfafilgiajoaaGreatZ02
import Derived.Test.YtnnfafilgiajoaaGreatZ03
import Derived.Test.YtnnfafilgiajoaaGreatZ04
import Derived.Test.YtnnfafilgiajoaaGreatZ05
import Derived.Test.YtnnfafilgiajoaaGreatZ06
import Derived.Test.YtnnfafilgiajoaaGreatZ07
import Derived.Test.YtnnfafilgiajoaaGreatZ08
import Derived.Test.YtnnfafilgiajoaaGreatZ09
import Derived.Test.YtnnfafilgiajoaaGreatZ10
import Derived.Test.YtnnfafilgiajoaaGreatZ11
import Derived.Test.YtnnfafilgiajoaaGreatZ12
import Derived.Test.YtnnfafilgiajoaaGreatZ13
import Derived.Test.YtnnfafilgiajoaaGreatZ14
import Derived.Test.YtnnfafilgiajoaaGreatZ15
import Derived.Test.YtnnfafilgiajoaaGreatZ16
import Derived.Test.YtnnfafilgiajoaaGreatZ17
import Derived.Test.YtnnfafilgiajoaaGreatZ18
import Derived.Test.YtnnfafilgiajoaaGreatZ19
import Derived.Test.YtnnfafilgiajoaaGreatZ20
import Derived.Test.YtnnfafilgiajoaaGreatZ21
import Derived.Test.YtnnfafilgiajoaaGreatZ22
import Derived.Test.YtnnfafilgiajoaaGreatZ23
import Derived.Test.YtnnfafilgiajoaaGreatZ24
import Derived.Test.YtnnfafilgiajoaaGreatZ25
import Derived.Test.YtnnfafilgiajoaaGreatZ26
import Derived.Test.YtnnfafilgiajoaaGreatZ27
import Derived.Test.YtnnfafilgiajoaaGreatZ28
import Derived.Test.YtnnfafilgiajoaaGreatZ29
import Derived.Test.YtnnfafilgiajoaaGreatZ30
import Derived.Test.YtnnfafilgiajoaaGreatZ31
import Derived.Test.YtnnfafilgiajoaaGreatZ32
import Derived.Test.YtnnfafilgiajoaaGreatZ33
import Derived.Test.YtnnfafilgiajoaaGreatZ34
import Derived.Test.YtnnfafilgiajoaaGreatZ35
import Derived.Test.YtnnfafilgiajoaaGreatZ36
import Derived.Test.YtnnfafilgiajoaaGreatZ37
import Derived.Test.YtnnfafilgiajoaaGreatZ38
import Derived.Test.YtnnfafilgiajoaaGreatZ39
import Derived.Test.YtnnfafilgiajoaaGreatZ40
import Derived.Test.YtnnfafilgiajoaaGreatZ41
import Derived.Test.YtnnfafilgiajoaaGreatZ42
import Derived.Test.YtnnfafilgiajoaaGreatZ43
import Derived.Test.YtnnfafilgiajoaaGreatZ44
import Derived.Test.YtnnfafilgiajoaaGreatZ45
import Derived.Test.YtnnfafilgiajoaaGreatZ46
import Derived.Test.YtnnfafilgiajoaaGreatZ47
import Derived.Test.YtnnfafilgiajoaaGreatZ48
import Derived.Test.YtnnfafilgiajoaaGreatZ49
import Derived.Test.YtnnfafilgiajoaaGreatY03
namespace Go.Proofs.YtnnfafilgiajoaaGreat
open Go.ChangeShapes Go.WideShapes Go.ChangeAt Go.RowKit
set_option maxHeartbeats 1000000 in
theorem pfl_skip (v:Int) (A:Option Addr) (n C:Nat) (D:Option Addr) (m E:Nat) (xs:Value) (t:Nat) (bM bD:Bool) (he:(n:Int)>200∨(¬(n:Int)>200∧bM=false)∨(¬(n:Int)>200∧bM=true∧bD=false)) (w:World)
   (cM:∀W,Below w.heap.size w W→Calls Tryz.prog 9 #[tapeV v A n C D m E,xs,.float .f64 t] W fun r w'=>r=.returned (.bool bM)∧Below W.heap.size W w')
   (cD:∀W,Below w.heap.size w W→Calls Tryz.prog 10 #[xs] W fun r w'=>r=.returned (.bool bD)∧Below W.heap.size W w') :
   Calls Tryz.prog 4 #[tapeV v A n C D m E,xs,.float .f64 t] w fun r w'=>r=.returned (.bool true)∧Below w.heap.size w w':=by
 unfold tapeV at *
 have T:=hasT_new w v A n C D m E
 have HB:Below w.heap.size w (w.alloc (.cells #[.int .i64 v,.slice A n C,.slice D m E] 25)):=by go_grown
 rcases he with hn | ⟨hn,rfl⟩ | ⟨hn,rfl,rfl⟩
 all_goals
   go_enter Tryz.func4,Tryz.ntmps4
   go_upto_region 1 with fail
   generalize (w.alloc (.cells #[.int .i64 v,.slice A n C,.slice D m E] 25))=V1 at *
   obtain⟨t0,t1,t2,tl⟩:=id T
   go_wp2_with (first
     | (go_at_call 9;refine (cM _ HB).mono ?_;rintro _ V4 ⟨rfl,hb1⟩;replace T:=T.keep hb1;replace HB:=later HB hb1;clear hb1;clear t0 t1 t2 tl;obtain⟨t0,t1,t2,tl⟩:=id T)
     | (go_at_call 10;refine (cD _ HB).mono ?_;rintro _ V5 ⟨rfl,hb1⟩;replace T:=T.keep hb1;replace HB:=later HB hb1;clear hb1;clear t0 t1 t2 tl;obtain⟨t0,t1,t2,tl⟩:=id T))
   go_ret
   exact⟨rfl,HB⟩
section
variable (v:Int) (A:Option Addr) (n C:Nat) (D:Option Addr) (m E:Nat) (AX:Option Addr) (k CX t:Nat) (w:World)
set_option maxHeartbeats 1000000 in
theorem pfl_zero0 (hn:¬(n:Int)>200) (o1:(FloatKind.f64.format.order t 0==some .eq)=true)
   (cM:∀W,Below w.heap.size w W→Calls Tryz.prog 9 #[tapeV v A n C D m E,.slice AX k CX,.float .f64 t] W fun r w'=>r=.returned (.bool true)∧Below W.heap.size W w')
   (cD:∀W,Below w.heap.size w W→Calls Tryz.prog 10 #[.slice AX k CX] W fun r w'=>r=.returned (.bool true)∧Below W.heap.size W w')
   (cB:∀W,Below w.heap.size w W→Calls Tryz.prog 7 #[tapeV v A n C D m E,.slice AX k CX,.float .f64 t] W fun r w'=>r=.returned (.tuple #[.slice none 0 0,.int .i64 80])∧Below W.heap.size W w')
   (cE:∀W,Below w.heap.size w W→Calls Tryz.prog 12 #[tapeV v A n C D m E,.slice AX k CX] W fun r w'=>(∃er:Int,(er != 0)=true∧r=.returned (.tuple #[.slice none 0 0,.int .i64 er]))∧Below W.heap.size W w') :
   Calls Tryz.prog 4 #[tapeV v A n C D m E,.slice AX k CX,.float .f64 t] w fun r w'=>r=.returned (.bool true)∧Below w.heap.size w w':=by
 unfold tapeV at *
 have T:=hasT_new w v A n C D m E
 have HB:Below w.heap.size w (w.alloc (.cells #[.int .i64 v,.slice A n C,.slice D m E] 25)):=by go_grown
 go_enter Tryz.func4,Tryz.ntmps4
 go_upto_region 1 with fail
 generalize (w.alloc (.cells #[.int .i64 v,.slice A n C,.slice D m E] 25))=V1 at *
 obtain⟨t0,t1,t2,tl⟩:=id T
 go_upto_region 6 with (first
   | (go_at_call 9;refine (cM _ HB).mono ?_;rintro _ V4 ⟨rfl,hb1⟩;replace T:=T.keep hb1;replace HB:=later HB hb1;clear hb1;clear t0 t1 t2 tl;obtain⟨t0,t1,t2,tl⟩:=id T)
   | (go_at_call 10;refine (cD _ HB).mono ?_;rintro _ V5 ⟨rfl,hb1⟩;replace T:=T.keep hb1;replace HB:=later HB hb1;clear hb1;clear t0 t1 t2 tl;obtain⟨t0,t1,t2,tl⟩:=id T)
   | (go_at_call 7;refine (cB _ HB).mono ?_;rintro _ V2 ⟨rfl,hb1⟩;replace T:=T.keep hb1;replace HB:=later HB hb1;clear hb1;clear t0 t1 t2 tl;obtain⟨t0,t1,t2,tl⟩:=id T)
   | (go_at_call 12;refine (cE _ HB).mono ?_;rintro _ V3 ⟨⟨er,her,rfl⟩,hb1⟩;replace HB:=later HB hb1;clear hb1))
 have he:(er==0)=false:=by simpa using her
 go_wp2_with fail
 go_ret
 exact⟨rfl,HB⟩
set_option maxHeartbeats 1000000 in
theorem pfl_zero1 (hn:¬(n:Int)>200) (o1:(FloatKind.f64.format.order t 0==some .eq)=true) (G:World→Nat→Prop) (hG:∀W W' b,G W b→Below W.heap.size W W'→G W' b)
   (cM:∀W,Below w.heap.size w W→Calls Tryz.prog 9 #[tapeV v A n C D m E,.slice AX k CX,.float .f64 t] W fun r w'=>r=.returned (.bool true)∧Below W.heap.size W w')
   (cD:∀W,Below w.heap.size w W→Calls Tryz.prog 10 #[.slice AX k CX] W fun r w'=>r=.returned (.bool true)∧Below W.heap.size W w')
   (cB:∀W,Below w.heap.size w W→Calls Tryz.prog 7 #[tapeV v A n C D m E,.slice AX k CX,.float .f64 t] W fun r w'=>(∃b C',r=.returned (.tuple #[.slice (some ⟨b,0,none⟩) k C',.int .i64 0])∧G w' b)∧Below W.heap.size W w')
   (cE:∀W,Below w.heap.size w W→Calls Tryz.prog 12 #[tapeV v A n C D m E,.slice AX k CX] W fun r w'=>(∃s,r=.returned (.tuple #[s,.int .i64 0]))∧Below W.heap.size W w')
   (cS:∀W b C',Below w.heap.size w W→G W b→Calls Tryz.prog 13 #[.slice (some ⟨b,0,none⟩) k C',.slice AX k CX] W fun r w'=>r=.returned (.bool true)∧Below W.heap.size W w') :
   Calls Tryz.prog 4 #[tapeV v A n C D m E,.slice AX k CX,.float .f64 t] w fun r w'=>r=.returned (.bool true)∧Below w.heap.size w w':=by
 unfold tapeV at *
 have T:=hasT_new w v A n C D m E
 have HB:Below w.heap.size w (w.alloc (.cells #[.int .i64 v,.slice A n C,.slice D m E] 25)):=by go_grown
 replace hG:Hid (∀W W' b,G W b→Below W.heap.size W W'→G W' b):=hG
 go_enter Tryz.func4,Tryz.ntmps4
 go_upto_region 1 with fail
 generalize (w.alloc (.cells #[.int .i64 v,.slice A n C,.slice D m E] 25))=V1 at *
 obtain⟨t0,t1,t2,tl⟩:=id T
 go_wp2_with (first
   | (go_at_call 9;refine (cM _ HB).mono ?_;rintro _ V4 ⟨rfl,hb1⟩;replace T:=T.keep hb1;replace HB:=later HB hb1;clear hb1;clear t0 t1 t2 tl;obtain⟨t0,t1,t2,tl⟩:=id T)
   | (go_at_call 10;refine (cD _ HB).mono ?_;rintro _ V5 ⟨rfl,hb1⟩;replace T:=T.keep hb1;replace HB:=later HB hb1;clear hb1;clear t0 t1 t2 tl;obtain⟨t0,t1,t2,tl⟩:=id T)
   | (go_at_call 7;refine (cB _ HB).mono ?_;rintro _ V2 ⟨⟨b,C',rfl,g⟩,hb1⟩;replace T:=T.keep hb1;replace HB:=later HB hb1;clear hb1;clear t0 t1 t2 tl;obtain⟨t0,t1,t2,tl⟩:=id T)
   | (go_at_call 12;refine (cE _ HB).mono ?_;rintro _ V3 ⟨⟨s,rfl⟩,hb1⟩;replace g:=hG.out _ _ _ g hb1;replace HB:=later HB hb1;clear hb1)
   | (go_at_call 13;refine (cS _ _ _ HB g).mono ?_;rintro _ V6 ⟨rfl,hb1⟩;replace HB:=later HB hb1;clear hb1))
 go_ret
 exact⟨rfl,HB⟩
set_option maxHeartbeats 1000000 in
theorem pfl_no (hn:¬(n:Int)>200) (o1:(FloatKind.f64.format.order t 0==some .eq)=false) (Wd:Nat→Nat×Nat)
   (cM:∀W,Below w.heap.size w W→Calls Tryz.prog 9 #[tapeV v A n C D m E,.slice AX k CX,.float .f64 t] W fun r w'=>r=.returned (.bool true)∧Below W.heap.size W w')
   (cD:∀W,Below w.heap.size w W→Calls Tryz.prog 10 #[.slice AX k CX] W fun r w'=>r=.returned (.bool true)∧Below W.heap.size W w')
   (cB:∀W,Below w.heap.size w W→Calls Tryz.prog 7 #[tapeV v A n C D m E,.slice AX k CX,.float .f64 t] W fun r w'=>(∃a b,r=.returned (.tuple #[a,b]))∧Below W.heap.size W w')
   (cW:∀W,Below w.heap.size w W→Calls Tryz.prog 14 #[.slice AX k CX] W fun r w'=>(∃Aw Cw,r=.returned (.slice Aw k Cw)∧Ivs w' Aw k Wd)∧Below W.heap.size W w')
   (cO:∀W Aw Cw,Below w.heap.size w W→Ivs W Aw k Wd→Calls Tryz.prog 11 #[tapeV v A n C D m E,.slice AX k CX,.slice Aw k Cw,.float .f64 t] W fun r w'=>r=.returned (.bool false)∧Below W.heap.size W w') :
   Calls Tryz.prog 4 #[tapeV v A n C D m E,.slice AX k CX,.float .f64 t] w fun r w'=>r=.returned (.bool true)∧Below w.heap.size w w':=by
 unfold tapeV at *
 have T:=hasT_new w v A n C D m E
 have HB:Below w.heap.size w (w.alloc (.cells #[.int .i64 v,.slice A n C,.slice D m E] 25)):=by go_grown
 go_enter Tryz.func4,Tryz.ntmps4
 go_upto_region 1 with fail
 generalize (w.alloc (.cells #[.int .i64 v,.slice A n C,.slice D m E] 25))=V1 at *
 obtain⟨t0,t1,t2,tl⟩:=id T
 go_wp2_with (first
   | (go_at_call 9;refine (cM _ HB).mono ?_;rintro _ V4 ⟨rfl,hb1⟩;replace T:=T.keep hb1;replace HB:=later HB hb1;clear hb1;clear t0 t1 t2 tl;obtain⟨t0,t1,t2,tl⟩:=id T)
   | (go_at_call 10;refine (cD _ HB).mono ?_;rintro _ V5 ⟨rfl,hb1⟩;replace T:=T.keep hb1;replace HB:=later HB hb1;clear hb1;clear t0 t1 t2 tl;obtain⟨t0,t1,t2,tl⟩:=id T)
   | (go_at_call 7;refine (cB _ HB).mono ?_;rintro _ V2 ⟨⟨ra,rb,rfl⟩,hb1⟩;replace T:=T.keep hb1;replace HB:=later HB hb1;clear hb1;clear t0 t1 t2 tl;obtain⟨t0,t1,t2,tl⟩:=id T)
   | (go_at_call 14;refine (cW _ HB).mono ?_;rintro _ V3 ⟨⟨Aw,Cw,rfl,U⟩,hb1⟩;replace T:=T.keep hb1;replace HB:=later HB hb1;clear hb1;clear t0 t1 t2 tl;obtain⟨t0,t1,t2,tl⟩:=id T)
   | (go_at_call 11;refine (cO _ _ _ HB U).mono ?_;rintro _ V6 ⟨rfl,hb1⟩;replace HB:=later HB hb1;clear hb1))
 go_ret
 exact⟨rfl,HB⟩
set_option maxHeartbeats 2000000 in
theorem pfl_yes (hk:k≤24) (hn:¬(n:Int)>200) (o1:(FloatKind.f64.format.order t 0==some .eq)=false) (Wd:Nat→Nat×Nat)
   (cM:∀W,Below w.heap.size w W→Calls Tryz.prog 9 #[tapeV v A n C D m E,.slice AX k CX,.float .f64 t] W fun r w'=>r=.returned (.bool true)∧Below W.heap.size W w')
   (cD:∀W,Below w.heap.size w W→Calls Tryz.prog 10 #[.slice AX k CX] W fun r w'=>r=.returned (.bool true)∧Below W.heap.size W w')
   (cB:∀W,Below w.heap.size w W→Calls Tryz.prog 7 #[tapeV v A n C D m E,.slice AX k CX,.float .f64 t] W fun r w'=>(∃b C' B,r=.returned (.tuple #[.slice (some ⟨b,0,none⟩) k C',.int .i64 0])∧Ivs w' (some ⟨b,0,none⟩) k B∧Hid (allIn k B Wd=true))∧Below W.heap.size W w')
   (cW:∀W,Below w.heap.size w W→Calls Tryz.prog 14 #[.slice AX k CX] W fun r w'=>(∃Aw Cw,r=.returned (.slice Aw k Cw)∧Ivs w' Aw k Wd)∧Below W.heap.size W w')
   (cO:∀W Aw Cw,Below w.heap.size w W→Ivs W Aw k Wd→Calls Tryz.prog 11 #[tapeV v A n C D m E,.slice AX k CX,.slice Aw k Cw,.float .f64 t] W fun r w'=>r=.returned (.bool true)∧Below W.heap.size W w') :
   Calls Tryz.prog 4 #[tapeV v A n C D m E,.slice AX k CX,.float .f64 t] w fun r w'=>r=.returned (.bool true)∧Below w.heap.size w w':=by
 unfold tapeV at *
 have T:=hasT_new w v A n C D m E
 have HB:Below w.heap.size w (w.alloc (.cells #[.int .i64 v,.slice A n C,.slice D m E] 25)):=by go_grown
 go_enter Tryz.func4,Tryz.ntmps4
 go_upto_region 1 with fail
 generalize (w.alloc (.cells #[.int .i64 v,.slice A n C,.slice D m E] 25))=V1 at *
 obtain⟨t0,t1,t2,tl⟩:=id T
 go_wp2_with (first
   | (go_at_call 9;refine (cM _ HB).mono ?_;rintro _ V4 ⟨rfl,hb1⟩;replace T:=T.keep hb1;replace HB:=later HB hb1;clear hb1;clear t0 t1 t2 tl;obtain⟨t0,t1,t2,tl⟩:=id T)
   | (go_at_call 10;refine (cD _ HB).mono ?_;rintro _ V5 ⟨rfl,hb1⟩;replace T:=T.keep hb1;replace HB:=later HB hb1;clear hb1;clear t0 t1 t2 tl;obtain⟨t0,t1,t2,tl⟩:=id T)
   | (go_at_call 7;refine (cB _ HB).mono ?_;rintro _ V2 ⟨⟨b,C',B,rfl,VB,hin⟩,hb1⟩;replace T:=T.keep hb1;replace HB:=later HB hb1;clear hb1;clear t0 t1 t2 tl;obtain⟨t0,t1,t2,tl⟩:=id T)
   | (go_at_call 14;refine (cW _ HB).mono ?_;rintro _ V3 ⟨⟨Aw,Cw,rfl,U⟩,hb1⟩;replace VB:=VB.keep hb1;replace T:=T.keep hb1;replace HB:=later HB hb1;clear hb1;clear t0 t1 t2 tl;obtain⟨t0,t1,t2,tl⟩:=id T)
   | (go_at_call 11;refine (cO _ _ _ HB U).mono ?_;rintro _ V6 ⟨rfl,hb1⟩;replace VB:=VB.keep hb1;replace U:=U.keep hb1;replace HB:=later HB hb1;clear hb1 t0 t1 t2 tl))
 clear cM cD cB cW cO T
 go_loopg [77] k (fun Gn s77 wx=>Below V6.heap.size V6 wx∧∃i:Nat,i+Gn=k∧s77=.int .i64 (i:Int))
 case atStart=>exact⟨Below.refl _ _,0,by omega,rfl⟩
 case round =>
   obtain⟨HV,i,hi,rfl⟩:=hrel
   replace HB:=later HB HV
   by_cases ci:i=k
   · subst ci
     go_wp2_with fail
     go_ret
     exact⟨rfl,HB⟩
   · have hlt:(i:Int)<(k:Int):=by omega
     obtain⟨bb,bo,hA,hbb,x0,x1,l0,l1⟩:=(VB.keep HV) i (by omega)
     obtain⟨wb,wo,hW,hwb,y0,y1,m0,m1⟩:=(U.keep HV) i (by omega)
     have c:=fun w=>inside_w (B i).1 (B i).2 (Wd i).1 (Wd i).2 l0 l1 m0 m1 w
     rw [allIn_iff.1 hin.out i (by omega)] at c
     cases hA
     subst hW
     simp only [Nat.zero_add] at x0 x1
     have kx0:=fun n:Behind wr=>n.cell x0 hbb
     have kx1:=fun n:Behind wr=>n.cell x1 hbb
     have ky0:=fun n:Behind wr=>n.cell y0 hwb
     have ky1:=fun n:Behind wr=>n.cell y1 hwb
     clear x0 x1 y0 y1
     go_upto_region 15 with fail
     refine region_behind (by kernel_rfl) (by kernel_rfl) ?_
     repeat (go_big_quiet_step (first | (go_at_call 15;with_reducible refine Behind.call (c _))))
     refine wpQuiet_nil ?_
     rintro _ ⟨q',rfl⟩
     obtain⟨V9,hb1⟩:=q'
     dsimp only
     replace HV:=later HV hb1
     clear kx0 kx1 ky0 ky1 hb1
     go_wp2_with fail
     go_roundg (k-i-1)
     case measure=>omega
     case rel=>exact⟨HV,i+1,by omega,by go_num⟩
end
theorem picardFinds_all (v:Int) (A:Option Addr) (n C:Nat) (D:Option Addr) (m E:Nat) (O:Nat→Opw) (Y:Nat→Int) (AX:Option Addr) (mx CX:Nat) (X:Nat→Nat×Nat) (t:Nat) (hn:n≤9223372036854775807) (hm:m≤9223372036854775807) (hmx:mx≤9223372036854775807) (ht:t<18446744073709551616) (w:World) (VO:Ops w A n O) (VY:Ins w D m Y) (VX:Ivs w AX mx X) :
   Calls Tryz.prog 4 #[tapeV v A n C D m E,.slice AX mx CX,.float .f64 t] w fun r w'=>r=.returned (.bool true)∧Below w.heap.size w w':=by
 have cM:=fun (W:World) (hW:Below w.heap.size w W)=>may_w v A n C D m E O Y AX mx CX t X hmx ht W (VO.keep hW) (VY.keep hW) (VX.keep hW)
 have cD:=fun (W:World) (hW:Below w.heap.size w W)=>bounded_w AX mx CX X hmx W (VX.keep hW)
 by_cases hn2:(n:Int)>200
 · exact pfl_skip v A n C D m E _ t _ _ (Or.inl hn2) w cM cD
 cases hmm:((rightT v n O m Y&&fldB v m)&&(allB mx X&&((mx:Int)==v))&&tmB t)
 · rw [hmm] at cM
   exact pfl_skip v A n C D m E _ t _ _ (Or.inr (Or.inl ⟨hn2,rfl⟩)) w cM cD
 cases hbb:allBd mx X
 · rw [hmm] at cM
   rw [hbb] at cD
   exact pfl_skip v A n C D m E _ t _ _ (Or.inr (Or.inr ⟨hn2,rfl,rfl⟩)) w cM cD
 rw [hmm] at cM
 rw [hbb] at cD
 have F:Fair v n O m Y mx t X:=fair_of ht hmm hbb
 let q:Qst:=⟨v,A,n,C,D,m,E,AX,mx,CX,t⟩
 have K:Ask q (okE n O mx) (rtE n O Y) X w:=Fair.ask (q:=q) F VO VY VX
 have hX:∀i,i<mx→W2 (X i):=fun i hi=>ivs_words VX i hi
 have cB:=fun (W:World) (hW:Below w.heap.size w W)=>bound_fair v A n C D m E O Y AX mx CX X t hn hm hmx ht hmm hbb W (VO.keep hW) (VY.keep hW) (VX.keep hW)
 have o1:=o_eq ht (show 0<18446744073709551616 by omega)
 cases hz:eqB t 0
 · rw [hz] at o1
   have hsame:∀i,i<mx→wideQ (X i)=wideR (X i)∧In (X i).1 (X i).2 (wideQ (X i)).1 (wideQ (X i)).2:=fun i hi=>wide_same (hs_iff.1 (F.hs i hi)) (hX i hi) (F.bnd i hi)
   have hwd2:∀i,i<mx→W2 (wdB X i):=fun i hi=>wideQ_W2 (hX i hi)
   have cW:∀W,Below w.heap.size w W→Calls Tryz.prog 14 #[.slice AX mx CX] W fun r w'=>(∃Aw Cw,r=.returned (.slice Aw mx Cw)∧Ivs w' Aw mx (wdB X))∧Below W.heap.size W w':=fun W hW=>by
     refine (rwide_w AX mx CX X F.k24 (fun i hi=>(room_ge (hs_iff.1 (F.hs i hi)) (hX i hi) (F.bnd i hi)).2) W (VX.keep hW)).mono ?_
     rintro _ w' ⟨⟨u,rfl,hown⟩,hb⟩
     obtain⟨Aw,Cw,e,U⟩:=ownI_ivs hown (fun p hp=>by
       unfold wdL at hp
       obtain⟨i,hi,rfl⟩:=List.mem_map.1 hp
       have hi':=List.mem_range.1 hi
       rw [←(hsame i hi').1]
       exact wideQ_W2 (hX i hi'))
     rw [wdL_len] at e U
     refine⟨⟨Aw,Cw,by rw [e],fun i hi=>?_⟩,hb⟩
     have u:=U i hi
     have e2:(wdL X mx).getD i (0,0)=wdB X i:=by
       unfold wdL wdB
       rw [(hsame i hi).1]
       simp [hi]
     simp only [e2] at u
     exact u
   have cO:=fun (W:World) (Aw:Option Addr) (Cw:Nat) (hW:Below w.heap.size w W) (U:Ivs W Aw mx (wdB X))=>bounds_w q (okE n O mx) (rtE n O Y) X (wdB X) AX Aw CX Cw t F.k24 ht (fun ho i hi=>(F.facts VO ho i hi).1) W (K.keep hW).ev (VX.keep hW) U
   cases hbo:(okE n O mx (wdB X)&&bdsB mx X (wdB X) (rtE n O Y (wdB X)) t)
   · refine pfl_no v A n C D m E AX mx CX t w hn2 o1 (wdB X) cM cD (fun W hW=>?_) cW (fun W Aw Cw hW U=>?_)
     · refine (cB W hW).mono ?_
       rintro _ w' ⟨⟨r,rfl,hr'⟩,hb⟩
       refine⟨?_,hb⟩
       rcases hr' with ⟨b,C',B,rfl, -⟩ | ⟨rfl, -⟩
       · exact⟨_,_,rfl⟩
       · exact⟨_,_,rfl⟩
     · have c:=cO W Aw Cw hW U
       have hbo':(okE n O mx (wdB X)&&bdsB q.k X (wdB X) (rtE n O Y (wdB X)) t)=false:=hbo
       rw [hbo'] at c
       exact c
   · have hbo':(okE n O mx (wdB X)&&bdsB q.k X (wdB X) (rtE n O Y (wdB X)) t)=true:=hbo
     have hgw:gdB q (okE n O mx) (rtE n O Y) X (wdB X)=true:=by
       unfold gdB
       rw [Bool.and_eq_true] at hbo ⊢
       refine⟨hbo.1,allIn_iff.2 fun i hi=>?_⟩
       have:=all_upto.1 (show (List.range mx).all _=true from hbo.2) i hi
       unfold bd1 at this
       simp only [Bool.and_eq_true] at this
       exact this.2.2
     have hwb:∀i,i<mx→bdQ (wdB X i)=true:=fun i hi=>by
       rw [Bool.and_eq_true] at hbo
       have:=all_upto.1 (show (List.range mx).all _=true from hbo.2) i hi
       unfold bd1 at this
       simp only [Bool.and_eq_true] at this
       exact this.1
     refine pfl_yes v A n C D m E AX mx CX t w F.k24 hn2 o1 (wdB X) cM cD (fun W hW=>?_) cW (fun W Aw Cw hW U=>?_)
     · refine (cB W hW).mono ?_
       rintro _ w' ⟨⟨r,rfl,hr'⟩,hb⟩
       refine⟨?_,hb⟩
       rcases hr' with ⟨b,C',B,rfl,I,hB,hg,hf, -,hin⟩ | ⟨rfl, -,hno⟩
       · exact⟨b,C',B,rfl,I.ivs hB,hin hz hgw⟩
       · exfalso
         obtain⟨B,hB,hg,hin,i,hi,hib⟩:=hno hz hgw
         unfold gdB at hg
         simp only [Bool.and_eq_true] at hg
         obtain⟨r1,r2⟩:=F.facts VO hg.1 i hi
         obtain⟨-, -,S⟩:=rch_less (In.refl (hX i hi).1 (hX i hi).2 (hs_iff.1 (F.hs i hi))) r2 r1 (hB i hi) F.tm F.tm (Int.le_refl _) (allIn_iff.1 hg.2 i hi)
         obtain⟨T,k1,k2⟩:=inside_iff.1 (allIn_iff.1 hin i hi) S
         have hw:=hwb i hi
         unfold bdQ at hw
         simp only [Bool.and_eq_true] at hw
         have h1:=hw.2
         have b1:=hB i hi
         have b2:=hwd2 i hi
         generalize B i=p at *
         generalize wdB X i=u at *
         unfold bndB infB at hib h1
         simp only [Bool.and_eq_true,Bool.not_eq_true',decide_eq_false_iff_not] at h1
         simp only [Bool.and_eq_false_iff,Bool.not_eq_false',decide_eq_true_eq] at hib
         have s1:=S.lt
         have s2:=S.gt
         have s3:=S.le
         have n1:=S.nl
         have n2:=S.nh
         have n3:=T.nl
         have n4:=T.nh
         unfold nanB at n1 n2 n3 n4
         simp only [decide_eq_false_iff_not] at n1 n2 n3 n4
         have c1:=b1.1
         have c2:=b1.2
         have c3:=b2.1
         have c4:=b2.2
         unfold key at s1 s2 s3 k1 k2
         split at k1 <;> split at k1 <;> split at k2 <;> split at k2 <;> simp only [*,if_true,if_false] at s1 s2 s3 <;> omega
     · have c:=cO W Aw Cw hW U
       rw [hbo'] at c
       exact c
 · rw [hz] at o1
   cases ho:okE n O mx X
   · refine pfl_zero0 v A n C D m E AX mx CX t w hn2 o1 cM cD (fun W hW=>?_) (fun W hW=>?_)
     · refine (cB W hW).mono ?_
       rintro _ w' ⟨⟨r,rfl,hr'⟩,hb⟩
       rcases hr' with ⟨b,C',B,rfl, -, -, -, -,h0, -⟩ | ⟨rfl, -⟩
       · have:=(h0 hz).1
         rw [ho] at this
         cases this
       · exact⟨rfl,hb⟩
     · refine (K.ev W hW AX CX X (VX.keep hW)).mono ?_
       rintro e w' ⟨⟨h, -⟩ | ⟨-,h⟩,hb⟩
       · rw [ho] at h
         cases h
       · exact⟨h,hb⟩
   · refine pfl_zero1 v A n C D m E AX mx CX t w hn2 o1 (fun W b=>Img W b mx X) (fun W W' b h hb=>h.keep hb) cM cD (fun W hW=>?_) (fun W hW=>?_) (fun W b C' hW I=>?_)
     · refine (cB W hW).mono ?_
       rintro _ w' ⟨⟨r,rfl,hr'⟩,hb⟩
       rcases hr' with ⟨b,C',B,rfl,I, -, -, -,h0, -⟩ | ⟨rfl,h0, -⟩
       · exact⟨⟨b,C',rfl,I.congr (h0 hz).2⟩,hb⟩
       · have:=h0 hz
         rw [ho] at this
         cases this
     · refine (K.ev W hW AX CX X (VX.keep hW)).mono ?_
       rintro e w' ⟨⟨-,g,h, -⟩ | ⟨h, -⟩,hb⟩
       · exact⟨⟨_,h⟩,hb⟩
       · rw [ho] at h
         cases h
     · exact rsameV_w (some ⟨b,0,none⟩) AX mx C' CX X X hmx (fun _ _=>rfl) W (I.ivs hX) (VX.keep hW)
end Go.Proofs.YtnnfafilgiajoaaGreat
