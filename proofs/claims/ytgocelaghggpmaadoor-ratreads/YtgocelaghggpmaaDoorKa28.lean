/- The document's Like: rows of tokens that are the same. -/
import Derived.Test.YtgocelaghggpmaaDoorKa23
namespace Go.Proofs.YtgocelaghggpmaaDoor
open Go.ChangeShapes Go.WideShapes Go.ChangeAt Go.RowKit Go.Maps
set_option maxHeartbeats 4000000 in
set_option maxRecDepth 20000 in
theorem like_f (A B:Option Addr) (n C1 C2:Nat) (hn:n≤100000) (Z Y:Nat→Tk) (hs:∀i,i<n→(Z i).k=(Y i).k∧(Z i).s=(Y i).s∧(Z i).n=(Y i).n∧(Z i).d=(Y i).d)
   (w:World) (hZ:Tks w A n Z) (hY:Tks w B n Y) :
   Calls Tryd.prog 17 #[.slice A n C1,.slice B n C2,.bool false] w fun e w'=>e=.returned (.bool true)∧Below w.heap.size w w':=by
 have HS:Hid _:=hs
 have HZ:Hid _:=hZ
 have HY:Hid _:=hY
 have hni:(n:Int)≤100000:=by omega
 clear hs hZ hY
 go_enter Tryd.func17,Tryd.ntmps17
 go_upto_region 4 with fail
 go_loopg [15] n (fun G s15 wx=>∃i:Nat,s15=.int .i64 (i:Int)∧i≤n∧i+G=n∧Below w.heap.size w wx)
 case atStart=>exact⟨0,rfl,by omega,by omega,Below.refl _ _⟩
 case round =>
   obtain⟨i,rfl,hi,hG,HB⟩:=hrel
   by_cases c:i<n
   · have ci:(i:Int)<(n:Int):=by omega
     obtain⟨b,o,rfl,hb,a0,a1,a2,a3,a4⟩:=Tks.keep HZ.out HB i c
     obtain⟨b',o',rfl,hb',b0,b1,b2,b3,b4⟩:=Tks.keep HY.out HB i c
     obtain⟨s1,s2,s3,s4⟩:=HS.out i c
     rw [←s1] at b0
     rw [←s2] at b1
     rw [←s3] at b2
     rw [←s4] at b3
     clear s1 s2 s3 s4 HS HZ HY
     generalize (Z i).k=zk at *
     generalize (Z i).s=zs at *
     generalize (Z i).n=zn at *
     generalize (Z i).d=zd at *
     generalize (Z i).a=za at *
     generalize (Y i).a=ya at *
     go_upto_region 6 with fail
     go_quiet (fail)
     clear a0 a1 a2 a3 a4 b0 b1 b2 b3 b4
     replace HB:=later HB (below_drewN wr nq)
     go_wp2_with fail
     (go_roundg (n-i-1)
      case measure=>omega
      case rel=>exact⟨i+1,by go_num,by omega,by omega,HB⟩)
   · have ci:¬(i:Int)<(n:Int):=by omega
     clear HS HZ HY
     go_wp2_with fail
     go_ret
     exact⟨rfl,HB⟩
end Go.Proofs.YtgocelaghggpmaaDoor
