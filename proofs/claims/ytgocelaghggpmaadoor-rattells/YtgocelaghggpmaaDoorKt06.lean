/- The walks of the reference's below and same: a number held against an exact one. The reference's below and same: what they answer of an exact number. Plain facts: what the program rounds parts to, to any side, is what the document's words ask of the exact number: the place below, whether it is it, the middle. Plain facts: sums, products, quotients and roots of the program are the exact ones, rounded by the document's words, to any side. The walk of the reference's Down: the place of the greatest float that is not above an exact number. The walks of the reference's grid and Rounded: the document's rounding of an exact number. The walk of the reference's Rounded. The reference's Rounded: the document's rounding. The reference's finite, inf and Whole. The document's least interval of a quotient (orreryref11.Hold). The walk of the statement RatTells. The ends of the least interval of a quotient. The reference's Mul: the exact product, rounded. The walk of the statement UlpProducts. A quotient as an argument, opened and shut; what the listed table gives; RatTells for every quotient in memory. RatTells for every quotient in memory; a quotient as an argument, opened and shut; what the listed table gives. -/
import Derived.Test.YtgocelaghggpmaaDoorChecked
import Derived.Lib.Strings
import Derived.Lib.Slices
import Derived.Lib.Small
import Derived.Lib.Walk
import Derived.Lib.BitFns
import Derived.KernelRfl
import Derived.WalkKit
import Derived.Laws.Cover2
import Derived.Laws.FloatArith
import Derived.Laws.BitsAllLaws
import Derived.Test.YtgocelaghggpmaaDoorRows
import Derived.ProofKit
import Derived.OpenShut
import Derived.WalkSpells
import Derived.WalkLawsBesides
import Derived.Laws.Externs
import Derived.Laws.Bits64b
import Derived.Handy
import Derived.Deep.RegionWith
import Derived.Deep.QuietTactic
import Derived.BigQuiet
import Derived.Deep.RegionHeld3
import Derived.Deep.CutRange
import Derived.Deep.CutBlock
import Derived.Deep.LoopGhost
import Derived.WalkSmall
import Derived.Deep.Quiet
import Derived.StillTail
import Derived.Test.YtgocelaghggpmaaDoorShelf
import Derived.Lib.AppendIntMem
import Derived.Lib.ItoaLen
import Derived.ChangeSame
import Derived.JoinedOf
import Derived.JoinedAt
import Derived.RowKit3
import Derived.Lib.LaidTab
import Derived.Stop.LaidErr
import Derived.MakeChecks
import Derived.Test.YtgocelaghggpmaaDoorKa01
import Derived.Test.YtgocelaghggpmaaDoorKa02
import Derived.Test.YtgocelaghggpmaaDoorKa03
import Derived.Test.YtgocelaghggpmaaDoorKa04
import Derived.Test.YtgocelaghggpmaaDoorKa05
import Derived.Test.YtgocelaghggpmaaDoorKa06
import Derived.Test.YtgocelaghggpmaaDoorKa07
import Derived.Test.YtgocelaghggpmaaDoorKa08
import Derived.Test.YtgocelaghggpmaaDoorKa09
import Derived.Test.YtgocelaghggpmaaDoorKa10
import Derived.Test.YtgocelaghggpmaaDoorKa11
import Derived.Test.YtgocelaghggpmaaDoorKa12
import Derived.Test.YtgocelaghggpmaaDoorKa13
import Derived.Test.YtgocelaghggpmaaDoorKa14
import Derived.Test.YtgocelaghggpmaaDoorKa15
import Derived.Test.YtgocelaghggpmaaDoorKa16
import Derived.Test.YtgocelaghggpmaaDoorKa17
import Derived.Test.YtgocelaghggpmaaDoorKa18
import Derived.Test.YtgocelaghggpmaaDoorKa19
import Derived.Test.YtgocelaghggpmaaDoorKa20
import Derived.Test.YtgocelaghggpmaaDoorKa21
import Derived.Test.YtgocelaghggpmaaDoorKa22
import Derived.Test.YtgocelaghggpmaaDoorKa23
import Derived.Test.YtgocelaghggpmaaDoorKa24
import Derived.Test.YtgocelaghggpmaaDoorKa25
import Derived.Test.YtgocelaghggpmaaDoorKa26
import Derived.Test.YtgocelaghggpmaaDoorKa27
import Derived.Test.YtgocelaghggpmaaDoorKa28
import Derived.Test.YtgocelaghggpmaaDoorKa29
import Derived.Test.YtgocelaghggpmaaDoorKa30
import Derived.Test.YtgocelaghggpmaaDoorKa31
import Derived.Test.YtgocelaghggpmaaDoorKa32
import Derived.Test.YtgocelaghggpmaaDoorKa33
import Derived.Test.YtgocelaghggpmaaDoorKa34
import Derived.Test.YtgocelaghggpmaaDoorKa35
import Derived.Test.YtgocelaghggpmaaDoorKt05
namespace Go.Proofs.YtgocelaghggpmaaDoor
open Go.ChangeShapes Go.WideShapes Go.ChangeAt Go.RowKit
def Has7 (w:World) (b:Nat) (a0 a1 a2 b0 b1 b2 r:Value):Prop:=w.cell? ⟨b,0,none⟩=some a0∧w.cell? ⟨b,1,none⟩=some a1∧w.cell? ⟨b,2,none⟩=some a2∧w.cell? ⟨b,3,none⟩=some b0∧w.cell? ⟨b,4,none⟩=some b1∧w.cell? ⟨b,5,none⟩=some b2∧w.cell? ⟨b,6,none⟩=some r∧b<w.heap.size
theorem Has7.keep {W0 w2:World} {b:Nat} {a0 a1 a2 b0 b1 b2 r:Value} (h:Has7 W0 b a0 a1 a2 b0 b1 b2 r) (hb:Below W0.heap.size W0 w2):Has7 w2 b a0 a1 a2 b0 b1 b2 r:=by
 obtain⟨h0,h1,h2,h3,h4,h5,h6,hl⟩:=h
 exact⟨keepsC hb h0 hl,keepsC hb h1 hl,keepsC hb h2 hl,keepsC hb h3 hl,keepsC hb h4 hl,keepsC hb h5 hl,keepsC hb h6 hl,Nat.lt_of_lt_of_le hl hb.size⟩
theorem Has7.drew {w:World} {b:Nat} {a0 a1 a2 b0 b1 b2 r:Value} (h:Has7 w b a0 a1 a2 b0 b1 b2 r):Has7 w.drew b a0 a1 a2 b0 b1 b2 r:=h
set_option maxHeartbeats 1000000 in
theorem below_q_core (gr ga gb:Bool) (ro ao bo:Option Addr) (lr la lb cr ca cb:Nat) (er ea eb t s:Int) (w:World) (P:World→Value→Prop)
   (cp:∀W,Below w.heap.size w W→Calls Tryd.prog 125 #[.agg #[.bool gr,.slice ro lr cr,.int .i64 er],.agg #[.bool gb,.slice bo lb cb,.int .i64 eb]] W fun r w'=>(∃v,r=.returned v∧P w' v)∧Below W.heap.size W w')
   (co:∀W v,Below w.heap.size w W→P W v→Calls Tryd.prog 124 #[v,.agg #[.bool ga,.slice ao la ca,.int .i64 ea]] W fun r w'=>r=.returned (.int .i64 t)∧Below W.heap.size W w')
   (cs:∀W,Below w.heap.size w W→Calls Tryd.prog 123 #[.agg #[.bool gb,.slice bo lb cb,.int .i64 eb]] W fun r w'=>r=.returned (.int .i64 s)∧Below W.heap.size W w')
   (R:Bool) (hR:s<0∧R=decide (0≤t)∨¬s<0∧R=decide (t≤0)) :
   Calls Tryd.prog 85 #[.agg #[.bool gr,.slice ro lr cr,.int .i64 er],.agg #[.bool ga,.slice ao la ca,.int .i64 ea,.bool gb,.slice bo lb cb,.int .i64 eb,.bool false]] w fun r w' =>
     r=.returned (.bool R)∧Below w.heap.size w w':=by
 go_enter Tryd.func85,Tryd.ntmps85
 go_upto_region 3 with fail
 have X:Has3 ((w.alloc (.cells #[.bool gr,.slice ro lr cr,.int .i64 er] 76)).alloc (.cells #[.bool ga,.slice ao la ca,.int .i64 ea,.bool gb,.slice bo lb cb,.int .i64 eb,.bool false] 79)).drew w.heap.size (.bool gr) (.slice ro lr cr) (.int .i64 er):=⟨by go_simp,by go_simp,by go_simp,by go_simp,by go_simp,by go_simp,by go_size⟩
 have Y:Has7 ((w.alloc (.cells #[.bool gr,.slice ro lr cr,.int .i64 er] 76)).alloc (.cells #[.bool ga,.slice ao la ca,.int .i64 ea,.bool gb,.slice bo lb cb,.int .i64 eb,.bool false] 79)).drew (w.heap.size+1) (.bool ga) (.slice ao la ca) (.int .i64 ea) (.bool gb) (.slice bo lb cb) (.int .i64 eb) (.bool false):=⟨by go_simp,by go_simp,by go_simp,by go_simp,by go_simp,by go_simp,by go_simp,by go_size⟩
 have HB:Below w.heap.size w ((w.alloc (.cells #[.bool gr,.slice ro lr cr,.int .i64 er] 76)).alloc (.cells #[.bool ga,.slice ao la ca,.int .i64 ea,.bool gb,.slice bo lb cb,.int .i64 eb,.bool false] 79)).drew:=by go_grown
 go_region_held3 (fun w'=>w'.cell? ⟨w.heap.size,0,none⟩=some (.bool gr)∧w'.cell? ⟨w.heap.size,1,none⟩=some (.slice ro lr cr)∧w'.cell? ⟨w.heap.size,2,none⟩=some (.int .i64 er)∧w'.cell? ⟨w.heap.size+1,0,none⟩=some (.bool ga)∧w'.cell? ⟨w.heap.size+1,1,none⟩=some (.slice ao la ca)∧w'.cell? ⟨w.heap.size+1,2,none⟩=some (.int .i64 ea)∧w'.cell? ⟨w.heap.size+1,3,none⟩=some (.bool gb)∧w'.cell? ⟨w.heap.size+1,4,none⟩=some (.slice bo lb cb)∧w'.cell? ⟨w.heap.size+1,5,none⟩=some (.int .i64 eb)) (first | exact⟨X.1,X.2.1,X.2.2.1,Y.1,Y.2.1,Y.2.2.1,Y.2.2.2.1,Y.2.2.2.2.1,Y.2.2.2.2.2.1⟩ | go_keep)
   (first
     | (go_at_call 125;refine (cp _ HB).mono ?_;rintro _ w2 ⟨⟨v,rfl,hv⟩,hb1⟩;replace X:=X.keep hb1;replace Y:=Y.keep hb1;replace HB:=later HB hb1;clear hb1)
     | (go_at_call 124;refine (co _ _ HB hv).mono ?_;rintro _ w3 ⟨rfl,hb1⟩;replace X:=X.keep hb1;replace Y:=Y.keep hb1;replace HB:=later HB hb1;clear hb1))
 all_goals
   obtain⟨y0,y1,y2,y3,y4,y5,y6, -⟩:=Y
   rcases hR with ⟨hs,rfl⟩ | ⟨hs,rfl⟩
   all_goals
     go_wp2_with (go_at_call 123;refine (cs _ HB).mono ?_;rintro _ w4 ⟨rfl,hb1⟩;replace HB:=later HB hb1)
     go_ret
     exact⟨rfl,HB⟩
set_option maxHeartbeats 1000000 in
theorem same_q_core (gr ga gb:Bool) (ro ao bo:Option Addr) (lr la lb cr ca cb:Nat) (er ea eb t:Int) (w:World) (P:World→Value→Prop)
   (cp:∀W,Below w.heap.size w W→Calls Tryd.prog 125 #[.agg #[.bool gr,.slice ro lr cr,.int .i64 er],.agg #[.bool gb,.slice bo lb cb,.int .i64 eb]] W fun r w'=>(∃v,r=.returned v∧P w' v)∧Below W.heap.size W w')
   (co:∀W v,Below w.heap.size w W→P W v→Calls Tryd.prog 124 #[v,.agg #[.bool ga,.slice ao la ca,.int .i64 ea]] W fun r w'=>r=.returned (.int .i64 t)∧Below W.heap.size W w')
   (R:Bool) (hR:R=(t==0)) :
   Calls Tryd.prog 80 #[.agg #[.bool gr,.slice ro lr cr,.int .i64 er],.agg #[.bool ga,.slice ao la ca,.int .i64 ea,.bool gb,.slice bo lb cb,.int .i64 eb,.bool false]] w fun r w' =>
     r=.returned (.bool R)∧Below w.heap.size w w':=by
 go_enter Tryd.func80,Tryd.ntmps80
 go_upto_region 3 with fail
 have X:Has3 ((w.alloc (.cells #[.bool gr,.slice ro lr cr,.int .i64 er] 76)).alloc (.cells #[.bool ga,.slice ao la ca,.int .i64 ea,.bool gb,.slice bo lb cb,.int .i64 eb,.bool false] 79)).drew w.heap.size (.bool gr) (.slice ro lr cr) (.int .i64 er):=⟨by go_simp,by go_simp,by go_simp,by go_simp,by go_simp,by go_simp,by go_size⟩
 have Y:Has7 ((w.alloc (.cells #[.bool gr,.slice ro lr cr,.int .i64 er] 76)).alloc (.cells #[.bool ga,.slice ao la ca,.int .i64 ea,.bool gb,.slice bo lb cb,.int .i64 eb,.bool false] 79)).drew (w.heap.size+1) (.bool ga) (.slice ao la ca) (.int .i64 ea) (.bool gb) (.slice bo lb cb) (.int .i64 eb) (.bool false):=⟨by go_simp,by go_simp,by go_simp,by go_simp,by go_simp,by go_simp,by go_simp,by go_size⟩
 have HB:Below w.heap.size w ((w.alloc (.cells #[.bool gr,.slice ro lr cr,.int .i64 er] 76)).alloc (.cells #[.bool ga,.slice ao la ca,.int .i64 ea,.bool gb,.slice bo lb cb,.int .i64 eb,.bool false] 79)).drew:=by go_grown
 go_region_held3 (fun w'=>w'.cell? ⟨w.heap.size,0,none⟩=some (.bool gr)∧w'.cell? ⟨w.heap.size,1,none⟩=some (.slice ro lr cr)∧w'.cell? ⟨w.heap.size,2,none⟩=some (.int .i64 er)∧w'.cell? ⟨w.heap.size+1,0,none⟩=some (.bool ga)∧w'.cell? ⟨w.heap.size+1,1,none⟩=some (.slice ao la ca)∧w'.cell? ⟨w.heap.size+1,2,none⟩=some (.int .i64 ea)∧w'.cell? ⟨w.heap.size+1,3,none⟩=some (.bool gb)∧w'.cell? ⟨w.heap.size+1,4,none⟩=some (.slice bo lb cb)∧w'.cell? ⟨w.heap.size+1,5,none⟩=some (.int .i64 eb)) (first | exact⟨X.1,X.2.1,X.2.2.1,Y.1,Y.2.1,Y.2.2.1,Y.2.2.2.1,Y.2.2.2.2.1,Y.2.2.2.2.2.1⟩ | go_keep)
   (first
     | (go_at_call 125;refine (cp _ HB).mono ?_;rintro _ w2 ⟨⟨v,rfl,hv⟩,hb1⟩;replace X:=X.keep hb1;replace Y:=Y.keep hb1;replace HB:=later HB hb1;clear hb1)
     | (go_at_call 124;refine (co _ _ HB hv).mono ?_;rintro _ w3 ⟨rfl,hb1⟩;replace X:=X.keep hb1;replace Y:=Y.keep hb1;replace HB:=later HB hb1;clear hb1))
 all_goals
   subst hR
   go_wp2_with fail
   go_ret
   exact⟨rfl,HB⟩
set_option maxHeartbeats 1000000 in
theorem below_r_core (gr ga gb:Bool) (ro ao bo:Option Addr) (lr la lb cr ca cb:Nat) (er ea eb t s:Int) (w:World) (P:World→Value→Prop)
   (cp:∀W,Below w.heap.size w W→Calls Tryd.prog 125 #[.agg #[.bool gr,.slice ro lr cr,.int .i64 er],.agg #[.bool gr,.slice ro lr cr,.int .i64 er]] W fun r w'=>(∃v,r=.returned v∧P w' v)∧Below W.heap.size W w')
   (co:∀W v,Below w.heap.size w W→P W v→Calls Tryd.prog 124 #[v,.agg #[.bool ga,.slice ao la ca,.int .i64 ea]] W fun r w'=>r=.returned (.int .i64 t)∧Below W.heap.size W w')
   (cs:∀W,Below w.heap.size w W→Calls Tryd.prog 123 #[.agg #[.bool gr,.slice ro lr cr,.int .i64 er]] W fun r w'=>r=.returned (.int .i64 s)∧Below W.heap.size W w')
   (R:Bool) (hR:s=-1∧R=true∨s=0∧R=true∨¬s≤0∧R=decide (t≤0)) :
   Calls Tryd.prog 85 #[.agg #[.bool gr,.slice ro lr cr,.int .i64 er],.agg #[.bool ga,.slice ao la ca,.int .i64 ea,.bool gb,.slice bo lb cb,.int .i64 eb,.bool true]] w fun r w' =>
     r=.returned (.bool R)∧Below w.heap.size w w':=by
 go_enter Tryd.func85,Tryd.ntmps85
 go_upto_region 2 with fail
 have X:Has3 ((w.alloc (.cells #[.bool gr,.slice ro lr cr,.int .i64 er] 76)).alloc (.cells #[.bool ga,.slice ao la ca,.int .i64 ea,.bool gb,.slice bo lb cb,.int .i64 eb,.bool true] 79)).drew w.heap.size (.bool gr) (.slice ro lr cr) (.int .i64 er):=⟨by go_simp,by go_simp,by go_simp,by go_simp,by go_simp,by go_simp,by go_size⟩
 have Y:Has7 ((w.alloc (.cells #[.bool gr,.slice ro lr cr,.int .i64 er] 76)).alloc (.cells #[.bool ga,.slice ao la ca,.int .i64 ea,.bool gb,.slice bo lb cb,.int .i64 eb,.bool true] 79)).drew (w.heap.size+1) (.bool ga) (.slice ao la ca) (.int .i64 ea) (.bool gb) (.slice bo lb cb) (.int .i64 eb) (.bool true):=⟨by go_simp,by go_simp,by go_simp,by go_simp,by go_simp,by go_simp,by go_simp,by go_size⟩
 have HB:Below w.heap.size w ((w.alloc (.cells #[.bool gr,.slice ro lr cr,.int .i64 er] 76)).alloc (.cells #[.bool ga,.slice ao la ca,.int .i64 ea,.bool gb,.slice bo lb cb,.int .i64 eb,.bool true] 79)).drew:=by go_grown
 rcases hR with ⟨rfl,rfl⟩ | ⟨rfl,rfl⟩ | ⟨hs,rfl⟩
 · have x0:=X.1
   have x1:=X.2.1
   have x2:=X.2.2.1
   first
     | go_region_with (go_at_call 123;refine (cs _ HB).mono ?_;rintro _ w4 ⟨rfl,hb1⟩;replace X:=X.keep hb1;replace Y:=Y.keep hb1;replace HB:=later HB hb1;clear hb1)
     | fail
   all_goals
     go_wp2_with fail
     go_ret
     exact⟨rfl,HB⟩
 · have x0:=X.1
   have x1:=X.2.1
   have x2:=X.2.2.1
   first
     | go_region_with (go_at_call 123;refine (cs _ HB).mono ?_;rintro _ w4 ⟨rfl,hb1⟩;replace X:=X.keep hb1;replace Y:=Y.keep hb1;replace HB:=later HB hb1;clear hb1)
     | fail
   all_goals
     go_wp2_with fail
     go_ret
     exact⟨rfl,HB⟩
 · have hd:decide (s≤0)=false:=by simp;omega
   go_region_held3 (fun w'=>w'.cell? ⟨w.heap.size,0,none⟩=some (.bool gr)∧w'.cell? ⟨w.heap.size,1,none⟩=some (.slice ro lr cr)∧w'.cell? ⟨w.heap.size,2,none⟩=some (.int .i64 er)∧w'.cell? ⟨w.heap.size+1,0,none⟩=some (.bool ga)∧w'.cell? ⟨w.heap.size+1,1,none⟩=some (.slice ao la ca)∧w'.cell? ⟨w.heap.size+1,2,none⟩=some (.int .i64 ea)∧w'.cell? ⟨w.heap.size+1,3,none⟩=some (.bool gb)∧w'.cell? ⟨w.heap.size+1,4,none⟩=some (.slice bo lb cb)∧w'.cell? ⟨w.heap.size+1,5,none⟩=some (.int .i64 eb)) (first | exact⟨X.1,X.2.1,X.2.2.1,Y.1,Y.2.1,Y.2.2.1,Y.2.2.2.1,Y.2.2.2.2.1,Y.2.2.2.2.2.1⟩ | go_keep)
     (first
       | (go_at_call 123;refine (cs _ HB).mono ?_;rintro _ w4 ⟨rfl,hb1⟩;replace X:=X.keep hb1;replace Y:=Y.keep hb1;replace HB:=later HB hb1;clear hb1)
       | (go_at_call 125;refine (cp _ HB).mono ?_;rintro _ w2 ⟨⟨v,rfl,hv⟩,hb1⟩;replace X:=X.keep hb1;replace Y:=Y.keep hb1;replace HB:=later HB hb1;clear hb1)
       | (go_at_call 124;refine (co _ _ HB hv).mono ?_;rintro _ w3 ⟨rfl,hb1⟩;replace X:=X.keep hb1;replace Y:=Y.keep hb1;replace HB:=later HB hb1;clear hb1))
   all_goals
     go_wp2_with fail
     go_ret
     exact⟨rfl,HB⟩
set_option maxHeartbeats 1000000 in
theorem same_r_core (gr ga gb:Bool) (ro ao bo:Option Addr) (lr la lb cr ca cb:Nat) (er ea eb t s:Int) (w:World) (P:World→Value→Prop)
   (cp:∀W,Below w.heap.size w W→Calls Tryd.prog 125 #[.agg #[.bool gr,.slice ro lr cr,.int .i64 er],.agg #[.bool gr,.slice ro lr cr,.int .i64 er]] W fun r w'=>(∃v,r=.returned v∧P w' v)∧Below W.heap.size W w')
   (co:∀W v,Below w.heap.size w W→P W v→Calls Tryd.prog 124 #[v,.agg #[.bool ga,.slice ao la ca,.int .i64 ea]] W fun r w'=>r=.returned (.int .i64 t)∧Below W.heap.size W w')
   (cs:∀W,Below w.heap.size w W→Calls Tryd.prog 123 #[.agg #[.bool gr,.slice ro lr cr,.int .i64 er]] W fun r w'=>r=.returned (.int .i64 s)∧Below W.heap.size W w')
   (R:Bool) (hR:s=-1∧R=false∨0≤s∧R=(t==0)) :
   Calls Tryd.prog 80 #[.agg #[.bool gr,.slice ro lr cr,.int .i64 er],.agg #[.bool ga,.slice ao la ca,.int .i64 ea,.bool gb,.slice bo lb cb,.int .i64 eb,.bool true]] w fun r w' =>
     r=.returned (.bool R)∧Below w.heap.size w w':=by
 go_enter Tryd.func80,Tryd.ntmps80
 go_upto_region 2 with fail
 have X:Has3 ((w.alloc (.cells #[.bool gr,.slice ro lr cr,.int .i64 er] 76)).alloc (.cells #[.bool ga,.slice ao la ca,.int .i64 ea,.bool gb,.slice bo lb cb,.int .i64 eb,.bool true] 79)).drew w.heap.size (.bool gr) (.slice ro lr cr) (.int .i64 er):=⟨by go_simp,by go_simp,by go_simp,by go_simp,by go_simp,by go_simp,by go_size⟩
 have Y:Has7 ((w.alloc (.cells #[.bool gr,.slice ro lr cr,.int .i64 er] 76)).alloc (.cells #[.bool ga,.slice ao la ca,.int .i64 ea,.bool gb,.slice bo lb cb,.int .i64 eb,.bool true] 79)).drew (w.heap.size+1) (.bool ga) (.slice ao la ca) (.int .i64 ea) (.bool gb) (.slice bo lb cb) (.int .i64 eb) (.bool true):=⟨by go_simp,by go_simp,by go_simp,by go_simp,by go_simp,by go_simp,by go_simp,by go_size⟩
 have HB:Below w.heap.size w ((w.alloc (.cells #[.bool gr,.slice ro lr cr,.int .i64 er] 76)).alloc (.cells #[.bool ga,.slice ao la ca,.int .i64 ea,.bool gb,.slice bo lb cb,.int .i64 eb,.bool true] 79)).drew:=by go_grown
 rcases hR with ⟨rfl,rfl⟩ | ⟨hs,rfl⟩
 · have x0:=X.1
   have x1:=X.2.1
   have x2:=X.2.2.1
   first
     | go_region_with (go_at_call 123;refine (cs _ HB).mono ?_;rintro _ w4 ⟨rfl,hb1⟩;replace X:=X.keep hb1;replace Y:=Y.keep hb1;replace HB:=later HB hb1;clear hb1)
     | fail
   all_goals
     go_wp2_with fail
     go_ret
     exact⟨rfl,HB⟩
 · have hd:decide (0≤s)=true:=by simp;omega
   go_region_held3 (fun w'=>w'.cell? ⟨w.heap.size,0,none⟩=some (.bool gr)∧w'.cell? ⟨w.heap.size,1,none⟩=some (.slice ro lr cr)∧w'.cell? ⟨w.heap.size,2,none⟩=some (.int .i64 er)∧w'.cell? ⟨w.heap.size+1,0,none⟩=some (.bool ga)∧w'.cell? ⟨w.heap.size+1,1,none⟩=some (.slice ao la ca)∧w'.cell? ⟨w.heap.size+1,2,none⟩=some (.int .i64 ea)∧w'.cell? ⟨w.heap.size+1,3,none⟩=some (.bool gb)∧w'.cell? ⟨w.heap.size+1,4,none⟩=some (.slice bo lb cb)∧w'.cell? ⟨w.heap.size+1,5,none⟩=some (.int .i64 eb)) (first | exact⟨X.1,X.2.1,X.2.2.1,Y.1,Y.2.1,Y.2.2.1,Y.2.2.2.1,Y.2.2.2.2.1,Y.2.2.2.2.2.1⟩ | go_keep)
     (first
       | (go_at_call 123;refine (cs _ HB).mono ?_;rintro _ w4 ⟨rfl,hb1⟩;replace X:=X.keep hb1;replace Y:=Y.keep hb1;replace HB:=later HB hb1;clear hb1)
       | (go_at_call 125;refine (cp _ HB).mono ?_;rintro _ w2 ⟨⟨v,rfl,hv⟩,hb1⟩;replace X:=X.keep hb1;replace Y:=Y.keep hb1;replace HB:=later HB hb1;clear hb1)
       | (go_at_call 124;refine (co _ _ HB hv).mono ?_;rintro _ w3 ⟨rfl,hb1⟩;replace X:=X.keep hb1;replace Y:=Y.keep hb1;replace HB:=later HB hb1;clear hb1))
   all_goals
     go_wp2_with fail
     go_ret
     exact⟨rfl,HB⟩
def exD (az bz:Int):Ex:=⟨fun h=>if bz<0 then az≤h*bz else h*bz≤az,fun h=>if bz<0 then h*bz≤az else az≤h*bz⟩
def exR (az:Int):Ex:=⟨fun h=>h≤0∨h*h≤az,fun h=>0≤h∧az≤h*h⟩
def XIs (w:World) (x:Value) (X:Ex):Prop :=
 ∃(ga:Bool) (ao:Option Addr) (la ca:Nat) (ea:Int) (gb:Bool) (bo:Option Addr) (lb cb:Nat) (eb:Int) (root:Bool),
   x=.agg #[.bool ga,.slice ao la ca,.int .i64 ea,.bool gb,.slice bo lb cb,.int .i64 eb,.bool root] ∧
   (root=false∧(∃Sb az bz, -5000≤Sb∧Sb≤0∧NumZ (Sb-1075) 6000 20000 w (.agg #[.bool ga,.slice ao la ca,.int .i64 ea]) az∧NumZ Sb 1024 3000 w (.agg #[.bool gb,.slice bo lb cb,.int .i64 eb]) bz∧X=exD az bz) ∨
    root=true∧∃az,0≤az∧NumZ (-2150) 6000 20000 w (.agg #[.bool ga,.slice ao la ca,.int .i64 ea]) az∧X=exR az)
theorem XIs.keep {w w':World} {x:Value} {X:Ex} (h:XIs w x X) (hb:Below w.heap.size w w'):XIs w' x X:=by
 obtain⟨ga,ao,la,ca,ea,gb,bo,lb,cb,eb,root,h1,⟨h2,Sb,az,bz,s1,s2,h3,h4,h5⟩ | ⟨h2,az,h3,h4,h5⟩⟩:=h
 · exact⟨ga,ao,la,ca,ea,gb,bo,lb,cb,eb,root,h1,Or.inl ⟨h2,Sb,az,bz,s1,s2,h3.keep hb,h4.keep hb,h5⟩⟩
 · exact⟨ga,ao,la,ca,ea,gb,bo,lb,cb,eb,root,h1,Or.inr ⟨h2,az,h3,h4.keep hb,h5⟩⟩
theorem cmpZ_ge (a b:Int):0≤cmpZ a b↔b≤a:=by unfold cmpZ;split <;> (try split) <;> omega
theorem cmpZ_le (a b:Int):cmpZ a b≤0↔a≤b:=by unfold cmpZ;split <;> (try split) <;> omega
theorem cmpZ_lt (a b:Int):cmpZ a b<0↔a<b:=by unfold cmpZ;split <;> (try split) <;> omega
theorem cmpZ_eq (a b:Int):cmpZ a b=0↔a=b:=by unfold cmpZ;split <;> (try split) <;> omega
theorem cmpZ_three (a b:Int):cmpZ a b=-1∨cmpZ a b=0∨cmpZ a b=1:=by unfold cmpZ;split <;> (try split) <;> omega
theorem below_x {w:World} {r x:Value} {h:Int} {X:Ex} (hr:NumZ (-1075) 1024 3000 w r h) (hx:XIs w x X) :
   Calls Tryd.prog 85 #[r,x] w fun e w'=>(∃b:Bool,e=.returned (.bool b)∧(b=true↔X.le h))∧Below w.heap.size w w':=by
 obtain⟨gr,ro,lr,cr,er,rfl⟩:=hr.shape
 obtain⟨ga,ao,la,ca,ea,gb,bo,lb,cb,eb,root,rfl,⟨rfl,Sb,az,bz,s1,s2,hA,hB,rfl⟩ | ⟨rfl,az,h0,hA,rfl⟩⟩:=hx
 · obtain⟨R,hR⟩:∃R:Bool,(cmpZ bz 0<0∧R=decide (0≤cmpZ (h*bz) az)∨¬cmpZ bz 0<0∧R=decide (cmpZ (h*bz) az≤0)):=by
     by_cases c:cmpZ bz 0<0
     · exact⟨_,Or.inl ⟨c,rfl⟩⟩
     · exact⟨_,Or.inr ⟨c,rfl⟩⟩
   refine (below_q_core gr ga gb ro ao bo lr la lb cr ca cb er ea eb (cmpZ (h*bz) az) (cmpZ bz 0) w (fun W v=>NumZ (Sb-1075) 6000 20000 W v (h*bz)) (fun W hW=>?_) (fun W v hW hv=>order_z (by omega) (by omega) (by omega) hv (hA.keep hW)) (fun W hW=>sign_z (hB.keep hW)) R hR).mono ?_
   · refine (prod_z (S:=-1075) (T:=1024) (S':=Sb) (T':=1024) (K:=3000) (by omega) (by omega) (by omega) (by omega) (hr.keep hW) (hB.keep hW)).mono ?_
     rintro _ w' ⟨⟨v,rfl,hv⟩,hb⟩
     rw [show (-1075:Int)+Sb=Sb-1075 by omega] at hv
     exact⟨⟨v,rfl,hv.wide (by omega) (by omega)⟩,hb⟩
   · rintro _ w' ⟨rfl,hb⟩
     refine⟨⟨R,rfl, ?_⟩,hb⟩
     show R=true↔(if bz<0 then az≤h*bz else h*bz≤az)
     rcases hR with ⟨c,rfl⟩ | ⟨c,rfl⟩
     · rw [cmpZ_lt] at c
       rw [if_pos c,decide_eq_true_iff,cmpZ_ge]
     · rw [cmpZ_lt] at c
       rw [if_neg c,decide_eq_true_iff,cmpZ_le]
 · obtain⟨R,hR⟩:∃R:Bool,(cmpZ h 0=-1∧R=true∨cmpZ h 0=0∧R=true∨¬cmpZ h 0≤0∧R=decide (cmpZ (h*h) az≤0)):=by
     rcases cmpZ_three h 0 with c | c | c
     · exact⟨_,Or.inl ⟨c,rfl⟩⟩
     · exact⟨_,Or.inr (Or.inl ⟨c,rfl⟩)⟩
     · exact⟨_,Or.inr (Or.inr ⟨by omega,rfl⟩)⟩
   refine (below_r_core gr ga gb ro ao bo lr la lb cr ca cb er ea eb (cmpZ (h*h) az) (cmpZ h 0) w (fun W v=>NumZ (-2150) 6000 20000 W v (h*h)) (fun W hW=>?_) (fun W v hW hv=>order_z (by omega) (by omega) (by omega) hv (hA.keep hW)) (fun W hW=>sign_z (hr.keep hW)) R hR).mono ?_
   · refine (prod_z (S:=-1075) (T:=1024) (S':=-1075) (T':=1024) (K:=3000) (by omega) (by omega) (by omega) (by omega) (hr.keep hW) (hr.keep hW)).mono ?_
     rintro _ w' ⟨⟨v,rfl,hv⟩,hb⟩
     rw [show (-1075:Int)+-1075=-2150 by omega] at hv
     exact⟨⟨v,rfl,hv.wide (by omega) (by omega)⟩,hb⟩
   · rintro _ w' ⟨rfl,hb⟩
     refine⟨⟨R,rfl, ?_⟩,hb⟩
     show R=true↔(h≤0∨h*h≤az)
     have c0:=cmpZ_le h 0
     have c1:=cmpZ_le (h*h) az
     rcases hR with ⟨c,rfl⟩ | ⟨c,rfl⟩ | ⟨c,rfl⟩
     · simp;left;omega
     · simp;left;omega
     · rw [decide_eq_true_iff,c1]
       constructor
       · exact Or.inr
       · rintro (q | q)
         · omega
         · exact q
theorem same_x {w:World} {r x:Value} {h:Int} {X:Ex} (hr:NumZ (-1075) 1024 3000 w r h) (hx:XIs w x X) :
   Calls Tryd.prog 80 #[r,x] w fun e w'=>(∃b:Bool,e=.returned (.bool b)∧(b=true↔X.le h∧X.ge h))∧Below w.heap.size w w':=by
 obtain⟨gr,ro,lr,cr,er,rfl⟩:=hr.shape
 obtain⟨ga,ao,la,ca,ea,gb,bo,lb,cb,eb,root,rfl,⟨rfl,Sb,az,bz,s1,s2,hA,hB,rfl⟩ | ⟨rfl,az,h0,hA,rfl⟩⟩:=hx
 · refine (same_q_core gr ga gb ro ao bo lr la lb cr ca cb er ea eb (cmpZ (h*bz) az) w (fun W v=>NumZ (Sb-1075) 6000 20000 W v (h*bz)) (fun W hW=>?_) (fun W v hW hv=>order_z (by omega) (by omega) (by omega) hv (hA.keep hW)) _ rfl).mono ?_
   · refine (prod_z (S:=-1075) (T:=1024) (S':=Sb) (T':=1024) (K:=3000) (by omega) (by omega) (by omega) (by omega) (hr.keep hW) (hB.keep hW)).mono ?_
     rintro _ w' ⟨⟨v,rfl,hv⟩,hb⟩
     rw [show (-1075:Int)+Sb=Sb-1075 by omega] at hv
     exact⟨⟨v,rfl,hv.wide (by omega) (by omega)⟩,hb⟩
   · rintro _ w' ⟨rfl,hb⟩
     refine⟨⟨_,rfl, ?_⟩,hb⟩
     show _↔(if bz<0 then az≤h*bz else h*bz≤az)∧(if bz<0 then h*bz≤az else az≤h*bz)
     rw [beq_iff_eq,cmpZ_eq]
     split <;> omega
 · obtain⟨R,hR⟩:∃R:Bool,(cmpZ h 0=-1∧R=false∨0≤cmpZ h 0∧R=(cmpZ (h*h) az==0)):=by
     rcases cmpZ_three h 0 with c | c | c
     · exact⟨_,Or.inl ⟨c,rfl⟩⟩
     · exact⟨_,Or.inr ⟨by omega,rfl⟩⟩
     · exact⟨_,Or.inr ⟨by omega,rfl⟩⟩
   refine (same_r_core gr ga gb ro ao bo lr la lb cr ca cb er ea eb (cmpZ (h*h) az) (cmpZ h 0) w (fun W v=>NumZ (-2150) 6000 20000 W v (h*h)) (fun W hW=>?_) (fun W v hW hv=>order_z (by omega) (by omega) (by omega) hv (hA.keep hW)) (fun W hW=>sign_z (hr.keep hW)) R hR).mono ?_
   · refine (prod_z (S:=-1075) (T:=1024) (S':=-1075) (T':=1024) (K:=3000) (by omega) (by omega) (by omega) (by omega) (hr.keep hW) (hr.keep hW)).mono ?_
     rintro _ w' ⟨⟨v,rfl,hv⟩,hb⟩
     rw [show (-1075:Int)+-1075=-2150 by omega] at hv
     exact⟨⟨v,rfl,hv.wide (by omega) (by omega)⟩,hb⟩
   · rintro _ w' ⟨rfl,hb⟩
     refine⟨⟨R,rfl, ?_⟩,hb⟩
     show R=true↔(h≤0∨h*h≤az)∧(0≤h∧az≤h*h)
     have c0:=cmpZ_ge h 0
     have c1:=cmpZ_eq (h*h) az
     rcases hR with ⟨c,rfl⟩ | ⟨c,rfl⟩
     · simp;omega
     · rw [beq_iff_eq,c1]
       constructor
       · intro e;omega
       · rintro ⟨q1 | q1,q2,q3⟩
         · have:h=0:=by omega
           subst this
           omega
         · omega
end Go.Proofs.YtgocelaghggpmaaDoor
namespace Go.Proofs.YtgocelaghggpmaaDoor
def IsRnd (x:Ex) (dir k:Int):Prop:=∃d,KDown x d ∧
 ((d≠-9218868437227405312∧x.le (2*V d)∧x.ge (2*V d))∧k=d ∨
  ¬(d≠-9218868437227405312∧x.le (2*V d)∧x.ge (2*V d))∧(dir<0→k=d)∧(0<dir→k=d+1) ∧
   (dir=0→(x.le (V d+V (d+1))∧x.ge (V d+V (d+1))∧k=(if d%2=0 then d else d+1) ∨
     ¬(x.le (V d+V (d+1))∧x.ge (V d+V (d+1)))∧(x.le (V d+V (d+1))∧k=d+1∨¬x.le (V d+V (d+1))∧k=d))))
theorem rnd_of {x:Ex} (ok:x.Ok) {g:Bool} (hg:if g then x.ge 0 else x.le 0) {dir:Int} {r:Nat} (h:IsR (x.amt g) (sideN dir g) r):IsRnd x dir (if g then -(r:Int) else r):=by
 obtain⟨d,hd,h0,h2,h1⟩:=h
 have dt:=hd.top
 cases g
 · simp only [Bool.false_eq_true,if_false] at *
   have lo:x.le ((2*val d:Nat):Int):=hd.low
   have up:d=9218868437227405311∨¬x.le ((2*val (d+1):Nat):Int):=hd.up
   have s1:dir<0→sideN dir false=0:=by
     intro t
     have u:¬0<dir:=by omega
     unfold sideN
     rw [if_neg (by omega)]
     simp [u]
   have s2:0<dir→sideN dir false=2:=fun t=>by unfold sideN;rw [if_neg (by omega)];simp [t]
   have s3:dir=0→sideN dir false=1:=fun t=>by unfold sideN;rw [if_pos t]
   have e2:((2*val d:Nat):Int)=2*V (d:Int):=by rw [V_nat];simp
   have e3:((d:Int)+1)=((d+1:Nat):Int):=by omega
   have em:((val d+val (d+1):Nat):Int)=V (d:Int)+V ((d:Int)+1):=by rw [e3,V_nat,V_nat];simp
   have eqd:(x.amt false).eq (2*val d)↔x.le (2*V (d:Int))∧x.ge (2*V (d:Int)):=by rw [←e2];exact Iff.rfl
   have eqm:(x.amt false).eq (val d+val (d+1))↔x.le (V (d:Int)+V ((d:Int)+1))∧x.ge (V (d:Int)+V ((d:Int)+1)):=by rw [←em];exact Iff.rfl
   have lem:(x.amt false).le (val d+val (d+1))↔x.le (V (d:Int)+V ((d:Int)+1)):=by rw [←em];exact Iff.rfl
   have kd:KDown x (d:Int):=⟨by omega,by omega,Or.inr (by rw [←e2];exact lo),by
     rcases up with u | u
     · left;omega
     · right
       rw [e3,V_nat]
       exact fun c=>u (ok.down (by omega) c)⟩
   refine⟨d,kd, ?_⟩
   have dn:(d:Int)≠-9218868437227405312:=by omega
   rw [eqd] at h1 h2
   rw [eqm,lem] at h1
   by_cases eqx:x.le (2*V (d:Int))∧x.ge (2*V (d:Int))
   · left
     refine⟨⟨dn,eqx⟩, ?_⟩
     rcases Int.lt_trichotomy dir 0 with t | t | t
     · rw [h0 (s1 t)]
     · rcases h1 (s3 t) with ⟨-,b⟩ | ⟨b, -⟩
       · rw [b]
       · exact absurd eqx b
     · rcases h2 (s2 t) with ⟨-,b⟩ | ⟨b, -⟩
       · rw [b]
       · exact absurd eqx b
   · right
     refine⟨fun c=>eqx c.2,fun t=>by rw [h0 (s1 t)],fun t=>?_,fun t=>?_⟩
     · rcases h2 (s2 t) with ⟨b, -⟩ | ⟨-,b⟩
       · exact absurd b eqx
       · omega
     · rcases h1 (s3 t) with ⟨b, -⟩ | ⟨-,⟨b,c⟩ | ⟨b,⟨c,e⟩ | ⟨c,e⟩⟩⟩
       · exact absurd b eqx
       · left
         refine⟨b.1,b.2, ?_⟩
         rw [c]
         by_cases p:d%2=0
         · rw [if_pos p,if_pos (by omega)]
         · rw [if_neg p,if_neg (by omega)];omega
       · right;exact⟨b,Or.inl ⟨c,by omega⟩⟩
       · right;exact⟨b,Or.inr ⟨c,by omega⟩⟩
 · simp only [if_true] at *
   have lo:x.ge (-((2*val d:Nat):Int)):=hd.low
   have up:d=9218868437227405311∨¬x.ge (-((2*val (d+1):Nat):Int)):=hd.up
   have s1:dir<0→sideN dir true=2:=by
     intro t
     have u:¬0<dir:=by omega
     unfold sideN
     rw [if_neg (by omega)]
     simp [u]
   have s2:0<dir→sideN dir true=0:=fun t=>by unfold sideN;rw [if_neg (by omega)];simp [t]
   have s3:dir=0→sideN dir true=1:=fun t=>by unfold sideN;rw [if_pos t]
   have e2:-((2*val d:Nat):Int)=2*V (-(d:Int)):=by rw [V_negnat];omega
   have eqd:(x.amt true).eq (2*val d)↔x.le (2*V (-(d:Int)))∧x.ge (2*V (-(d:Int))):=by rw [←e2];exact Iff.rfl
   rw [eqd] at h1 h2
   by_cases eqx:x.le (2*V (-(d:Int)))∧x.ge (2*V (-(d:Int)))
   · have kd:KDown x (-(d:Int)):=⟨by omega,by omega,Or.inr eqx.1,Or.inr fun c=>by
       have c1:=ok.sep eqx.2 c
       have c2:=V_mono (show -(d:Int) < -(d:Int)+1 by omega)
       omega⟩
     refine⟨-(d:Int),kd,Or.inl ⟨⟨by omega,eqx⟩, ?_⟩⟩
     rcases Int.lt_trichotomy dir 0 with t | t | t
     · rcases h2 (s1 t) with ⟨-,b⟩ | ⟨b, -⟩
       · rw [b]
       · exact absurd eqx b
     · rcases h1 (s3 t) with ⟨-,b⟩ | ⟨b, -⟩
       · rw [b]
       · exact absurd eqx b
     · rw [h0 (s2 t)]
   · have e3:-((d+1:Nat):Int)+1=-(d:Int):=by omega
     have em:-((val d+val (d+1):Nat):Int)=V (-((d+1:Nat):Int))+V (-((d+1:Nat):Int)+1):=by rw [e3,V_negnat,V_negnat];omega
     have eqm:(x.amt true).eq (val d+val (d+1))↔x.le (V (-((d+1:Nat):Int))+V (-((d+1:Nat):Int)+1))∧x.ge (V (-((d+1:Nat):Int))+V (-((d+1:Nat):Int)+1)):=by rw [←em];exact Iff.rfl
     have lem:(x.amt true).le (val d+val (d+1))↔x.ge (V (-((d+1:Nat):Int))+V (-((d+1:Nat):Int)+1)):=by rw [←em];exact Iff.rfl
     rw [eqm,lem] at h1
     have kd:KDown x (-((d+1:Nat):Int)):=⟨by omega,by omega,by
       rcases up with u | u
       · left;omega
       · right
         rcases ok.total (-((2*val (d+1):Nat):Int)) with c | c
         · rw [V_negnat];exact ok.down (by omega) c
         · exact absurd c u,Or.inr fun c=>by
           rw [e3] at c
           exact eqx ⟨c,by rw [←e2];exact lo⟩⟩
     refine⟨-((d+1:Nat):Int),kd,Or.inr ⟨fun c=>?_,fun t=>?_,fun t=>?_,fun t=>?_⟩⟩
     · rcases up with u | u
       · exact c.1 (by omega)
       · apply u
         have:=c.2.2
         rw [V_negnat] at this
         exact ok.up (by omega) this
     · rcases h2 (s1 t) with ⟨b, -⟩ | ⟨-,b⟩
       · exact absurd b eqx
       · rw [b]
     · rw [h0 (s2 t)];omega
     · rcases h1 (s3 t) with ⟨b, -⟩ | ⟨-,⟨b,c⟩ | ⟨b,⟨c,e⟩ | ⟨c,e⟩⟩⟩
       · exact absurd b eqx
       · left
         refine⟨b.1,b.2, ?_⟩
         rw [c]
         by_cases p:d%2=0
         · rw [if_pos p,if_neg (by omega)];omega
         · rw [if_neg p,if_pos (by omega)]
       · right
         exact⟨b,Or.inr ⟨fun l=>b ⟨l,c⟩,by rw [e]⟩⟩
       · right
         refine⟨b,Or.inl ⟨?_,by omega⟩⟩
         rcases ok.total (V (-((d+1:Nat):Int))+V (-((d+1:Nat):Int)+1)) with l | l
         · exact l
         · exact absurd l c
end Go.Proofs.YtgocelaghggpmaaDoor
namespace Go.Proofs.YtgocelaghggpmaaDoor
theorem round_is {x:Ex} (ok:x.Ok) {g:Bool} {M:Nat} {E:Int} (dir:Int) (hM:M<18446744073709551616) (hE:-4096≤E∧E≤4096) (hz:M=0→x.le 0∧x.ge 0) (hg:if g then x.ge 0 else x.le 0) (near:M≠0→Near M E (x.amt g)) :
   IsRnd x dir (key (roundN g M E dir)):=by
 unfold roundN
 by_cases h0:M=0
 · rw [if_pos h0]
   obtain⟨l,u⟩:=hz h0
   have hk:key 0=0:=rfl
   rw [hk]
   refine⟨0,⟨by omega,by omega,Or.inr ?_,Or.inr fun c=>?_⟩,Or.inl ⟨⟨by omega, ?_, ?_⟩,rfl⟩⟩
   · rw [V_zero];exact l
   · have:=ok.sep u c
     have h1:=V_pos (show (0:Int)<0+1 by omega)
     omega
   · rw [V_zero];exact l
   · rw [V_zero];exact u
 · rw [if_neg h0]
   have ec:clampN E=E:=by unfold clampN;omega
   rw [ec]
   have hs:sideN dir g=0∨sideN dir g=1∨sideN dir g=2:=by unfold sideN;split <;> (try split) <;> omega
   have hr:=rung_is (ok.cut hg) (near h0) h0 hM hs
   have hle:rungN (topN M) (E-shiftN M) (sideN dir g)≤9218868437227405312:=by
     obtain⟨d,hd,r0,r2,r1⟩:=hr
     have:=hd.top
     rcases hs with c | c | c
     · have:=r0 c;omega
     · rcases r1 c with ⟨-,e⟩ | ⟨-,⟨-,e⟩ | ⟨-,⟨-,e⟩ | ⟨-,e⟩⟩⟩
       · omega
       · rw [e];split <;> omega
       · omega
       · omega
     · rcases r2 c with ⟨-,e⟩ | ⟨-,e⟩ <;> omega
   rw [(signN_facts g _ hle).2.2.2]
   exact rnd_of ok hg hr
end Go.Proofs.YtgocelaghggpmaaDoor
namespace Go.Proofs.YtgocelaghggpmaaDoor
open Go.ChangeShapes Go.WideShapes Go.ChangeAt Go.RowKit
theorem tdiv2 (a:Int):a=2*a.tdiv 2+a.tmod 2∧(0≤a→0≤a.tmod 2∧a.tmod 2≤1)∧(a<0→-1≤a.tmod 2∧a.tmod 2≤0):=by
 refine⟨(Int.mul_tdiv_add_tmod a 2).symm,fun h=>?_,fun h=>?_⟩
 · have h1:=Int.tmod_nonneg 2 h
   have h2:=Int.tmod_lt_of_pos a (show (0:Int)<2 by omega)
   omega
 · have h1:=Int.tmod_nonneg 2 (show 0≤-a by omega)
   have h2:=Int.tmod_lt_of_pos (-a) (show (0:Int)<2 by omega)
   rw [Int.neg_tmod] at h1 h2
   omega
theorem mid_facts {lo hi:Int} (h:lo<hi):lo<lo.tdiv 2+hi.tdiv 2+(lo.tmod 2+hi.tmod 2+1).tdiv 2∧lo.tdiv 2+hi.tdiv 2+(lo.tmod 2+hi.tmod 2+1).tdiv 2≤hi∧-1≤(lo.tmod 2+hi.tmod 2+1).tdiv 2∧(lo.tmod 2+hi.tmod 2+1).tdiv 2≤1:=by
 obtain⟨a1,a2,a3⟩:=tdiv2 lo
 obtain⟨b1,b2,b3⟩:=tdiv2 hi
 obtain⟨c1,c2,c3⟩:=tdiv2 (lo.tmod 2+hi.tmod 2+1)
 generalize lo.tdiv 2=qa at *
 generalize hi.tdiv 2=qb at *
 generalize lo.tmod 2=ra at *
 generalize hi.tmod 2=rb at *
 generalize (ra+rb+1).tdiv 2=u at *
 generalize (ra+rb+1).tmod 2=v at *
 omega
theorem NumZ.halves {w:World} {x:Value} {z:Int} (h:NumZ (-1074) 971 53 w x z):NumZ (-1075) 1024 3000 w x (2*z):=by
 have:=(h.scale (S':=-1075) (t:=1) (by omega)).wide (T':=1024) (K':=3000) (by omega) (by omega)
 rw [show 2*z=z*((2^1:Nat):Int) by simp;omega]
 exact this
theorem ofKey_facts {M:Int} (h:-9218868437227405311≤M∧M≤9218868437227405311):ofKey M<18446744073709551616∧finB (ofKey M)=true∧key (ofKey M)=M:=by
 unfold ofKey finB key
 by_cases c:M<0
 · rw [if_pos c]
   refine⟨by omega,by simp;omega, ?_⟩
   rw [if_neg (by omega)]
   omega
 · rw [if_neg c]
   refine⟨by omega,by simp;omega, ?_⟩
   rw [if_pos (by omega)]
   omega
set_option maxHeartbeats 1000000 in
theorem down_w (x:Value) (X:Ex) (w:World) (hx:XIs w x X) :
   Calls Tryd.prog 79 #[x] w fun e w'=>(∃k,e=.returned (.int .i64 k)∧KDown X k)∧Below w.heap.size w w':=by
 have hx':=hx
 obtain⟨ga,ao,la,ca',ea,gb,bo,lb,cb,eb,root,rfl, -⟩:=hx'
 go_enter Tryd.func79,Tryd.ntmps79
 go_wp2
 go_loopg [3,4,5] 18446744073709551616 (fun G s3 s4 _ wx=>Below w.heap.size w wx∧Has7 wx w.heap.size (.bool ga) (.slice ao la ca') (.int .i64 ea) (.bool gb) (.slice bo lb cb) (.int .i64 eb) (.bool root) ∧
   ∃lo hi:Int,s3=.int .i64 lo∧s4=.int .i64 hi∧-9218868437227405312≤lo∧hi≤9218868437227405311∧lo≤hi∧hi-lo<G∧Hid (lo=-9218868437227405312∨X.le (2*V lo))∧Hid (hi=9218868437227405311∨¬X.le (2*V (hi+1))))
 case atStart=>exact⟨by go_grown,⟨by go_simp,by go_simp,by go_simp,by go_simp,by go_simp,by go_simp,by go_simp,by go_size⟩, -9218868437227405312,9218868437227405311,rfl,rfl,by omega,by omega,by omega,by omega,Or.inl rfl,Or.inl rfl⟩
 case round =>
   obtain⟨HB,Y,lo,hi,rfl,rfl,b1,b2,b3,bG,low,up⟩:=hrel
   by_cases hlh:lo<hi
   · obtain⟨m1,m2,m3,m4⟩:=mid_facts hlh
     obtain⟨t1,t2,t3⟩:=tdiv2 lo
     obtain⟨t4,t5,t6⟩:=tdiv2 hi
     obtain⟨qa,e1⟩:∃q,lo.tdiv 2=q:=⟨_,rfl⟩
     obtain⟨qb,e2⟩:∃q,hi.tdiv 2=q:=⟨_,rfl⟩
     obtain⟨ra,e3⟩:∃q,lo.tmod 2=q:=⟨_,rfl⟩
     obtain⟨rb,e4⟩:∃q,hi.tmod 2=q:=⟨_,rfl⟩
     rw [e1,e2,e3,e4] at m1 m2
     rw [e3,e4] at m3 m4
     rw [e1,e3] at t1
     rw [e3] at t2 t3
     rw [e2,e4] at t4
     rw [e4] at t5 t6
     obtain⟨u,e5⟩:∃q,(ra+rb+1).tdiv 2=q:=⟨_,rfl⟩
     rw [e5] at m1 m2 m3 m4
     obtain⟨M,hM⟩:∃q,qa+qb+u=q:=⟨_,rfl⟩
     rw [hM] at m1 m2
     have r1:-1≤ra∧ra≤1:=by omega
     have r2:-1≤rb∧rb≤1:=by omega
     have q1:-4609434218613702656≤qa∧qa≤4609434218613702656:=by omega
     have q2:-4609434218613702656≤qb∧qb≤4609434218613702656:=by omega
     have HM:¬M≤lo:=by omega
     have hMb:-9218868437227405311≤M∧M≤9218868437227405311:=by omega
     have HG:Hid (hi-lo<(gk:Int)):=bG
     clear t1 t2 t3 t4 t5 t6 bG
     go_upto_region 7 with fail
     obtain⟨k1,k2,k3⟩:=ofKey_facts hMb
     have ca:=fun w=>at_w M (by omega) (by omega) w
     have cf:=fun w=>float_z (ofKey M) k1 k2 w
     rw [k3] at cf
     generalize ofKey M=F at *
     replace Y:=Y.drew
     replace HB:=HB.drew
     go_region_held3 (fun w'=>w'.cell? ⟨w.heap.size,0,none⟩=some (.bool ga)∧w'.cell? ⟨w.heap.size,1,none⟩=some (.slice ao la ca')∧w'.cell? ⟨w.heap.size,2,none⟩=some (.int .i64 ea)∧w'.cell? ⟨w.heap.size,3,none⟩=some (.bool gb)∧w'.cell? ⟨w.heap.size,4,none⟩=some (.slice bo lb cb)∧w'.cell? ⟨w.heap.size,5,none⟩=some (.int .i64 eb)∧w'.cell? ⟨w.heap.size,6,none⟩=some (.bool root)) (first | exact⟨Y.1,Y.2.1,Y.2.2.1,Y.2.2.2.1,Y.2.2.2.2.1,Y.2.2.2.2.2.1,Y.2.2.2.2.2.2.1⟩ | go_keep)
       (first
         | (go_at_call 82;refine (ca _).mono ?_;rintro _ _ ⟨rfl,rfl⟩)
         | (go_at_call 81;refine (cf _).mono ?_;rintro _ w2 ⟨⟨v,rfl,hv⟩,hb1⟩;replace Y:=Y.keep hb1;replace HB:=later HB hb1;clear hb1)
         | (go_at_call 85;refine (below_x hv.halves (hx.keep HB)).mono ?_;rintro _ w3 ⟨⟨b,rfl,hbt⟩,hb1⟩;replace Y:=Y.keep hb1;replace HB:=later HB hb1;clear hb1))
     all_goals
       have HT:Hid _:=hbt
       clear hbt
       have hG:=HG.out
       cases b
       · go_wp2_with fail
         go_roundg (gk-1)
         case measure=>omega
         case rel=>exact⟨HB,Y,lo,M-1,rfl,by go_num,b1,by omega,by omega,by omega,low,Or.inr (by rw [Int.sub_add_cancel];have:=HT.out;simpa using this)⟩
       · go_wp2_with fail
         go_roundg (gk-1)
         case measure=>omega
         case rel=>exact⟨HB,Y,M,hi,rfl,rfl,by omega,b2,m2,by omega,Or.inr (by have:=HT.out;simpa using this),up⟩
   · have:lo=hi:=by omega
     subst this
     have hk:KDown X lo:=⟨b1,b2,low.out,up.out⟩
     go_wp2_with fail
     go_ret
     exact⟨⟨_,rfl,hk⟩,HB⟩
theorem NumZ.put {S T:Int} {K:Nat} {w:World} {x:Value} {z:Int} (h:NumZ S T K w x z) {b:Nat} (hb:Boxed w b) (o:Nat) (y:Value):NumZ S T K (w.setCell ⟨b,o,none⟩ y) x z:=by
 obtain⟨g,v,m,e,h1,h2,h3⟩:=h
 exact⟨g,v,m,e,h1,h2.put hb o y,h3⟩
theorem val_top {u:Nat} (hu:u=2046):val 9218868437227405312=2^(52+u):=by
 unfold val
 rw [if_neg (by omega),show 9218868437227405312/4503599627370496-1=2046 from rfl,←hu,show 4503599627370496+9218868437227405312%4503599627370496=2^52 from rfl,←Nat.pow_add]
theorem V_top {t:Nat} (ht:t=2098):V 9218868437227405312=((2^t:Nat):Int):=by
 obtain⟨u,hu⟩:∃u:Nat,u=2046:=⟨_,rfl⟩
 have h:=V_nat 9218868437227405312
 rw [show ((9218868437227405312:Nat):Int)=9218868437227405312 from rfl,val_top hu] at h
 rw [h,show t=52+u by omega]
theorem V_bot {t:Nat} (ht:t=2098):V (-9218868437227405312)=-((2^t:Nat):Int):=by
 rw [V_neg,V_top ht]
set_option maxHeartbeats 1000000 in
theorem grid_z (i:Int) (h:-9218868437227405312≤i∧i≤9218868437227405312) (w:World) :
   Calls Tryd.prog 84 #[.int .i64 i] w fun r w'=>(∃v,r=.returned v∧NumZ (-1074) 1024 53 w' v (V i))∧Below w.heap.size w w':=by
 have co:=fun w=>of_w 1 (by omega) w
 by_cases h1:9218868437227405311<i
 · have:i=9218868437227405312:=by omega
   subst this
   obtain⟨t,ht⟩:∃t:Nat,t=2098:=⟨_,rfl⟩
   have hV:=V_top ht
   generalize V 9218868437227405312=Z at *
   have HV:Hid _:=hV
   have HT:Hid (t=2098):=ht
   clear hV h1 ht
   go_enter Tryd.func84,Tryd.ntmps84
   go_wp2_with
    (go_at_call 26;refine (co _).mono ?_;rintro _ w6 ⟨⟨v3,rfl,hv3⟩,hb6⟩
     obtain⟨o3,l3,p3,rfl, -⟩:=hv3.shape
     have R:Has3 w6 w.heap.size (.bool false) (.slice none 0 0) (.int .i64 0):=Has3.keep ⟨by go_simp,by go_simp,by go_simp,by go_simp,by go_simp,by go_simp,by go_size⟩ hb6
     have B:=(Boxed.new w #[.bool false,.slice none 0 0,.int .i64 0]).keep hb6
     have HB:Below w.heap.size w w6:=later (by go_grown) hb6
     obtain⟨z0,z1,z2,z3,z4,z5,z6⟩:=R)
   refine bodyPost_ret (v:=.agg #[.bool false,.slice o3 l3 p3,.int .i64 1024]) (by simp [results,Tryd.results84,go_sem, *]) rfl ⟨⟨_,rfl,false,_,1,1024,rfl, ?_,by omega,by omega,by omega, ?_⟩, ?_⟩
   rotate_left
   · rw [HV.out,Nat.one_mul,show (1024 - -1074:Int).toNat=t by rw [HT.out];rfl];rfl
   all_goals repeat' (first | (with_reducible exact hv3) | (with_reducible exact HB) | (with_reducible exact B) | (with_reducible refine BigIs.put ?_ ?_ _ _) | (with_reducible refine Boxed.set ?_ _ _ _) | (with_reducible refine Below.setCell ?_ ?_ _) | go_size)
 · by_cases h2:i < -9218868437227405311
   · have:i=-9218868437227405312:=by omega
     subst this
     obtain⟨t,ht⟩:∃t:Nat,t=2098:=⟨_,rfl⟩
     have hV:=V_bot ht
     generalize V (-9218868437227405312)=Z at *
     have HV:Hid _:=hV
     have HT:Hid (t=2098):=ht
     clear hV h1 h2 ht
     go_enter Tryd.func84,Tryd.ntmps84
     go_wp2_with
      (go_at_call 26;refine (co _).mono ?_;rintro _ w6 ⟨⟨v3,rfl,hv3⟩,hb6⟩
       obtain⟨o3,l3,p3,rfl, -⟩:=hv3.shape
       have R:Has3 w6 w.heap.size (.bool false) (.slice none 0 0) (.int .i64 0):=Has3.keep ⟨by go_simp,by go_simp,by go_simp,by go_simp,by go_simp,by go_simp,by go_size⟩ hb6
       have B:=(Boxed.new w #[.bool false,.slice none 0 0,.int .i64 0]).keep hb6
       have HB:Below w.heap.size w w6:=later (by go_grown) hb6
       obtain⟨z0,z1,z2,z3,z4,z5,z6⟩:=R)
     refine bodyPost_ret (v:=.agg #[.bool true,.slice o3 l3 p3,.int .i64 1024]) (by simp [results,Tryd.results84,go_sem, *]) rfl ⟨⟨_,rfl,true,_,1,1024,rfl, ?_,by omega,by omega,by omega, ?_⟩, ?_⟩
     rotate_left
     · rw [HV.out,Nat.one_mul,show (1024 - -1074:Int).toNat=t by rw [HT.out];rfl];rfl
     all_goals repeat' (first | (with_reducible exact hv3) | (with_reducible exact HB) | (with_reducible exact B) | (with_reducible refine BigIs.put ?_ ?_ _ _) | (with_reducible refine Boxed.set ?_ _ _ _) | (with_reducible refine Below.setCell ?_ ?_ _) | go_size)
   · obtain⟨k1,k2,k3⟩:=ofKey_facts (M:=i) (by omega)
     have ca:=fun w=>at_w i (by omega) (by omega) w
     have cf:=fun w=>float_z (ofKey i) k1 k2 w
     rw [k3] at cf
     generalize ofKey i=F at *
     go_enter Tryd.func84,Tryd.ntmps84
     go_wp2_with (first
       | (go_at_call 82;refine (ca _).mono ?_;rintro _ _ ⟨rfl,rfl⟩)
       | (go_at_call 81;refine (cf _).mono ?_;rintro _ w6 ⟨⟨v3,rfl,hv3⟩,hb6⟩
          obtain⟨g3,o3,l3,p3,e3,rfl⟩:=hv3.shape
          have R:Has3 w6 w.heap.size (.bool false) (.slice none 0 0) (.int .i64 0):=Has3.keep ⟨by go_simp,by go_simp,by go_simp,by go_simp,by go_simp,by go_simp,by go_size⟩ hb6
          have B:=(Boxed.new w #[.bool false,.slice none 0 0,.int .i64 0]).keep hb6
          have HB:Below w.heap.size w w6:=later (by go_grown) hb6
          obtain⟨z0,z1,z2,z3,z4,z5,z6⟩:=R))
     refine bodyPost_ret (v:=.agg #[.bool g3,.slice o3 l3 p3,.int .i64 e3]) (by simp [results,Tryd.results84,go_sem, *]) rfl ⟨⟨_,rfl, ?_⟩, ?_⟩
     · refine NumZ.wide ?_ (by omega) (Nat.le_refl 53) (T:=971)
       repeat' (first | (with_reducible exact hv3) | (with_reducible exact B) | (with_reducible refine NumZ.put ?_ ?_ _ _) | (with_reducible refine Boxed.set ?_ _ _ _))
     · repeat' (first | (with_reducible exact HB) | (with_reducible refine Below.setCell ?_ ?_ _) | go_size)
theorem NumZ.half {w:World} {x:Value} {z:Int} {K:Nat} (h:NumZ (-1074) 1024 K w x z) {K':Nat} (hK:K≤K'):∃g ao l ca e,x=.agg #[.bool g,.slice ao l ca,.int .i64 e]∧-1074≤e∧e≤1024∧NumZ (-1075) 1024 K' w (.agg #[.bool g,.slice ao l ca,.int .i64 (e-1)]) z:=by
 obtain⟨g,v,m,e,h1,h2,h3,h4,h5,h6⟩:=h
 obtain⟨ao,l,ca,rfl, -⟩:=h2.shape
 refine⟨g,ao,l,ca,e,h1,h4,h5,g,_,m,e-1,rfl,h2,Nat.lt_of_lt_of_le h3 (Nat.pow_le_pow_right (by omega) hK),by omega,by omega, ?_⟩
 rw [←h6,show e-1 - -1075=e - -1074 by omega]
set_option maxHeartbeats 2000000 in
theorem rounded_core (ga:Bool) (ao:Option Addr) (la ca:Nat) (ea:Int) (gb:Bool) (bo:Option Addr) (lb cb:Nat) (eb:Int) (root:Bool) (dir d:Int) (F0 F1:Nat) (b1 b2 b3:Bool) (w:World) (hd:-9218868437227405312≤d∧d≤9218868437227405311)
   (P G0 G1 H:World→Value→Prop) (kg:∀W W' v,G0 W v→Below W.heap.size W W'→G0 W' v) (kh:∀W W' v,H W v→Below W.heap.size W W'→H W' v)
   (cd:∀W,Below w.heap.size w W→Calls Tryd.prog 79 #[.agg #[.bool ga,.slice ao la ca,.int .i64 ea,.bool gb,.slice bo lb cb,.int .i64 eb,.bool root]] W fun r w'=>r=.returned (.int .i64 d)∧Below W.heap.size W w')
   (c0:∀W,Calls Tryd.prog 82 #[.int .i64 d] W fun r w'=>r=.returned (.float .f64 F0)∧W=w')
   (c1:∀W,Calls Tryd.prog 82 #[.int .i64 (d+1)] W fun r w'=>r=.returned (.float .f64 F1)∧W=w')
   (cf:d≠-9218868437227405312→∀W,Below w.heap.size w W→Calls Tryd.prog 81 #[.float .f64 F0] W fun r w'=>(∃v,r=.returned v∧P w' v)∧Below W.heap.size W w')
   (cs:d≠-9218868437227405312→∀W v,Below w.heap.size w W→P W v→Calls Tryd.prog 80 #[v,.agg #[.bool ga,.slice ao la ca,.int .i64 ea,.bool gb,.slice bo lb cb,.int .i64 eb,.bool root]] W fun r w'=>r=.returned (.bool b1)∧Below W.heap.size W w')
   (cg0:∀W,Below w.heap.size w W→Calls Tryd.prog 84 #[.int .i64 d] W fun r w'=>(∃v,r=.returned v∧G0 w' v)∧Below W.heap.size W w')
   (cg1:∀W,Below w.heap.size w W→Calls Tryd.prog 84 #[.int .i64 (d+1)] W fun r w'=>(∃v,r=.returned v∧G1 w' v)∧Below W.heap.size W w')
   (cq:∀W v0 v1,Below w.heap.size w W→G0 W v0→G1 W v1→Calls Tryd.prog 83 #[v0,v1] W fun r w'=>(∃g o l c e,r=.returned (.agg #[.bool g,.slice o l c,.int .i64 e])∧-1074≤e∧e≤1024∧H w' (.agg #[.bool g,.slice o l c,.int .i64 (e-1)]))∧Below W.heap.size W w')
   (cs2:∀W v,Below w.heap.size w W→H W v→Calls Tryd.prog 80 #[v,.agg #[.bool ga,.slice ao la ca,.int .i64 ea,.bool gb,.slice bo lb cb,.int .i64 eb,.bool root]] W fun r w'=>r=.returned (.bool b2)∧Below W.heap.size W w')
   (cb3:∀W v,Below w.heap.size w W→H W v→Calls Tryd.prog 85 #[v,.agg #[.bool ga,.slice ao la ca,.int .i64 ea,.bool gb,.slice bo lb cb,.int .i64 eb,.bool root]] W fun r w'=>r=.returned (.bool b3)∧Below W.heap.size W w')
   (hb1:d=-9218868437227405312→b1=false) (R:Nat)
   (hR1:b1=true→R=F0) (hR2:b1=false→dir<0→R=F0) (hR3:b1=false→0<dir→R=F1) (hR4:b1=false→dir=0→b2=true→R=if d.tmod 2=0 then F0 else F1)
   (hR5:b1=false→dir=0→b2=false→b3=true→R=F1) (hR6:b1=false→dir=0→b2=false→b3=false→R=F0) :
   Calls Tryd.prog 43 #[.agg #[.bool ga,.slice ao la ca,.int .i64 ea,.bool gb,.slice bo lb cb,.int .i64 eb,.bool root],.int .i64 dir] w fun r w'=>r=.returned (.float .f64 R)∧Below w.heap.size w w':=by
 go_enter Tryd.func43,Tryd.ntmps43
 go_upto_region 2 with
  (go_at_call 79;refine (cd _ (by go_grown)).mono ?_;rintro _ w1 ⟨rfl,hb⟩
   have Y:Has7 w1 w.heap.size (.bool ga) (.slice ao la ca) (.int .i64 ea) (.bool gb) (.slice bo lb cb) (.int .i64 eb) (.bool root):=Has7.keep ⟨by go_simp,by go_simp,by go_simp,by go_simp,by go_simp,by go_simp,by go_simp,by go_size⟩ hb
   have HB:Below w.heap.size w w1:=later (by go_grown) hb)
 clear hb cd
 go_cut [22] from 10 to 21 (fun s22 wx=>s22=.bool (b1 || decide (dir<0))∧Below w.heap.size w wx∧Has7 wx w.heap.size (.bool ga) (.slice ao la ca) (.int .i64 ea) (.bool gb) (.slice bo lb cb) (.int .i64 eb) (.bool root))
 case first =>
   by_cases hd0:d=-9218868437227405312
   · have:=hb1 hd0
     subst this
     subst hd0
     clear hb1 cf cs hR1 hR2 hR3 hR4 hR5 hR6
     go_quiet (fail)
     go_wp2_with fail
     go_meet
     case rel=>exact⟨by simp,Go.below_drewN HB _,Y.keep (Go.below_drewN (Below.refl _ _) _)⟩
   · have hd1:decide (-9218868437227405311≤d)=true:=by simp;omega
     replace cf:=cf hd0
     replace cs:=cs hd0
     replace Y:=Y.drew
     replace HB:=HB.drew
     clear hb1 hd0 hR1 hR2 hR3 hR4 hR5 hR6
     cases b1
     · go_region_held3 (fun w'=>w'.cell? ⟨w.heap.size,0,none⟩=some (.bool ga)∧w'.cell? ⟨w.heap.size,1,none⟩=some (.slice ao la ca)∧w'.cell? ⟨w.heap.size,2,none⟩=some (.int .i64 ea)∧w'.cell? ⟨w.heap.size,3,none⟩=some (.bool gb)∧w'.cell? ⟨w.heap.size,4,none⟩=some (.slice bo lb cb)∧w'.cell? ⟨w.heap.size,5,none⟩=some (.int .i64 eb)∧w'.cell? ⟨w.heap.size,6,none⟩=some (.bool root)) (first | exact⟨Y.1,Y.2.1,Y.2.2.1,Y.2.2.2.1,Y.2.2.2.2.1,Y.2.2.2.2.2.1,Y.2.2.2.2.2.2.1⟩ | go_keep)
         (first
           | (go_at_call 82;refine (c0 _).mono ?_;rintro _ _ ⟨rfl,rfl⟩)
           | (go_at_call 81;refine (cf _ HB).mono ?_;rintro _ w2 ⟨⟨v,rfl,hv⟩,hb1⟩;replace Y:=Y.keep hb1;replace HB:=later HB hb1;clear hb1)
           | (go_at_call 80;refine (cs _ _ HB hv).mono ?_;rintro _ w3 ⟨rfl,hb1⟩;replace Y:=Y.keep hb1;replace HB:=later HB hb1;clear hb1))
       all_goals
         go_wp2_with fail
         go_meet
         case rel=>exact⟨by simp,HB,Y⟩
     · obtain⟨y0,y1,y2,y3,y4,y5,y6, -⟩:=id Y
       first
         | go_region_with (first
             | (go_at_call 82;refine (c0 _).mono ?_;rintro _ _ ⟨rfl,rfl⟩)
             | (go_at_call 81;refine (cf _ HB).mono ?_;rintro _ w2 ⟨⟨v,rfl,hv⟩,hb1⟩;replace Y:=Y.keep hb1;replace HB:=later HB hb1;clear hb1;obtain⟨x0,x1,x2,x3,x4,x5,x6, -⟩:=id Y)
             | (go_at_call 80;refine (cs _ _ HB hv).mono ?_;rintro _ w3 ⟨rfl,hb1⟩;replace Y:=Y.keep hb1;replace HB:=later HB hb1;clear hb1))
         | fail
       all_goals
         go_wp2_with fail
         go_meet
         case rel=>exact⟨by simp,HB,Y⟩
 case rest =>
   clear Y HB cf cs hb1
   obtain⟨rfl,HB,Y⟩:=hcut
   by_cases hc:(b1 || decide (dir<0))=true
   · have hR:R=F0:=by
       cases b1
       · exact hR2 rfl (by simpa using hc)
       · exact hR1 rfl
     subst hR
     rw [hc]
     clear hR1 hR2 hR3 hR4 hR5 hR6
     go_wp2_with (go_at_call 82;refine (c0 _).mono ?_;rintro _ _ ⟨rfl,rfl⟩)
     go_ret
     exact⟨rfl,HB⟩
   · have hc':(b1 || decide (dir<0))=false:=by simpa using hc
     have h1:b1=false:=by cases b1 <;> simp_all
     have h2:¬dir<0:=by intro q;subst h1;simp at hc;omega
     rw [hc']
     clear hc hc' hR1 hR2
     by_cases h3:0<dir
     · have hR:=hR3 h1 h3
       subst hR
       clear hR3 hR4 hR5 hR6
       go_wp2_with (go_at_call 82;refine (c1 _).mono ?_;rintro _ _ ⟨rfl,rfl⟩)
       go_ret
       exact⟨rfl,HB⟩
     · have h0:dir=0:=by omega
       subst h0
       replace hR4:=hR4 h1 rfl
       replace hR5:=hR5 h1 rfl
       replace hR6:=hR6 h1 rfl
       clear hR3 h1 h2 h3
       go_upto_region 8 with (first
         | (go_at_call_of 84 (Value.int .i64 d);refine (cg0 _ HB).mono ?_;rintro _ w2 ⟨⟨v0,rfl,hv0⟩,hb⟩;replace Y:=Y.keep hb;replace HB:=later HB hb;clear hb)
         | (go_at_call 84;refine (cg1 _ HB).mono ?_;rintro _ w3 ⟨⟨v1,rfl,hv1⟩,hb⟩;replace Y:=Y.keep hb;replace HB:=later HB hb;replace hv0:=kg _ _ _ hv0 hb;clear hb)
         | (go_at_call 83;refine (cq _ _ _ HB hv0 hv1).mono ?_;rintro _ w4 ⟨⟨g2,o2,l2,p2,e2,rfl,q1,q2,hh⟩,hb⟩;replace Y:=Y.keep hb;replace HB:=later HB hb;clear hb))
       clear hv0 hv1 cg0 cg1 cq kg
       have hz:Below w4.heap.size w4 ((w4.alloc (.cells #[.bool g2,.slice o2 l2 p2,.int .i64 e2] 76)).alloc (.cells #[.bool g2,.slice o2 l2 p2,.int .i64 (e2-1)] 76)):=by go_grown
       have Z:Has3 ((w4.alloc (.cells #[.bool g2,.slice o2 l2 p2,.int .i64 e2] 76)).alloc (.cells #[.bool g2,.slice o2 l2 p2,.int .i64 (e2-1)] 76)) (w4.heap.size+1) (.bool g2) (.slice o2 l2 p2) (.int .i64 (e2-1)):=⟨by go_simp,by go_simp,by go_simp,by go_simp,by go_simp,by go_simp,by go_size⟩
       replace Y:=Y.keep hz
       replace HB:=later HB hz
       replace hh:=kh _ _ _ hh hz
       clear hz
       generalize ((w4.alloc (.cells #[.bool g2,.slice o2 l2 p2,.int .i64 e2] 76)).alloc (.cells #[.bool g2,.slice o2 l2 p2,.int .i64 (e2-1)] 76))=V5 at *
       generalize w4.heap.size+1=q at *
       obtain⟨z0,z1,z2, -, -, -,zl⟩:=Z
       obtain⟨y0,y1,y2,y3,y4,y5,y6,yl⟩:=id Y
       have hb2:b2=true∨b2=false:=by cases b2 <;> simp
       rcases hb2 with h2 | h2
       · subst h2
         replace hR4:=hR4 rfl
         clear hR5 hR6 cb3 kh
         by_cases hp:d.tmod 2=0
         · rw [if_pos hp] at hR4
           subst hR4
           have hp':(d.tmod 2==0)=true:=by rw [hp];rfl
           go_wp2_with (first
             | (go_at_call 80;refine (cs2 _ _ HB hh).mono ?_;rintro _ w6 ⟨rfl,hb⟩;replace HB:=later HB hb;clear hb)
             | (go_at_call 82;refine (c0 _).mono ?_;rintro _ _ ⟨rfl,rfl⟩))
           go_ret
           exact⟨rfl,HB⟩
         · rw [if_neg hp] at hR4
           subst hR4
           have hp':(d.tmod 2==0)=false:=by rw [beq_eq_false_iff_ne];exact hp
           go_wp2_with (first
             | (go_at_call 80;refine (cs2 _ _ HB hh).mono ?_;rintro _ w6 ⟨rfl,hb⟩;replace HB:=later HB hb;clear hb)
             | (go_at_call 82;refine (c1 _).mono ?_;rintro _ _ ⟨rfl,rfl⟩))
           go_ret
           exact⟨rfl,HB⟩
       · subst h2
         clear hR4
         have hb3:b3=true∨b3=false:=by cases b3 <;> simp
         rcases hb3 with h3 | h3
         · subst h3
           replace hR5:=hR5 rfl rfl
           subst hR5
           clear hR6
           go_wp2_with (first
             | (go_at_call 80;refine (cs2 _ _ HB hh).mono ?_;rintro _ w6 ⟨rfl,hb⟩;replace HB:=later HB hb;replace hh:=kh _ _ _ hh hb;replace Y:=Y.keep hb;obtain⟨x0,x1,x2,x3,x4,x5,x6, -⟩:=Y;have u0:=keepsC hb z0 zl;have u1:=keepsC hb z1 zl;have u2:=keepsC hb z2 zl;clear hb)
             | (go_at_call 85;refine (cb3 _ _ HB hh).mono ?_;rintro _ w7 ⟨rfl,hb⟩;replace HB:=later HB hb;clear hb)
             | (go_at_call 82;refine (c1 _).mono ?_;rintro _ _ ⟨rfl,rfl⟩))
           go_ret
           exact⟨rfl,HB⟩
         · subst h3
           replace hR6:=hR6 rfl rfl
           subst hR6
           clear hR5
           go_wp2_with (first
             | (go_at_call 80;refine (cs2 _ _ HB hh).mono ?_;rintro _ w6 ⟨rfl,hb⟩;replace HB:=later HB hb;replace hh:=kh _ _ _ hh hb;replace Y:=Y.keep hb;obtain⟨x0,x1,x2,x3,x4,x5,x6, -⟩:=Y;have u0:=keepsC hb z0 zl;have u1:=keepsC hb z1 zl;have u2:=keepsC hb z2 zl;clear hb)
             | (go_at_call 85;refine (cb3 _ _ HB hh).mono ?_;rintro _ w7 ⟨rfl,hb⟩;replace HB:=later HB hb;clear hb)
             | (go_at_call 82;refine (c0 _).mono ?_;rintro _ _ ⟨rfl,rfl⟩))
           go_ret
           exact⟨rfl,HB⟩
theorem kdown_unique {X:Ex} (ok:X.Ok) {d e:Int} (h1:KDown X d) (h2:KDown X e):d=e :=
 Int.le_antisymm (kdown_mono ok (fun _ c=>c) h1 h2) (kdown_mono ok (fun _ c=>c) h2 h1)
theorem tmod_zero (d:Int):d.tmod 2=0↔d%2=0:=by
 obtain⟨h1,h2,h3⟩:=tdiv2 d
 generalize d.tdiv 2=q at *
 generalize d.tmod 2=r at *
 omega
theorem rounded_x {X:Ex} (ok:X.Ok) {dir k:Int} (hk:IsRnd X dir k) {x:Value} {w:World} (hx:XIs w x X) :
   Calls Tryd.prog 43 #[x,.int .i64 dir] w fun r w'=>r=.returned (.float .f64 (ofKey k))∧Below w.heap.size w w':=by
 obtain⟨d,hd,hcase⟩:=hk
 have hx':=hx
 obtain⟨ga,ao,la,ca,ea,gb,bo,lb,cb,eb,root,rfl, -⟩:=hx'
 have bt:=hd.bot
 have tp:=hd.top
 have:∃b1 b2 b3:Bool,(b1=true↔d≠-9218868437227405312∧X.le (2*V d)∧X.ge (2*V d))∧(b2=true↔X.le (V d+V (d+1))∧X.ge (V d+V (d+1)))∧(b3=true↔X.le (V d+V (d+1))):=by
   classical
   exact⟨decide _,decide _,decide _,decide_eq_true_iff,decide_eq_true_iff,decide_eq_true_iff⟩
 obtain⟨b1,b2,b3,e1,e2,e3⟩:=this
 have same_of:∀{b c:Bool} {p:Prop},(b=true↔p)→(c=true↔p)→b=c:=fun h1 h2=>by
   rename_i b c p
   cases b <;> cases c <;> simp_all
 refine rounded_core ga ao la ca ea gb bo lb cb eb root dir d (ofKey d) (ofKey (d+1)) b1 b2 b3 w ⟨bt,tp⟩
   (fun W v=>NumZ (-1075) 1024 3000 W v (2*V d)) (fun W v=>NumZ (-1074) 1024 53 W v (V d)) (fun W v=>NumZ (-1074) 1024 53 W v (V (d+1))) (fun W v=>NumZ (-1075) 1024 3000 W v (V d+V (d+1)))
   (fun W W' v h hb=>h.keep hb) (fun W W' v h hb=>h.keep hb) ?_ (fun W=>at_w d (by omega) (by omega) W) (fun W=>at_w (d+1) (by omega) (by omega) W) ?_ ?_ (fun W _=>grid_z d (by omega) W) (fun W _=>grid_z (d+1) (by omega) W) ?_ ?_ ?_ ?_ (ofKey k) ?_ ?_ ?_ ?_ ?_ ?_
 · intro W hW
   refine (down_w _ X W (hx.keep hW)).mono ?_
   rintro _ w' ⟨⟨j,rfl,hj⟩,hb⟩
   rw [kdown_unique ok hj hd]
   exact⟨rfl,hb⟩
 · intro hd0 W hW
   obtain⟨k1,k2,k3⟩:=ofKey_facts (M:=d) (by omega)
   refine (float_z (ofKey d) k1 k2 W).mono ?_
   rintro _ w' ⟨⟨v,rfl,hv⟩,hb⟩
   rw [k3] at hv
   exact⟨⟨v,rfl,hv.halves⟩,hb⟩
 · intro hd0 W v hW hv
   refine (same_x hv (hx.keep hW)).mono ?_
   rintro _ w' ⟨⟨b,rfl,hbt⟩,hb⟩
   have:b=b1:=same_of hbt (e1.trans ⟨fun h=>h.2,fun h=>⟨hd0,h⟩⟩)
   rw [this]
   exact⟨rfl,hb⟩
 · intro W v0 v1 hW h0 h1
   obtain⟨L,hL⟩:∃L:Nat,L=2152:=⟨_,rfl⟩
   refine (sum_z (S:=-1074) (T:=1024) (K:=53) (L:=L) (by omega) (by omega) (by omega) (by omega) h0 h1).mono ?_
   rintro _ w' ⟨⟨v,rfl,hv⟩,hb⟩
   obtain⟨g,o,l,c,e,rfl,q1,q2,hh⟩:=hv.half (K':=3000) (by omega)
   exact⟨⟨g,o,l,c,e,rfl,q1,q2,hh⟩,hb⟩
 · intro W v hW hv
   refine (same_x hv (hx.keep hW)).mono ?_
   rintro _ w' ⟨⟨b,rfl,hbt⟩,hb⟩
   rw [same_of hbt e2]
   exact⟨rfl,hb⟩
 · intro W v hW hv
   refine (below_x hv (hx.keep hW)).mono ?_
   rintro _ w' ⟨⟨b,rfl,hbt⟩,hb⟩
   rw [same_of hbt e3]
   exact⟨rfl,hb⟩
 · intro h0
   cases b1
   · rfl
   · exact absurd h0 (e1.1 rfl).1
 all_goals
   clear same_of
   rcases hcase with ⟨a,rfl⟩ | ⟨a,c1,c2,c3⟩
 · intro _;rfl
 · intro h;exact absurd (e1.1 h) a
 · intro h;rw [e1.2 a] at h;cases h
 · intro _ h;rw [c1 h]
 · intro h;rw [e1.2 a] at h;cases h
 · intro _ h;rw [c2 h]
 · intro h;rw [e1.2 a] at h;cases h
 · intro _ h hb
   rcases c3 h with ⟨p1,p2,p3⟩ | ⟨p1, -⟩
   · rw [p3]
     by_cases hp:d%2=0
     · rw [if_pos hp,if_pos ((tmod_zero d).2 hp)]
     · rw [if_neg hp,if_neg (fun q=>hp ((tmod_zero d).1 q))]
   · exact absurd (e2.1 hb) p1
 · intro h;rw [e1.2 a] at h;cases h
 · intro _ h hb hb3
   rcases c3 h with ⟨p1,p2, -⟩ | ⟨p1,⟨p2,p3⟩ | ⟨p2,p3⟩⟩
   · rw [e2.2 ⟨p1,p2⟩] at hb;cases hb
   · rw [p3]
   · exact absurd (e3.1 hb3) p2
 · intro h;rw [e1.2 a] at h;cases h
 · intro _ h hb hb3
   rcases c3 h with ⟨p1,p2, -⟩ | ⟨p1,⟨p2,p3⟩ | ⟨p2,p3⟩⟩
   · rw [e2.2 ⟨p1,p2⟩] at hb;cases hb
   · rw [e3.2 p2] at hb3;cases hb3
   · rw [p3]
def Hx7 (w:World) (b:Nat) (x0 x1 x2 x3 x4 x5 x6:Value):Prop:=(w.cell? ⟨b,0,none⟩=some x0∧w.cell? ⟨b,1,none⟩=some x1∧w.cell? ⟨b,2,none⟩=some x2∧w.cell? ⟨b,3,none⟩=some x3∧w.cell? ⟨b,4,none⟩=some x4∧w.cell? ⟨b,5,none⟩=some x5∧w.cell? ⟨b,6,none⟩=some x6) ∧
 (w.frozen? ⟨b,0,none⟩=false∧w.frozen? ⟨b,1,none⟩=false∧w.frozen? ⟨b,2,none⟩=false∧w.frozen? ⟨b,3,none⟩=false∧w.frozen? ⟨b,4,none⟩=false∧w.frozen? ⟨b,5,none⟩=false∧w.frozen? ⟨b,6,none⟩=false)∧b<w.heap.size
theorem Hx7.keep {w W:World} {b:Nat} {x0 x1 x2 x3 x4 x5 x6:Value} (h:Hx7 w b x0 x1 x2 x3 x4 x5 x6) (k:Below w.heap.size w W):Hx7 W b x0 x1 x2 x3 x4 x5 x6:=by
 obtain⟨⟨h0,h1,h2,h3,h4,h5,h6⟩,⟨f0,f1,f2,f3,f4,f5,f6⟩,hl⟩:=h
 exact⟨⟨keepsC k h0 hl,keepsC k h1 hl,keepsC k h2 hl,keepsC k h3 hl,keepsC k h4 hl,keepsC k h5 hl,keepsC k h6 hl⟩,⟨keepsF k f0 hl,keepsF k f1 hl,keepsF k f2 hl,keepsF k f3 hl,keepsF k f4 hl,keepsF k f5 hl,keepsF k f6 hl⟩,Nat.lt_of_lt_of_le hl k.size⟩
theorem hx7_new (w:World) (x0 x1 x2 x3 x4 x5 x6:Value) (T:TypeId):Hx7 (w.alloc (.cells #[x0,x1,x2,x3,x4,x5,x6] T)) w.heap.size x0 x1 x2 x3 x4 x5 x6 :=
 ⟨⟨by go_simp,by go_simp,by go_simp,by go_simp,by go_simp,by go_simp,by go_simp⟩,⟨by go_simp,by go_simp,by go_simp,by go_simp,by go_simp,by go_simp,by go_simp⟩,by go_size⟩
theorem hx7_put {w:World} {b:Nat} {x0 x1 x2 x3 x4 x5 x6:Value} (h:Hx7 w b x0 x1 x2 x3 x4 x5 x6) (y0 y1 y2 y3 y4 y5 y6:Value):Hx7 (((((((w.setCell ⟨b,0,none⟩ y0).setCell ⟨b,1,none⟩ y1).setCell ⟨b,2,none⟩ y2).setCell ⟨b,3,none⟩ y3).setCell ⟨b,4,none⟩ y4).setCell ⟨b,5,none⟩ y5).setCell ⟨b,6,none⟩ y6) b y0 y1 y2 y3 y4 y5 y6:=by
 obtain⟨⟨h0,h1,h2,h3,h4,h5,h6⟩,⟨f0,f1,f2,f3,f4,f5,f6⟩,hl⟩:=h
 refine⟨⟨by go_simp,by go_simp,by go_simp,by go_simp,by go_simp,by go_simp,by go_simp⟩,⟨by go_simp,by go_simp,by go_simp,by go_simp,by go_simp,by go_simp,by go_simp⟩, ?_⟩
 simp only [World.size_setCell];exact hl
theorem has2_far7 {w:World} {b c:Nat} {x y:Value} (h:Has2 w c x y) (hne:c≠b) (y0 y1 y2 y3 y4 y5 y6:Value):Has2 (((((((w.setCell ⟨b,0,none⟩ y0).setCell ⟨b,1,none⟩ y1).setCell ⟨b,2,none⟩ y2).setCell ⟨b,3,none⟩ y3).setCell ⟨b,4,none⟩ y4).setCell ⟨b,5,none⟩ y5).setCell ⟨b,6,none⟩ y6) c x y:=((((((h.off1 hne _).off1 hne _).off1 hne _).off1 hne _).off1 hne _).off1 hne _).off1 hne _
theorem boxedE (w:World) (cur:Array Value):Boxed (w.alloc (.cells cur 79)) w.heap.size:=⟨cur,79,(0,0),by decide,heap_alloc_new w _⟩
theorem big_put7 {w:World} {b n:Nat} {v:Value} (h:BigIs w v n) (k:Boxed w b) (y0 y1 y2 y3 y4 y5 y6:Value):BigIs (((((((w.setCell ⟨b,0,none⟩ y0).setCell ⟨b,1,none⟩ y1).setCell ⟨b,2,none⟩ y2).setCell ⟨b,3,none⟩ y3).setCell ⟨b,4,none⟩ y4).setCell ⟨b,5,none⟩ y5).setCell ⟨b,6,none⟩ y6) v n :=
 ((((((h.put k 0 _).put (k.set b 0 _) 1 _).put ((k.set b 0 _).set b 1 _) 2 _).put (((k.set b 0 _).set b 1 _).set b 2 _) 3 _).put ((((k.set b 0 _).set b 1 _).set b 2 _).set b 3 _) 4 _).put (((((k.set b 0 _).set b 1 _).set b 2 _).set b 3 _).set b 4 _) 5 _).put ((((((k.set b 0 _).set b 1 _).set b 2 _).set b 3 _).set b 4 _).set b 5 _) 6 _
theorem below_put7 {w0 w:World} {b:Nat} (h:Below w0.heap.size w0 w) (hb:w0.heap.size≤b) (y0 y1 y2 y3 y4 y5 y6:Value):Below w0.heap.size w0 (((((((w.setCell ⟨b,0,none⟩ y0).setCell ⟨b,1,none⟩ y1).setCell ⟨b,2,none⟩ y2).setCell ⟨b,3,none⟩ y3).setCell ⟨b,4,none⟩ y4).setCell ⟨b,5,none⟩ y5).setCell ⟨b,6,none⟩ y6) :=
 ((((((h.setCell hb _).setCell hb _).setCell hb _).setCell hb _).setCell hb _).setCell hb _).setCell hb _
set_option maxHeartbeats 2000000 in
theorem rhold_bad (N D:Int)
   (r1:∀W,Calls Tryd.prog 33 #[.agg #[.int .i64 N,.int .i64 D]] W fun r w'=>r=.returned (.bool false)∧Below W.heap.size W w') (w:World) :
   Calls Tryd.prog 14 #[.agg #[.int .i64 N,.int .i64 D]] w fun r w'=>r=.returned (.agg #[.float .f64 (infI 1),.float .f64 (infI (-1))])∧Below w.heap.size w w':=by
 have HB:Below w.heap.size w ((w.alloc (.cells #[.int .i64 N,.int .i64 D] 23)).alloc (.cells #[.float .f64 0,.float .f64 0] 32)):=by go_grown
 have X:Has2 ((w.alloc (.cells #[.int .i64 N,.int .i64 D] 23)).alloc (.cells #[.float .f64 0,.float .f64 0] 32)) w.heap.size (.int .i64 N) (.int .i64 D):=⟨by go_simp,by go_simp,by go_simp,by go_simp,by go_size⟩
 have Z:Has2 ((w.alloc (.cells #[.int .i64 N,.int .i64 D] 23)).alloc (.cells #[.float .f64 0,.float .f64 0] 32)) (w.heap.size+1) (.float .f64 0) (.float .f64 0):=⟨by go_simp,by go_simp,by go_simp,by go_simp,by go_size⟩
 have ce:=fun W=>rempty_w W
 go_enter Tryd.func14,Tryd.ntmps14
 go_upto_region 1 with fail
 generalize ((w.alloc (.cells #[.int .i64 N,.int .i64 D] 23)).alloc (.cells #[.float .f64 0,.float .f64 0] 32))=V1 at *
 obtain⟨px0,px1,px2,px3,px4⟩:=id X;obtain⟨pz0,pz1,pz2,pz3,pz4⟩:=id Z
 go_wp2_with (first | (go_at_call 33;(with_reducible refine (r1 _).mono ?_);rintro _ W1 ⟨rfl,hb1⟩;replace X:=X.keep hb1;replace Z:=Z.keep hb1;replace HB:=later HB hb1;clear hb1;obtain⟨qx0,qx1,qx2,qx3,qx4⟩:=id X;obtain⟨qz0,qz1,qz2,qz3,qz4⟩:=id Z) | (go_at_call 40;(with_reducible refine (ce _).mono ?_);rintro _ W2 ⟨rfl,hb1⟩;replace X:=X.keep hb1;replace Z:=Z.keep hb1;replace HB:=later HB hb1;clear hb1;obtain⟨rx0,rx1,rx2,rx3,rx4⟩:=id X;obtain⟨rz0,rz1,rz2,rz3,rz4⟩:=id Z))
 refine bodyPost_ret (v:=.agg #[.float .f64 (infI 1),.float .f64 (infI (-1))]) (by simp [results,Tryd.results14,go_sem, *]) rfl ⟨rfl, ?_⟩;repeat' (first | (with_reducible exact HB) | (with_reducible refine Below.setCell ?_ ?_ _) | go_size)
set_option maxHeartbeats 8000000 in
theorem rhold_core (N D:Int) (r1 r2 lo hi:Nat) (g1 g2:Bool) (n d:Nat)
   (c1:∀W,Calls Tryd.prog 33 #[.agg #[.int .i64 N,.int .i64 D]] W fun r w'=>r=.returned (.bool true)∧Below W.heap.size W w')
   (c2:∀W,Calls Tryd.prog 41 #[.int .i64 N] W fun r w'=>(∃o k u,r=.returned (.agg #[.bool g1,.slice o k u,.int .i64 0])∧BigIs w' (.slice o k u) n)∧Below W.heap.size W w')
   (c3:∀W,Calls Tryd.prog 41 #[.int .i64 D] W fun r w'=>(∃o k u,r=.returned (.agg #[.bool g2,.slice o k u,.int .i64 0])∧BigIs w' (.slice o k u) d)∧Below W.heap.size W w')
   (c4:∀(W:World) o k u o' k' u',BigIs W (.slice o k u) n→BigIs W (.slice o' k' u') d→Calls Tryd.prog 43 #[.agg #[.bool g1,.slice o k u,.int .i64 0,.bool g2,.slice o' k' u',.int .i64 0,.bool false],.int .i64 (-1)] W fun r w'=>r=.returned (.float .f64 r1)∧Below W.heap.size W w')
   (c5:∀(W:World) o k u o' k' u',BigIs W (.slice o k u) n→BigIs W (.slice o' k' u') d→Calls Tryd.prog 43 #[.agg #[.bool g1,.slice o k u,.int .i64 0,.bool g2,.slice o' k' u',.int .i64 0,.bool false],.int .i64 1] W fun r w'=>r=.returned (.float .f64 r2)∧Below W.heap.size W w')
   (c6:∀W,Calls Tryd.prog 42 #[.float .f64 r1,.float .f64 r2] W fun r w'=>r=.returned (.agg #[.float .f64 lo,.float .f64 hi])∧Below W.heap.size W w') (w:World) :
   Calls Tryd.prog 14 #[.agg #[.int .i64 N,.int .i64 D]] w fun r w'=>r=.returned (.agg #[.float .f64 lo,.float .f64 hi])∧Below w.heap.size w w':=by
 have HB:Below w.heap.size w ((w.alloc (.cells #[.int .i64 N,.int .i64 D] 23)).alloc (.cells #[.float .f64 0,.float .f64 0] 32)):=by go_grown
 have X:Has2 ((w.alloc (.cells #[.int .i64 N,.int .i64 D] 23)).alloc (.cells #[.float .f64 0,.float .f64 0] 32)) w.heap.size (.int .i64 N) (.int .i64 D):=⟨by go_simp,by go_simp,by go_simp,by go_simp,by go_size⟩
 have Z:Has2 ((w.alloc (.cells #[.int .i64 N,.int .i64 D] 23)).alloc (.cells #[.float .f64 0,.float .f64 0] 32)) (w.heap.size+1) (.float .f64 0) (.float .f64 0):=⟨by go_simp,by go_simp,by go_simp,by go_simp,by go_size⟩
 go_enter Tryd.func14,Tryd.ntmps14
 go_upto_region 1 with fail
 generalize ((w.alloc (.cells #[.int .i64 N,.int .i64 D] 23)).alloc (.cells #[.float .f64 0,.float .f64 0] 32))=V0 at *
 obtain⟨px0,px1,px2,px3,px4⟩:=id X;obtain⟨pz0,pz1,pz2,pz3,pz4⟩:=id Z
 go_upto_region 3 with (go_at_call 33;(with_reducible refine (c1 _).mono ?_);rintro _ V1 ⟨rfl,hb1⟩;replace X:=X.keep hb1;replace Z:=Z.keep hb1;replace HB:=later HB hb1;clear hb1;obtain⟨qx0,qx1,qx2,qx3,qx4⟩:=id X;obtain⟨qz0,qz1,qz2,qz3,qz4⟩:=id Z)
 clear px0 px1 px2 px3 px4 pz0 pz1 pz2 pz3 pz4
 clear qx0 qx1 qx2 qx3 qx4 qz0 qz1 qz2 qz3 qz4
 have X0:w.heap.size<V1.heap.size:=X.lt
 have Z0:w.heap.size+1<V1.heap.size:=Z.lt
 have HD:Below V1.heap.size V1 V1.drew:=(Below.refl _ _).drew
 replace X:=X.keep HD
 replace Z:=Z.keep HD
 replace HB:=later HB HD
 clear HD
 have hbA:Below V1.drew.heap.size V1.drew (V1.alloc (.cells #[.bool false,.slice none 0 0,.int .i64 0,.bool false,.slice none 0 0,.int .i64 0,.bool false] 79)).drew:=grewW V1.drew (.cells #[.bool false,.slice none 0 0,.int .i64 0,.bool false,.slice none 0 0,.int .i64 0,.bool false] 79)
 have XA:=X.keep hbA
 have ZA:=Z.keep hbA
 have HA:=later HB hbA
 have EA:Hx7 (V1.alloc (.cells #[.bool false,.slice none 0 0,.int .i64 0,.bool false,.slice none 0 0,.int .i64 0,.bool false] 79)).drew V1.heap.size (.bool false) (.slice none 0 0) (.int .i64 0) (.bool false) (.slice none 0 0) (.int .i64 0) (.bool false):=hx7_new V1.drew (.bool false) (.slice none 0 0) (.int .i64 0) (.bool false) (.slice none 0 0) (.int .i64 0) (.bool false) 79
 have nq0:V1.heap.size≠w.heap.size:=Nat.ne_of_gt X0
 have KA:Boxed (V1.alloc (.cells #[.bool false,.slice none 0 0,.int .i64 0,.bool false,.slice none 0 0,.int .i64 0,.bool false] 79)).drew V1.heap.size:=(boxedE V1 #[.bool false,.slice none 0 0,.int .i64 0,.bool false,.slice none 0 0,.int .i64 0,.bool false]).keep ((Below.refl _ _).drew)
 go_region_held3 (fun w'=>w'.cell? ⟨w.heap.size,0,none⟩=some (.int .i64 N)∧w'.cell? ⟨w.heap.size,1,none⟩=some (.int .i64 D)) (first | with_reducible exact⟨X.c0,X.c1⟩ | with_reducible exact⟨XA.c0,XA.c1⟩ | with_reducible exact⟨(X.keep (below_alloc (Below.refl _ _) _)).c0,(X.keep (below_alloc (Below.refl _ _) _)).c1⟩ | go_keep) (first
   | (go_at_call_of 41 (Value.int .i64 N);(with_reducible refine (c2 V1.drew).mono ?_);rintro _ W1 ⟨⟨o1,k1,u1,rfl,B1⟩,hb1⟩;replace X:=X.keep hb1;replace Z:=Z.keep hb1;replace HB:=later HB hb1;have nqw:W1.heap.size≠w.heap.size:=Nat.ne_of_gt X.lt;have zw:w.heap.size+1<W1.heap.size:=Z.lt;clear hb1)
   | (go_at_call_of 41 (Value.int .i64 N);(with_reducible refine (c2 _).mono ?_);rintro _ W1 ⟨⟨o1,k1,u1,rfl,B1⟩,hb1⟩;replace X:=XA.keep hb1;replace Z:=ZA.keep hb1;replace HB:=later HA hb1;have E:=EA.keep hb1;have K:=KA.keep hb1;clear hb1)
   | (go_at_call_of 41 (Value.int .i64 D);(with_reducible refine (c3 W1).mono ?_);rintro _ W2 ⟨⟨o2,k2,u2,rfl,B2⟩,hb1⟩;replace B1:=B1.keep hb1;(try (replace E:=E.keep hb1;replace K:=K.keep hb1;obtain⟨⟨e0,e1,e2,e3,e4,e5,e6⟩,⟨f0,f1,f2,f3,f4,f5,f6⟩,el⟩:=id E));replace X:=X.keep hb1;replace Z:=Z.keep hb1;replace HB:=later HB hb1;have nq2:W2.heap.size≠w.heap.size:=Nat.ne_of_gt X.lt;clear hb1)
   | (go_at_call_of 41 (Value.int .i64 D);(with_reducible refine (c3 _).mono ?_);rintro _ W2 ⟨⟨o2,k2,u2,rfl,B2⟩,hb1⟩;have hb2:=later (grewW W1 (.cells #[.bool false,.slice none 0 0,.int .i64 0,.bool false,.slice none 0 0,.int .i64 0,.bool false] 79)) hb1;have E:=(hx7_new W1 (.bool false) (.slice none 0 0) (.int .i64 0) (.bool false) (.slice none 0 0) (.int .i64 0) (.bool false) 79).keep hb1;have K:=(boxedE W1 #[.bool false,.slice none 0 0,.int .i64 0,.bool false,.slice none 0 0,.int .i64 0,.bool false]).keep hb1;replace B1:=B1.keep hb2;replace X:=X.keep hb2;replace Z:=Z.keep hb2;replace HB:=later HB hb2;obtain⟨⟨e0,e1,e2,e3,e4,e5,e6⟩,⟨f0,f1,f2,f3,f4,f5,f6⟩,el⟩:=id E;have nq1:W1.heap.size≠w.heap.size:=nqw;clear hb1 hb2))
 · skip
   have E:=hx7_new W2 (.bool g1) (.slice o1 k1 u1) (.int .i64 0) (.bool g2) (.slice o2 k2 u2) (.int .i64 0) (.bool false) 79
   replace B1:=B1.alloc (.cells #[.bool g1,.slice o1 k1 u1,.int .i64 0,.bool g2,.slice o2 k2 u2,.int .i64 0,.bool false] 79)
   replace B2:=B2.alloc (.cells #[.bool g1,.slice o1 k1 u1,.int .i64 0,.bool g2,.slice o2 k2 u2,.int .i64 0,.bool false] 79)
   replace Z:=Z.keep (grewW W2 (.cells #[.bool g1,.slice o1 k1 u1,.int .i64 0,.bool g2,.slice o2 k2 u2,.int .i64 0,.bool false] 79))
   replace HB:=later HB (grewW W2 (.cells #[.bool g1,.slice o1 k1 u1,.int .i64 0,.bool g2,.slice o2 k2 u2,.int .i64 0,.bool false] 79))
   clear X
   generalize W2.alloc (.cells #[.bool g1,.slice o1 k1 u1,.int .i64 0,.bool g2,.slice o2 k2 u2,.int .i64 0,.bool false] 79)=V2 at *
   generalize W2.heap.size=bE at *
   go_upto_region 4 with fail
   have k0:=fun n:Behind V2=>n.cell E.1.1 E.2.2
   have k1:=fun n:Behind V2=>n.cell E.1.2.1 E.2.2
   have k2':=fun n:Behind V2=>n.cell E.1.2.2.1 E.2.2
   have k3:=fun n:Behind V2=>n.cell E.1.2.2.2.1 E.2.2
   have k4:=fun n:Behind V2=>n.cell E.1.2.2.2.2.1 E.2.2
   have k5:=fun n:Behind V2=>n.cell E.1.2.2.2.2.2.1 E.2.2
   have k6:=fun n:Behind V2=>n.cell E.1.2.2.2.2.2.2 E.2.2
   have d4:=fun n:Behind V2=>c4 n.W _ _ _ _ _ _ (B1.keep n.bel) (B2.keep n.bel)
   have d5:=fun n:Behind V2=>c5 n.W _ _ _ _ _ _ (B1.keep n.bel) (B2.keep n.bel)
   clear c4 c5
   refine tail_behind 5 (by kernel_rfl) (by kernel_rfl) ?_
   simp only [List.take_succ_cons,List.take_zero,List.drop_succ_cons,List.drop_zero]
   repeat (go_big_quiet_step (first | (go_at_call 43;with_reducible refine Behind.call (d4 _)) | (go_at_call 43;with_reducible refine Behind.call (d5 _)) | (go_at_call 42;with_reducible refine Behind.call (c6 _))))
   refine wpQuiet_nil ?_
   rintro _ ⟨m',rfl⟩
   obtain⟨V4,hb1⟩:=m'
   dsimp only
   clear k0 k1 k2' k3 k4 k5 k6 d4 d5
   replace Z:=Z.keep hb1
   replace HB:=later HB hb1
   clear hb1
   obtain⟨z0,z1,z2,z3,z4⟩:=id Z
   go_wp2_with fail
   refine bodyPost_ret (v:=.agg #[.float .f64 lo,.float .f64 hi]) (by simp [results,Tryd.results14,go_sem, *]) rfl ⟨rfl, ?_⟩;repeat' (first | (with_reducible exact HB) | (with_reducible refine Below.setCell ?_ ?_ _) | go_size)
 · skip
   replace E:=hx7_put E (.bool g1) (.slice o1 k1 u1) (.int .i64 0) (.bool g2) (.slice o2 k2 u2) (.int .i64 0) (.bool false)
   replace B1:=big_put7 B1 K (.bool g1) (.slice o1 k1 u1) (.int .i64 0) (.bool g2) (.slice o2 k2 u2) (.int .i64 0) (.bool false)
   replace B2:=big_put7 B2 K (.bool g1) (.slice o1 k1 u1) (.int .i64 0) (.bool g2) (.slice o2 k2 u2) (.int .i64 0) (.bool false)
   replace Z:=has2_far7 Z (Nat.ne_of_lt zw) (.bool g1) (.slice o1 k1 u1) (.int .i64 0) (.bool g2) (.slice o2 k2 u2) (.int .i64 0) (.bool false)
   replace HB:=below_put7 (b:=W1.heap.size) HB (by have:=zw;omega) (.bool g1) (.slice o1 k1 u1) (.int .i64 0) (.bool g2) (.slice o2 k2 u2) (.int .i64 0) (.bool false)
   clear X e0 e1 e2 e3 e4 e5 e6 f0 f1 f2 f3 f4 f5 f6 el K
   generalize (((((((W2.setCell ⟨W1.heap.size,0,none⟩ (.bool g1)).setCell ⟨W1.heap.size,1,none⟩ (.slice o1 k1 u1)).setCell ⟨W1.heap.size,2,none⟩ (.int .i64 0)).setCell ⟨W1.heap.size,3,none⟩ (.bool g2)).setCell ⟨W1.heap.size,4,none⟩ (.slice o2 k2 u2)).setCell ⟨W1.heap.size,5,none⟩ (.int .i64 0)).setCell ⟨W1.heap.size,6,none⟩ (.bool false))=V2 at *
   generalize W1.heap.size=bE at *
   go_upto_region 4 with fail
   have k0:=fun n:Behind V2=>n.cell E.1.1 E.2.2
   have k1:=fun n:Behind V2=>n.cell E.1.2.1 E.2.2
   have k2':=fun n:Behind V2=>n.cell E.1.2.2.1 E.2.2
   have k3:=fun n:Behind V2=>n.cell E.1.2.2.2.1 E.2.2
   have k4:=fun n:Behind V2=>n.cell E.1.2.2.2.2.1 E.2.2
   have k5:=fun n:Behind V2=>n.cell E.1.2.2.2.2.2.1 E.2.2
   have k6:=fun n:Behind V2=>n.cell E.1.2.2.2.2.2.2 E.2.2
   have d4:=fun n:Behind V2=>c4 n.W _ _ _ _ _ _ (B1.keep n.bel) (B2.keep n.bel)
   have d5:=fun n:Behind V2=>c5 n.W _ _ _ _ _ _ (B1.keep n.bel) (B2.keep n.bel)
   clear c4 c5
   refine tail_behind 5 (by kernel_rfl) (by kernel_rfl) ?_
   simp only [List.take_succ_cons,List.take_zero,List.drop_succ_cons,List.drop_zero]
   repeat (go_big_quiet_step (first | (go_at_call 43;with_reducible refine Behind.call (d4 _)) | (go_at_call 43;with_reducible refine Behind.call (d5 _)) | (go_at_call 42;with_reducible refine Behind.call (c6 _))))
   refine wpQuiet_nil ?_
   rintro _ ⟨m',rfl⟩
   obtain⟨V4,hb1⟩:=m'
   dsimp only
   clear k0 k1 k2' k3 k4 k5 k6 d4 d5
   replace Z:=Z.keep hb1
   replace HB:=later HB hb1
   clear hb1
   obtain⟨z0,z1,z2,z3,z4⟩:=id Z
   go_wp2_with fail
   refine bodyPost_ret (v:=.agg #[.float .f64 lo,.float .f64 hi]) (by simp [results,Tryd.results14,go_sem, *]) rfl ⟨rfl, ?_⟩;repeat' (first | (with_reducible exact HB) | (with_reducible refine Below.setCell ?_ ?_ _) | go_size)
 · skip
   replace E:=hx7_put E (.bool g1) (.slice o1 k1 u1) (.int .i64 0) (.bool g2) (.slice o2 k2 u2) (.int .i64 0) (.bool false)
   replace B1:=big_put7 B1 K (.bool g1) (.slice o1 k1 u1) (.int .i64 0) (.bool g2) (.slice o2 k2 u2) (.int .i64 0) (.bool false)
   replace B2:=big_put7 B2 K (.bool g1) (.slice o1 k1 u1) (.int .i64 0) (.bool g2) (.slice o2 k2 u2) (.int .i64 0) (.bool false)
   replace Z:=has2_far7 Z (Nat.ne_of_lt Z0) (.bool g1) (.slice o1 k1 u1) (.int .i64 0) (.bool g2) (.slice o2 k2 u2) (.int .i64 0) (.bool false)
   replace HB:=below_put7 (b:=V1.heap.size) HB (by have:=Z0;omega) (.bool g1) (.slice o1 k1 u1) (.int .i64 0) (.bool g2) (.slice o2 k2 u2) (.int .i64 0) (.bool false)
   clear X e0 e1 e2 e3 e4 e5 e6 f0 f1 f2 f3 f4 f5 f6 el K
   generalize (((((((W2.setCell ⟨V1.heap.size,0,none⟩ (.bool g1)).setCell ⟨V1.heap.size,1,none⟩ (.slice o1 k1 u1)).setCell ⟨V1.heap.size,2,none⟩ (.int .i64 0)).setCell ⟨V1.heap.size,3,none⟩ (.bool g2)).setCell ⟨V1.heap.size,4,none⟩ (.slice o2 k2 u2)).setCell ⟨V1.heap.size,5,none⟩ (.int .i64 0)).setCell ⟨V1.heap.size,6,none⟩ (.bool false))=V2 at *
   generalize V1.heap.size=bE at *
   go_upto_region 4 with fail
   have k0:=fun n:Behind V2=>n.cell E.1.1 E.2.2
   have k1:=fun n:Behind V2=>n.cell E.1.2.1 E.2.2
   have k2':=fun n:Behind V2=>n.cell E.1.2.2.1 E.2.2
   have k3:=fun n:Behind V2=>n.cell E.1.2.2.2.1 E.2.2
   have k4:=fun n:Behind V2=>n.cell E.1.2.2.2.2.1 E.2.2
   have k5:=fun n:Behind V2=>n.cell E.1.2.2.2.2.2.1 E.2.2
   have k6:=fun n:Behind V2=>n.cell E.1.2.2.2.2.2.2 E.2.2
   have d4:=fun n:Behind V2=>c4 n.W _ _ _ _ _ _ (B1.keep n.bel) (B2.keep n.bel)
   have d5:=fun n:Behind V2=>c5 n.W _ _ _ _ _ _ (B1.keep n.bel) (B2.keep n.bel)
   clear c4 c5
   refine tail_behind 5 (by kernel_rfl) (by kernel_rfl) ?_
   simp only [List.take_succ_cons,List.take_zero,List.drop_succ_cons,List.drop_zero]
   repeat (go_big_quiet_step (first | (go_at_call 43;with_reducible refine Behind.call (d4 _)) | (go_at_call 43;with_reducible refine Behind.call (d5 _)) | (go_at_call 42;with_reducible refine Behind.call (c6 _))))
   refine wpQuiet_nil ?_
   rintro _ ⟨m',rfl⟩
   obtain⟨V4,hb1⟩:=m'
   dsimp only
   clear k0 k1 k2' k3 k4 k5 k6 d4 d5
   replace Z:=Z.keep hb1
   replace HB:=later HB hb1
   clear hb1
   obtain⟨z0,z1,z2,z3,z4⟩:=id Z
   go_wp2_with fail
   refine bodyPost_ret (v:=.agg #[.float .f64 lo,.float .f64 hi]) (by simp [results,Tryd.results14,go_sem, *]) rfl ⟨rfl, ?_⟩;repeat' (first | (with_reducible exact HB) | (with_reducible refine Below.setCell ?_ ?_ _) | go_size)
set_option maxHeartbeats 2000000 in
theorem tells_core (N D:Int) (s:ByteArray) (lo hi:Nat) (w:World) (T:Pow10 w)
   (c1:∀W,Pow10 W→Calls Tryd.prog 10 #[.agg #[.int .i64 N,.int .i64 D]] W fun r w'=>r=.returned (.string s)∧Below W.heap.size W w')
   (c2:∀W,Pow10 W→Calls Tryd.prog 11 #[.agg #[.int .i64 N,.int .i64 D]] W fun r w'=>r=.returned (.string s)∧Below W.heap.size W w')
   (c3:∀W,Calls Tryd.prog 13 #[.agg #[.int .i64 N,.int .i64 D]] W fun r w'=>r=.returned (.agg #[.float .f64 lo,.float .f64 hi])∧Below W.heap.size W w')
   (c4:∀W,Calls Tryd.prog 14 #[.agg #[.int .i64 N,.int .i64 D]] W fun r w'=>r=.returned (.agg #[.float .f64 lo,.float .f64 hi])∧Below W.heap.size W w')
   (c5:∀W,Calls Tryd.prog 12 #[.agg #[.float .f64 lo,.float .f64 hi],.agg #[.float .f64 lo,.float .f64 hi]] W fun r w'=>r=.returned (.bool true)∧Below W.heap.size W w') :
   Calls Tryd.prog 4 #[.agg #[.int .i64 N,.int .i64 D]] w fun r w'=>r=.returned (.bool true)∧Below w.heap.size w w':=by
 have HB:Below w.heap.size w (w.alloc (.cells #[.int .i64 N,.int .i64 D] 23)):=by go_grown
 have X:=has2_new w (.int .i64 N) (.int .i64 D) 23
 go_enter Tryd.func4,Tryd.ntmps4
 go_upto_region 1 with fail
 generalize (w.alloc (.cells #[.int .i64 N,.int .i64 D] 23))=V1 at *
 have k0:=fun n:Behind V1=>n.cell X.1 X.2.2.2.2
 have k1:=fun n:Behind V1=>n.cell X.2.1 X.2.2.2.2
 have T1:Pow10 V1:=T.on HB
 have d1:=fun n:Behind V1=>c1 n.W (T1.on n.bel)
 have d2:=fun n:Behind V1=>c2 n.W (T1.on n.bel)
 clear c1 c2
 refine region_behind (by kernel_rfl) (by kernel_rfl) ?_
 repeat (go_big_quiet_step (first
   | (go_at_call 10;with_reducible refine Behind.call (d1 _))
   | (go_at_call 11;with_reducible refine Behind.call (d2 _))
   | (go_at_call 13;with_reducible refine Behind.call (c3 _))
   | (go_at_call 14;with_reducible refine Behind.call (c4 _))
   | (go_at_call 12;with_reducible refine Behind.call (c5 _))))
 refine wpQuiet_nil ?_
 rintro _ ⟨m',rfl⟩
 obtain⟨V2,hb1⟩:=m'
 dsimp only
 replace HB:=later HB hb1
 go_wp2_with fail
 go_ret
 exact⟨by simp,HB⟩
theorem amt_zero {N:Int} {D:Nat} (h:N=0):(exQ N D).le 0∧(exQ N D).ge 0:=by
 subst h
 exact⟨by show (0:Int)*D≤0;omega,by show (0:Int)≤0*D;omega⟩
theorem hold_near {u:Nat} (hu:u=1075) {N D:Int} (g:Bool) (hg:if g then N≤0 else 0≤N) (hN0:N≠0) (hn:N.natAbs<9223372036854775808) (hD:1≤D) (hd:D.natAbs<9223372036854775808):Near (parM N.natAbs D.natAbs) (parE N.natAbs D.natAbs) ((exQ (N*((2^u:Nat):Int)) D.natAbs).amt g):=by
 have p:=Nat.two_pow_pos u
 have hg':if g then N*((2^u:Nat):Int)≤0 else 0≤N*((2^u:Nat):Int):=by
   cases g
   · simp only [Bool.false_eq_true,if_false] at hg ⊢
     exact Int.mul_nonneg hg (by omega)
   · simp only [if_true] at hg ⊢
     exact Int.mul_nonpos_of_nonpos_of_nonneg hg (by omega)
 have am:=fun h=>amt_Q (D:=D.natAbs) hg' h
 have e:(N*((2^u:Nat):Int)).natAbs=N.natAbs*2^u:=by rw [Int.natAbs_mul,Int.natAbs_natCast]
 rw [e] at am
 have bg:=par_big (n:=N.natAbs) (d:=D.natAbs) (by omega) hn (by omega) hd
 refine near_of (T:=topN N.natAbs*2^parS N.natAbs D.natAbs) (D:=D.natAbs) (a:=shiftN N.natAbs+parS N.natAbs D.natAbs) (b:=u) (by omega) (by unfold parE;rw [hu];omega) (fun h=>?_) (fun h=>?_) rfl (fun _=>by omega)
 · rw [(am h).1]
   have pa:=Nat.two_pow_pos (shiftN N.natAbs+parS N.natAbs D.natAbs)
   have e2:topN N.natAbs*2^parS N.natAbs D.natAbs*2^u=N.natAbs*2^u*2^(shiftN N.natAbs+parS N.natAbs D.natAbs):=by unfold topN;rw [Nat.pow_add];grind
   rw [e2,Nat.mul_right_comm]
   exact (Nat.mul_le_mul_right_iff pa).symm
 · rw [(am h).2]
   have pa:=Nat.two_pow_pos (shiftN N.natAbs+parS N.natAbs D.natAbs)
   have e2:topN N.natAbs*2^parS N.natAbs D.natAbs*2^u=N.natAbs*2^u*2^(shiftN N.natAbs+parS N.natAbs D.natAbs):=by unfold topN;rw [Nat.pow_add];grind
   rw [e2,Nat.mul_right_comm]
   exact (Nat.mul_left_inj (by omega)).symm
theorem ofKey_key {r:Nat} (hr:r<18446744073709551616) (hz:r≠9223372036854775808):ofKey (key r)=r:=by
 unfold key ofKey
 by_cases h:r<9223372036854775808
 · rw [if_pos h,if_neg (by omega)];omega
 · rw [if_neg h,if_pos (by omega)];omega
theorem num_sl (n:Int) (hn:I64 n) (W:World) :
   Calls Tryd.prog 41 #[.int .i64 n] W fun r w'=>(∃o k u,r=.returned (.agg #[.bool (decide (n<0)),.slice o k u,.int .i64 0])∧BigIs w' (.slice o k u) n.natAbs)∧Below W.heap.size W w' :=
 (num11_w n hn W).mono fun _ w' ⟨⟨v,e,A⟩,hb⟩=>by
   obtain⟨o,k,u,h1, -,h2⟩:=A.shape
   exact⟨⟨o,k,u,by rw [e,h1];rfl,h2⟩,hb⟩
theorem hold_rnd {u:Nat} (hu:u=1075) {N D:Int} (h:rightR N D=true) (hN:I64 N) (hD:I64 D) (dir:Int):IsRnd (exQ (N*((2^u:Nat):Int)) D.natAbs) dir (key (roundN (decide (N<0)) (holdM N D) (holdE N D) dir)):=by
 have d1:=rightR_D h
 have n1:=rightR_N h
 have lt:=holdM_lt h hN hD
 obtain⟨a1,a2⟩:=hN
 obtain⟨b1,b2⟩:=hD
 have p:=Nat.two_pow_pos u
 have ok:=exQ_ok (N*((2^u:Nat):Int)) (D:=D.natAbs) (by omega)
 have hg:if decide (N<0) then N≤0 else 0≤N:=by by_cases c:N<0 <;> simp [c] <;> omega
 have hg2:if decide (N<0) then (exQ (N*((2^u:Nat):Int)) D.natAbs).ge 0 else (exQ (N*((2^u:Nat):Int)) D.natAbs).le 0:=by
   by_cases c:N<0
   · rw [decide_eq_true c,if_pos rfl]
     have:=Int.mul_nonpos_of_nonpos_of_nonneg (show N≤0 by omega) (show 0≤((2^u:Nat):Int) by omega)
     show N*((2^u:Nat):Int)≤(0:Int)*D.natAbs
     rw [Int.zero_mul];exact this
   · rw [decide_eq_false c,if_neg (by simp)]
     have:=Int.mul_nonneg (show 0≤N by omega) (show 0≤((2^u:Nat):Int) by omega)
     show (0:Int)*D.natAbs≤N*((2^u:Nat):Int)
     rw [Int.zero_mul];exact this
 by_cases c:N=0
 · have e1:holdM N D=0:=by unfold holdM;rw [if_pos c]
   have e2:holdE N D=0:=by unfold holdE;rw [if_pos c]
   rw [e1,e2]
   exact round_is ok dir (by decide) (by decide) (fun _=>amt_zero (by rw [c,Int.zero_mul])) hg2 (fun q=>absurd rfl q)
 · have e1:holdM N D=parM N.natAbs D.natAbs:=by unfold holdM;rw [if_neg c]
   have e2:holdE N D=parE N.natAbs D.natAbs:=by unfold holdE;rw [if_neg c]
   rw [e1] at lt
   rw [e1,e2]
   have bg:=par_big (n:=N.natAbs) (d:=D.natAbs) (by omega) (by omega) (by omega) (by omega)
   have s1:=shift_63 N.natAbs
   have s2:parS N.natAbs D.natAbs≤63:=shift_63 _
   refine round_is ok dir lt ⟨by unfold parE;omega,by unfold parE;omega⟩ (fun q=>?_) hg2 (fun _=>hold_near hu _ hg c (by omega) d1 (by omega))
   exfalso
   unfold parM markN at q
   split at q <;> omega
theorem exD_is {u:Nat} {N D:Int} (hD:1≤D):exQ (N*((2^u:Nat):Int)) D.natAbs=exD (N*((2^u:Nat):Int)) D:=by
 unfold exQ exD
 have e:((D.natAbs:Nat):Int)=D:=by omega
 have nb:¬D<0:=by omega
 simp only [e,if_neg nb]
theorem rounded_q {N D:Int} (h:rightR N D=true) (hN:I64 N) (hD:I64 D) (dir:Int) (W:World) (o:Option Addr) (k c:Nat) (o':Option Addr) (k' c':Nat) (A:BigIs W (.slice o k c) N.natAbs) (B:BigIs W (.slice o' k' c') D.natAbs) :
   Calls Tryd.prog 43 #[.agg #[.bool (decide (N<0)),.slice o k c,.int .i64 0,.bool (decide (D<0)),.slice o' k' c',.int .i64 0,.bool false],.int .i64 dir] W fun r w'=>r=.returned (.float .f64 (roundN (decide (N<0)) (holdM N D) (holdE N D) dir))∧Below W.heap.size W w':=by
 obtain⟨u,hu⟩:∃u:Nat,u=1075:=⟨_,rfl⟩
 have d1:=rightR_D h
 have n1:=rightR_N h
 have lt:=holdM_lt h hN hD
 have rk:=hold_rnd hu h hN hD dir
 obtain⟨f1,f2,f3⟩:=roundN_facts (decide (N<0)) (holdM N D) (holdE N D) dir lt
 have ok:=exQ_ok (N*((2^u:Nat):Int)) (D:=D.natAbs) (by omega)
 obtain⟨a1,a2⟩:=hN
 obtain⟨b1,b2⟩:=hD
 have NA:NumZ (0-1075) 0 63 W (.agg #[.bool (decide (N<0)),.slice o k c,.int .i64 0]) (N*((2^u:Nat):Int)):=⟨_,_,N.natAbs,0,rfl,A,by omega,by omega,by omega,by
     rw [show ((0:Int)-(0-1075)).toNat=u by rw [hu];rfl]
     unfold sgnd
     by_cases q:N<0
     · rw [decide_eq_true q,if_pos rfl,Int.natCast_mul,←Int.neg_mul,show -((N.natAbs:Nat):Int)=N by omega]
     · rw [decide_eq_false q,if_neg (by simp),Int.natCast_mul,show ((N.natAbs:Nat):Int)=N by omega]⟩
 have NB:NumZ 0 0 63 W (.agg #[.bool (decide (D<0)),.slice o' k' c',.int .i64 0]) D:=⟨_,_,D.natAbs,0,rfl,B,by omega,by omega,by omega,by
     unfold sgnd
     rw [decide_eq_false (show ¬D<0 by omega),if_neg (by simp),show ((0:Int)-0).toNat=0 from rfl,Nat.pow_zero,Nat.mul_one]
     omega⟩
 have R:=rounded_x ok rk (w:=W) (x:=.agg #[.bool (decide (N<0)),.slice o k c,.int .i64 0,.bool (decide (D<0)),.slice o' k' c',.int .i64 0,.bool false]) ⟨_,o,k,c,0,_,o',k',c',0,false,rfl,Or.inl ⟨rfl,0,N*((2^u:Nat):Int),D,by omega,by omega,NA.wide (by omega) (by omega),NB.wide (by omega) (by omega),exD_is d1⟩⟩
 rw [ofKey_key f3 f2] at R
 exact R
theorem holdP_lt {N D:Int} (hN:I64 N) (hD:I64 D):(holdP N D).1<18446744073709551616∧(holdP N D).2<18446744073709551616:=by
 cases h:rightR N D
 · have e:holdP N D=(infI 1,infI (-1)):=by unfold holdP;rw [h];rfl
   rw [e]
   exact⟨by decide,by decide⟩
 · have e:holdP N D=makeP (roundN (decide (N<0)) (holdM N D) (holdE N D) (-1)) (roundN (decide (N<0)) (holdM N D) (holdE N D) 1):=by unfold holdP;rw [h];rfl
   rw [e]
   have lt:=holdM_lt h hN hD
   exact makeP_lt (roundN_facts _ _ _ _ lt).2.2 (roundN_facts _ _ _ _ lt).2.2
theorem rholdRat_w (N D:Int) (hN:I64 N) (hD:I64 D) (w:World) :
   Calls Tryd.prog 14 #[.agg #[.int .i64 N,.int .i64 D]] w fun r w'=>r=.returned (.agg #[.float .f64 (holdP N D).1,.float .f64 (holdP N D).2])∧Below w.heap.size w w':=by
 have r1:=fun W=>right11_w N D hN hD W
 cases h:rightR N D
 · have e:holdP N D=(infI 1,infI (-1)):=by unfold holdP;rw [h];rfl
   rw [e]
   rw [h] at r1
   exact rhold_bad N D r1 w
 · have e:holdP N D=makeP (roundN (decide (N<0)) (holdM N D) (holdE N D) (-1)) (roundN (decide (N<0)) (holdM N D) (holdE N D) 1):=by unfold holdP;rw [h];rfl
   rw [e]
   rw [h] at r1
   have lt:=holdM_lt h hN hD
   exact rhold_core N D _ _ _ _ _ _ _ _ r1 (fun W=>num_sl N hN W) (fun W=>num_sl D hD W) (fun W o k c o' k' c' A B=>rounded_q h hN hD (-1) W o k c o' k' c' A B) (fun W o k c o' k' c' A B=>rounded_q h hN hD 1 W o k c o' k' c' A B)
     (fun W=>rmake_w _ _ (roundN_facts _ _ _ _ lt).2.2 (roundN_facts _ _ _ _ lt).2.2 W) w
theorem ratTells_w (N D:Int) (hN:I64 N) (hD:I64 D) (w:World) (T:Pow10 w) :
   Calls Tryd.prog 4 #[.agg #[.int .i64 N,.int .i64 D]] w fun r w'=>r=.returned (.bool true)∧Below w.heap.size w w':=by
 have c5:∀W,Calls Tryd.prog 12 #[.agg #[.float .f64 (holdP N D).1,.float .f64 (holdP N D).2],.agg #[.float .f64 (holdP N D).1,.float .f64 (holdP N D).2]] W fun r w'=>r=.returned (.bool true)∧Below W.heap.size W w':=fun W=>by
   have:=rsame_w (holdP N D).1 (holdP N D).2 (holdP N D).1 (holdP N D).2 (holdP_lt hN hD).1 (holdP_lt hN hD).2 (holdP_lt hN hD).1 (holdP_lt hN hD).2 W
   rw [sameB_refl,sameB_refl] at this
   exact this
 exact tells_core N D (printB N D) _ _ w T (fun W t=>print_w N D hN hD W t) (fun W t=>rpint_w N D hN hD W t) (fun W=>holdRat_w N D hN hD W) (fun W=>rholdRat_w N D hN hD W) c5
theorem cellsRatD:Tryd.prog.cellsOf 23=2:=by kernel_rfl
theorem cellsI64D:Tryd.prog.cellsOf 2=1:=by kernel_rfl
theorem i64_wfD {n:Int} (h:(Lit.int .i64 n).wf=true):I64 n:=by
 have h:IntKind.i64.min≤n∧n≤IntKind.i64.max:=by simpa [Lit.wf] using h
 have e1:IntKind.i64.min=-9223372036854775808:=by decide
 have e2:IntKind.i64.max=9223372036854775807:=by decide
 exact⟨by omega,by omega⟩
theorem trod_i64D {H:Type} {enc:TypeId×Value→H} {W:World} {base:Nat} {sp:Nat→Bool} {held:Bool} {m:Nat} {c:Value} {y:DataW H×List MemPlace} (h:DataW.trod enc Tryd.prog W base sp held m 2 [c]=some y) :
   ∃n,c=.int .i64 n∧y=(.lit (.int .i64 n),[])∧(Lit.int .i64 n).wf=true:=by
 have ht:=Tryd.underlying2
 cases m with
 | zero=>simp [DataW.trod] at h
 | succ n =>
   cases c <;> simp [DataW.trod,ht] at h
   rename_i k b
   obtain⟨⟨rfl,h1⟩,h2⟩:=h
   exact⟨b,rfl,h2.symm,h1⟩
set_option maxRecDepth 100000 in
theorem open_ratD {H:Type} {enc:TypeId×Value→H} {W:World} {base:Nat} {sp:Nat→Bool} {held:Bool} {r:Reach} {b0:Nat} {v:Value} {d:DataW H} {ps:List MemPlace} (hval:Value.okWide Tryd.prog W r b0 23 v)
   (hd:DataW.Trod enc Tryd.prog W base sp held 23 v d ps):∃n m,v=.agg #[.int .i64 n,.int .i64 m]∧d=.agg [.lit (.int .i64 n),.lit (.int .i64 m)]∧ps=[]∧(Lit.int .i64 n).wf=true∧(Lit.int .i64 m).wf=true:=by
 obtain⟨cs,rfl,hsz⟩:=okWide_struct Tryd.underlying23 hval
 rw [cellsRatD] at hsz
 obtain⟨l⟩:=cs
 match l,hsz with
 | [c0,c1],_ =>
 obtain⟨fuel,hf⟩:=hd
 obtain⟨y0,y1,m,hx,_,hy0,hy1⟩:=trod_struct2 Tryd.underlying23 hf
 simp only [Value.cells,cellsI64D] at hy0 hy1
 obtain⟨lo,rfl,rfl,w0⟩:=trod_i64D hy0
 obtain⟨hi,rfl,rfl,w1⟩:=trod_i64D hy1
 simp only [Prod.mk.injEq] at hx
 obtain⟨rfl,rfl⟩:=hx
 exact⟨lo,hi,rfl,rfl,rfl,w0,w1⟩
set_option maxRecDepth 100000 in
theorem shut_ratD {H:Type} {enc:TypeId×Value→H} {W:World} {sp:Nat→Bool} {held:Bool} {base:Nat} {n m:Int} (hl:(Lit.int .i64 n).wf=true) (hh:(Lit.int .i64 m).wf=true) :
   DataW.Trod enc Tryd.prog W base sp held 23 (.agg #[.int .i64 n,.int .i64 m]) (.agg [.lit (.int .i64 n),.lit (.int .i64 m)]) []:=⟨2,by
 have f0:DataW.trod enc Tryd.prog W base sp held 1 2 [.int .i64 n]=some (.lit (.int .i64 n),[]):=by simp [DataW.trod,Tryd.underlying2,hl]
 have f1:DataW.trod enc Tryd.prog W base sp held 1 2 [.int .i64 m]=some (.lit (.int .i64 m),[]):=by simp [DataW.trod,Tryd.underlying2,hh]
 have:=trod_struct2_mk (enc:=enc) (w:=W) (base:=base) (spare:=sp) (held:=held) (n:=1) (cs:=[.int .i64 n,.int .i64 m]) Tryd.underlying23 (by simp [cellsRatD]) (by simpa [cellsI64D] using f0) (by simpa [cellsI64D] using f1)
 simpa [Value.cells] using this⟩
theorem pow10_laid {r1 r2:String×DataW Unit} {W:World} (h:laidMet Tryd.prog (r1 :: r2 :: ("internal/strconv.uint64pow10",Lib.tabData .u64 Lib.pow10Tab) :: []) W):Pow10 W :=
 Lib.tabBelow_of_tabIs (Lib.tabIs_of_head (g:=3) (t:=165) (e:=61) (n:=20) (by kernel_rfl) (by kernel_rfl) Tryd.underlying165 Tryd.underlying61 (by kernel_rfl) (by kernel_rfl) h.tail.tail)
end Go.Proofs.YtgocelaghggpmaaDoor
