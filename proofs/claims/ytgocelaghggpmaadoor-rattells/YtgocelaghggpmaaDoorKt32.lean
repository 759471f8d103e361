/- The walks of the reference's below and same: a number held against an exact one. The reference's below and same: what they answer of an exact number. -/
import Derived.Test.YtgocelaghggpmaaDoorKt31
namespace Go.Proofs.YtgocelaghggpmaaDoor
open Go.ChangeShapes Go.WideShapes Go.ChangeAt Go.RowKit
def Has7 (w:World) (b:Nat) (a0 a1 a2 b0 b1 b2 r:Value):Prop:=w.cell? ⟨b,0,none⟩=some a0∧w.cell? ⟨b,1,none⟩=some a1∧w.cell? ⟨b,2,none⟩=some a2∧w.cell? ⟨b,3,none⟩=some b0∧w.cell? ⟨b,4,none⟩=some b1∧w.cell? ⟨b,5,none⟩=some b2∧w.cell? ⟨b,6,none⟩=some r∧b<w.heap.size
theorem Has7.keep {W0 w2:World} {b:Nat} {a0 a1 a2 b0 b1 b2 r:Value} (h:Has7 W0 b a0 a1 a2 b0 b1 b2 r) (hb:Below W0.heap.size W0 w2):Has7 w2 b a0 a1 a2 b0 b1 b2 r:=by
 obtain⟨h0,h1,h2,h3,h4,h5,h6,hl⟩:=h
 exact⟨keepsC hb h0 hl,keepsC hb h1 hl,keepsC hb h2 hl,keepsC hb h3 hl,keepsC hb h4 hl,keepsC hb h5 hl,keepsC hb h6 hl,Nat.lt_of_lt_of_le hl hb.size⟩
theorem Has7.drew {w:World} {b:Nat} {a0 a1 a2 b0 b1 b2 r:Value} (h:Has7 w b a0 a1 a2 b0 b1 b2 r):Has7 w.drew b a0 a1 a2 b0 b1 b2 r:=h
set_option maxHeartbeats 1000000 in
theorem below_q_core (gr ga gb:Bool) (ro ao bo:Option Addr) (lr la lb cr ca cb:Nat) (er ea eb t s:Int) (w:World) (P:World→Value→Prop)
   (cp:∀W,Below w.heap.size w W→Calls Tryd.prog 125 #[.agg #[.bool gr,.slice ro lr cr,.int .i64 er],.agg #[.bool gb,.slice bo lb cb,.int .i64 eb]] W fun r w'=>(∃v,r=.returned v∧P w' v)∧Below W.heap.size W w')
   (co:∀W v,Below w.heap.size w W→P W v→Calls Tryd.prog 124 #[v,.agg #[.bool ga,.slice ao la ca,.int .i64 ea]] W fun r w'=>r=.returned (.int .i64 t)∧Below W.heap.size W w')
   (cs:∀W,Below w.heap.size w W→Calls Tryd.prog 123 #[.agg #[.bool gb,.slice bo lb cb,.int .i64 eb]] W fun r w'=>r=.returned (.int .i64 s)∧Below W.heap.size W w')
   (R:Bool) (hR:s<0∧R=decide (0≤t)∨¬s<0∧R=decide (t≤0)) :
   Calls Tryd.prog 85 #[.agg #[.bool gr,.slice ro lr cr,.int .i64 er],.agg #[.bool ga,.slice ao la ca,.int .i64 ea,.bool gb,.slice bo lb cb,.int .i64 eb,.bool false]] w fun r w' =>
     r=.returned (.bool R)∧Below w.heap.size w w':=by
 go_enter Tryd.func85,Tryd.ntmps85
 go_upto_region 3 with fail
 have X:Has3 ((w.alloc (.cells #[.bool gr,.slice ro lr cr,.int .i64 er] 76)).alloc (.cells #[.bool ga,.slice ao la ca,.int .i64 ea,.bool gb,.slice bo lb cb,.int .i64 eb,.bool false] 79)).drew w.heap.size (.bool gr) (.slice ro lr cr) (.int .i64 er):=⟨by go_simp,by go_simp,by go_simp,by go_simp,by go_simp,by go_simp,by go_size⟩
 have Y:Has7 ((w.alloc (.cells #[.bool gr,.slice ro lr cr,.int .i64 er] 76)).alloc (.cells #[.bool ga,.slice ao la ca,.int .i64 ea,.bool gb,.slice bo lb cb,.int .i64 eb,.bool false] 79)).drew (w.heap.size+1) (.bool ga) (.slice ao la ca) (.int .i64 ea) (.bool gb) (.slice bo lb cb) (.int .i64 eb) (.bool false):=⟨by go_simp,by go_simp,by go_simp,by go_simp,by go_simp,by go_simp,by go_simp,by go_size⟩
 have HB:Below w.heap.size w ((w.alloc (.cells #[.bool gr,.slice ro lr cr,.int .i64 er] 76)).alloc (.cells #[.bool ga,.slice ao la ca,.int .i64 ea,.bool gb,.slice bo lb cb,.int .i64 eb,.bool false] 79)).drew:=by go_grown
 go_region_held3 (fun w'=>w'.cell? ⟨w.heap.size,0,none⟩=some (.bool gr)∧w'.cell? ⟨w.heap.size,1,none⟩=some (.slice ro lr cr)∧w'.cell? ⟨w.heap.size,2,none⟩=some (.int .i64 er)∧w'.cell? ⟨w.heap.size+1,0,none⟩=some (.bool ga)∧w'.cell? ⟨w.heap.size+1,1,none⟩=some (.slice ao la ca)∧w'.cell? ⟨w.heap.size+1,2,none⟩=some (.int .i64 ea)∧w'.cell? ⟨w.heap.size+1,3,none⟩=some (.bool gb)∧w'.cell? ⟨w.heap.size+1,4,none⟩=some (.slice bo lb cb)∧w'.cell? ⟨w.heap.size+1,5,none⟩=some (.int .i64 eb)) (first | exact⟨X.1,X.2.1,X.2.2.1,Y.1,Y.2.1,Y.2.2.1,Y.2.2.2.1,Y.2.2.2.2.1,Y.2.2.2.2.2.1⟩ | go_keep)
   (first
     | (go_at_call 125;refine (cp _ HB).mono ?_;rintro _ w2 ⟨⟨v,rfl,hv⟩,hb1⟩;replace X:=X.keep hb1;replace Y:=Y.keep hb1;replace HB:=later HB hb1;clear hb1)
     | (go_at_call 124;refine (co _ _ HB hv).mono ?_;rintro _ w3 ⟨rfl,hb1⟩;replace X:=X.keep hb1;replace Y:=Y.keep hb1;replace HB:=later HB hb1;clear hb1))
 all_goals
   obtain⟨y0,y1,y2,y3,y4,y5,y6, -⟩:=Y
   rcases hR with ⟨hs,rfl⟩ | ⟨hs,rfl⟩
   all_goals
     go_wp2_with (go_at_call 123;refine (cs _ HB).mono ?_;rintro _ w4 ⟨rfl,hb1⟩;replace HB:=later HB hb1)
     go_ret
     exact⟨rfl,HB⟩
set_option maxHeartbeats 1000000 in
theorem same_q_core (gr ga gb:Bool) (ro ao bo:Option Addr) (lr la lb cr ca cb:Nat) (er ea eb t:Int) (w:World) (P:World→Value→Prop)
   (cp:∀W,Below w.heap.size w W→Calls Tryd.prog 125 #[.agg #[.bool gr,.slice ro lr cr,.int .i64 er],.agg #[.bool gb,.slice bo lb cb,.int .i64 eb]] W fun r w'=>(∃v,r=.returned v∧P w' v)∧Below W.heap.size W w')
   (co:∀W v,Below w.heap.size w W→P W v→Calls Tryd.prog 124 #[v,.agg #[.bool ga,.slice ao la ca,.int .i64 ea]] W fun r w'=>r=.returned (.int .i64 t)∧Below W.heap.size W w')
   (R:Bool) (hR:R=(t==0)) :
   Calls Tryd.prog 80 #[.agg #[.bool gr,.slice ro lr cr,.int .i64 er],.agg #[.bool ga,.slice ao la ca,.int .i64 ea,.bool gb,.slice bo lb cb,.int .i64 eb,.bool false]] w fun r w' =>
     r=.returned (.bool R)∧Below w.heap.size w w':=by
 go_enter Tryd.func80,Tryd.ntmps80
 go_upto_region 3 with fail
 have X:Has3 ((w.alloc (.cells #[.bool gr,.slice ro lr cr,.int .i64 er] 76)).alloc (.cells #[.bool ga,.slice ao la ca,.int .i64 ea,.bool gb,.slice bo lb cb,.int .i64 eb,.bool false] 79)).drew w.heap.size (.bool gr) (.slice ro lr cr) (.int .i64 er):=⟨by go_simp,by go_simp,by go_simp,by go_simp,by go_simp,by go_simp,by go_size⟩
 have Y:Has7 ((w.alloc (.cells #[.bool gr,.slice ro lr cr,.int .i64 er] 76)).alloc (.cells #[.bool ga,.slice ao la ca,.int .i64 ea,.bool gb,.slice bo lb cb,.int .i64 eb,.bool false] 79)).drew (w.heap.size+1) (.bool ga) (.slice ao la ca) (.int .i64 ea) (.bool gb) (.slice bo lb cb) (.int .i64 eb) (.bool false):=⟨by go_simp,by go_simp,by go_simp,by go_simp,by go_simp,by go_simp,by go_simp,by go_size⟩
 have HB:Below w.heap.size w ((w.alloc (.cells #[.bool gr,.slice ro lr cr,.int .i64 er] 76)).alloc (.cells #[.bool ga,.slice ao la ca,.int .i64 ea,.bool gb,.slice bo lb cb,.int .i64 eb,.bool false] 79)).drew:=by go_grown
 go_region_held3 (fun w'=>w'.cell? ⟨w.heap.size,0,none⟩=some (.bool gr)∧w'.cell? ⟨w.heap.size,1,none⟩=some (.slice ro lr cr)∧w'.cell? ⟨w.heap.size,2,none⟩=some (.int .i64 er)∧w'.cell? ⟨w.heap.size+1,0,none⟩=some (.bool ga)∧w'.cell? ⟨w.heap.size+1,1,none⟩=some (.slice ao la ca)∧w'.cell? ⟨w.heap.size+1,2,none⟩=some (.int .i64 ea)∧w'.cell? ⟨w.heap.size+1,3,none⟩=some (.bool gb)∧w'.cell? ⟨w.heap.size+1,4,none⟩=some (.slice bo lb cb)∧w'.cell? ⟨w.heap.size+1,5,none⟩=some (.int .i64 eb)) (first | exact⟨X.1,X.2.1,X.2.2.1,Y.1,Y.2.1,Y.2.2.1,Y.2.2.2.1,Y.2.2.2.2.1,Y.2.2.2.2.2.1⟩ | go_keep)
   (first
     | (go_at_call 125;refine (cp _ HB).mono ?_;rintro _ w2 ⟨⟨v,rfl,hv⟩,hb1⟩;replace X:=X.keep hb1;replace Y:=Y.keep hb1;replace HB:=later HB hb1;clear hb1)
     | (go_at_call 124;refine (co _ _ HB hv).mono ?_;rintro _ w3 ⟨rfl,hb1⟩;replace X:=X.keep hb1;replace Y:=Y.keep hb1;replace HB:=later HB hb1;clear hb1))
 all_goals
   subst hR
   go_wp2_with fail
   go_ret
   exact⟨rfl,HB⟩
set_option maxHeartbeats 1000000 in
theorem below_r_core (gr ga gb:Bool) (ro ao bo:Option Addr) (lr la lb cr ca cb:Nat) (er ea eb t s:Int) (w:World) (P:World→Value→Prop)
   (cp:∀W,Below w.heap.size w W→Calls Tryd.prog 125 #[.agg #[.bool gr,.slice ro lr cr,.int .i64 er],.agg #[.bool gr,.slice ro lr cr,.int .i64 er]] W fun r w'=>(∃v,r=.returned v∧P w' v)∧Below W.heap.size W w')
   (co:∀W v,Below w.heap.size w W→P W v→Calls Tryd.prog 124 #[v,.agg #[.bool ga,.slice ao la ca,.int .i64 ea]] W fun r w'=>r=.returned (.int .i64 t)∧Below W.heap.size W w')
   (cs:∀W,Below w.heap.size w W→Calls Tryd.prog 123 #[.agg #[.bool gr,.slice ro lr cr,.int .i64 er]] W fun r w'=>r=.returned (.int .i64 s)∧Below W.heap.size W w')
   (R:Bool) (hR:s=-1∧R=true∨s=0∧R=true∨¬s≤0∧R=decide (t≤0)) :
   Calls Tryd.prog 85 #[.agg #[.bool gr,.slice ro lr cr,.int .i64 er],.agg #[.bool ga,.slice ao la ca,.int .i64 ea,.bool gb,.slice bo lb cb,.int .i64 eb,.bool true]] w fun r w' =>
     r=.returned (.bool R)∧Below w.heap.size w w':=by
 go_enter Tryd.func85,Tryd.ntmps85
 go_upto_region 2 with fail
 have X:Has3 ((w.alloc (.cells #[.bool gr,.slice ro lr cr,.int .i64 er] 76)).alloc (.cells #[.bool ga,.slice ao la ca,.int .i64 ea,.bool gb,.slice bo lb cb,.int .i64 eb,.bool true] 79)).drew w.heap.size (.bool gr) (.slice ro lr cr) (.int .i64 er):=⟨by go_simp,by go_simp,by go_simp,by go_simp,by go_simp,by go_simp,by go_size⟩
 have Y:Has7 ((w.alloc (.cells #[.bool gr,.slice ro lr cr,.int .i64 er] 76)).alloc (.cells #[.bool ga,.slice ao la ca,.int .i64 ea,.bool gb,.slice bo lb cb,.int .i64 eb,.bool true] 79)).drew (w.heap.size+1) (.bool ga) (.slice ao la ca) (.int .i64 ea) (.bool gb) (.slice bo lb cb) (.int .i64 eb) (.bool true):=⟨by go_simp,by go_simp,by go_simp,by go_simp,by go_simp,by go_simp,by go_simp,by go_size⟩
 have HB:Below w.heap.size w ((w.alloc (.cells #[.bool gr,.slice ro lr cr,.int .i64 er] 76)).alloc (.cells #[.bool ga,.slice ao la ca,.int .i64 ea,.bool gb,.slice bo lb cb,.int .i64 eb,.bool true] 79)).drew:=by go_grown
 rcases hR with ⟨rfl,rfl⟩ | ⟨rfl,rfl⟩ | ⟨hs,rfl⟩
 · have x0:=X.1
   have x1:=X.2.1
   have x2:=X.2.2.1
   first
     | go_region_with (go_at_call 123;refine (cs _ HB).mono ?_;rintro _ w4 ⟨rfl,hb1⟩;replace X:=X.keep hb1;replace Y:=Y.keep hb1;replace HB:=later HB hb1;clear hb1)
     | fail
   all_goals
     go_wp2_with fail
     go_ret
     exact⟨rfl,HB⟩
 · have x0:=X.1
   have x1:=X.2.1
   have x2:=X.2.2.1
   first
     | go_region_with (go_at_call 123;refine (cs _ HB).mono ?_;rintro _ w4 ⟨rfl,hb1⟩;replace X:=X.keep hb1;replace Y:=Y.keep hb1;replace HB:=later HB hb1;clear hb1)
     | fail
   all_goals
     go_wp2_with fail
     go_ret
     exact⟨rfl,HB⟩
 · have hd:decide (s≤0)=false:=by simp;omega
   go_region_held3 (fun w'=>w'.cell? ⟨w.heap.size,0,none⟩=some (.bool gr)∧w'.cell? ⟨w.heap.size,1,none⟩=some (.slice ro lr cr)∧w'.cell? ⟨w.heap.size,2,none⟩=some (.int .i64 er)∧w'.cell? ⟨w.heap.size+1,0,none⟩=some (.bool ga)∧w'.cell? ⟨w.heap.size+1,1,none⟩=some (.slice ao la ca)∧w'.cell? ⟨w.heap.size+1,2,none⟩=some (.int .i64 ea)∧w'.cell? ⟨w.heap.size+1,3,none⟩=some (.bool gb)∧w'.cell? ⟨w.heap.size+1,4,none⟩=some (.slice bo lb cb)∧w'.cell? ⟨w.heap.size+1,5,none⟩=some (.int .i64 eb)) (first | exact⟨X.1,X.2.1,X.2.2.1,Y.1,Y.2.1,Y.2.2.1,Y.2.2.2.1,Y.2.2.2.2.1,Y.2.2.2.2.2.1⟩ | go_keep)
     (first
       | (go_at_call 123;refine (cs _ HB).mono ?_;rintro _ w4 ⟨rfl,hb1⟩;replace X:=X.keep hb1;replace Y:=Y.keep hb1;replace HB:=later HB hb1;clear hb1)
       | (go_at_call 125;refine (cp _ HB).mono ?_;rintro _ w2 ⟨⟨v,rfl,hv⟩,hb1⟩;replace X:=X.keep hb1;replace Y:=Y.keep hb1;replace HB:=later HB hb1;clear hb1)
       | (go_at_call 124;refine (co _ _ HB hv).mono ?_;rintro _ w3 ⟨rfl,hb1⟩;replace X:=X.keep hb1;replace Y:=Y.keep hb1;replace HB:=later HB hb1;clear hb1))
   all_goals
     go_wp2_with fail
     go_ret
     exact⟨rfl,HB⟩
set_option maxHeartbeats 1000000 in
theorem same_r_core (gr ga gb:Bool) (ro ao bo:Option Addr) (lr la lb cr ca cb:Nat) (er ea eb t s:Int) (w:World) (P:World→Value→Prop)
   (cp:∀W,Below w.heap.size w W→Calls Tryd.prog 125 #[.agg #[.bool gr,.slice ro lr cr,.int .i64 er],.agg #[.bool gr,.slice ro lr cr,.int .i64 er]] W fun r w'=>(∃v,r=.returned v∧P w' v)∧Below W.heap.size W w')
   (co:∀W v,Below w.heap.size w W→P W v→Calls Tryd.prog 124 #[v,.agg #[.bool ga,.slice ao la ca,.int .i64 ea]] W fun r w'=>r=.returned (.int .i64 t)∧Below W.heap.size W w')
   (cs:∀W,Below w.heap.size w W→Calls Tryd.prog 123 #[.agg #[.bool gr,.slice ro lr cr,.int .i64 er]] W fun r w'=>r=.returned (.int .i64 s)∧Below W.heap.size W w')
   (R:Bool) (hR:s=-1∧R=false∨0≤s∧R=(t==0)) :
   Calls Tryd.prog 80 #[.agg #[.bool gr,.slice ro lr cr,.int .i64 er],.agg #[.bool ga,.slice ao la ca,.int .i64 ea,.bool gb,.slice bo lb cb,.int .i64 eb,.bool true]] w fun r w' =>
     r=.returned (.bool R)∧Below w.heap.size w w':=by
 go_enter Tryd.func80,Tryd.ntmps80
 go_upto_region 2 with fail
 have X:Has3 ((w.alloc (.cells #[.bool gr,.slice ro lr cr,.int .i64 er] 76)).alloc (.cells #[.bool ga,.slice ao la ca,.int .i64 ea,.bool gb,.slice bo lb cb,.int .i64 eb,.bool true] 79)).drew w.heap.size (.bool gr) (.slice ro lr cr) (.int .i64 er):=⟨by go_simp,by go_simp,by go_simp,by go_simp,by go_simp,by go_simp,by go_size⟩
 have Y:Has7 ((w.alloc (.cells #[.bool gr,.slice ro lr cr,.int .i64 er] 76)).alloc (.cells #[.bool ga,.slice ao la ca,.int .i64 ea,.bool gb,.slice bo lb cb,.int .i64 eb,.bool true] 79)).drew (w.heap.size+1) (.bool ga) (.slice ao la ca) (.int .i64 ea) (.bool gb) (.slice bo lb cb) (.int .i64 eb) (.bool true):=⟨by go_simp,by go_simp,by go_simp,by go_simp,by go_simp,by go_simp,by go_simp,by go_size⟩
 have HB:Below w.heap.size w ((w.alloc (.cells #[.bool gr,.slice ro lr cr,.int .i64 er] 76)).alloc (.cells #[.bool ga,.slice ao la ca,.int .i64 ea,.bool gb,.slice bo lb cb,.int .i64 eb,.bool true] 79)).drew:=by go_grown
 rcases hR with ⟨rfl,rfl⟩ | ⟨hs,rfl⟩
 · have x0:=X.1
   have x1:=X.2.1
   have x2:=X.2.2.1
   first
     | go_region_with (go_at_call 123;refine (cs _ HB).mono ?_;rintro _ w4 ⟨rfl,hb1⟩;replace X:=X.keep hb1;replace Y:=Y.keep hb1;replace HB:=later HB hb1;clear hb1)
     | fail
   all_goals
     go_wp2_with fail
     go_ret
     exact⟨rfl,HB⟩
 · have hd:decide (0≤s)=true:=by simp;omega
   go_region_held3 (fun w'=>w'.cell? ⟨w.heap.size,0,none⟩=some (.bool gr)∧w'.cell? ⟨w.heap.size,1,none⟩=some (.slice ro lr cr)∧w'.cell? ⟨w.heap.size,2,none⟩=some (.int .i64 er)∧w'.cell? ⟨w.heap.size+1,0,none⟩=some (.bool ga)∧w'.cell? ⟨w.heap.size+1,1,none⟩=some (.slice ao la ca)∧w'.cell? ⟨w.heap.size+1,2,none⟩=some (.int .i64 ea)∧w'.cell? ⟨w.heap.size+1,3,none⟩=some (.bool gb)∧w'.cell? ⟨w.heap.size+1,4,none⟩=some (.slice bo lb cb)∧w'.cell? ⟨w.heap.size+1,5,none⟩=some (.int .i64 eb)) (first | exact⟨X.1,X.2.1,X.2.2.1,Y.1,Y.2.1,Y.2.2.1,Y.2.2.2.1,Y.2.2.2.2.1,Y.2.2.2.2.2.1⟩ | go_keep)
     (first
       | (go_at_call 123;refine (cs _ HB).mono ?_;rintro _ w4 ⟨rfl,hb1⟩;replace X:=X.keep hb1;replace Y:=Y.keep hb1;replace HB:=later HB hb1;clear hb1)
       | (go_at_call 125;refine (cp _ HB).mono ?_;rintro _ w2 ⟨⟨v,rfl,hv⟩,hb1⟩;replace X:=X.keep hb1;replace Y:=Y.keep hb1;replace HB:=later HB hb1;clear hb1)
       | (go_at_call 124;refine (co _ _ HB hv).mono ?_;rintro _ w3 ⟨rfl,hb1⟩;replace X:=X.keep hb1;replace Y:=Y.keep hb1;replace HB:=later HB hb1;clear hb1))
   all_goals
     go_wp2_with fail
     go_ret
     exact⟨rfl,HB⟩
def exD (az bz:Int):Ex:=⟨fun h=>if bz<0 then az≤h*bz else h*bz≤az,fun h=>if bz<0 then h*bz≤az else az≤h*bz⟩
def exR (az:Int):Ex:=⟨fun h=>h≤0∨h*h≤az,fun h=>0≤h∧az≤h*h⟩
def XIs (w:World) (x:Value) (X:Ex):Prop :=
 ∃(ga:Bool) (ao:Option Addr) (la ca:Nat) (ea:Int) (gb:Bool) (bo:Option Addr) (lb cb:Nat) (eb:Int) (root:Bool),
   x=.agg #[.bool ga,.slice ao la ca,.int .i64 ea,.bool gb,.slice bo lb cb,.int .i64 eb,.bool root] ∧
   (root=false∧(∃Sb az bz, -5000≤Sb∧Sb≤0∧NumZ (Sb-1075) 6000 20000 w (.agg #[.bool ga,.slice ao la ca,.int .i64 ea]) az∧NumZ Sb 1024 3000 w (.agg #[.bool gb,.slice bo lb cb,.int .i64 eb]) bz∧X=exD az bz) ∨
    root=true∧∃az,0≤az∧NumZ (-2150) 6000 20000 w (.agg #[.bool ga,.slice ao la ca,.int .i64 ea]) az∧X=exR az)
theorem XIs.keep {w w':World} {x:Value} {X:Ex} (h:XIs w x X) (hb:Below w.heap.size w w'):XIs w' x X:=by
 obtain⟨ga,ao,la,ca,ea,gb,bo,lb,cb,eb,root,h1,⟨h2,Sb,az,bz,s1,s2,h3,h4,h5⟩ | ⟨h2,az,h3,h4,h5⟩⟩:=h
 · exact⟨ga,ao,la,ca,ea,gb,bo,lb,cb,eb,root,h1,Or.inl ⟨h2,Sb,az,bz,s1,s2,h3.keep hb,h4.keep hb,h5⟩⟩
 · exact⟨ga,ao,la,ca,ea,gb,bo,lb,cb,eb,root,h1,Or.inr ⟨h2,az,h3,h4.keep hb,h5⟩⟩
theorem cmpZ_ge (a b:Int):0≤cmpZ a b↔b≤a:=by unfold cmpZ;split <;> (try split) <;> omega
theorem cmpZ_le (a b:Int):cmpZ a b≤0↔a≤b:=by unfold cmpZ;split <;> (try split) <;> omega
theorem cmpZ_lt (a b:Int):cmpZ a b<0↔a<b:=by unfold cmpZ;split <;> (try split) <;> omega
theorem cmpZ_eq (a b:Int):cmpZ a b=0↔a=b:=by unfold cmpZ;split <;> (try split) <;> omega
theorem cmpZ_three (a b:Int):cmpZ a b=-1∨cmpZ a b=0∨cmpZ a b=1:=by unfold cmpZ;split <;> (try split) <;> omega
theorem below_x {w:World} {r x:Value} {h:Int} {X:Ex} (hr:NumZ (-1075) 1024 3000 w r h) (hx:XIs w x X) :
   Calls Tryd.prog 85 #[r,x] w fun e w'=>(∃b:Bool,e=.returned (.bool b)∧(b=true↔X.le h))∧Below w.heap.size w w':=by
 obtain⟨gr,ro,lr,cr,er,rfl⟩:=hr.shape
 obtain⟨ga,ao,la,ca,ea,gb,bo,lb,cb,eb,root,rfl,⟨rfl,Sb,az,bz,s1,s2,hA,hB,rfl⟩ | ⟨rfl,az,h0,hA,rfl⟩⟩:=hx
 · obtain⟨R,hR⟩:∃R:Bool,(cmpZ bz 0<0∧R=decide (0≤cmpZ (h*bz) az)∨¬cmpZ bz 0<0∧R=decide (cmpZ (h*bz) az≤0)):=by
     by_cases c:cmpZ bz 0<0
     · exact⟨_,Or.inl ⟨c,rfl⟩⟩
     · exact⟨_,Or.inr ⟨c,rfl⟩⟩
   refine (below_q_core gr ga gb ro ao bo lr la lb cr ca cb er ea eb (cmpZ (h*bz) az) (cmpZ bz 0) w (fun W v=>NumZ (Sb-1075) 6000 20000 W v (h*bz)) (fun W hW=>?_) (fun W v hW hv=>order_z (by omega) (by omega) (by omega) hv (hA.keep hW)) (fun W hW=>sign_z (hB.keep hW)) R hR).mono ?_
   · refine (prod_z (S:=-1075) (T:=1024) (S':=Sb) (T':=1024) (K:=3000) (by omega) (by omega) (by omega) (by omega) (hr.keep hW) (hB.keep hW)).mono ?_
     rintro _ w' ⟨⟨v,rfl,hv⟩,hb⟩
     rw [show (-1075:Int)+Sb=Sb-1075 by omega] at hv
     exact⟨⟨v,rfl,hv.wide (by omega) (by omega)⟩,hb⟩
   · rintro _ w' ⟨rfl,hb⟩
     refine⟨⟨R,rfl, ?_⟩,hb⟩
     show R=true↔(if bz<0 then az≤h*bz else h*bz≤az)
     rcases hR with ⟨c,rfl⟩ | ⟨c,rfl⟩
     · rw [cmpZ_lt] at c
       rw [if_pos c,decide_eq_true_iff,cmpZ_ge]
     · rw [cmpZ_lt] at c
       rw [if_neg c,decide_eq_true_iff,cmpZ_le]
 · obtain⟨R,hR⟩:∃R:Bool,(cmpZ h 0=-1∧R=true∨cmpZ h 0=0∧R=true∨¬cmpZ h 0≤0∧R=decide (cmpZ (h*h) az≤0)):=by
     rcases cmpZ_three h 0 with c | c | c
     · exact⟨_,Or.inl ⟨c,rfl⟩⟩
     · exact⟨_,Or.inr (Or.inl ⟨c,rfl⟩)⟩
     · exact⟨_,Or.inr (Or.inr ⟨by omega,rfl⟩)⟩
   refine (below_r_core gr ga gb ro ao bo lr la lb cr ca cb er ea eb (cmpZ (h*h) az) (cmpZ h 0) w (fun W v=>NumZ (-2150) 6000 20000 W v (h*h)) (fun W hW=>?_) (fun W v hW hv=>order_z (by omega) (by omega) (by omega) hv (hA.keep hW)) (fun W hW=>sign_z (hr.keep hW)) R hR).mono ?_
   · refine (prod_z (S:=-1075) (T:=1024) (S':=-1075) (T':=1024) (K:=3000) (by omega) (by omega) (by omega) (by omega) (hr.keep hW) (hr.keep hW)).mono ?_
     rintro _ w' ⟨⟨v,rfl,hv⟩,hb⟩
     rw [show (-1075:Int)+-1075=-2150 by omega] at hv
     exact⟨⟨v,rfl,hv.wide (by omega) (by omega)⟩,hb⟩
   · rintro _ w' ⟨rfl,hb⟩
     refine⟨⟨R,rfl, ?_⟩,hb⟩
     show R=true↔(h≤0∨h*h≤az)
     have c0:=cmpZ_le h 0
     have c1:=cmpZ_le (h*h) az
     rcases hR with ⟨c,rfl⟩ | ⟨c,rfl⟩ | ⟨c,rfl⟩
     · simp;left;omega
     · simp;left;omega
     · rw [decide_eq_true_iff,c1]
       constructor
       · exact Or.inr
       · rintro (q | q)
         · omega
         · exact q
theorem same_x {w:World} {r x:Value} {h:Int} {X:Ex} (hr:NumZ (-1075) 1024 3000 w r h) (hx:XIs w x X) :
   Calls Tryd.prog 80 #[r,x] w fun e w'=>(∃b:Bool,e=.returned (.bool b)∧(b=true↔X.le h∧X.ge h))∧Below w.heap.size w w':=by
 obtain⟨gr,ro,lr,cr,er,rfl⟩:=hr.shape
 obtain⟨ga,ao,la,ca,ea,gb,bo,lb,cb,eb,root,rfl,⟨rfl,Sb,az,bz,s1,s2,hA,hB,rfl⟩ | ⟨rfl,az,h0,hA,rfl⟩⟩:=hx
 · refine (same_q_core gr ga gb ro ao bo lr la lb cr ca cb er ea eb (cmpZ (h*bz) az) w (fun W v=>NumZ (Sb-1075) 6000 20000 W v (h*bz)) (fun W hW=>?_) (fun W v hW hv=>order_z (by omega) (by omega) (by omega) hv (hA.keep hW)) _ rfl).mono ?_
   · refine (prod_z (S:=-1075) (T:=1024) (S':=Sb) (T':=1024) (K:=3000) (by omega) (by omega) (by omega) (by omega) (hr.keep hW) (hB.keep hW)).mono ?_
     rintro _ w' ⟨⟨v,rfl,hv⟩,hb⟩
     rw [show (-1075:Int)+Sb=Sb-1075 by omega] at hv
     exact⟨⟨v,rfl,hv.wide (by omega) (by omega)⟩,hb⟩
   · rintro _ w' ⟨rfl,hb⟩
     refine⟨⟨_,rfl, ?_⟩,hb⟩
     show _↔(if bz<0 then az≤h*bz else h*bz≤az)∧(if bz<0 then h*bz≤az else az≤h*bz)
     rw [beq_iff_eq,cmpZ_eq]
     split <;> omega
 · obtain⟨R,hR⟩:∃R:Bool,(cmpZ h 0=-1∧R=false∨0≤cmpZ h 0∧R=(cmpZ (h*h) az==0)):=by
     rcases cmpZ_three h 0 with c | c | c
     · exact⟨_,Or.inl ⟨c,rfl⟩⟩
     · exact⟨_,Or.inr ⟨by omega,rfl⟩⟩
     · exact⟨_,Or.inr ⟨by omega,rfl⟩⟩
   refine (same_r_core gr ga gb ro ao bo lr la lb cr ca cb er ea eb (cmpZ (h*h) az) (cmpZ h 0) w (fun W v=>NumZ (-2150) 6000 20000 W v (h*h)) (fun W hW=>?_) (fun W v hW hv=>order_z (by omega) (by omega) (by omega) hv (hA.keep hW)) (fun W hW=>sign_z (hr.keep hW)) R hR).mono ?_
   · refine (prod_z (S:=-1075) (T:=1024) (S':=-1075) (T':=1024) (K:=3000) (by omega) (by omega) (by omega) (by omega) (hr.keep hW) (hr.keep hW)).mono ?_
     rintro _ w' ⟨⟨v,rfl,hv⟩,hb⟩
     rw [show (-1075:Int)+-1075=-2150 by omega] at hv
     exact⟨⟨v,rfl,hv.wide (by omega) (by omega)⟩,hb⟩
   · rintro _ w' ⟨rfl,hb⟩
     refine⟨⟨R,rfl, ?_⟩,hb⟩
     show R=true↔(h≤0∨h*h≤az)∧(0≤h∧az≤h*h)
     have c0:=cmpZ_ge h 0
     have c1:=cmpZ_eq (h*h) az
     rcases hR with ⟨c,rfl⟩ | ⟨c,rfl⟩
     · simp;omega
     · rw [beq_iff_eq,c1]
       constructor
       · intro e;omega
       · rintro ⟨q1 | q1,q2,q3⟩
         · have:h=0:=by omega
           subst this
           omega
         · omega
end Go.Proofs.YtgocelaghggpmaaDoor
