/- The document's least interval of a quotient (orreryref11.Hold). -/
import Derived.Test.YtgocelaghggpmaaDoorKt29
import Derived.Test.YtgocelaghggpmaaDoorKt35
import Derived.Test.YtgocelaghggpmaaDoorKt07
import Derived.Deep.RegionHeld3
namespace Go.Proofs.YtgocelaghggpmaaDoor
open Go.ChangeShapes Go.WideShapes Go.ChangeAt Go.RowKit
def Hx7 (w:World) (b:Nat) (x0 x1 x2 x3 x4 x5 x6:Value):Prop:=(w.cell? ⟨b,0,none⟩=some x0∧w.cell? ⟨b,1,none⟩=some x1∧w.cell? ⟨b,2,none⟩=some x2∧w.cell? ⟨b,3,none⟩=some x3∧w.cell? ⟨b,4,none⟩=some x4∧w.cell? ⟨b,5,none⟩=some x5∧w.cell? ⟨b,6,none⟩=some x6) ∧
 (w.frozen? ⟨b,0,none⟩=false∧w.frozen? ⟨b,1,none⟩=false∧w.frozen? ⟨b,2,none⟩=false∧w.frozen? ⟨b,3,none⟩=false∧w.frozen? ⟨b,4,none⟩=false∧w.frozen? ⟨b,5,none⟩=false∧w.frozen? ⟨b,6,none⟩=false)∧b<w.heap.size
theorem Hx7.keep {w W:World} {b:Nat} {x0 x1 x2 x3 x4 x5 x6:Value} (h:Hx7 w b x0 x1 x2 x3 x4 x5 x6) (k:Below w.heap.size w W):Hx7 W b x0 x1 x2 x3 x4 x5 x6:=by
 obtain⟨⟨h0,h1,h2,h3,h4,h5,h6⟩,⟨f0,f1,f2,f3,f4,f5,f6⟩,hl⟩:=h
 exact⟨⟨keepsC k h0 hl,keepsC k h1 hl,keepsC k h2 hl,keepsC k h3 hl,keepsC k h4 hl,keepsC k h5 hl,keepsC k h6 hl⟩,⟨keepsF k f0 hl,keepsF k f1 hl,keepsF k f2 hl,keepsF k f3 hl,keepsF k f4 hl,keepsF k f5 hl,keepsF k f6 hl⟩,Nat.lt_of_lt_of_le hl k.size⟩
theorem hx7_new (w:World) (x0 x1 x2 x3 x4 x5 x6:Value) (T:TypeId):Hx7 (w.alloc (.cells #[x0,x1,x2,x3,x4,x5,x6] T)) w.heap.size x0 x1 x2 x3 x4 x5 x6 :=
 ⟨⟨by go_simp,by go_simp,by go_simp,by go_simp,by go_simp,by go_simp,by go_simp⟩,⟨by go_simp,by go_simp,by go_simp,by go_simp,by go_simp,by go_simp,by go_simp⟩,by go_size⟩
theorem hx7_put {w:World} {b:Nat} {x0 x1 x2 x3 x4 x5 x6:Value} (h:Hx7 w b x0 x1 x2 x3 x4 x5 x6) (y0 y1 y2 y3 y4 y5 y6:Value):Hx7 (((((((w.setCell ⟨b,0,none⟩ y0).setCell ⟨b,1,none⟩ y1).setCell ⟨b,2,none⟩ y2).setCell ⟨b,3,none⟩ y3).setCell ⟨b,4,none⟩ y4).setCell ⟨b,5,none⟩ y5).setCell ⟨b,6,none⟩ y6) b y0 y1 y2 y3 y4 y5 y6:=by
 obtain⟨⟨h0,h1,h2,h3,h4,h5,h6⟩,⟨f0,f1,f2,f3,f4,f5,f6⟩,hl⟩:=h
 refine⟨⟨by go_simp,by go_simp,by go_simp,by go_simp,by go_simp,by go_simp,by go_simp⟩,⟨by go_simp,by go_simp,by go_simp,by go_simp,by go_simp,by go_simp,by go_simp⟩, ?_⟩
 simp only [World.size_setCell];exact hl
theorem has2_far7 {w:World} {b c:Nat} {x y:Value} (h:Has2 w c x y) (hne:c≠b) (y0 y1 y2 y3 y4 y5 y6:Value):Has2 (((((((w.setCell ⟨b,0,none⟩ y0).setCell ⟨b,1,none⟩ y1).setCell ⟨b,2,none⟩ y2).setCell ⟨b,3,none⟩ y3).setCell ⟨b,4,none⟩ y4).setCell ⟨b,5,none⟩ y5).setCell ⟨b,6,none⟩ y6) c x y:=((((((h.off1 hne _).off1 hne _).off1 hne _).off1 hne _).off1 hne _).off1 hne _).off1 hne _
theorem boxedE (w:World) (cur:Array Value):Boxed (w.alloc (.cells cur 79)) w.heap.size:=⟨cur,79,(0,0),by decide,heap_alloc_new w _⟩
theorem big_put7 {w:World} {b n:Nat} {v:Value} (h:BigIs w v n) (k:Boxed w b) (y0 y1 y2 y3 y4 y5 y6:Value):BigIs (((((((w.setCell ⟨b,0,none⟩ y0).setCell ⟨b,1,none⟩ y1).setCell ⟨b,2,none⟩ y2).setCell ⟨b,3,none⟩ y3).setCell ⟨b,4,none⟩ y4).setCell ⟨b,5,none⟩ y5).setCell ⟨b,6,none⟩ y6) v n :=
 ((((((h.put k 0 _).put (k.set b 0 _) 1 _).put ((k.set b 0 _).set b 1 _) 2 _).put (((k.set b 0 _).set b 1 _).set b 2 _) 3 _).put ((((k.set b 0 _).set b 1 _).set b 2 _).set b 3 _) 4 _).put (((((k.set b 0 _).set b 1 _).set b 2 _).set b 3 _).set b 4 _) 5 _).put ((((((k.set b 0 _).set b 1 _).set b 2 _).set b 3 _).set b 4 _).set b 5 _) 6 _
theorem below_put7 {w0 w:World} {b:Nat} (h:Below w0.heap.size w0 w) (hb:w0.heap.size≤b) (y0 y1 y2 y3 y4 y5 y6:Value):Below w0.heap.size w0 (((((((w.setCell ⟨b,0,none⟩ y0).setCell ⟨b,1,none⟩ y1).setCell ⟨b,2,none⟩ y2).setCell ⟨b,3,none⟩ y3).setCell ⟨b,4,none⟩ y4).setCell ⟨b,5,none⟩ y5).setCell ⟨b,6,none⟩ y6) :=
 ((((((h.setCell hb _).setCell hb _).setCell hb _).setCell hb _).setCell hb _).setCell hb _).setCell hb _
set_option maxHeartbeats 2000000 in
theorem rhold_bad (N D:Int)
   (r1:∀W,Calls Tryd.prog 33 #[.agg #[.int .i64 N,.int .i64 D]] W fun r w'=>r=.returned (.bool false)∧Below W.heap.size W w') (w:World) :
   Calls Tryd.prog 14 #[.agg #[.int .i64 N,.int .i64 D]] w fun r w'=>r=.returned (.agg #[.float .f64 (infI 1),.float .f64 (infI (-1))])∧Below w.heap.size w w':=by
 have HB:Below w.heap.size w ((w.alloc (.cells #[.int .i64 N,.int .i64 D] 23)).alloc (.cells #[.float .f64 0,.float .f64 0] 32)):=by go_grown
 have X:Has2 ((w.alloc (.cells #[.int .i64 N,.int .i64 D] 23)).alloc (.cells #[.float .f64 0,.float .f64 0] 32)) w.heap.size (.int .i64 N) (.int .i64 D):=⟨by go_simp,by go_simp,by go_simp,by go_simp,by go_size⟩
 have Z:Has2 ((w.alloc (.cells #[.int .i64 N,.int .i64 D] 23)).alloc (.cells #[.float .f64 0,.float .f64 0] 32)) (w.heap.size+1) (.float .f64 0) (.float .f64 0):=⟨by go_simp,by go_simp,by go_simp,by go_simp,by go_size⟩
 have ce:=fun W=>rempty_w W
 go_enter Tryd.func14,Tryd.ntmps14
 go_upto_region 1 with fail
 generalize ((w.alloc (.cells #[.int .i64 N,.int .i64 D] 23)).alloc (.cells #[.float .f64 0,.float .f64 0] 32))=V1 at *
 obtain⟨px0,px1,px2,px3,px4⟩:=id X;obtain⟨pz0,pz1,pz2,pz3,pz4⟩:=id Z
 go_wp2_with (first | (go_at_call 33;(with_reducible refine (r1 _).mono ?_);rintro _ W1 ⟨rfl,hb1⟩;replace X:=X.keep hb1;replace Z:=Z.keep hb1;replace HB:=later HB hb1;clear hb1;obtain⟨qx0,qx1,qx2,qx3,qx4⟩:=id X;obtain⟨qz0,qz1,qz2,qz3,qz4⟩:=id Z) | (go_at_call 40;(with_reducible refine (ce _).mono ?_);rintro _ W2 ⟨rfl,hb1⟩;replace X:=X.keep hb1;replace Z:=Z.keep hb1;replace HB:=later HB hb1;clear hb1;obtain⟨rx0,rx1,rx2,rx3,rx4⟩:=id X;obtain⟨rz0,rz1,rz2,rz3,rz4⟩:=id Z))
 refine bodyPost_ret (v:=.agg #[.float .f64 (infI 1),.float .f64 (infI (-1))]) (by simp [results,Tryd.results14,go_sem, *]) rfl ⟨rfl, ?_⟩;repeat' (first | (with_reducible exact HB) | (with_reducible refine Below.setCell ?_ ?_ _) | go_size)
set_option maxHeartbeats 8000000 in
theorem rhold_core (N D:Int) (r1 r2 lo hi:Nat) (g1 g2:Bool) (n d:Nat)
   (c1:∀W,Calls Tryd.prog 33 #[.agg #[.int .i64 N,.int .i64 D]] W fun r w'=>r=.returned (.bool true)∧Below W.heap.size W w')
   (c2:∀W,Calls Tryd.prog 41 #[.int .i64 N] W fun r w'=>(∃o k u,r=.returned (.agg #[.bool g1,.slice o k u,.int .i64 0])∧BigIs w' (.slice o k u) n)∧Below W.heap.size W w')
   (c3:∀W,Calls Tryd.prog 41 #[.int .i64 D] W fun r w'=>(∃o k u,r=.returned (.agg #[.bool g2,.slice o k u,.int .i64 0])∧BigIs w' (.slice o k u) d)∧Below W.heap.size W w')
   (c4:∀(W:World) o k u o' k' u',BigIs W (.slice o k u) n→BigIs W (.slice o' k' u') d→Calls Tryd.prog 43 #[.agg #[.bool g1,.slice o k u,.int .i64 0,.bool g2,.slice o' k' u',.int .i64 0,.bool false],.int .i64 (-1)] W fun r w'=>r=.returned (.float .f64 r1)∧Below W.heap.size W w')
   (c5:∀(W:World) o k u o' k' u',BigIs W (.slice o k u) n→BigIs W (.slice o' k' u') d→Calls Tryd.prog 43 #[.agg #[.bool g1,.slice o k u,.int .i64 0,.bool g2,.slice o' k' u',.int .i64 0,.bool false],.int .i64 1] W fun r w'=>r=.returned (.float .f64 r2)∧Below W.heap.size W w')
   (c6:∀W,Calls Tryd.prog 42 #[.float .f64 r1,.float .f64 r2] W fun r w'=>r=.returned (.agg #[.float .f64 lo,.float .f64 hi])∧Below W.heap.size W w') (w:World) :
   Calls Tryd.prog 14 #[.agg #[.int .i64 N,.int .i64 D]] w fun r w'=>r=.returned (.agg #[.float .f64 lo,.float .f64 hi])∧Below w.heap.size w w':=by
 have HB:Below w.heap.size w ((w.alloc (.cells #[.int .i64 N,.int .i64 D] 23)).alloc (.cells #[.float .f64 0,.float .f64 0] 32)):=by go_grown
 have X:Has2 ((w.alloc (.cells #[.int .i64 N,.int .i64 D] 23)).alloc (.cells #[.float .f64 0,.float .f64 0] 32)) w.heap.size (.int .i64 N) (.int .i64 D):=⟨by go_simp,by go_simp,by go_simp,by go_simp,by go_size⟩
 have Z:Has2 ((w.alloc (.cells #[.int .i64 N,.int .i64 D] 23)).alloc (.cells #[.float .f64 0,.float .f64 0] 32)) (w.heap.size+1) (.float .f64 0) (.float .f64 0):=⟨by go_simp,by go_simp,by go_simp,by go_simp,by go_size⟩
 go_enter Tryd.func14,Tryd.ntmps14
 go_upto_region 1 with fail
 generalize ((w.alloc (.cells #[.int .i64 N,.int .i64 D] 23)).alloc (.cells #[.float .f64 0,.float .f64 0] 32))=V0 at *
 obtain⟨px0,px1,px2,px3,px4⟩:=id X;obtain⟨pz0,pz1,pz2,pz3,pz4⟩:=id Z
 go_upto_region 3 with (go_at_call 33;(with_reducible refine (c1 _).mono ?_);rintro _ V1 ⟨rfl,hb1⟩;replace X:=X.keep hb1;replace Z:=Z.keep hb1;replace HB:=later HB hb1;clear hb1;obtain⟨qx0,qx1,qx2,qx3,qx4⟩:=id X;obtain⟨qz0,qz1,qz2,qz3,qz4⟩:=id Z)
 clear px0 px1 px2 px3 px4 pz0 pz1 pz2 pz3 pz4
 clear qx0 qx1 qx2 qx3 qx4 qz0 qz1 qz2 qz3 qz4
 have X0:w.heap.size<V1.heap.size:=X.lt
 have Z0:w.heap.size+1<V1.heap.size:=Z.lt
 have HD:Below V1.heap.size V1 V1.drew:=(Below.refl _ _).drew
 replace X:=X.keep HD
 replace Z:=Z.keep HD
 replace HB:=later HB HD
 clear HD
 have hbA:Below V1.drew.heap.size V1.drew (V1.alloc (.cells #[.bool false,.slice none 0 0,.int .i64 0,.bool false,.slice none 0 0,.int .i64 0,.bool false] 79)).drew:=grewW V1.drew (.cells #[.bool false,.slice none 0 0,.int .i64 0,.bool false,.slice none 0 0,.int .i64 0,.bool false] 79)
 have XA:=X.keep hbA
 have ZA:=Z.keep hbA
 have HA:=later HB hbA
 have EA:Hx7 (V1.alloc (.cells #[.bool false,.slice none 0 0,.int .i64 0,.bool false,.slice none 0 0,.int .i64 0,.bool false] 79)).drew V1.heap.size (.bool false) (.slice none 0 0) (.int .i64 0) (.bool false) (.slice none 0 0) (.int .i64 0) (.bool false):=hx7_new V1.drew (.bool false) (.slice none 0 0) (.int .i64 0) (.bool false) (.slice none 0 0) (.int .i64 0) (.bool false) 79
 have nq0:V1.heap.size≠w.heap.size:=Nat.ne_of_gt X0
 have KA:Boxed (V1.alloc (.cells #[.bool false,.slice none 0 0,.int .i64 0,.bool false,.slice none 0 0,.int .i64 0,.bool false] 79)).drew V1.heap.size:=(boxedE V1 #[.bool false,.slice none 0 0,.int .i64 0,.bool false,.slice none 0 0,.int .i64 0,.bool false]).keep ((Below.refl _ _).drew)
 go_region_held3 (fun w'=>w'.cell? ⟨w.heap.size,0,none⟩=some (.int .i64 N)∧w'.cell? ⟨w.heap.size,1,none⟩=some (.int .i64 D)) (first | with_reducible exact⟨X.c0,X.c1⟩ | with_reducible exact⟨XA.c0,XA.c1⟩ | with_reducible exact⟨(X.keep (below_alloc (Below.refl _ _) _)).c0,(X.keep (below_alloc (Below.refl _ _) _)).c1⟩ | go_keep) (first
   | (go_at_call_of 41 (Value.int .i64 N);(with_reducible refine (c2 V1.drew).mono ?_);rintro _ W1 ⟨⟨o1,k1,u1,rfl,B1⟩,hb1⟩;replace X:=X.keep hb1;replace Z:=Z.keep hb1;replace HB:=later HB hb1;have nqw:W1.heap.size≠w.heap.size:=Nat.ne_of_gt X.lt;have zw:w.heap.size+1<W1.heap.size:=Z.lt;clear hb1)
   | (go_at_call_of 41 (Value.int .i64 N);(with_reducible refine (c2 _).mono ?_);rintro _ W1 ⟨⟨o1,k1,u1,rfl,B1⟩,hb1⟩;replace X:=XA.keep hb1;replace Z:=ZA.keep hb1;replace HB:=later HA hb1;have E:=EA.keep hb1;have K:=KA.keep hb1;clear hb1)
   | (go_at_call_of 41 (Value.int .i64 D);(with_reducible refine (c3 W1).mono ?_);rintro _ W2 ⟨⟨o2,k2,u2,rfl,B2⟩,hb1⟩;replace B1:=B1.keep hb1;(try (replace E:=E.keep hb1;replace K:=K.keep hb1;obtain⟨⟨e0,e1,e2,e3,e4,e5,e6⟩,⟨f0,f1,f2,f3,f4,f5,f6⟩,el⟩:=id E));replace X:=X.keep hb1;replace Z:=Z.keep hb1;replace HB:=later HB hb1;have nq2:W2.heap.size≠w.heap.size:=Nat.ne_of_gt X.lt;clear hb1)
   | (go_at_call_of 41 (Value.int .i64 D);(with_reducible refine (c3 _).mono ?_);rintro _ W2 ⟨⟨o2,k2,u2,rfl,B2⟩,hb1⟩;have hb2:=later (grewW W1 (.cells #[.bool false,.slice none 0 0,.int .i64 0,.bool false,.slice none 0 0,.int .i64 0,.bool false] 79)) hb1;have E:=(hx7_new W1 (.bool false) (.slice none 0 0) (.int .i64 0) (.bool false) (.slice none 0 0) (.int .i64 0) (.bool false) 79).keep hb1;have K:=(boxedE W1 #[.bool false,.slice none 0 0,.int .i64 0,.bool false,.slice none 0 0,.int .i64 0,.bool false]).keep hb1;replace B1:=B1.keep hb2;replace X:=X.keep hb2;replace Z:=Z.keep hb2;replace HB:=later HB hb2;obtain⟨⟨e0,e1,e2,e3,e4,e5,e6⟩,⟨f0,f1,f2,f3,f4,f5,f6⟩,el⟩:=id E;have nq1:W1.heap.size≠w.heap.size:=nqw;clear hb1 hb2))
 · skip
   have E:=hx7_new W2 (.bool g1) (.slice o1 k1 u1) (.int .i64 0) (.bool g2) (.slice o2 k2 u2) (.int .i64 0) (.bool false) 79
   replace B1:=B1.alloc (.cells #[.bool g1,.slice o1 k1 u1,.int .i64 0,.bool g2,.slice o2 k2 u2,.int .i64 0,.bool false] 79)
   replace B2:=B2.alloc (.cells #[.bool g1,.slice o1 k1 u1,.int .i64 0,.bool g2,.slice o2 k2 u2,.int .i64 0,.bool false] 79)
   replace Z:=Z.keep (grewW W2 (.cells #[.bool g1,.slice o1 k1 u1,.int .i64 0,.bool g2,.slice o2 k2 u2,.int .i64 0,.bool false] 79))
   replace HB:=later HB (grewW W2 (.cells #[.bool g1,.slice o1 k1 u1,.int .i64 0,.bool g2,.slice o2 k2 u2,.int .i64 0,.bool false] 79))
   clear X
   generalize W2.alloc (.cells #[.bool g1,.slice o1 k1 u1,.int .i64 0,.bool g2,.slice o2 k2 u2,.int .i64 0,.bool false] 79)=V2 at *
   generalize W2.heap.size=bE at *
   go_upto_region 4 with fail
   have k0:=fun n:Behind V2=>n.cell E.1.1 E.2.2
   have k1:=fun n:Behind V2=>n.cell E.1.2.1 E.2.2
   have k2':=fun n:Behind V2=>n.cell E.1.2.2.1 E.2.2
   have k3:=fun n:Behind V2=>n.cell E.1.2.2.2.1 E.2.2
   have k4:=fun n:Behind V2=>n.cell E.1.2.2.2.2.1 E.2.2
   have k5:=fun n:Behind V2=>n.cell E.1.2.2.2.2.2.1 E.2.2
   have k6:=fun n:Behind V2=>n.cell E.1.2.2.2.2.2.2 E.2.2
   have d4:=fun n:Behind V2=>c4 n.W _ _ _ _ _ _ (B1.keep n.bel) (B2.keep n.bel)
   have d5:=fun n:Behind V2=>c5 n.W _ _ _ _ _ _ (B1.keep n.bel) (B2.keep n.bel)
   clear c4 c5
   refine tail_behind 5 (by kernel_rfl) (by kernel_rfl) ?_
   simp only [List.take_succ_cons,List.take_zero,List.drop_succ_cons,List.drop_zero]
   repeat (go_big_quiet_step (first | (go_at_call 43;with_reducible refine Behind.call (d4 _)) | (go_at_call 43;with_reducible refine Behind.call (d5 _)) | (go_at_call 42;with_reducible refine Behind.call (c6 _))))
   refine wpQuiet_nil ?_
   rintro _ ⟨m',rfl⟩
   obtain⟨V4,hb1⟩:=m'
   dsimp only
   clear k0 k1 k2' k3 k4 k5 k6 d4 d5
   replace Z:=Z.keep hb1
   replace HB:=later HB hb1
   clear hb1
   obtain⟨z0,z1,z2,z3,z4⟩:=id Z
   go_wp2_with fail
   refine bodyPost_ret (v:=.agg #[.float .f64 lo,.float .f64 hi]) (by simp [results,Tryd.results14,go_sem, *]) rfl ⟨rfl, ?_⟩;repeat' (first | (with_reducible exact HB) | (with_reducible refine Below.setCell ?_ ?_ _) | go_size)
 · skip
   replace E:=hx7_put E (.bool g1) (.slice o1 k1 u1) (.int .i64 0) (.bool g2) (.slice o2 k2 u2) (.int .i64 0) (.bool false)
   replace B1:=big_put7 B1 K (.bool g1) (.slice o1 k1 u1) (.int .i64 0) (.bool g2) (.slice o2 k2 u2) (.int .i64 0) (.bool false)
   replace B2:=big_put7 B2 K (.bool g1) (.slice o1 k1 u1) (.int .i64 0) (.bool g2) (.slice o2 k2 u2) (.int .i64 0) (.bool false)
   replace Z:=has2_far7 Z (Nat.ne_of_lt zw) (.bool g1) (.slice o1 k1 u1) (.int .i64 0) (.bool g2) (.slice o2 k2 u2) (.int .i64 0) (.bool false)
   replace HB:=below_put7 (b:=W1.heap.size) HB (by have:=zw;omega) (.bool g1) (.slice o1 k1 u1) (.int .i64 0) (.bool g2) (.slice o2 k2 u2) (.int .i64 0) (.bool false)
   clear X e0 e1 e2 e3 e4 e5 e6 f0 f1 f2 f3 f4 f5 f6 el K
   generalize (((((((W2.setCell ⟨W1.heap.size,0,none⟩ (.bool g1)).setCell ⟨W1.heap.size,1,none⟩ (.slice o1 k1 u1)).setCell ⟨W1.heap.size,2,none⟩ (.int .i64 0)).setCell ⟨W1.heap.size,3,none⟩ (.bool g2)).setCell ⟨W1.heap.size,4,none⟩ (.slice o2 k2 u2)).setCell ⟨W1.heap.size,5,none⟩ (.int .i64 0)).setCell ⟨W1.heap.size,6,none⟩ (.bool false))=V2 at *
   generalize W1.heap.size=bE at *
   go_upto_region 4 with fail
   have k0:=fun n:Behind V2=>n.cell E.1.1 E.2.2
   have k1:=fun n:Behind V2=>n.cell E.1.2.1 E.2.2
   have k2':=fun n:Behind V2=>n.cell E.1.2.2.1 E.2.2
   have k3:=fun n:Behind V2=>n.cell E.1.2.2.2.1 E.2.2
   have k4:=fun n:Behind V2=>n.cell E.1.2.2.2.2.1 E.2.2
   have k5:=fun n:Behind V2=>n.cell E.1.2.2.2.2.2.1 E.2.2
   have k6:=fun n:Behind V2=>n.cell E.1.2.2.2.2.2.2 E.2.2
   have d4:=fun n:Behind V2=>c4 n.W _ _ _ _ _ _ (B1.keep n.bel) (B2.keep n.bel)
   have d5:=fun n:Behind V2=>c5 n.W _ _ _ _ _ _ (B1.keep n.bel) (B2.keep n.bel)
   clear c4 c5
   refine tail_behind 5 (by kernel_rfl) (by kernel_rfl) ?_
   simp only [List.take_succ_cons,List.take_zero,List.drop_succ_cons,List.drop_zero]
   repeat (go_big_quiet_step (first | (go_at_call 43;with_reducible refine Behind.call (d4 _)) | (go_at_call 43;with_reducible refine Behind.call (d5 _)) | (go_at_call 42;with_reducible refine Behind.call (c6 _))))
   refine wpQuiet_nil ?_
   rintro _ ⟨m',rfl⟩
   obtain⟨V4,hb1⟩:=m'
   dsimp only
   clear k0 k1 k2' k3 k4 k5 k6 d4 d5
   replace Z:=Z.keep hb1
   replace HB:=later HB hb1
   clear hb1
   obtain⟨z0,z1,z2,z3,z4⟩:=id Z
   go_wp2_with fail
   refine bodyPost_ret (v:=.agg #[.float .f64 lo,.float .f64 hi]) (by simp [results,Tryd.results14,go_sem, *]) rfl ⟨rfl, ?_⟩;repeat' (first | (with_reducible exact HB) | (with_reducible refine Below.setCell ?_ ?_ _) | go_size)
 · skip
   replace E:=hx7_put E (.bool g1) (.slice o1 k1 u1) (.int .i64 0) (.bool g2) (.slice o2 k2 u2) (.int .i64 0) (.bool false)
   replace B1:=big_put7 B1 K (.bool g1) (.slice o1 k1 u1) (.int .i64 0) (.bool g2) (.slice o2 k2 u2) (.int .i64 0) (.bool false)
   replace B2:=big_put7 B2 K (.bool g1) (.slice o1 k1 u1) (.int .i64 0) (.bool g2) (.slice o2 k2 u2) (.int .i64 0) (.bool false)
   replace Z:=has2_far7 Z (Nat.ne_of_lt Z0) (.bool g1) (.slice o1 k1 u1) (.int .i64 0) (.bool g2) (.slice o2 k2 u2) (.int .i64 0) (.bool false)
   replace HB:=below_put7 (b:=V1.heap.size) HB (by have:=Z0;omega) (.bool g1) (.slice o1 k1 u1) (.int .i64 0) (.bool g2) (.slice o2 k2 u2) (.int .i64 0) (.bool false)
   clear X e0 e1 e2 e3 e4 e5 e6 f0 f1 f2 f3 f4 f5 f6 el K
   generalize (((((((W2.setCell ⟨V1.heap.size,0,none⟩ (.bool g1)).setCell ⟨V1.heap.size,1,none⟩ (.slice o1 k1 u1)).setCell ⟨V1.heap.size,2,none⟩ (.int .i64 0)).setCell ⟨V1.heap.size,3,none⟩ (.bool g2)).setCell ⟨V1.heap.size,4,none⟩ (.slice o2 k2 u2)).setCell ⟨V1.heap.size,5,none⟩ (.int .i64 0)).setCell ⟨V1.heap.size,6,none⟩ (.bool false))=V2 at *
   generalize V1.heap.size=bE at *
   go_upto_region 4 with fail
   have k0:=fun n:Behind V2=>n.cell E.1.1 E.2.2
   have k1:=fun n:Behind V2=>n.cell E.1.2.1 E.2.2
   have k2':=fun n:Behind V2=>n.cell E.1.2.2.1 E.2.2
   have k3:=fun n:Behind V2=>n.cell E.1.2.2.2.1 E.2.2
   have k4:=fun n:Behind V2=>n.cell E.1.2.2.2.2.1 E.2.2
   have k5:=fun n:Behind V2=>n.cell E.1.2.2.2.2.2.1 E.2.2
   have k6:=fun n:Behind V2=>n.cell E.1.2.2.2.2.2.2 E.2.2
   have d4:=fun n:Behind V2=>c4 n.W _ _ _ _ _ _ (B1.keep n.bel) (B2.keep n.bel)
   have d5:=fun n:Behind V2=>c5 n.W _ _ _ _ _ _ (B1.keep n.bel) (B2.keep n.bel)
   clear c4 c5
   refine tail_behind 5 (by kernel_rfl) (by kernel_rfl) ?_
   simp only [List.take_succ_cons,List.take_zero,List.drop_succ_cons,List.drop_zero]
   repeat (go_big_quiet_step (first | (go_at_call 43;with_reducible refine Behind.call (d4 _)) | (go_at_call 43;with_reducible refine Behind.call (d5 _)) | (go_at_call 42;with_reducible refine Behind.call (c6 _))))
   refine wpQuiet_nil ?_
   rintro _ ⟨m',rfl⟩
   obtain⟨V4,hb1⟩:=m'
   dsimp only
   clear k0 k1 k2' k3 k4 k5 k6 d4 d5
   replace Z:=Z.keep hb1
   replace HB:=later HB hb1
   clear hb1
   obtain⟨z0,z1,z2,z3,z4⟩:=id Z
   go_wp2_with fail
   refine bodyPost_ret (v:=.agg #[.float .f64 lo,.float .f64 hi]) (by simp [results,Tryd.results14,go_sem, *]) rfl ⟨rfl, ?_⟩;repeat' (first | (with_reducible exact HB) | (with_reducible refine Below.setCell ?_ ?_ _) | go_size)
end Go.Proofs.YtgocelaghggpmaaDoor
