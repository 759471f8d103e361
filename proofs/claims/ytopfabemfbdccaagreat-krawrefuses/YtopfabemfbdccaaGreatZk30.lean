/- near, powerOfTwo, scaled; the series of sine and cosine; constants in more bits. The series of sine and cosine as functions of words; constants in more bits. Sine and cosine of small amounts; where turns may lie; the wave at a float. The wave at a float, and of an interval: Sin, Cos. -/
import Derived.Test.YtopfabemfbdccaaGreatZk26
import Derived.Test.YtopfabemfbdccaaGreatZk24
import Derived.Test.YtopfabemfbdccaaGreatZk25
namespace Go.Proofs.YtopfabemfbdccaaGreat
open Go.ChangeShapes Go.WideShapes Go.ChangeAt Go.RowKit
set_option maxHeartbeats 1000000 in
theorem near_core (x:Nat×Nat) (m r:Nat) (k:Int) (c1:∀w,Calls Tryz.prog 150 #[.agg #[.float .f64 x.1,.float .f64 x.2]] w fun e w'=>e=.returned (.float .f64 m)/\Below w.heap.size w w') (ha:∀w,(binOp .add 22 (.float .f64 m) (.float .f64 4602678819172646912)).run Tryz.prog w=.ok (.float .f64 r) w)
  (c2:∀w,Calls Tryz.prog 149 #[.float .f64 r] w fun e w'=>e=.returned (.int .i64 k)/\w=w') (w:World):Calls Tryz.prog 98 #[.agg #[.float .f64 x.1,.float .f64 x.2]] w fun e w'=>e=.returned (.int .i64 k)/\Below w.heap.size w w':=by
 go_enter Tryz.func98,Tryz.ntmps98
 go_wp2_with (first
  | (go_at_call 150;with_reducible refine (c1 _).mono ?_;rintro _ V1 ⟨rfl,hb1⟩;have HB:Below w.heap.size w V1:=later (by go_grown) hb1)
  | (go_at_call 149;with_reducible refine (c2 _).mono ?_;rintro _ V2 ⟨rfl,rfl⟩))
 go_ret
 exact⟨rfl,HB⟩
def halfUp (m:Nat):Nat:=(Ieee.double.add m 4602678819172646912).getD 0
def nearI (x:Nat×Nat):Int:=flI (halfUp (midQ x))
theorem cNear {x:Nat×Nat} (hx:W2 x) (hb:midQ x%9223372036854775808<4832362400168542208) (w:World):Calls Tryz.prog 98 #[.agg #[.float .f64 x.1,.float .f64 x.2]] w fun e w'=>e=.returned (.int .i64 (nearI x))/\Below w.heap.size w w':=by
 obtain⟨r,e,l,b⟩:=add_small (midQ x) 4602678819172646912 hb (by omega)
 have er:halfUp (midQ x)=r:=by unfold halfUp;rw [e];rfl
 unfold nearI
 rw [er]
 exact near_core x _ r _ (fun w=>cMid hx w) (fun w=>run_float_arith w .add 22 .f64 _ _ r e) (fun w=>floor_w r l (by omega) w) w
theorem nearI_in {x:Nat×Nat} (hb:midQ x%9223372036854775808<4832362400168542208):-9007199254740993<=nearI x/\nearI x<=9007199254740992:=by
 obtain⟨r,e,l,b⟩:=add_small (midQ x) 4602678819172646912 hb (by omega)
 have er:halfUp (midQ x)=r:=by unfold halfUp;rw [e];rfl
 unfold nearI
 rw [er]
 exact flI_in r (by omega)
def pw2 (k:Int):Nat:=((k+1023)%18446744073709551616*4503599627370496%18446744073709551616).toNat
theorem pw2_lt (k:Int):pw2 k<18446744073709551616:=by unfold pw2;omega
set_option maxHeartbeats 1000000 in
theorem pow2_core (k:Int) (hk:-20000000000000000<=k/\k<=20000000000000000) (p:Nat×Nat) (c1:∀w,Calls Tryz.prog 55 #[.float .f64 (pw2 k)] w fun e w'=>e=.returned (.agg #[.float .f64 p.1,.float .f64 p.2])/\Below w.heap.size w w') (w:World):Calls Tryz.prog 151 #[.int .i64 k] w fun e w'=>e=.returned (.agg #[.float .f64 p.1,.float .f64 p.2])/\Below w.heap.size w w':=by
 have R:Has2 (w.alloc (.cells #[.float .f64 0,.float .f64 0] 24)) w.heap.size (.float .f64 0) (.float .f64 0):=has2_new _ _ _ _
 have HB:Below w.heap.size w (w.alloc (.cells #[.float .f64 0,.float .f64 0] 24)):=by go_grown
 unfold pw2 at c1
 go_enter Tryz.func151,Tryz.ntmps151
 go_wp2_with (go_at_call 55;refine (c1 _).mono ?_;rintro _ V1 ⟨rfl,hb1⟩;replace R:=R.keep hb1;replace HB:=later HB hb1;clear hb1;obtain⟨k0,k1,k2,k3,k4⟩:=id R)
 refine bodyPost_ret (v:=.agg #[.float .f64 p.1,.float .f64 p.2]) (by simp [results,Tryz.results151,go_sem, *]) rfl ⟨rfl, ?_⟩;repeat' (first | (with_reducible exact HB) | (with_reducible refine Below.setCell ?_ ?_ _) | go_size)
theorem cPow2 (k:Int) (hk:-20000000000000000<=k/\k<=20000000000000000) (w:World):Calls Tryz.prog 151 #[.int .i64 k] w fun e w'=>e=.returned (.agg #[.float .f64 (ptQ (pw2 k)).1,.float .f64 (ptQ (pw2 k)).2])/\Below w.heap.size w w':=pow2_core k hk _ (fun w=>cPoint (pw2_lt k) w) w
set_option maxHeartbeats 1000000 in
theorem scaled_core (x a b m s:Nat×Nat) (k h g:Int) (hk:-10000000000000000<=k/\k<=10000000000000000) (eh:k.tdiv 2=h) (eg:k-h=g) (c1:∀w,Calls Tryz.prog 151 #[.int .i64 h] w fun e w'=>e=.returned (.agg #[.float .f64 a.1,.float .f64 a.2])/\Below w.heap.size w w') (c2:∀w,Calls Tryz.prog 151 #[.int .i64 g] w fun e w'=>e=.returned (.agg #[.float .f64 b.1,.float .f64 b.2])/\Below w.heap.size w w') (c3:∀w,Calls Tryz.prog 54 #[.agg #[.float .f64 x.1,.float .f64 x.2],.agg #[.float .f64 a.1,.float .f64 a.2]] w fun e w'=>e=.returned (.agg #[.float .f64 m.1,.float .f64 m.2])/\Below w.heap.size w w') (c4:∀w,Calls Tryz.prog 54 #[.agg #[.float .f64 m.1,.float .f64 m.2],.agg #[.float .f64 b.1,.float .f64 b.2]] w fun e w'=>e=.returned (.agg #[.float .f64 s.1,.float .f64 s.2])/\Below w.heap.size w w') (w:World):Calls Tryz.prog 99 #[.agg #[.float .f64 x.1,.float .f64 x.2],.int .i64 k] w fun e w'=>e=.returned (.agg #[.float .f64 s.1,.float .f64 s.2])/\Below w.heap.size w w':=by
 obtain⟨X,R,HB⟩:=enter1 w (.float .f64 x.1) (.float .f64 x.2) 24
 have hh:-10000000000000000<=h/\h<=10000000000000000:=by have ht:(k.tdiv 2).natAbs=k.natAbs/2:=Int.natAbs_tdiv k 2;omega
 go_enter Tryz.func99,Tryz.ntmps99
 go_upto_region 2 with fail
 generalize (w.alloc (.cells #[.float .f64 x.1,.float .f64 x.2] 24)).alloc (.cells #[.float .f64 0,.float .f64 0] 24)=V1 at *
 have kX0:=fun n:Behind V1=>n.cell X.1 X.2.2.2.2;have kX1:=fun n:Behind V1=>n.cell X.2.1 X.2.2.2.2
 refine tail_behind 9 (by kernel_rfl) (by kernel_rfl) ?_
 simp only [List.take_succ_cons,List.take_zero,List.drop_succ_cons,List.drop_zero]
 repeat (go_big_quiet_step (first | (go_at_call 151;with_reducible refine Behind.call (c1 _)) | (go_at_call 151;with_reducible refine Behind.call (c2 _)) | (go_at_call 54;with_reducible refine Behind.call (c3 _)) | (go_at_call 54;with_reducible refine Behind.call (c4 _))))
 refine wpQuiet_nil ?_
 rintro _ ⟨m',rfl⟩
 obtain⟨W,hb1⟩:=m'
 dsimp only
 clear kX0 kX1
 replace R:=R.keep hb1;replace HB:=later HB hb1;clear hb1
 obtain⟨k0,k1,k2,k3,k4⟩:=id R
 go_wp2_with fail
 refine bodyPost_ret (v:=.agg #[.float .f64 s.1,.float .f64 s.2]) (by simp [results,Tryz.results99,go_sem, *]) rfl ⟨rfl, ?_⟩;repeat' (first | (with_reducible exact HB) | (with_reducible refine Below.setCell ?_ ?_ _) | go_size)
def scaledQ (x:Nat×Nat) (k:Int):Nat×Nat:=mulQ (mulQ x (ptQ (pw2 (k.tdiv 2)))) (ptQ (pw2 (k-k.tdiv 2)))
theorem cScaled {x:Nat×Nat} (hx:W2 x) (k:Int) (hk:-10000000000000000<=k/\k<=10000000000000000) (w:World):Calls Tryz.prog 99 #[.agg #[.float .f64 x.1,.float .f64 x.2],.int .i64 k] w fun e w'=>e=.returned (.agg #[.float .f64 (scaledQ x k).1,.float .f64 (scaledQ x k).2])/\Below w.heap.size w w':=by
 have h1:-10000000000000000<=k.tdiv 2/\k.tdiv 2<=10000000000000000:=by have ht:(k.tdiv 2).natAbs=k.natAbs/2:=Int.natAbs_tdiv k 2;omega
 exact scaled_core x _ _ _ _ k _ _ hk rfl rfl (fun w=>cPow2 _ (by omega) w) (fun w=>cPow2 _ (by omega) w) (fun w=>cMul hx (ptQ_W2 (pw2_lt _)) w) (fun w=>cMul (mulQ_W2 hx (ptQ_W2 (pw2_lt _))) (ptQ_W2 (pw2_lt _)) w) w
theorem scaledQ_W2 {x:Nat×Nat} (hx:W2 x) (k:Int):W2 (scaledQ x k):=mulQ_W2 (mulQ_W2 hx (ptQ_W2 (pw2_lt _))) (ptQ_W2 (pw2_lt _))
set_option maxHeartbeats 1000000 in
theorem turn_core (r o q t s:Nat×Nat) (f:Int) (c1:∀w,Calls Tryz.prog 55 #[.float .f64 4607182418800017408] w fun e w'=>e=.returned (.agg #[.float .f64 o.1,.float .f64 o.2])/\Below w.heap.size w w') (c2:∀w,Calls Tryz.prog 206 #[.agg #[.float .f64 r.1,.float .f64 r.2]] w fun e w'=>e=.returned (.agg #[.float .f64 q.1,.float .f64 q.2])/\Below w.heap.size w w') (c3:∀w,Calls Tryz.prog 153 #[] w fun e w'=>e=.returned (.agg #[.float .f64 t.1,.float .f64 t.2])/\Below w.heap.size w w')
  (c4:∀z a b W,W.cell? ⟨z,0,none⟩=some (.int .i64 f)->z<W.heap.size->Has2 W a (.float .f64 o.1) (.float .f64 o.2)->Has2 W b (.float .f64 q.1) (.float .f64 q.2)->Calls Tryz.prog 152 #[.int .i64 10,.agg #[.float .f64 t.1,.float .f64 t.2],.func (.func 245) #[] #[.pointer (some ⟨z,0,none⟩),.pointer (some ⟨a,0,none⟩),.pointer (some ⟨b,0,none⟩)]] W fun e w'=>e=.returned (.agg #[.float .f64 s.1,.float .f64 s.2])/\Below W.heap.size W w') (w:World) :
  Calls Tryz.prog 211 #[.agg #[.float .f64 r.1,.float .f64 r.2],.int .i64 f] w fun e w'=>e=.returned (.agg #[.float .f64 s.1,.float .f64 s.2])/\Below w.heap.size w w':=by
 have X:Has2 (((w.alloc (.cells #[.float .f64 r.1,.float .f64 r.2] 24)).alloc (.cells #[.int .i64 f] 3)).alloc (.cells #[.float .f64 0,.float .f64 0] 24)) w.heap.size (.float .f64 r.1) (.float .f64 r.2):=⟨by go_simp,by go_simp,by go_simp,by go_simp,by go_size⟩
 have Z:HasI (((w.alloc (.cells #[.float .f64 r.1,.float .f64 r.2] 24)).alloc (.cells #[.int .i64 f] 3)).alloc (.cells #[.float .f64 0,.float .f64 0] 24)) (w.heap.size+1) (.int .i64 f):=⟨by go_simp,by go_size⟩
 have R:Has2 (((w.alloc (.cells #[.float .f64 r.1,.float .f64 r.2] 24)).alloc (.cells #[.int .i64 f] 3)).alloc (.cells #[.float .f64 0,.float .f64 0] 24)) (w.heap.size+1+1) (.float .f64 0) (.float .f64 0):=⟨by go_simp,by go_simp,by go_simp,by go_simp,by go_size⟩
 have HB:Below w.heap.size w (((w.alloc (.cells #[.float .f64 r.1,.float .f64 r.2] 24)).alloc (.cells #[.int .i64 f] 3)).alloc (.cells #[.float .f64 0,.float .f64 0] 24)):=by go_grown
 go_enter Tryz.func211,Tryz.ntmps211
 go_upto_region 1 with fail
 generalize (((w.alloc (.cells #[.float .f64 r.1,.float .f64 r.2] 24)).alloc (.cells #[.int .i64 f] 3)).alloc (.cells #[.float .f64 0,.float .f64 0] 24))=V0 at *
 apply tail_alloc2 3 (by kernel_rfl) (by kernel_rfl) rfl rfl (by decide)
 ·intro W1 hW
  replace X:=X.keep hW
  have kX0:=fun n:Behind W1=>n.cell X.1 X.2.2.2.2;have kX1:=fun n:Behind W1=>n.cell X.2.1 X.2.2.2.2
  simp only [List.take_succ_cons,List.take_zero]
  repeat (go_big_quiet_step (first | (go_at_call 55;with_reducible refine Behind.call (c1 _)) | (go_at_call 206;with_reducible refine Behind.call (c2 _))))
  exact wpQuiet_nil rfl
 ·intro b c W hb hc hbc B C hb1
  have s1:=X.2.2.2.2
  have s2:=Z.2
  have s3:=R.2.2.2.2
  replace X:=X.keep hb1;replace Z:=Z.keep hb1;replace R:=R.keep hb1;replace HB:=later HB hb1;clear hb1
  have D:=(B.put (.float .f64 o.1) (.float .f64 o.2)).far (Ne.symm hbc) (.float .f64 q.1) (.float .f64 q.2)
  have E:=(C.far hbc (.float .f64 o.1) (.float .f64 o.2)).put (.float .f64 q.1) (.float .f64 q.2)
  replace Z:=(Z.far (c:=b) (by omega) (.float .f64 o.1) (.float .f64 o.2)).far (c:=c) (by omega) (.float .f64 q.1) (.float .f64 q.2)
  replace R:=(R.far (c:=b) (by omega) (.float .f64 o.1) (.float .f64 o.2)).far (c:=c) (by omega) (.float .f64 q.1) (.float .f64 q.2)
  replace HB:Below w.heap.size w ((((W.setCell ⟨b,0,none⟩ (.float .f64 o.1)).setCell ⟨b,1,none⟩ (.float .f64 o.2)).setCell ⟨c,0,none⟩ (.float .f64 q.1)).setCell ⟨c,1,none⟩ (.float .f64 q.2)):=(((HB.setCell (by simp;omega) _).setCell (by simp;omega) _).setCell (by simp;omega) _).setCell (by simp;omega) _
  obtain⟨b0,b1,b2,b3,b4⟩:=id B
  obtain⟨a0,a1,a2,a3,a4⟩:=id C
  simp only [List.drop_succ_cons,List.drop_zero,Act.put,List.setIfInBounds_toArray,List.set_cons_succ,List.set_cons_zero]
  go_upto_region 2 with fail
  clear b0 b1 b2 b3 b4 a0 a1 a2 a3 a4 B C X
  generalize ((((W.setCell ⟨b,0,none⟩ (.float .f64 o.1)).setCell ⟨b,1,none⟩ (.float .f64 o.2)).setCell ⟨c,0,none⟩ (.float .f64 q.1)).setCell ⟨c,1,none⟩ (.float .f64 q.2))=V2 at *
  have hmf:∀(fn:Fn) (first cap:Array Value) (w:World),(Instr.makeFunc fn first cap).run Tryz.prog w=.ok (.func fn first cap) w:=fun _ _ _ _=>rfl
  go_wp2_with (first
   | (go_at_call 153;refine (c3 _).mono ?_;rintro _ V3 ⟨rfl,hb1⟩;replace Z:=Z.keep hb1;replace R:=R.keep hb1;replace D:=D.keep hb1;replace E:=E.keep hb1;replace HB:=later HB hb1;clear hb1)
   | (go_at_call 152;refine (c4 _ _ _ _ Z.1 Z.2 D E).mono ?_;rintro _ V4 ⟨rfl,hb1⟩;replace R:=R.keep hb1;replace HB:=later HB hb1;clear hb1;obtain⟨k0,k1,k2,k3,k4⟩:=id R))
  refine bodyPost_ret (v:=.agg #[.float .f64 s.1,.float .f64 s.2]) (by simp [results,Tryz.results211,go_sem, *]) rfl ⟨rfl, ?_⟩;repeat' (first | (with_reducible exact HB) | (with_reducible refine Below.setCell ?_ ?_ _) | go_size)
set_option maxHeartbeats 1000000 in
theorem taken_core (v f:Nat) (k:Int) (r o n p m l q s:Nat×Nat) (c1:∀w,Calls Tryz.prog 55 #[.float .f64 v] w fun e w'=>e=.returned (.agg #[.float .f64 o.1,.float .f64 o.2])/\Below w.heap.size w w') (c2:∀w,Calls Tryz.prog 155 #[.int .i64 k] w fun e w'=>e=.returned (.agg #[.float .f64 n.1,.float .f64 n.2])/\Below w.heap.size w w') (c3:∀w,Calls Tryz.prog 55 #[.float .f64 f] w fun e w'=>e=.returned (.agg #[.float .f64 p.1,.float .f64 p.2])/\Below w.heap.size w w') (c4:∀w,Calls Tryz.prog 54 #[.agg #[.float .f64 n.1,.float .f64 n.2],.agg #[.float .f64 p.1,.float .f64 p.2]] w fun e w'=>e=.returned (.agg #[.float .f64 m.1,.float .f64 m.2])/\Below w.heap.size w w') (c5:∀w,Calls Tryz.prog 56 #[.agg #[.float .f64 o.1,.float .f64 o.2],.agg #[.float .f64 m.1,.float .f64 m.2]] w fun e w'=>e=.returned (.agg #[.float .f64 l.1,.float .f64 l.2])/\Below w.heap.size w w') (c6:∀w,Calls Tryz.prog 54 #[.agg #[.float .f64 n.1,.float .f64 n.2],.agg #[.float .f64 r.1,.float .f64 r.2]] w fun e w'=>e=.returned (.agg #[.float .f64 q.1,.float .f64 q.2])/\Below w.heap.size w w') (c7:∀w,Calls Tryz.prog 56 #[.agg #[.float .f64 l.1,.float .f64 l.2],.agg #[.float .f64 q.1,.float .f64 q.2]] w fun e w'=>e=.returned (.agg #[.float .f64 s.1,.float .f64 s.2])/\Below w.heap.size w w') (w:World) :
  Calls Tryz.prog 102 #[.agg #[.float .f64 f,.float .f64 r.1,.float .f64 r.2],.float .f64 v,.int .i64 k] w fun e w'=>e=.returned (.agg #[.float .f64 s.1,.float .f64 s.2])/\Below w.heap.size w w':=by
 have X:Has3 ((w.alloc (.cells #[.float .f64 f,.float .f64 r.1,.float .f64 r.2] 104)).alloc (.cells #[.float .f64 0,.float .f64 0] 24)) w.heap.size (.float .f64 f) (.float .f64 r.1) (.float .f64 r.2):=⟨by go_simp,by go_simp,by go_simp,by go_simp,by go_simp,by go_simp,by go_size⟩
 have R:Has2 ((w.alloc (.cells #[.float .f64 f,.float .f64 r.1,.float .f64 r.2] 104)).alloc (.cells #[.float .f64 0,.float .f64 0] 24)) (w.heap.size+1) (.float .f64 0) (.float .f64 0):=⟨by go_simp,by go_simp,by go_simp,by go_simp,by go_size⟩
 have HB:Below w.heap.size w ((w.alloc (.cells #[.float .f64 f,.float .f64 r.1,.float .f64 r.2] 104)).alloc (.cells #[.float .f64 0,.float .f64 0] 24)):=by go_grown
 go_enter Tryz.func102,Tryz.ntmps102
 go_upto_region 1 with fail
 generalize ((w.alloc (.cells #[.float .f64 f,.float .f64 r.1,.float .f64 r.2] 104)).alloc (.cells #[.float .f64 0,.float .f64 0] 24))=V1 at *
 apply tail_alloc1 9 (by kernel_rfl) (by kernel_rfl) rfl
 ·intro W1 hW
  replace X:=X.keep hW
  have kX0:=fun n:Behind W1=>n.cell X.1 X.lt;have kX1:=fun n:Behind W1=>n.cell X.2.1 X.lt;have kX2:=fun n:Behind W1=>n.cell X.2.2.1 X.lt
  simp only [List.take_succ_cons,List.take_zero]
  repeat (go_big_quiet_step (first | (go_at_call 55;with_reducible refine Behind.call (c1 _)) | (go_at_call 155;with_reducible refine Behind.call (c2 _)) | (go_at_call 55;with_reducible refine Behind.call (c3 _)) | (go_at_call 54;with_reducible refine Behind.call (c4 _)) | (go_at_call 56;with_reducible refine Behind.call (c5 _))))
  exact wpQuiet_nil rfl
 intro b W hbb B hb1
 have sX:=X.lt
 have sR:=R.lt
 have sHB:=HB.size
 replace X:=X.keep hb1;replace R:=R.keep hb1;replace HB:=later HB hb1;clear hb1
 have D:=B.put (.float .f64 l.1) (.float .f64 l.2)
 replace X:=X.far2 (c:=b) (by omega) (.float .f64 l.1) (.float .f64 l.2)
 replace R:=R.far2 (c:=b) (by omega) (.float .f64 l.1) (.float .f64 l.2)
 replace HB:Below w.heap.size w ((W.setCell ⟨b,0,none⟩ (.float .f64 l.1)).setCell ⟨b,1,none⟩ (.float .f64 l.2)):=(HB.setCell (by simp;omega) _).setCell (by simp;omega) _
 obtain⟨bb0,bb1,bb2,bb3,bb4⟩:=id B
 simp only [List.drop_succ_cons,List.drop_zero,Act.put,List.setIfInBounds_toArray,List.set_cons_succ,List.set_cons_zero]
 go_upto_region 2 with fail
 clear bb0 bb1 bb2 bb3 bb4 B hbb sX sR sHB
 generalize ((W.setCell ⟨b,0,none⟩ (.float .f64 l.1)).setCell ⟨b,1,none⟩ (.float .f64 l.2))=V2 at *
 generalize b=bD at *
 have kX1:=fun n:Behind V2=>n.cell X.2.1 X.lt
 have kX2:=fun n:Behind V2=>n.cell X.2.2.1 X.lt
 have kD0:=fun n:Behind V2=>n.cell D.1 D.2.2.2.2;have kD1:=fun n:Behind V2=>n.cell D.2.1 D.2.2.2.2
 refine tail_behind 7 (by kernel_rfl) (by kernel_rfl) ?_
 simp only [List.take_succ_cons,List.take_zero,List.drop_succ_cons,List.drop_zero]
 repeat (go_big_quiet_step (first | (go_at_call 155;with_reducible refine Behind.call (c2 _)) | (go_at_call 54;with_reducible refine Behind.call (c6 _)) | (go_at_call 56;with_reducible refine Behind.call (c7 _))))
 refine wpQuiet_nil ?_
 rintro _ ⟨m',rfl⟩
 obtain⟨W,hb1⟩:=m'
 dsimp only
 clear kD0 kD1
 replace R:=R.keep hb1;replace HB:=later HB hb1;clear hb1
 clear kX1 kX2
 obtain⟨k0,k1,k2,k3,k4⟩:=id R
 go_wp2_with fail
 refine bodyPost_ret (v:=.agg #[.float .f64 s.1,.float .f64 s.2]) (by simp [results,Tryz.results102,go_sem, *]) rfl ⟨rfl, ?_⟩;repeat' (first | (with_reducible exact HB) | (with_reducible refine Below.setCell ?_ ?_ _) | go_size)
set_option maxHeartbeats 1000000 in
theorem putto_core (x:Nat×Nat) (f:Nat) (k:Int) (r n p m l q s:Nat×Nat) (c2:∀w,Calls Tryz.prog 155 #[.int .i64 k] w fun e w'=>e=.returned (.agg #[.float .f64 n.1,.float .f64 n.2])/\Below w.heap.size w w') (c3:∀w,Calls Tryz.prog 54 #[.agg #[.float .f64 n.1,.float .f64 n.2],.agg #[.float .f64 r.1,.float .f64 r.2]] w fun e w'=>e=.returned (.agg #[.float .f64 q.1,.float .f64 q.2])/\Below w.heap.size w w') (c4:∀w,Calls Tryz.prog 61 #[.agg #[.float .f64 x.1,.float .f64 x.2],.agg #[.float .f64 q.1,.float .f64 q.2]] w fun e w'=>e=.returned (.agg #[.float .f64 l.1,.float .f64 l.2])/\Below w.heap.size w w') (c5:∀w,Calls Tryz.prog 55 #[.float .f64 f] w fun e w'=>e=.returned (.agg #[.float .f64 p.1,.float .f64 p.2])/\Below w.heap.size w w') (c6:∀w,Calls Tryz.prog 54 #[.agg #[.float .f64 n.1,.float .f64 n.2],.agg #[.float .f64 p.1,.float .f64 p.2]] w fun e w'=>e=.returned (.agg #[.float .f64 m.1,.float .f64 m.2])/\Below w.heap.size w w') (c7:∀w,Calls Tryz.prog 61 #[.agg #[.float .f64 l.1,.float .f64 l.2],.agg #[.float .f64 m.1,.float .f64 m.2]] w fun e w'=>e=.returned (.agg #[.float .f64 s.1,.float .f64 s.2])/\Below w.heap.size w w') (w:World) :
  Calls Tryz.prog 270 #[.agg #[.float .f64 f,.float .f64 r.1,.float .f64 r.2],.agg #[.float .f64 x.1,.float .f64 x.2],.int .i64 k] w fun e w'=>e=.returned (.agg #[.float .f64 s.1,.float .f64 s.2])/\Below w.heap.size w w':=by
 have X:Has3 (((w.alloc (.cells #[.float .f64 f,.float .f64 r.1,.float .f64 r.2] 104)).alloc (.cells #[.float .f64 x.1,.float .f64 x.2] 24)).alloc (.cells #[.float .f64 0,.float .f64 0] 24)) w.heap.size (.float .f64 f) (.float .f64 r.1) (.float .f64 r.2):=⟨by go_simp,by go_simp,by go_simp,by go_simp,by go_simp,by go_simp,by go_size⟩
 have Y:Has2 (((w.alloc (.cells #[.float .f64 f,.float .f64 r.1,.float .f64 r.2] 104)).alloc (.cells #[.float .f64 x.1,.float .f64 x.2] 24)).alloc (.cells #[.float .f64 0,.float .f64 0] 24)) (w.heap.size+1) (.float .f64 x.1) (.float .f64 x.2):=⟨by go_simp,by go_simp,by go_simp,by go_simp,by go_size⟩
 have R:Has2 (((w.alloc (.cells #[.float .f64 f,.float .f64 r.1,.float .f64 r.2] 104)).alloc (.cells #[.float .f64 x.1,.float .f64 x.2] 24)).alloc (.cells #[.float .f64 0,.float .f64 0] 24)) (w.heap.size+1+1) (.float .f64 0) (.float .f64 0):=⟨by go_simp,by go_simp,by go_simp,by go_simp,by go_size⟩
 have HB:Below w.heap.size w (((w.alloc (.cells #[.float .f64 f,.float .f64 r.1,.float .f64 r.2] 104)).alloc (.cells #[.float .f64 x.1,.float .f64 x.2] 24)).alloc (.cells #[.float .f64 0,.float .f64 0] 24)):=by go_grown
 go_enter Tryz.func270,Tryz.ntmps270
 go_upto_region 1 with fail
 generalize (((w.alloc (.cells #[.float .f64 f,.float .f64 r.1,.float .f64 r.2] 104)).alloc (.cells #[.float .f64 x.1,.float .f64 x.2] 24)).alloc (.cells #[.float .f64 0,.float .f64 0] 24))=V1 at *
 apply tail_alloc1 7 (by kernel_rfl) (by kernel_rfl) rfl
 ·intro W1 hW
  replace X:=X.keep hW
  replace Y:=Y.keep hW
  have kY0:=fun n:Behind W1=>n.cell Y.1 Y.2.2.2.2;have kY1:=fun n:Behind W1=>n.cell Y.2.1 Y.2.2.2.2
  have kX0:=fun n:Behind W1=>n.cell X.1 X.lt;have kX1:=fun n:Behind W1=>n.cell X.2.1 X.lt;have kX2:=fun n:Behind W1=>n.cell X.2.2.1 X.lt
  simp only [List.take_succ_cons,List.take_zero]
  repeat (go_big_quiet_step (first | (go_at_call 155;with_reducible refine Behind.call (c2 _)) | (go_at_call 54;with_reducible refine Behind.call (c3 _)) | (go_at_call 61;with_reducible refine Behind.call (c4 _))))
  exact wpQuiet_nil rfl
 intro b W hbb B hb1
 have sX:=X.lt
 have sR:=R.lt
 have sHB:=HB.size
 replace X:=X.keep hb1;replace R:=R.keep hb1;replace HB:=later HB hb1;clear hb1
 have D:=B.put (.float .f64 l.1) (.float .f64 l.2)
 replace X:=X.far2 (c:=b) (by omega) (.float .f64 l.1) (.float .f64 l.2)
 replace R:=R.far2 (c:=b) (by omega) (.float .f64 l.1) (.float .f64 l.2)
 replace HB:Below w.heap.size w ((W.setCell ⟨b,0,none⟩ (.float .f64 l.1)).setCell ⟨b,1,none⟩ (.float .f64 l.2)):=(HB.setCell (by simp;omega) _).setCell (by simp;omega) _
 obtain⟨bb0,bb1,bb2,bb3,bb4⟩:=id B
 simp only [List.drop_succ_cons,List.drop_zero,Act.put,List.setIfInBounds_toArray,List.set_cons_succ,List.set_cons_zero]
 go_upto_region 2 with fail
 clear bb0 bb1 bb2 bb3 bb4 B hbb sX sR sHB
 generalize ((W.setCell ⟨b,0,none⟩ (.float .f64 l.1)).setCell ⟨b,1,none⟩ (.float .f64 l.2))=V2 at *
 generalize b=bD at *
 have kX0:=fun n:Behind V2=>n.cell X.1 X.lt
 have kD0:=fun n:Behind V2=>n.cell D.1 D.2.2.2.2;have kD1:=fun n:Behind V2=>n.cell D.2.1 D.2.2.2.2
 refine tail_behind 8 (by kernel_rfl) (by kernel_rfl) ?_
 simp only [List.take_succ_cons,List.take_zero,List.drop_succ_cons,List.drop_zero]
 repeat (go_big_quiet_step (first | (go_at_call 155;with_reducible refine Behind.call (c2 _)) | (go_at_call 55;with_reducible refine Behind.call (c5 _)) | (go_at_call 54;with_reducible refine Behind.call (c6 _)) | (go_at_call 61;with_reducible refine Behind.call (c7 _))))
 refine wpQuiet_nil ?_
 rintro _ ⟨m',rfl⟩
 obtain⟨W,hb1⟩:=m'
 dsimp only
 clear kD0 kD1
 replace R:=R.keep hb1;replace HB:=later HB hb1;clear hb1
 clear kX0
 obtain⟨k0,k1,k2,k3,k4⟩:=id R
 go_wp2_with fail
 refine bodyPost_ret (v:=.agg #[.float .f64 s.1,.float .f64 s.2]) (by simp [results,Tryz.results270,go_sem, *]) rfl ⟨rfl, ?_⟩;repeat' (first | (with_reducible exact HB) | (with_reducible refine Below.setCell ?_ ?_ _) | go_size)
def turnF (o q:Nat×Nat) (f:Int) (i:Nat) (t:Nat×Nat):Nat×Nat:=subQ o (divQ (mulQ q t) (wholeQ ((2*(i:Int)+f+1)*(2*(i:Int)+f+2))))
theorem turnF_W2 {o q t:Nat×Nat} {f:Int} {i:Nat} (ho:W2 o) (hq:W2 q) (ht:W2 t):W2 (turnF o q f i t):=subQ_W2 ho (divQ_W2 (mulQ_W2 hq ht) (wholeQ_W2 _))
def turnS (o t r:Nat×Nat) (f:Int):Nat×Nat:=serS (turnF o (sqrQ r) f) t 10 0
theorem turnS_W2 {o t r:Nat×Nat} {f:Int} (ho:W2 o) (ht:W2 t) (hr:W2 r):W2 (turnS o t r f):=serS_lt W2 ht (fun _ _ hx=>turnF_W2 ho (sqrQ_W2 hr) hx) 10 0
theorem turn_ser {o t r:Nat×Nat} (ho:W2 o) (ht:W2 t) (hr:W2 r) (f:Int) (hf:f=0\/f=1) (c1:∀w,Calls Tryz.prog 55 #[.float .f64 4607182418800017408] w fun e w'=>e=.returned (.agg #[.float .f64 o.1,.float .f64 o.2])/\Below w.heap.size w w') (c3:∀w,Calls Tryz.prog 153 #[] w fun e w'=>e=.returned (.agg #[.float .f64 t.1,.float .f64 t.2])/\Below w.heap.size w w') (w:World):Calls Tryz.prog 211 #[.agg #[.float .f64 r.1,.float .f64 r.2],.int .i64 f] w fun e w'=>e=.returned (.agg #[.float .f64 (turnS o t r f).1,.float .f64 (turnS o t r f).2])/\Below w.heap.size w w':=by
 refine turn_core r o (sqrQ r) t _ f c1 (fun w=>cSqr hr w) c3 (fun z a b W hz hzl hA hB=>?_) w
 have L:∀i,W2 (serS (turnF o (sqrQ r) f) t 10 i):=fun i=>serS_lt W2 ht (fun _ _ hx=>turnF_W2 ho (sqrQ_W2 hr) hx) 10 i
 have E:=ser_turn (serS (turnF o (sqrQ r) f) t 10) 10 z a b (by omega) W (fun i hi W' hb=>by
  have Lt:=L (i+1)
  rw [serS_step _ _ 10 i hi]
  generalize serS (turnF o (sqrQ r) f) t 10 (i+1)=x at *
  have hm:0<=(2*(i:Int)+f+1)*(2*(i:Int)+f+2)/\(2*(i:Int)+f+1)*(2*(i:Int)+f+2)<100000000:=by
   have m1:=Int.mul_nonneg (show 0<=2*(i:Int)+f+1 by omega) (show 0<=2*(i:Int)+f+2 by omega)
   have m2:=Int.mul_le_mul (show 2*(i:Int)+f+1<=100 by omega) (show 2*(i:Int)+f+2<=100 by omega) (by omega) (by omega)
   exact⟨m1,by omega⟩
  exact turn_step o.1 o.2 (sqrQ r).1 (sqrQ r).2 x.1 x.2 _ _ _ (turnF o (sqrQ r) f i x) (i:Int) f (by omega) (by omega) (by omega) (by omega) (fun w=>cWhole _ w) (fun w=>cMul (sqrQ_W2 hr) Lt w) (fun w=>cDiv (mulQ_W2 (sqrQ_W2 hr) Lt) (wholeQ_W2 _) w) (fun w=>cSub ho (divQ_W2 (mulQ_W2 (sqrQ_W2 hr) Lt) (wholeQ_W2 _)) w) z a b W' ((hb.cell hzl).trans hz) (Nat.lt_of_lt_of_le hzl hb.size) hm (hA.keep hb) (hB.keep hb))
 rw [serS_end] at E
 exact E
def turnQ (r:Nat×Nat) (f:Int):Nat×Nat:=turnS (ptQ 4607182418800017408) (mkQ 4602678819172646912 4609434218613702656) r f
theorem cTurned {r:Nat×Nat} (hr:W2 r) (f:Int) (hf:f=0\/f=1) (w:World):Calls Tryz.prog 211 #[.agg #[.float .f64 r.1,.float .f64 r.2],.int .i64 f] w fun e w'=>e=.returned (.agg #[.float .f64 (turnQ r f).1,.float .f64 (turnQ r f).2])/\Below w.heap.size w w' :=
 turn_ser (ptQ_W2 (by omega)) (mkQ_W2 (by omega) (by omega)) hr f hf (fun w=>cPoint (by omega) w) (fun w=>cNear1 w) w
theorem turnQ_W2 {r:Nat×Nat} (hr:W2 r) (f:Int):W2 (turnQ r f):=turnS_W2 (ptQ_W2 (by omega)) (mkQ_W2 (by omega) (by omega)) hr
set_option maxHeartbeats 1000000 in
theorem sinz_core (r t s:Nat×Nat) (c1:∀w,Calls Tryz.prog 211 #[.agg #[.float .f64 r.1,.float .f64 r.2],.int .i64 1] w fun e w'=>e=.returned (.agg #[.float .f64 t.1,.float .f64 t.2])/\Below w.heap.size w w') (c2:∀w,Calls Tryz.prog 54 #[.agg #[.float .f64 r.1,.float .f64 r.2],.agg #[.float .f64 t.1,.float .f64 t.2]] w fun e w'=>e=.returned (.agg #[.float .f64 s.1,.float .f64 s.2])/\Below w.heap.size w w') (w:World):Calls Tryz.prog 162 #[.agg #[.float .f64 r.1,.float .f64 r.2]] w fun e w'=>e=.returned (.agg #[.float .f64 s.1,.float .f64 s.2])/\Below w.heap.size w w':=by
 obtain⟨X,R,HB⟩:=enter1 w (.float .f64 r.1) (.float .f64 r.2) 24
 go_enter Tryz.func162,Tryz.ntmps162
 go_upto_region 1 with fail
 generalize (w.alloc (.cells #[.float .f64 r.1,.float .f64 r.2] 24)).alloc (.cells #[.float .f64 0,.float .f64 0] 24)=V1 at *
 have kX0:=fun n:Behind V1=>n.cell X.1 X.2.2.2.2;have kX1:=fun n:Behind V1=>n.cell X.2.1 X.2.2.2.2
 refine tail_behind 4 (by kernel_rfl) (by kernel_rfl) ?_
 simp only [List.take_succ_cons,List.take_zero,List.drop_succ_cons,List.drop_zero]
 repeat (go_big_quiet_step (first | (go_at_call 211;with_reducible refine Behind.call (c1 _)) | (go_at_call 54;with_reducible refine Behind.call (c2 _))))
 refine wpQuiet_nil ?_
 rintro _ ⟨m',rfl⟩
 obtain⟨W,hb1⟩:=m'
 dsimp only
 clear kX0 kX1
 replace R:=R.keep hb1;replace HB:=later HB hb1;clear hb1
 obtain⟨k0,k1,k2,k3,k4⟩:=id R
 go_wp2_with fail
 refine bodyPost_ret (v:=.agg #[.float .f64 s.1,.float .f64 s.2]) (by simp [results,Tryz.results162,go_sem, *]) rfl ⟨rfl, ?_⟩;repeat' (first | (with_reducible exact HB) | (with_reducible refine Below.setCell ?_ ?_ _) | go_size)
set_option maxHeartbeats 1000000 in
theorem cosz_core (r s:Nat×Nat) (c1:∀w,Calls Tryz.prog 211 #[.agg #[.float .f64 r.1,.float .f64 r.2],.int .i64 0] w fun e w'=>e=.returned (.agg #[.float .f64 s.1,.float .f64 s.2])/\Below w.heap.size w w') (w:World):Calls Tryz.prog 163 #[.agg #[.float .f64 r.1,.float .f64 r.2]] w fun e w'=>e=.returned (.agg #[.float .f64 s.1,.float .f64 s.2])/\Below w.heap.size w w':=by
 obtain⟨X,R,HB⟩:=enter1 w (.float .f64 r.1) (.float .f64 r.2) 24
 go_enter Tryz.func163,Tryz.ntmps163
 go_upto_region 1 with fail
 generalize (w.alloc (.cells #[.float .f64 r.1,.float .f64 r.2] 24)).alloc (.cells #[.float .f64 0,.float .f64 0] 24)=V1 at *
 obtain⟨x0,x1,x2,x3,x4⟩:=id X
 go_wp2_with (go_at_call 211;refine (c1 _).mono ?_;rintro _ V3 ⟨rfl,hb1⟩;replace R:=R.keep hb1;replace HB:=later HB hb1;clear hb1;obtain⟨k0,k1,k2,k3,k4⟩:=id R)
 refine bodyPost_ret (v:=.agg #[.float .f64 s.1,.float .f64 s.2]) (by simp [results,Tryz.results163,go_sem, *]) rfl ⟨rfl, ?_⟩;repeat' (first | (with_reducible exact HB) | (with_reducible refine Below.setCell ?_ ?_ _) | go_size)
def sinzQ (r:Nat×Nat):Nat×Nat:=mulQ r (turnQ r 1)
def coszQ (r:Nat×Nat):Nat×Nat:=turnQ r 0
theorem sinzQ_W2 {r:Nat×Nat} (hr:W2 r):W2 (sinzQ r):=mulQ_W2 hr (turnQ_W2 hr 1)
theorem coszQ_W2 {r:Nat×Nat} (hr:W2 r):W2 (coszQ r):=turnQ_W2 hr 0
theorem cSinz {r:Nat×Nat} (hr:W2 r) (w:World):Calls Tryz.prog 162 #[.agg #[.float .f64 r.1,.float .f64 r.2]] w fun e w'=>e=.returned (.agg #[.float .f64 (sinzQ r).1,.float .f64 (sinzQ r).2])/\Below w.heap.size w w':=sinz_core r _ _ (fun w=>cTurned hr 1 (Or.inr rfl) w) (fun w=>cMul hr (turnQ_W2 hr 1) w) w
theorem cCosz {r:Nat×Nat} (hr:W2 r) (w:World):Calls Tryz.prog 163 #[.agg #[.float .f64 r.1,.float .f64 r.2]] w fun e w'=>e=.returned (.agg #[.float .f64 (coszQ r).1,.float .f64 (coszQ r).2])/\Below w.heap.size w w':=cosz_core r _ (fun w=>cTurned hr 0 (Or.inl rfl) w) w
theorem i64_and3 (n:Int):bits .and .i64 n 3=n%4:=by
 show IntKind.i64.wrap ((BitVec.ofInt 64 n &&& BitVec.ofInt 64 3).toNat:Nat)=_
 rw [BitVec.toNat_and,show (BitVec.ofInt 64 3).toNat=2^2-1 from rfl,Nat.and_two_pow_sub_one_eq_mod,BitVec.toNat_ofInt,IntKind.wrap_i64]
 omega
set_option maxHeartbeats 1000000 in
theorem mayPass_core (x n:Nat×Nat) (p f l c:Int) (hp:-100<=p/\p<=100) (hf:-10000000000000000<=f/\f<=10000000000000000) (hc:0<=c/\c<=3) (ha:bits .and .i64 (p-f) 3=c) (b:Bool) (hb:decide (f+c<=l)=b) (c1:∀w,Calls Tryz.prog 160 #[.agg #[.float .f64 x.1,.float .f64 x.2]] w fun e w'=>e=.returned (.agg #[.float .f64 n.1,.float .f64 n.2])/\Below w.heap.size w w')
  (c2:∀w,Calls Tryz.prog 164 #[.float .f64 n.1] w fun e w'=>e=.returned (.int .i64 f)/\w=w') (c3:∀w,Calls Tryz.prog 149 #[.float .f64 n.2] w fun e w'=>e=.returned (.int .i64 l)/\w=w') (w:World):Calls Tryz.prog 112 #[.agg #[.float .f64 x.1,.float .f64 x.2],.int .i64 p] w fun e w'=>e=.returned (.bool b)/\Below w.heap.size w w':=by
 go_enter Tryz.func112,Tryz.ntmps112
 go_upto_region 2 with (go_at_call 160;refine (c1 _).mono ?_;rintro _ V1 ⟨rfl,hb1⟩;have HB:Below w.heap.size w V1:=later (by go_grown) hb1;clear hb1)
 have D:Has2 (V1.alloc (.cells #[.float .f64 n.1,.float .f64 n.2] 24)) V1.heap.size (.float .f64 n.1) (.float .f64 n.2):=has2_new _ _ _ _
 have hb1:Below V1.heap.size V1 (V1.alloc (.cells #[.float .f64 n.1,.float .f64 n.2] 24)):=by go_grown
 replace HB:=later HB hb1
 clear hb1 c1
 generalize V1.alloc (.cells #[.float .f64 n.1,.float .f64 n.2] 24)=V2 at *
 generalize V1.heap.size=d at *
 have kD0:=fun n:Behind V2=>n.cell D.1 D.2.2.2.2;have kD1:=fun n:Behind V2=>n.cell D.2.1 D.2.2.2.2
 refine region_behind (by kernel_rfl) (by kernel_rfl) ?_
 repeat (go_big_quiet_step (first | (go_at_call 164;with_reducible refine Behind.same (c2 _)) | (go_at_call 149;with_reducible refine Behind.same (c3 _))))
 refine wpQuiet_nil ?_
 rintro _ ⟨m',rfl⟩
 obtain⟨W,hb1⟩:=m'
 dsimp only
 clear kD0 kD1
 replace HB:=later HB hb1
 go_wp2_with fail
 go_ret
 subst hb
 exact⟨rfl,HB⟩
theorem pt_in {v u1 u2:Nat} (hv:v<18446744073709551616) (nv:nanB v=false) (fl:-9218868437227405312<key v) (fh:key v<9218868437227405312) (T:Some2 u1 u2) (b1:u1<18446744073709551616) (b2:u2<18446744073709551616) (k1:key u1<=key v) (k2:key v<=key u2):In (ptQ v).1 (ptQ v).2 u1 u2:=by
 have hz:pz v≠9223372036854775808:=by unfold pz;split <;> omega
 have nz:nanB (pz v)=false:=by
  unfold pz
  split
  ·decide
  ·exact nv
 have S:Some2 (pz v) (pz v):=⟨nz,nz,Int.le_refl _,by rw [key_pz];exact fh,by rw [key_pz];exact fl,hz,hz⟩
 have e:ptQ v=(pz v,pz v):=by
  unfold ptQ mkQ makeP
  rw [if_pos (hs_iff.2 S)]
 rw [e]
 exact⟨S,T,by rw [key_pz];exact k1,by rw [key_pz];exact k2,pz_lt hv,pz_lt hv,b1,b2⟩
theorem word_of_key {x:Nat} {B:Int} (hx:x<18446744073709551616) (h1:-B<=key x) (h2:key x<=B):((x%9223372036854775808:Nat):Int)<=B:=by
 unfold key at h1 h2
 split at h1 <;> omega
theorem midP_word (lo hi:Nat) (hl:lo<18446744073709551616) (hh:hi<18446744073709551616):midP lo hi<18446744073709551616:=by
 unfold midP
 have a:=(midM_facts lo hi).2.2
 have b:midLo lo<18446744073709551616:=by unfold midLo;rcases (maxW_key lo 18442240474082181119).2 with c | c <;> rw [c] <;> omega
 have c:midHi hi<18446744073709551616:=by unfold midHi;rcases (minW_key hi 9218868437227405311).2 with c | c <;> rw [c] <;> omega
 split
 ·split
  ·exact b
  ·split
   ·exact c
   ·exact a
 ·omega
theorem pick_between {a m l h B:Int} (h1:-B<=l/\l<=B) (h2:-B<=h/\h<=B) (ha:a=l\/a=h\/(a=m/\l<=m/\m<=h)):-B<=a/\a<=B:=by omega
theorem midP_ways {lo hi:Nat} (hs:hsB lo hi=true):key (midP lo hi)=key (midLo lo)\/key (midP lo hi)=key (midHi hi)\/(key (midP lo hi)=key (midM lo hi)/\key (midLo lo)<=key (midM lo hi)/\key (midM lo hi)<=key (midHi hi)):=by
 unfold midP
 rw [if_pos hs]
 generalize midM lo hi=m
 generalize midLo lo=l
 generalize midHi hi=h
 split
 ·exact Or.inl rfl
 ·split
  ·exact Or.inr (Or.inl rfl)
  ·exact Or.inr (Or.inr ⟨rfl,by omega,by omega⟩)
theorem mid_ends_in {lo hi:Nat} {B:Int} (le:key lo<=key hi) (a:-B<=key lo) (b:key hi<=B):(-B<=key (midLo lo)/\key (midLo lo)<=B)/\(-B<=key (midHi hi)/\key (midHi hi)<=B):=by
 have m1:=(maxW_key lo 18442240474082181119).1
 have m2:=(minW_key hi 9218868437227405311).1
 have k3:key 18442240474082181119=-9218868437227405311:=by decide
 have k4:key 9218868437227405311=9218868437227405311:=by decide
 unfold midLo midHi
 rw [m1,m2,k3,k4]
 generalize key lo=x at *
 generalize key hi=y at *
 omega
theorem mid_bound {p q:Nat×Nat} {B:Int} (hB:0<=B/\B<=9218868437227405311) (hp:W2 p) (h:Gr p q) (k1:-B<=key q.1) (k2:key q.2<=B):((midQ p%9223372036854775808:Nat):Int)<=B:=by
 have wd:=midP_word p.1 p.2 hp.1 hp.2
 have fin:-B<=key (midQ p)/\key (midQ p)<=B:=by
  rcases h with ⟨e, -⟩ | ⟨S,T,a,b⟩
  ·have:midQ p=0:=by
    unfold midQ midP
    rw [e,if_neg (by rw [empty_some];simp)]
   rw [this]
   have:key 0=0:=by decide
   omega
  ·have E:=mid_ends_in S.le (Int.le_trans k1 a) (Int.le_trans b k2)
   exact pick_between E.1 E.2 (midP_ways (hs_iff.2 S))
 exact word_of_key wd fin.1 fin.2
def takenQ (f:Nat) (r:Nat×Nat) (v:Nat) (k:Int):Nat×Nat:=subQ (subQ (ptQ v) (mulQ (wholeQ k) (ptQ f))) (mulQ (wholeQ k) r)
theorem takenQ_W2 {f v:Nat} {r:Nat×Nat} {k:Int} (hf:f<18446744073709551616) (hv:v<18446744073709551616) (hr:W2 r):W2 (takenQ f r v k):=subQ_W2 (subQ_W2 (ptQ_W2 hv) (mulQ_W2 (wholeQ_W2 k) (ptQ_W2 hf))) (mulQ_W2 (wholeQ_W2 k) hr)
theorem cTaken {f v:Nat} {r:Nat×Nat} (k:Int) (hf:f<18446744073709551616) (hv:v<18446744073709551616) (hr:W2 r) (w:World):Calls Tryz.prog 102 #[.agg #[.float .f64 f,.float .f64 r.1,.float .f64 r.2],.float .f64 v,.int .i64 k] w fun e w'=>e=.returned (.agg #[.float .f64 (takenQ f r v k).1,.float .f64 (takenQ f r v k).2])/\Below w.heap.size w w' :=
 taken_core v f k r _ _ _ _ _ _ _ (fun w=>cPoint hv w) (fun w=>cWhole k w) (fun w=>cPoint hf w) (fun w=>cMul (wholeQ_W2 k) (ptQ_W2 hf) w) (fun w=>cSub (ptQ_W2 hv) (mulQ_W2 (wholeQ_W2 k) (ptQ_W2 hf)) w) (fun w=>cMul (wholeQ_W2 k) hr w) (fun w=>cSub (subQ_W2 (ptQ_W2 hv) (mulQ_W2 (wholeQ_W2 k) (ptQ_W2 hf))) (mulQ_W2 (wholeQ_W2 k) hr) w) w
def selQ (c:Int) (s1 s2 s3 s4:Nat×Nat):Nat×Nat:=if c=0 then s1 else if c=1 then s2 else if c=2 then s3 else s4
set_option maxHeartbeats 1000000 in
theorem waveAt_core (v f:Nat) (a k c:Int) (p q m r s1 s2 s3 s4:Nat×Nat) (ha:0<=a/\a<=3) (hk:-9007199254740993<=k/\k<=9007199254740992) (hand:bits .and .i64 (k+a) 3=c) (hc:c=0\/c=1\/c=2\/c=3)
  (c1:∀w,Calls Tryz.prog 55 #[.float .f64 v] w fun e w'=>e=.returned (.agg #[.float .f64 p.1,.float .f64 p.2])/\Below w.heap.size w w') (c2:∀w,Calls Tryz.prog 160 #[.agg #[.float .f64 p.1,.float .f64 p.2]] w fun e w'=>e=.returned (.agg #[.float .f64 q.1,.float .f64 q.2])/\Below w.heap.size w w') (c3:∀w,Calls Tryz.prog 98 #[.agg #[.float .f64 q.1,.float .f64 q.2]] w fun e w'=>e=.returned (.int .i64 k)/\Below w.heap.size w w') (c4:∀w,Calls Tryz.prog 161 #[] w fun e w'=>e=.returned (.agg #[.float .f64 f,.float .f64 m.1,.float .f64 m.2])/\Below w.heap.size w w') (c5:∀w,Calls Tryz.prog 102 #[.agg #[.float .f64 f,.float .f64 m.1,.float .f64 m.2],.float .f64 v,.int .i64 k] w fun e w'=>e=.returned (.agg #[.float .f64 r.1,.float .f64 r.2])/\Below w.heap.size w w')
  (c6:∀w,Calls Tryz.prog 162 #[.agg #[.float .f64 r.1,.float .f64 r.2]] w fun e w'=>e=.returned (.agg #[.float .f64 s1.1,.float .f64 s1.2])/\Below w.heap.size w w') (c7:∀w,Calls Tryz.prog 163 #[.agg #[.float .f64 r.1,.float .f64 r.2]] w fun e w'=>e=.returned (.agg #[.float .f64 s2.1,.float .f64 s2.2])/\Below w.heap.size w w') (c8:∀w,Calls Tryz.prog 57 #[.agg #[.float .f64 s1.1,.float .f64 s1.2]] w fun e w'=>e=.returned (.agg #[.float .f64 s3.1,.float .f64 s3.2])/\Below w.heap.size w w') (c9:∀w,Calls Tryz.prog 57 #[.agg #[.float .f64 s2.1,.float .f64 s2.2]] w fun e w'=>e=.returned (.agg #[.float .f64 s4.1,.float .f64 s4.2])/\Below w.heap.size w w') (w:World):Calls Tryz.prog 111 #[.float .f64 v,.int .i64 a] w fun e w'=>e=.returned (.agg #[.float .f64 (selQ c s1 s2 s3 s4).1,.float .f64 (selQ c s1 s2 s3 s4).2])/\Below w.heap.size w w':=by
 have R:Has2 (w.alloc (.cells #[.float .f64 0,.float .f64 0] 24)) w.heap.size (.float .f64 0) (.float .f64 0):=has2_new _ _ _ _
 have HB:Below w.heap.size w (w.alloc (.cells #[.float .f64 0,.float .f64 0] 24)):=by go_grown
 go_enter Tryz.func111,Tryz.ntmps111
 go_upto_region 3 with (first | (go_at_call 55;with_reducible refine (c1 _).mono ?_;rintro _ VV ⟨rfl,hb1⟩;replace R:=R.keep hb1;replace HB:=later HB hb1;clear hb1) | (go_at_call 160;with_reducible refine (c2 _).mono ?_;rintro _ VV ⟨rfl,hb1⟩;replace R:=R.keep hb1;replace HB:=later HB hb1;clear hb1) | (go_at_call 98;with_reducible refine (c3 _).mono ?_;rintro _ VV ⟨rfl,hb1⟩;replace R:=R.keep hb1;replace HB:=later HB hb1;clear hb1) | (go_at_call 161;with_reducible refine (c4 _).mono ?_;rintro _ VV ⟨rfl,hb1⟩;replace R:=R.keep hb1;replace HB:=later HB hb1;clear hb1) | (go_at_call 102;with_reducible refine (c5 _).mono ?_;rintro _ VV ⟨rfl,hb1⟩;replace R:=R.keep hb1;replace HB:=later HB hb1;clear hb1))
 have D:Has2 (VV.alloc (.cells #[.float .f64 r.1,.float .f64 r.2] 24)) VV.heap.size (.float .f64 r.1) (.float .f64 r.2):=has2_new _ _ _ _
 have hb1:Below VV.heap.size VV (VV.alloc (.cells #[.float .f64 r.1,.float .f64 r.2] 24)):=by go_grown
 replace R:=R.keep hb1;replace HB:=later HB hb1;clear hb1
 clear c1 c2 c3 c4 c5
 generalize VV.alloc (.cells #[.float .f64 r.1,.float .f64 r.2] 24)=V2 at *
 generalize VV.heap.size=d at *
 obtain⟨d0,d1,d2,d3,d4⟩:=id D
 rcases hc with rfl | rfl | rfl | rfl
 ·go_wp2_with (go_at_call 162;refine (c6 _).mono ?_;rintro _ V3 ⟨rfl,hb1⟩;replace R:=R.keep hb1;replace HB:=later HB hb1;clear hb1;obtain⟨k0,k1,k2,k3,k4⟩:=id R)
  refine bodyPost_ret (v:=.agg #[.float .f64 s1.1,.float .f64 s1.2]) (by simp [results,Tryz.results111,go_sem, *]) rfl ⟨rfl, ?_⟩;repeat' (first | (with_reducible exact HB) | (with_reducible refine Below.setCell ?_ ?_ _) | go_size)
 ·go_wp2_with (go_at_call 163;refine (c7 _).mono ?_;rintro _ V3 ⟨rfl,hb1⟩;replace R:=R.keep hb1;replace HB:=later HB hb1;clear hb1;obtain⟨k0,k1,k2,k3,k4⟩:=id R)
  refine bodyPost_ret (v:=.agg #[.float .f64 s2.1,.float .f64 s2.2]) (by simp [results,Tryz.results111,go_sem, *]) rfl ⟨rfl, ?_⟩;repeat' (first | (with_reducible exact HB) | (with_reducible refine Below.setCell ?_ ?_ _) | go_size)
 ·go_wp2_with (first
   | (go_at_call 162;refine (c6 _).mono ?_;rintro _ VV ⟨rfl,hb1⟩;replace R:=R.keep hb1;replace HB:=later HB hb1;clear hb1)
   | (go_at_call 57;refine (c8 _).mono ?_;rintro _ V3 ⟨rfl,hb1⟩;replace R:=R.keep hb1;replace HB:=later HB hb1;clear hb1;obtain⟨k0,k1,k2,k3,k4⟩:=id R))
  refine bodyPost_ret (v:=.agg #[.float .f64 s3.1,.float .f64 s3.2]) (by simp [results,Tryz.results111,go_sem, *]) rfl ⟨rfl, ?_⟩;repeat' (first | (with_reducible exact HB) | (with_reducible refine Below.setCell ?_ ?_ _) | go_size)
 ·go_wp2_with (first
   | (go_at_call 163;refine (c7 _).mono ?_;rintro _ VV ⟨rfl,hb1⟩;replace R:=R.keep hb1;replace HB:=later HB hb1;clear hb1)
   | (go_at_call 57;refine (c9 _).mono ?_;rintro _ V3 ⟨rfl,hb1⟩;replace R:=R.keep hb1;replace HB:=later HB hb1;clear hb1;obtain⟨k0,k1,k2,k3,k4⟩:=id R))
  refine bodyPost_ret (v:=.agg #[.float .f64 s4.1,.float .f64 s4.2]) (by simp [results,Tryz.results111,go_sem, *]) rfl ⟨rfl, ?_⟩;repeat' (first | (with_reducible exact HB) | (with_reducible refine Below.setCell ?_ ?_ _) | go_size)
def restHalfQ:Nat×Nat:=mkQ 4454258360616903473 4454258360616903474
theorem cFineHalf (w:World):Calls Tryz.prog 161 #[] w fun e w'=>e=.returned (.agg #[.float .f64 4609753056924401664,.float .f64 restHalfQ.1,.float .f64 restHalfQ.2])/\Below w.heap.size w w':=fineHalf_core _ (fun w=>cMake (by omega) (by omega) w) w
theorem restHalfQ_W2:W2 restHalfQ:=mkQ_W2 (by omega) (by omega)
def waveKI (v:Nat):Int:=nearI (quartQ (ptQ v))
def waveRQ (v:Nat):Nat×Nat:=takenQ 4609753056924401664 restHalfQ v (waveKI v)
def waveAtQ (v:Nat) (a:Int):Nat×Nat:=selQ ((waveKI v+a)%4) (sinzQ (waveRQ v)) (coszQ (waveRQ v)) (negQ (sinzQ (waveRQ v))) (negQ (coszQ (waveRQ v)))
theorem selQ_W2 {c:Int} {s1 s2 s3 s4:Nat×Nat} (h1:W2 s1) (h2:W2 s2) (h3:W2 s3) (h4:W2 s4):W2 (selQ c s1 s2 s3 s4):=by
 unfold selQ
 split
 ·exact h1
 ·split
  ·exact h2
  ·split
   ·exact h3
   ·exact h4
theorem waveRQ_W2 {v:Nat} (hv:v<18446744073709551616):W2 (waveRQ v):=takenQ_W2 (by omega) hv restHalfQ_W2
theorem waveAtQ_W2 {v:Nat} (hv:v<18446744073709551616) (a:Int):W2 (waveAtQ v a):=selQ_W2 (sinzQ_W2 (waveRQ_W2 hv)) (coszQ_W2 (waveRQ_W2 hv)) (negQ_W2 (sinzQ_W2 (waveRQ_W2 hv))) (negQ_W2 (coszQ_W2 (waveRQ_W2 hv)))
theorem far_some:Some2 13920626448202203136 4697254411347427328:=hs_iff.1 (by decide +kernel)
theorem half_some:Some2 halfPiQ.1 halfPiQ.2:=hs_iff.1 (by decide +kernel)
theorem far_lo:-4832362400168542207<=key (quartQ (13920626448202203136,4697254411347427328)).1:=by decide +kernel
theorem far_hi:key (quartQ (13920626448202203136,4697254411347427328)).2<=4832362400168542207:=by decide +kernel
theorem quart_gr {x:Nat×Nat} (X:In x.1 x.2 13920626448202203136 4697254411347427328):Gr (quartQ x) (quartQ (13920626448202203136,4697254411347427328)):=div_gr X (In.refl halfPiQ_W2.1 halfPiQ_W2.2 half_some)
theorem far_key:key 13920626448202203136=-4697254411347427328/\key 4697254411347427328=4697254411347427328:=by decide
theorem near_far {v:Nat} (hv:v<18446744073709551616) (nv:nanB v=false) (k1:-4697254411347427328<=key v) (k2:key v<=4697254411347427328):midQ (quartQ (ptQ v))%9223372036854775808<4832362400168542208:=by
 have X:=pt_in hv nv (by omega) (by omega) far_some (by omega) (by omega) (by rw [far_key.1];exact k1) (by rw [far_key.2];exact k2)
 have:=mid_bound (B:=4832362400168542207) (by omega) (quartQ_W2 (ptQ_W2 hv)) (quart_gr X) far_lo far_hi
 omega
theorem cWaveAt {v:Nat} (hv:v<18446744073709551616) (nv:nanB v=false) (k1:-4697254411347427328<=key v) (k2:key v<=4697254411347427328) (a:Int) (ha:0<=a/\a<=3) (w:World):Calls Tryz.prog 111 #[.float .f64 v,.int .i64 a] w fun e w'=>e=.returned (.agg #[.float .f64 (waveAtQ v a).1,.float .f64 (waveAtQ v a).2])/\Below w.heap.size w w':=by
 have b:=near_far hv nv k1 k2
 have hr:=waveRQ_W2 hv
 exact waveAt_core v _ a (waveKI v) _ _ _ _ _ _ _ _ _ ha (nearI_in b) (i64_and3 _) (by omega) (fun w=>cPoint hv w) (fun w=>cQuart (ptQ_W2 hv) w) (fun w=>cNear (quartQ_W2 (ptQ_W2 hv)) b w) (fun w=>cFineHalf w) (fun w=>cTaken _ (by omega) hv restHalfQ_W2 w) (fun w=>cSinz hr w) (fun w=>cCosz hr w) (fun w=>cNeg (sinzQ_W2 hr) w) (fun w=>cNeg (coszQ_W2 hr) w) w
end Go.Proofs.YtopfabemfbdccaaGreat
