/- Powers of intervals: what the program answers and what the reference does are the same, word for word. The walks of the program's and of the reference's powers of intervals. Powers of intervals: the program's and the reference's answer the same function, at every number. -/
import Derived.Test.YtfdelmgingefkaaGreatZ29
import Derived.Test.YtfdelmgingefkaaGreatZ33
namespace Go.Proofs.YtfdelmgingefkaaGreat
open Go.ChangeShapes Go.WideShapes Go.ChangeAt Go.RowKit
set_option maxHeartbeats 1000000 in
theorem power_w (v:Nat) (d:Int) (hv:v<18446744073709551616) (nv:nanB v=false) (k:Nat) (hk:k≤63) (n:Int) (hn:n=(k:Int)+1) (w:World):Calls Tryz.prog 209 #[.float .f64 v,.int .i64 n,.int .i64 d] w fun e w'=>e=.returned (.float .f64 (powW v d k))∧Below w.heap.size w w':=by
 have c:=fun (i:Nat) (w:World)=>mulV_w (powW v d i) v d (pow_num d hv nv i).2 hv (pow_num d hv nv i).1 nv w
 obtain⟨P,hP⟩:∃P:Nat→Nat,∀i,P i=powW v d i:=⟨_,fun _=>rfl⟩
 have hs:∀i,mulV (P i) v d=P (i+1):=fun i=>by rw [hP,hP];rfl
 have h0:P 0=v:=by rw [hP];rfl
 rw [←hP k]
 simp only [←hP,hs] at c
 have hn1:n-1=(k:Int):=by omega
 clear hP hs nv hn hv
 go_enter Tryz.func209,Tryz.ntmps209
 go_wp2_with fail
 go_loopg [7,11] k (fun G s7 s11 wx=>Below w.heap.size w wx∧∃i:Nat,i+G=k∧s7=.float .f64 (P i)∧s11=.int .i64 (i:Int))
 case atStart=>exact⟨Below.refl _ _,0,by omega,by rw [h0],rfl⟩
 case round =>
   clear h0
   obtain⟨HB,i,hi,rfl,rfl⟩:=hrel
   by_cases ci:i=k
   · subst ci
     go_wp2_with fail
     go_ret
     exact⟨rfl,HB⟩
   · have hlt:(i:Int)<(k:Int):=by omega
     go_wp2_with (go_at_call 117;refine (c i _).mono ?_;rintro _ w1 ⟨rfl,hb1⟩)
     go_roundg (k-i-1)
     case measure=>omega
     case rel=>exact⟨later HB hb1,i+1,by omega,rfl,by go_num⟩
def oddW (v:Nat) (k:Nat) (d:Int):Nat:=if ltB v 0 then negB (powW (negB v) (-d) k) else powW v d k
def rsignW (v:Nat) (k:Nat) (d:Int):Nat:=if ltB v 0 then zminus (powW (zminus v) (-d) k) else powW v d k
set_option maxHeartbeats 1000000 in
theorem odd_core (v nv p np q:Nat) (n d e:Int) (b:Bool) (o:(FloatKind.f64.format.order v 0==some .lt)=b) (hd:-1≤d∧d≤1) (he:-d=e) (e1:Op.negFloat .f64 v=nv) (e2:Op.negFloat .f64 p=np)
   (c1:b=true→∀w,Calls Tryz.prog 209 #[.float .f64 nv,.int .i64 n,.int .i64 e] w fun e w'=>e=.returned (.float .f64 p)∧Below w.heap.size w w') (c2:b=false→∀w,Calls Tryz.prog 209 #[.float .f64 v,.int .i64 n,.int .i64 d] w fun e w'=>e=.returned (.float .f64 q)∧Below w.heap.size w w') (w:World) :
   Calls Tryz.prog 211 #[.float .f64 v,.int .i64 n,.int .i64 d] w fun e w'=>e=.returned (.float .f64 (if b then np else q))∧Below w.heap.size w w':=by
 cases b
 · replace c2:=c2 rfl
   clear c1
   go_enter Tryz.func211,Tryz.ntmps211
   go_wp2_with (go_at_call 209;refine (c2 _).mono ?_;rintro _ w1 ⟨rfl,hb1⟩)
   go_ret
   exact⟨rfl,hb1⟩
 · replace c1:=c1 rfl
   clear c2
   go_enter Tryz.func211,Tryz.ntmps211
   go_wp2_with (go_at_call 209;refine (c1 _).mono ?_;rintro _ w1 ⟨rfl,hb1⟩)
   go_ret
   exact⟨rfl,hb1⟩
theorem odd_w (v:Nat) (d:Int) (hd:d=-1∨d=1) (hv:v<18446744073709551616) (nv:nanB v=false) (k:Nat) (hk:k≤63) (n:Int) (hn:n=(k:Int)+1) (w:World):Calls Tryz.prog 211 #[.float .f64 v,.int .i64 n,.int .i64 d] w fun e w'=>e=.returned (.float .f64 (oddW v k d))∧Below w.heap.size w w':=by
 have nn:nanB (negB v)=false:=by rw [nanB_negB hv];exact nv
 have f:=pow_num (-d) (negB_lt hv) nn k
 exact odd_core v (negB v) (powW (negB v) (-d) k) (negB (powW (negB v) (-d) k)) (powW v d k) n d (-d) _ (o_lt hv (by omega)) (by omega) rfl (negFloat_eq v hv) (negFloat_eq _ f.2)
   (fun _ w=>power_w (negB v) (-d) (negB_lt hv) nn k hk n hn w) (fun _ w=>power_w v d hv nv k hk n hn w) w
theorem odd_facts {v:Nat} (hv:v<18446744073709551616) (nv:nanB v=false) (k:Nat) (d:Int):nanB (oddW v k d)=false∧oddW v k d<18446744073709551616∧nanB (rsignW v k d)=false∧rsignW v k d<18446744073709551616∧pz (rsignW v k d)=pz (oddW v k d):=by
 have nn:nanB (negB v)=false:=by rw [nanB_negB hv];exact nv
 have f:=pow_num (-d) (negB_lt hv) nn k
 have g:=pow_num d hv nv k
 unfold oddW rsignW
 rw [lt0 nv]
 by_cases c:key v<0
 · rw [decide_eq_true c,if_pos rfl,if_pos rfl,zminus_is hv (by omega)]
   exact⟨by rw [nanB_negB f.2];exact f.1,negB_lt f.2,by rw [zminus_nan f.2];exact f.1,zminus_lt f.2,pz_zminus f.2⟩
 · rw [decide_eq_false c,if_neg (by simp),if_neg (by simp)]
   exact⟨g.1,g.2,g.1,g.2,rfl⟩
def powO (lo hi k:Nat):Nat×Nat:=makeP (oddW lo k (-1)) (oddW hi k 1)
def powE (lo hi k:Nat):Nat×Nat:=(powW (migP lo hi) (-1) k,powW (magP lo hi) 1 k)
set_option maxHeartbeats 1000000 in
theorem ppow_none (lo hi:Nat) (n:Int) (c0:∀b' W,W.cell? ⟨b',0,none⟩=some (.float .f64 lo)→W.cell? ⟨b',1,none⟩=some (.float .f64 hi)→Calls Tryz.prog 105 #[.slice (some ⟨b',0,none⟩) 1 1] W fun e w'=>e=.returned (.bool true)∧Below W.heap.size W w')  (w:World) :
   Calls Tryz.prog 175 #[.agg #[.float .f64 lo,.float .f64 hi],.int .i64 n] w fun e w'=>e=.returned (.agg #[.float .f64 (infI 1),.float .f64 (infI (-1))])∧Below w.heap.size w w':=by
 have ne1:w.heap.size+1≠w.heap.size:=by omega
 have ne2:w.heap.size≠w.heap.size+1:=by omega
 go_enter Tryz.func175,Tryz.ntmps175
 go_wp2_with (first
   | (go_at_call 105;refine (c0 (w.heap.size+1+1) _ (by go_simp) (by go_simp)).mono ?_;rintro _ V1 ⟨rfl,hb1⟩
      have X:Has2 V1 w.heap.size (.float .f64 lo) (.float .f64 hi):=Has2.keep ⟨by go_simp,by go_simp,by go_simp,by go_simp,by go_size⟩ hb1
      have R:Has2 V1 (w.heap.size+1) (.float .f64 0) (.float .f64 0):=Has2.keep ⟨by go_simp,by go_simp,by go_simp,by go_simp,by go_size⟩ hb1
      have HB:Below w.heap.size w V1:=later (by go_grown) hb1
      clear hb1)
   | (go_at_call 78;refine (empty_w _).mono ?_;rintro _ w2 ⟨rfl,hb1⟩;replace R:=R.keep hb1;replace HB:=later HB hb1;clear hb1
      obtain⟨k0,k1,k2,k3,k4⟩:=id R))
 refine bodyPost_ret (v:=.agg #[.float .f64 (infI 1),.float .f64 (infI (-1))]) (by simp [results,Tryz.results175,go_sem, *]) rfl ⟨rfl, ?_⟩
 repeat' (first | (with_reducible exact HB) | (with_reducible refine Below.setCell ?_ ?_ _) | go_size)
set_option maxHeartbeats 1000000 in
theorem ppow_low (lo hi:Nat) (n:Int) (c0:∀b' W,W.cell? ⟨b',0,none⟩=some (.float .f64 lo)→W.cell? ⟨b',1,none⟩=some (.float .f64 hi)→Calls Tryz.prog 105 #[.slice (some ⟨b',0,none⟩) 1 1] W fun e w'=>e=.returned (.bool false)∧Below W.heap.size W w') (h1:n < -64) (w:World) :
   Calls Tryz.prog 175 #[.agg #[.float .f64 lo,.float .f64 hi],.int .i64 n] w fun e w'=>e=.returned (.agg #[.float .f64 (infI (-1)),.float .f64 (infI 1)])∧Below w.heap.size w w':=by
 have ne1:w.heap.size+1≠w.heap.size:=by omega
 have ne2:w.heap.size≠w.heap.size+1:=by omega
 go_enter Tryz.func175,Tryz.ntmps175
 go_wp2_with (first
   | (go_at_call 105;refine (c0 (w.heap.size+1+1) _ (by go_simp) (by go_simp)).mono ?_;rintro _ V1 ⟨rfl,hb1⟩
      have X:Has2 V1 w.heap.size (.float .f64 lo) (.float .f64 hi):=Has2.keep ⟨by go_simp,by go_simp,by go_simp,by go_simp,by go_size⟩ hb1
      have R:Has2 V1 (w.heap.size+1) (.float .f64 0) (.float .f64 0):=Has2.keep ⟨by go_simp,by go_simp,by go_simp,by go_simp,by go_size⟩ hb1
      have HB:Below w.heap.size w V1:=later (by go_grown) hb1
      clear hb1)
   | (go_at_call 108;refine (whole_w _).mono ?_;rintro _ w2 ⟨rfl,hb1⟩;replace R:=R.keep hb1;replace HB:=later HB hb1;clear hb1
      obtain⟨k0,k1,k2,k3,k4⟩:=id R))
 refine bodyPost_ret (v:=.agg #[.float .f64 (infI (-1)),.float .f64 (infI 1)]) (by simp [results,Tryz.results175,go_sem, *]) rfl ⟨rfl, ?_⟩
 repeat' (first | (with_reducible exact HB) | (with_reducible refine Below.setCell ?_ ?_ _) | go_size)
set_option maxHeartbeats 1000000 in
theorem ppow_high (lo hi:Nat) (n:Int) (c0:∀b' W,W.cell? ⟨b',0,none⟩=some (.float .f64 lo)→W.cell? ⟨b',1,none⟩=some (.float .f64 hi)→Calls Tryz.prog 105 #[.slice (some ⟨b',0,none⟩) 1 1] W fun e w'=>e=.returned (.bool false)∧Below W.heap.size W w') (h1:64<n) (w:World) :
   Calls Tryz.prog 175 #[.agg #[.float .f64 lo,.float .f64 hi],.int .i64 n] w fun e w'=>e=.returned (.agg #[.float .f64 (infI (-1)),.float .f64 (infI 1)])∧Below w.heap.size w w':=by
 have ne1:w.heap.size+1≠w.heap.size:=by omega
 have ne2:w.heap.size≠w.heap.size+1:=by omega
 go_enter Tryz.func175,Tryz.ntmps175
 go_wp2_with (first
   | (go_at_call 105;refine (c0 (w.heap.size+1+1) _ (by go_simp) (by go_simp)).mono ?_;rintro _ V1 ⟨rfl,hb1⟩
      have X:Has2 V1 w.heap.size (.float .f64 lo) (.float .f64 hi):=Has2.keep ⟨by go_simp,by go_simp,by go_simp,by go_simp,by go_size⟩ hb1
      have R:Has2 V1 (w.heap.size+1) (.float .f64 0) (.float .f64 0):=Has2.keep ⟨by go_simp,by go_simp,by go_simp,by go_simp,by go_size⟩ hb1
      have HB:Below w.heap.size w V1:=later (by go_grown) hb1
      clear hb1)
   | (go_at_call 108;refine (whole_w _).mono ?_;rintro _ w2 ⟨rfl,hb1⟩;replace R:=R.keep hb1;replace HB:=later HB hb1;clear hb1
      obtain⟨k0,k1,k2,k3,k4⟩:=id R))
 refine bodyPost_ret (v:=.agg #[.float .f64 (infI (-1)),.float .f64 (infI 1)]) (by simp [results,Tryz.results175,go_sem, *]) rfl ⟨rfl, ?_⟩
 repeat' (first | (with_reducible exact HB) | (with_reducible refine Below.setCell ?_ ?_ _) | go_size)
set_option maxHeartbeats 1000000 in
theorem ppow_zero (lo hi:Nat) (n:Int) (c0:∀b' W,W.cell? ⟨b',0,none⟩=some (.float .f64 lo)→W.cell? ⟨b',1,none⟩=some (.float .f64 hi)→Calls Tryz.prog 105 #[.slice (some ⟨b',0,none⟩) 1 1] W fun e w'=>e=.returned (.bool false)∧Below W.heap.size W w') (h1:n=0) (c1:∀w,Calls Tryz.prog 57 #[.float .f64 4607182418800017408] w fun e w'=>e=.returned (.agg #[.float .f64 4607182418800017408,.float .f64 4607182418800017408])∧Below w.heap.size w w') (w:World) :
   Calls Tryz.prog 175 #[.agg #[.float .f64 lo,.float .f64 hi],.int .i64 n] w fun e w'=>e=.returned (.agg #[.float .f64 4607182418800017408,.float .f64 4607182418800017408])∧Below w.heap.size w w':=by
 have ne1:w.heap.size+1≠w.heap.size:=by omega
 have ne2:w.heap.size≠w.heap.size+1:=by omega
 go_enter Tryz.func175,Tryz.ntmps175
 go_wp2_with (first
   | (go_at_call 105;refine (c0 (w.heap.size+1+1) _ (by go_simp) (by go_simp)).mono ?_;rintro _ V1 ⟨rfl,hb1⟩
      have X:Has2 V1 w.heap.size (.float .f64 lo) (.float .f64 hi):=Has2.keep ⟨by go_simp,by go_simp,by go_simp,by go_simp,by go_size⟩ hb1
      have R:Has2 V1 (w.heap.size+1) (.float .f64 0) (.float .f64 0):=Has2.keep ⟨by go_simp,by go_simp,by go_simp,by go_simp,by go_size⟩ hb1
      have HB:Below w.heap.size w V1:=later (by go_grown) hb1
      clear hb1)
   | (go_at_call 57;refine (c1 _).mono ?_;rintro _ w2 ⟨rfl,hb1⟩;replace R:=R.keep hb1;replace HB:=later HB hb1;clear hb1
      obtain⟨k0,k1,k2,k3,k4⟩:=id R))
 refine bodyPost_ret (v:=.agg #[.float .f64 4607182418800017408,.float .f64 4607182418800017408]) (by simp [results,Tryz.results175,go_sem, *]) rfl ⟨rfl, ?_⟩
 repeat' (first | (with_reducible exact HB) | (with_reducible refine Below.setCell ?_ ?_ _) | go_size)
set_option maxHeartbeats 1000000 in
theorem ppow_neg (lo hi p q r1 r2:Nat) (n:Int) (c0:∀b' W,W.cell? ⟨b',0,none⟩=some (.float .f64 lo)→W.cell? ⟨b',1,none⟩=some (.float .f64 hi)→Calls Tryz.prog 105 #[.slice (some ⟨b',0,none⟩) 1 1] W fun e w'=>e=.returned (.bool false)∧Below W.heap.size W w') (h1:-64≤n) (h2:n<0) (c1:∀w,Calls Tryz.prog 57 #[.float .f64 4607182418800017408] w fun e w'=>e=.returned (.agg #[.float .f64 4607182418800017408,.float .f64 4607182418800017408])∧Below w.heap.size w w') (c2:∀w,Calls Tryz.prog 175 #[.agg #[.float .f64 lo,.float .f64 hi],.int .i64 (-n)] w fun e w'=>e=.returned (.agg #[.float .f64 p,.float .f64 q])∧Below w.heap.size w w') (c3:∀w,Calls Tryz.prog 52 #[.agg #[.float .f64 4607182418800017408,.float .f64 4607182418800017408],.agg #[.float .f64 p,.float .f64 q]] w fun e w'=>e=.returned (.agg #[.float .f64 r1,.float .f64 r2])∧Below w.heap.size w w') (w:World) :
   Calls Tryz.prog 175 #[.agg #[.float .f64 lo,.float .f64 hi],.int .i64 n] w fun e w'=>e=.returned (.agg #[.float .f64 r1,.float .f64 r2])∧Below w.heap.size w w':=by
 have ne1:w.heap.size+1≠w.heap.size:=by omega
 have ne2:w.heap.size≠w.heap.size+1:=by omega
 go_enter Tryz.func175,Tryz.ntmps175
 go_upto_region 8 with (first
   | (go_at_call 105;refine (c0 (w.heap.size+1+1) _ (by go_simp) (by go_simp)).mono ?_;rintro _ V1 ⟨rfl,hb1⟩
      have X:Has2 V1 w.heap.size (.float .f64 lo) (.float .f64 hi):=Has2.keep ⟨by go_simp,by go_simp,by go_simp,by go_simp,by go_size⟩ hb1
      have R:Has2 V1 (w.heap.size+1) (.float .f64 0) (.float .f64 0):=Has2.keep ⟨by go_simp,by go_simp,by go_simp,by go_simp,by go_size⟩ hb1
      have HB:Below w.heap.size w V1:=later (by go_grown) hb1
      clear hb1))
 have kx0:=fun n:Behind V1=>n.cell X.1 X.2.2.2.2
 have kx1:=fun n:Behind V1=>n.cell X.2.1 X.2.2.2.2
 refine tail_behind 6 (by kernel_rfl) (by kernel_rfl) ?_
 simp only [List.take_succ_cons,List.take_zero,List.drop_succ_cons,List.drop_zero]
 repeat (go_big_quiet_step (first
   | (go_at_call 57;with_reducible refine Behind.call (c1 _))
   | (go_at_call 175;with_reducible refine Behind.call (c2 _))
   | (go_at_call 52;with_reducible refine Behind.call (c3 _))))
 refine wpQuiet_nil ?_
 rintro _ ⟨m,rfl⟩
 obtain⟨W,hb1⟩:=m
 dsimp only
 clear kx0 kx1
 replace R:=R.keep hb1;replace HB:=later HB hb1;clear hb1
 obtain⟨k0,k1,k2,k3,k4⟩:=id R
 go_wp2_with fail
 refine bodyPost_ret (v:=.agg #[.float .f64 r1,.float .f64 r2]) (by simp [results,Tryz.results175,go_sem, *]) rfl ⟨rfl, ?_⟩
 repeat' (first | (with_reducible exact HB) | (with_reducible refine Below.setCell ?_ ?_ _) | go_size)
set_option maxHeartbeats 1000000 in
theorem ppow_even (lo hi a b p q:Nat) (n:Int) (c0:∀b' W,W.cell? ⟨b',0,none⟩=some (.float .f64 lo)→W.cell? ⟨b',1,none⟩=some (.float .f64 hi)→Calls Tryz.prog 105 #[.slice (some ⟨b',0,none⟩) 1 1] W fun e w'=>e=.returned (.bool false)∧Below W.heap.size W w') (h1:0<n) (h2:n≤64) (h3:n.tmod 2=0) (c1:∀w,Calls Tryz.prog 210 #[.agg #[.float .f64 lo,.float .f64 hi]] w fun e w'=>e=.returned (.float .f64 a)∧Below w.heap.size w w') (c2:∀w,Calls Tryz.prog 111 #[.agg #[.float .f64 lo,.float .f64 hi]] w fun e w'=>e=.returned (.float .f64 b)∧Below w.heap.size w w') (c3:∀w,Calls Tryz.prog 209 #[.float .f64 a,.int .i64 n,.int .i64 (-1)] w fun e w'=>e=.returned (.float .f64 p)∧Below w.heap.size w w') (c4:∀w,Calls Tryz.prog 209 #[.float .f64 b,.int .i64 n,.int .i64 1] w fun e w'=>e=.returned (.float .f64 q)∧Below w.heap.size w w') (w:World) :
   Calls Tryz.prog 175 #[.agg #[.float .f64 lo,.float .f64 hi],.int .i64 n] w fun e w'=>e=.returned (.agg #[.float .f64 p,.float .f64 q])∧Below w.heap.size w w':=by
 have ne1:w.heap.size+1≠w.heap.size:=by omega
 have ne2:w.heap.size≠w.heap.size+1:=by omega
 go_enter Tryz.func175,Tryz.ntmps175
 go_upto_region 10 with (first
   | (go_at_call 105;refine (c0 (w.heap.size+1+1) _ (by go_simp) (by go_simp)).mono ?_;rintro _ V1 ⟨rfl,hb1⟩
      have X:Has2 V1 w.heap.size (.float .f64 lo) (.float .f64 hi):=Has2.keep ⟨by go_simp,by go_simp,by go_simp,by go_simp,by go_size⟩ hb1
      have R:Has2 V1 (w.heap.size+1) (.float .f64 0) (.float .f64 0):=Has2.keep ⟨by go_simp,by go_simp,by go_simp,by go_simp,by go_size⟩ hb1
      have HB:Below w.heap.size w V1:=later (by go_grown) hb1
      clear hb1))
 have kx0:=fun n:Behind V1=>n.cell X.1 X.2.2.2.2
 have kx1:=fun n:Behind V1=>n.cell X.2.1 X.2.2.2.2
 refine tail_behind 9 (by kernel_rfl) (by kernel_rfl) ?_
 simp only [List.take_succ_cons,List.take_zero,List.drop_succ_cons,List.drop_zero]
 repeat (go_big_quiet_step (first
   | (go_at_call 210;with_reducible refine Behind.call (c1 _))
   | (go_at_call 111;with_reducible refine Behind.call (c2 _))
   | (go_at_call 209;with_reducible refine Behind.call (c3 _))
   | (go_at_call 209;with_reducible refine Behind.call (c4 _))))
 refine wpQuiet_nil ?_
 rintro _ ⟨m,rfl⟩
 obtain⟨W,hb1⟩:=m
 dsimp only
 clear kx0 kx1
 replace R:=R.keep hb1;replace HB:=later HB hb1;clear hb1
 obtain⟨k0,k1,k2,k3,k4⟩:=id R
 go_wp2_with fail
 refine bodyPost_ret (v:=.agg #[.float .f64 p,.float .f64 q]) (by simp [results,Tryz.results175,go_sem, *]) rfl ⟨rfl, ?_⟩
 repeat' (first | (with_reducible exact HB) | (with_reducible refine Below.setCell ?_ ?_ _) | go_size)
set_option maxHeartbeats 1000000 in
theorem ppow_odd (lo hi p q r1 r2:Nat) (n:Int) (c0:∀b' W,W.cell? ⟨b',0,none⟩=some (.float .f64 lo)→W.cell? ⟨b',1,none⟩=some (.float .f64 hi)→Calls Tryz.prog 105 #[.slice (some ⟨b',0,none⟩) 1 1] W fun e w'=>e=.returned (.bool false)∧Below W.heap.size W w') (h1:0<n) (h2:n≤64) (h3:n.tmod 2=1) (c3:∀w,Calls Tryz.prog 211 #[.float .f64 lo,.int .i64 n,.int .i64 (-1)] w fun e w'=>e=.returned (.float .f64 p)∧Below w.heap.size w w') (c4:∀w,Calls Tryz.prog 211 #[.float .f64 hi,.int .i64 n,.int .i64 1] w fun e w'=>e=.returned (.float .f64 q)∧Below w.heap.size w w') (c5:∀w,Calls Tryz.prog 33 #[.float .f64 p,.float .f64 q] w fun e w'=>e=.returned (.agg #[.float .f64 r1,.float .f64 r2])∧Below w.heap.size w w') (w:World) :
   Calls Tryz.prog 175 #[.agg #[.float .f64 lo,.float .f64 hi],.int .i64 n] w fun e w'=>e=.returned (.agg #[.float .f64 r1,.float .f64 r2])∧Below w.heap.size w w':=by
 have ne1:w.heap.size+1≠w.heap.size:=by omega
 have ne2:w.heap.size≠w.heap.size+1:=by omega
 go_enter Tryz.func175,Tryz.ntmps175
 go_upto_region 11 with (first
   | (go_at_call 105;refine (c0 (w.heap.size+1+1) _ (by go_simp) (by go_simp)).mono ?_;rintro _ V1 ⟨rfl,hb1⟩
      have X:Has2 V1 w.heap.size (.float .f64 lo) (.float .f64 hi):=Has2.keep ⟨by go_simp,by go_simp,by go_simp,by go_simp,by go_size⟩ hb1
      have R:Has2 V1 (w.heap.size+1) (.float .f64 0) (.float .f64 0):=Has2.keep ⟨by go_simp,by go_simp,by go_simp,by go_simp,by go_size⟩ hb1
      have HB:Below w.heap.size w V1:=later (by go_grown) hb1
      clear hb1))
 have kx0:=fun n:Behind V1=>n.cell X.1 X.2.2.2.2
 have kx1:=fun n:Behind V1=>n.cell X.2.1 X.2.2.2.2
 refine tail_behind 9 (by kernel_rfl) (by kernel_rfl) ?_
 simp only [List.take_succ_cons,List.take_zero,List.drop_succ_cons,List.drop_zero]
 repeat (go_big_quiet_step (first
   | (go_at_call 211;with_reducible refine Behind.call (c3 _))
   | (go_at_call 211;with_reducible refine Behind.call (c4 _))
   | (go_at_call 33;with_reducible refine Behind.call (c5 _))))
 refine wpQuiet_nil ?_
 rintro _ ⟨m,rfl⟩
 obtain⟨W,hb1⟩:=m
 dsimp only
 clear kx0 kx1
 replace R:=R.keep hb1;replace HB:=later HB hb1;clear hb1
 obtain⟨k0,k1,k2,k3,k4⟩:=id R
 go_wp2_with fail
 refine bodyPost_ret (v:=.agg #[.float .f64 r1,.float .f64 r2]) (by simp [results,Tryz.results175,go_sem, *]) rfl ⟨rfl, ?_⟩
 repeat' (first | (with_reducible exact HB) | (with_reducible refine Below.setCell ?_ ?_ _) | go_size)
def posP (lo hi:Nat) (n:Int):Nat×Nat:=if n.tmod 2=0 then powE lo hi (n-1).toNat else powO lo hi (n-1).toNat
def powP (lo hi:Nat) (n:Int):Nat×Nat :=
 if hsB lo hi then (if n < -64 then (infI (-1),infI 1) else if 64<n then (infI (-1),infI 1) else if n=0 then (4607182418800017408,4607182418800017408)
   else if n<0 then divP 4607182418800017408 4607182418800017408 (posP lo hi (-n)).1 (posP lo hi (-n)).2 else posP lo hi n) else (infI 1,infI (-1))
theorem tmod_two {n:Int} (h:0<n):n.tmod 2=0∨n.tmod 2=1:=by
 rw [Int.tmod_eq_emod_of_nonneg (by omega)]
 omega
theorem posP_lt {lo hi:Nat} (hl:lo<18446744073709551616) (hh:hi<18446744073709551616) (S:Some2 lo hi) (n:Int):(posP lo hi n).1<18446744073709551616∧(posP lo hi n).2<18446744073709551616:=by
 obtain⟨k1,k2,k3,n1,n2,w1,w2⟩:=mag_keys hl hh S
 unfold posP
 split
 · exact⟨(pow_num (-1) (by omega) n1 _).2,(pow_num 1 (by omega) n2 _).2⟩
 · exact makeP_lt (odd_facts hl S.nl _ _).2.1 (odd_facts hh S.nh _ _).2.1
theorem powP_lt {lo hi:Nat} (hl:lo<18446744073709551616) (hh:hi<18446744073709551616) (n:Int):(powP lo hi n).1<18446744073709551616∧(powP lo hi n).2<18446744073709551616:=by
 have i1:=infI_lt 1
 have i2:=infI_lt (-1)
 unfold powP
 cases hs:hsB lo hi
 · rw [if_neg (by simp)];exact⟨i1,i2⟩
 · rw [if_pos rfl]
   have S:=hs_iff.1 hs
   split
   · exact⟨i2,i1⟩
   · split
     · exact⟨i2,i1⟩
     · split
       · exact⟨by omega,by omega⟩
       · split
         · have p:=posP_lt hl hh S (-n)
           exact divP_lt (by omega) (by omega) p.1 p.2
         · exact posP_lt hl hh S n
theorem one_point (w:World):Calls Tryz.prog 57 #[.float .f64 4607182418800017408] w fun e w'=>e=.returned (.agg #[.float .f64 4607182418800017408,.float .f64 4607182418800017408])∧Below w.heap.size w w':=by
 have h:=point_w 4607182418800017408 (by omega) w
 have e:makeP 4607182418800017408 4607182418800017408=(4607182418800017408,4607182418800017408):=by decide
 rw [e] at h
 exact h
theorem Pow_pos (lo hi:Nat) (hl:lo<18446744073709551616) (hh:hi<18446744073709551616) (hs:hsB lo hi=true) (n:Int) (h1:0<n) (h2:n≤64) (w:World) :
   Calls Tryz.prog 175 #[.agg #[.float .f64 lo,.float .f64 hi],.int .i64 n] w fun e w'=>e=.returned (.agg #[.float .f64 (posP lo hi n).1,.float .f64 (posP lo hi n).2])∧Below w.heap.size w w':=by
 have S:=hs_iff.1 hs
 have c0:=fun b W c0 c1=>someEmpty1_w b lo hi hl hh W c0 c1
 rw [hs] at c0
 obtain⟨k1,k2,k3,n1,n2,w1,w2⟩:=mag_keys hl hh S
 have hk:(n-1).toNat≤63:=by omega
 have hn:n=(((n-1).toNat:Nat):Int)+1:=by omega
 unfold posP
 rcases tmod_two h1 with c | c
 · rw [if_pos c]
   exact ppow_even lo hi (migP lo hi) (magP lo hi) _ _ n c0 h1 h2 c (fun w=>mig_w lo hi hl hh w) (fun w=>mag_w lo hi hl hh w) (fun w=>power_w _ _ (by omega) n1 _ hk n hn w) (fun w=>power_w _ _ (by omega) n2 _ hk n hn w) w
 · rw [if_neg (by omega)]
   have f:=odd_facts hl S.nl (n-1).toNat (-1)
   have g:=odd_facts hh S.nh (n-1).toNat 1
   exact ppow_odd lo hi _ _ _ _ n c0 h1 h2 c (fun w=>odd_w lo (-1) (Or.inl rfl) hl S.nl _ hk n hn w) (fun w=>odd_w hi 1 (Or.inr rfl) hh S.nh _ hk n hn w) (fun w=>make_w _ _ f.2.1 g.2.1 w) w
theorem Pow_w (lo hi:Nat) (hl:lo<18446744073709551616) (hh:hi<18446744073709551616) (n:Int) (w:World) :
   Calls Tryz.prog 175 #[.agg #[.float .f64 lo,.float .f64 hi],.int .i64 n] w fun e w'=>e=.returned (.agg #[.float .f64 (powP lo hi n).1,.float .f64 (powP lo hi n).2])∧Below w.heap.size w w':=by
 have c0:=fun b W c0 c1=>someEmpty1_w b lo hi hl hh W c0 c1
 unfold powP
 cases hs:hsB lo hi
 · rw [hs] at c0
   rw [if_neg (by simp)]
   exact ppow_none lo hi n c0 w
 · have P:=fun m h1 h2 w=>Pow_pos lo hi hl hh hs m h1 h2 w
   rw [hs] at c0
   rw [if_pos rfl]
   by_cases c1:n < -64
   · rw [if_pos c1];exact ppow_low lo hi n c0 c1 w
   · rw [if_neg c1]
     by_cases c2:64<n
     · rw [if_pos c2];exact ppow_high lo hi n c0 c2 w
     · rw [if_neg c2]
       by_cases c3:n=0
       · rw [if_pos c3];exact ppow_zero lo hi n c0 c3 one_point w
       · rw [if_neg c3]
         by_cases c4:n<0
         · rw [if_pos c4]
           have p:=posP_lt hl hh (hs_iff.1 hs) (-n)
           exact ppow_neg lo hi _ _ _ _ n c0 (by omega) c4 one_point (fun w=>P (-n) (by omega) (by omega) w) (fun w=>Div_w _ _ _ _ (by omega) (by omega) p.1 p.2 w) w
         · rw [if_neg c4]
           exact P n (by omega) (by omega) w
end Go.Proofs.YtfdelmgingefkaaGreat
