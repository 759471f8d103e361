/- Powers of intervals: what the program answers and what the reference does are the same, word for word. The walks of the program's and of the reference's powers of intervals. Powers of intervals: the program's and the reference's answer the same function, at every number. Roots of intervals: the program's and the reference's answer the same; IvalPowers' walk. The greater the intervals are, the greater are quotients, roots, powers, meets and sizes. Functions of intervals as functions of pairs of words, and the small functions of elem. -/
import Derived.Test.YtopfabemfbdccaaGreatZk21
import Derived.Test.YtopfabemfbdccaaGreatZk25
import Derived.Test.YtopfabemfbdccaaGreatZk06
import Derived.Test.YtopfabemfbdccaaGreatZk10
import Derived.Test.YtopfabemfbdccaaGreatZk19
import Derived.Test.YtopfabemfbdccaaGreatZk02
import Derived.Test.YtopfabemfbdccaaGreatZk23
namespace Go.Proofs.YtopfabemfbdccaaGreat
open Go.ChangeShapes Go.WideShapes Go.ChangeAt Go.RowKit
set_option maxHeartbeats 1000000 in
theorem power_w (v:Nat) (d:Int) (hv:v<18446744073709551616) (nv:nanB v=false) (k:Nat) (hk:k<=63) (n:Int) (hn:n=(k:Int)+1) (w:World):Calls Tryz.prog 236 #[.float .f64 v,.int .i64 n,.int .i64 d] w fun e w'=>e=.returned (.float .f64 (powW v d k))/\Below w.heap.size w w':=by
 have c:=fun (i:Nat) (w:World)=>mulV_w (powW v d i) v d (pow_num d hv nv i).2 hv (pow_num d hv nv i).1 nv w
 obtain⟨P,hP⟩:∃P:Nat->Nat,∀i,P i=powW v d i:=⟨_,fun _=>rfl⟩
 have hs:∀i,mulV (P i) v d=P (i+1):=fun i=>by rw [hP,hP];rfl
 have h0:P 0=v:=by rw [hP];rfl
 rw [<-hP k]
 simp only [<-hP,hs] at c
 have hn1:n-1=(k:Int):=by omega
 clear hP hs nv hn hv
 go_enter Tryz.func236,Tryz.ntmps236
 go_wp2_with fail
 go_loopg [7,11] k (fun G s7 s11 wx=>Below w.heap.size w wx/\∃i:Nat,i+G=k/\s7=.float .f64 (P i)/\s11=.int .i64 (i:Int))
 case atStart=>exact⟨Below.refl _ _,0,by omega,by rw [h0],rfl⟩
 case round =>
  clear h0
  obtain⟨HB,i,hi,rfl,rfl⟩:=hrel
  by_cases ci:i=k
  ·subst ci
   go_wp2_with fail
   go_ret
   exact⟨rfl,HB⟩
  ·have hlt:(i:Int)<(k:Int):=by omega
   go_wp2_with (go_at_call 115;refine (c i _).mono ?_;rintro _ w1 ⟨rfl,hb1⟩)
   go_roundg (k-i-1)
   case measure=>omega
   case rel=>exact⟨later HB hb1,i+1,by omega,rfl,by go_num⟩
def oddW (v:Nat) (k:Nat) (d:Int):Nat:=if ltB v 0 then negB (powW (negB v) (-d) k) else powW v d k
def rsignW (v:Nat) (k:Nat) (d:Int):Nat:=if ltB v 0 then zminus (powW (zminus v) (-d) k) else powW v d k
set_option maxHeartbeats 1000000 in
theorem odd_core (v nv p np q:Nat) (n d e:Int) (b:Bool) (o:(FloatKind.f64.format.order v 0==some .lt)=b) (hd:-1<=d/\d<=1) (he:-d=e) (e1:Op.negFloat .f64 v=nv) (e2:Op.negFloat .f64 p=np)
  (c1:b=true->∀w,Calls Tryz.prog 236 #[.float .f64 nv,.int .i64 n,.int .i64 e] w fun e w'=>e=.returned (.float .f64 p)/\Below w.heap.size w w') (c2:b=false->∀w,Calls Tryz.prog 236 #[.float .f64 v,.int .i64 n,.int .i64 d] w fun e w'=>e=.returned (.float .f64 q)/\Below w.heap.size w w') (w:World) :
  Calls Tryz.prog 238 #[.float .f64 v,.int .i64 n,.int .i64 d] w fun e w'=>e=.returned (.float .f64 (if b then np else q))/\Below w.heap.size w w':=by
 cases b
 ·replace c2:=c2 rfl
  clear c1
  go_enter Tryz.func238,Tryz.ntmps238
  go_wp2_with (go_at_call 236;refine (c2 _).mono ?_;rintro _ w1 ⟨rfl,hb1⟩)
  go_ret
  exact⟨rfl,hb1⟩
 ·replace c1:=c1 rfl
  clear c2
  go_enter Tryz.func238,Tryz.ntmps238
  go_wp2_with (go_at_call 236;refine (c1 _).mono ?_;rintro _ w1 ⟨rfl,hb1⟩)
  go_ret
  exact⟨rfl,hb1⟩
theorem odd_w (v:Nat) (d:Int) (hd:d=-1\/d=1) (hv:v<18446744073709551616) (nv:nanB v=false) (k:Nat) (hk:k<=63) (n:Int) (hn:n=(k:Int)+1) (w:World):Calls Tryz.prog 238 #[.float .f64 v,.int .i64 n,.int .i64 d] w fun e w'=>e=.returned (.float .f64 (oddW v k d))/\Below w.heap.size w w':=by
 have nn:nanB (negB v)=false:=by rw [nanB_negB hv];exact nv
 have f:=pow_num (-d) (negB_lt hv) nn k
 exact odd_core v (negB v) (powW (negB v) (-d) k) (negB (powW (negB v) (-d) k)) (powW v d k) n d (-d) _ (o_lt hv (by omega)) (by omega) rfl (negFloat_eq v hv) (negFloat_eq _ f.2)
  (fun _ w=>power_w (negB v) (-d) (negB_lt hv) nn k hk n hn w) (fun _ w=>power_w v d hv nv k hk n hn w) w
theorem odd_facts {v:Nat} (hv:v<18446744073709551616) (nv:nanB v=false) (k:Nat) (d:Int):nanB (oddW v k d)=false/\oddW v k d<18446744073709551616/\nanB (rsignW v k d)=false/\rsignW v k d<18446744073709551616/\pz (rsignW v k d)=pz (oddW v k d):=by
 have nn:nanB (negB v)=false:=by rw [nanB_negB hv];exact nv
 have f:=pow_num (-d) (negB_lt hv) nn k
 have g:=pow_num d hv nv k
 unfold oddW rsignW
 rw [lt0 nv]
 by_cases c:key v<0
 ·rw [decide_eq_true c,if_pos rfl,if_pos rfl,zminus_is hv (by omega)]
  exact⟨by rw [nanB_negB f.2];exact f.1,negB_lt f.2,by rw [zminus_nan f.2];exact f.1,zminus_lt f.2,pz_zminus f.2⟩
 ·rw [decide_eq_false c,if_neg (by simp),if_neg (by simp)]
  exact⟨g.1,g.2,g.1,g.2,rfl⟩
theorem odd_low {v:Nat} (hv:v<18446744073709551616) (nv:nanB v=false) (k0:key v<9218868437227405312) (k:Nat):key (oddW v k (-1))<=9218868437227405311:=by
 have nn:nanB (negB v)=false:=by rw [nanB_negB hv];exact nv
 unfold oddW
 rw [lt0 nv]
 by_cases c:key v<0
 ·rw [decide_eq_true c,if_pos rfl]
  have f:=pow_num (-(-1)) (negB_lt hv) nn k
  have h:=pow_nneg (-(-1)) (Or.inr rfl) (negB_lt hv) nn (by rw [key_negB hv];omega) k
  rw [key_negB f.2]
  omega
 ·rw [decide_eq_false c,if_neg (by simp)]
  exact pow_top hv nv (by omega) (by omega) k
theorem odd_high {v:Nat} (hv:v<18446744073709551616) (nv:nanB v=false) (k0:-9218868437227405312<key v) (k:Nat):-9218868437227405311<=key (oddW v k 1):=by
 have nn:nanB (negB v)=false:=by rw [nanB_negB hv];exact nv
 unfold oddW
 rw [lt0 nv]
 by_cases c:key v<0
 ·rw [decide_eq_true c,if_pos rfl]
  have f:=pow_num (-1) (negB_lt hv) nn k
  have h:=pow_top (negB_lt hv) nn (by rw [key_negB hv];omega) (by rw [key_negB hv];omega) k
  rw [key_negB f.2]
  omega
 ·rw [decide_eq_false c,if_neg (by simp)]
  have:=pow_nneg 1 (Or.inr rfl) hv nv (by omega) k
  omega
def powO (lo hi k:Nat):Nat×Nat:=makeP (oddW lo k (-1)) (oddW hi k 1)
def powE (lo hi k:Nat):Nat×Nat:=(powW (migP lo hi) (-1) k,powW (magP lo hi) 1 k)
set_option maxHeartbeats 1000000 in
theorem ppow_none (lo hi:Nat) (n:Int) (c0:∀b' W,W.cell? ⟨b',0,none⟩=some (.float .f64 lo)->W.cell? ⟨b',1,none⟩=some (.float .f64 hi)->Calls Tryz.prog 103 #[.slice (some ⟨b',0,none⟩) 1 1] W fun e w'=>e=.returned (.bool true)/\Below W.heap.size W w')  (w:World) :
   Calls Tryz.prog 189 #[.agg #[.float .f64 lo,.float .f64 hi],.int .i64 n] w fun e w'=>e=.returned (.agg #[.float .f64 (infI 1),.float .f64 (infI (-1))])/\Below w.heap.size w w':=by
 have ne1:w.heap.size+1≠w.heap.size:=by omega
 have ne2:w.heap.size≠w.heap.size+1:=by omega
 go_enter Tryz.func189,Tryz.ntmps189
 go_wp2_with (first
   | (go_at_call 103;refine (c0 (w.heap.size+1+1) _ (by go_simp) (by go_simp)).mono ?_;rintro _ V1 ⟨rfl,hb1⟩
      have X:Has2 V1 w.heap.size (.float .f64 lo) (.float .f64 hi):=Has2.keep ⟨by go_simp,by go_simp,by go_simp,by go_simp,by go_size⟩ hb1
      have R:Has2 V1 (w.heap.size+1) (.float .f64 0) (.float .f64 0):=Has2.keep ⟨by go_simp,by go_simp,by go_simp,by go_simp,by go_size⟩ hb1
      have HB:Below w.heap.size w V1:=later (by go_grown) hb1
      clear hb1)
   | (go_at_call 76;refine (empty_w _).mono ?_;rintro _ w2 ⟨rfl,hb1⟩;replace R:=R.keep hb1;replace HB:=later HB hb1;clear hb1
      obtain⟨k0,k1,k2,k3,k4⟩:=id R))
 refine bodyPost_ret (v:=.agg #[.float .f64 (infI 1),.float .f64 (infI (-1))]) (by simp [results,Tryz.results189,go_sem, *]) rfl ⟨rfl, ?_⟩
 repeat' (first | (with_reducible exact HB) | (with_reducible refine Below.setCell ?_ ?_ _) | go_size)
set_option maxHeartbeats 1000000 in
theorem ppow_low (lo hi:Nat) (n:Int) (c0:∀b' W,W.cell? ⟨b',0,none⟩=some (.float .f64 lo)->W.cell? ⟨b',1,none⟩=some (.float .f64 hi)->Calls Tryz.prog 103 #[.slice (some ⟨b',0,none⟩) 1 1] W fun e w'=>e=.returned (.bool false)/\Below W.heap.size W w') (h1:n < -64) (w:World) :
   Calls Tryz.prog 189 #[.agg #[.float .f64 lo,.float .f64 hi],.int .i64 n] w fun e w'=>e=.returned (.agg #[.float .f64 (infI (-1)),.float .f64 (infI 1)])/\Below w.heap.size w w':=by
 have ne1:w.heap.size+1≠w.heap.size:=by omega
 have ne2:w.heap.size≠w.heap.size+1:=by omega
 go_enter Tryz.func189,Tryz.ntmps189
 go_wp2_with (first
   | (go_at_call 103;refine (c0 (w.heap.size+1+1) _ (by go_simp) (by go_simp)).mono ?_;rintro _ V1 ⟨rfl,hb1⟩
      have X:Has2 V1 w.heap.size (.float .f64 lo) (.float .f64 hi):=Has2.keep ⟨by go_simp,by go_simp,by go_simp,by go_simp,by go_size⟩ hb1
      have R:Has2 V1 (w.heap.size+1) (.float .f64 0) (.float .f64 0):=Has2.keep ⟨by go_simp,by go_simp,by go_simp,by go_simp,by go_size⟩ hb1
      have HB:Below w.heap.size w V1:=later (by go_grown) hb1
      clear hb1)
   | (go_at_call 106;refine (whole_w _).mono ?_;rintro _ w2 ⟨rfl,hb1⟩;replace R:=R.keep hb1;replace HB:=later HB hb1;clear hb1
      obtain⟨k0,k1,k2,k3,k4⟩:=id R))
 refine bodyPost_ret (v:=.agg #[.float .f64 (infI (-1)),.float .f64 (infI 1)]) (by simp [results,Tryz.results189,go_sem, *]) rfl ⟨rfl, ?_⟩
 repeat' (first | (with_reducible exact HB) | (with_reducible refine Below.setCell ?_ ?_ _) | go_size)
set_option maxHeartbeats 1000000 in
theorem ppow_high (lo hi:Nat) (n:Int) (c0:∀b' W,W.cell? ⟨b',0,none⟩=some (.float .f64 lo)->W.cell? ⟨b',1,none⟩=some (.float .f64 hi)->Calls Tryz.prog 103 #[.slice (some ⟨b',0,none⟩) 1 1] W fun e w'=>e=.returned (.bool false)/\Below W.heap.size W w') (h1:64<n) (w:World) :
   Calls Tryz.prog 189 #[.agg #[.float .f64 lo,.float .f64 hi],.int .i64 n] w fun e w'=>e=.returned (.agg #[.float .f64 (infI (-1)),.float .f64 (infI 1)])/\Below w.heap.size w w':=by
 have ne1:w.heap.size+1≠w.heap.size:=by omega
 have ne2:w.heap.size≠w.heap.size+1:=by omega
 go_enter Tryz.func189,Tryz.ntmps189
 go_wp2_with (first
   | (go_at_call 103;refine (c0 (w.heap.size+1+1) _ (by go_simp) (by go_simp)).mono ?_;rintro _ V1 ⟨rfl,hb1⟩
      have X:Has2 V1 w.heap.size (.float .f64 lo) (.float .f64 hi):=Has2.keep ⟨by go_simp,by go_simp,by go_simp,by go_simp,by go_size⟩ hb1
      have R:Has2 V1 (w.heap.size+1) (.float .f64 0) (.float .f64 0):=Has2.keep ⟨by go_simp,by go_simp,by go_simp,by go_simp,by go_size⟩ hb1
      have HB:Below w.heap.size w V1:=later (by go_grown) hb1
      clear hb1)
   | (go_at_call 106;refine (whole_w _).mono ?_;rintro _ w2 ⟨rfl,hb1⟩;replace R:=R.keep hb1;replace HB:=later HB hb1;clear hb1
      obtain⟨k0,k1,k2,k3,k4⟩:=id R))
 refine bodyPost_ret (v:=.agg #[.float .f64 (infI (-1)),.float .f64 (infI 1)]) (by simp [results,Tryz.results189,go_sem, *]) rfl ⟨rfl, ?_⟩
 repeat' (first | (with_reducible exact HB) | (with_reducible refine Below.setCell ?_ ?_ _) | go_size)
set_option maxHeartbeats 1000000 in
theorem ppow_zero (lo hi:Nat) (n:Int) (c0:∀b' W,W.cell? ⟨b',0,none⟩=some (.float .f64 lo)->W.cell? ⟨b',1,none⟩=some (.float .f64 hi)->Calls Tryz.prog 103 #[.slice (some ⟨b',0,none⟩) 1 1] W fun e w'=>e=.returned (.bool false)/\Below W.heap.size W w') (h1:n=0) (c1:∀w,Calls Tryz.prog 55 #[.float .f64 4607182418800017408] w fun e w'=>e=.returned (.agg #[.float .f64 4607182418800017408,.float .f64 4607182418800017408])/\Below w.heap.size w w') (w:World) :
   Calls Tryz.prog 189 #[.agg #[.float .f64 lo,.float .f64 hi],.int .i64 n] w fun e w'=>e=.returned (.agg #[.float .f64 4607182418800017408,.float .f64 4607182418800017408])/\Below w.heap.size w w':=by
 have ne1:w.heap.size+1≠w.heap.size:=by omega
 have ne2:w.heap.size≠w.heap.size+1:=by omega
 go_enter Tryz.func189,Tryz.ntmps189
 go_wp2_with (first
   | (go_at_call 103;refine (c0 (w.heap.size+1+1) _ (by go_simp) (by go_simp)).mono ?_;rintro _ V1 ⟨rfl,hb1⟩
      have X:Has2 V1 w.heap.size (.float .f64 lo) (.float .f64 hi):=Has2.keep ⟨by go_simp,by go_simp,by go_simp,by go_simp,by go_size⟩ hb1
      have R:Has2 V1 (w.heap.size+1) (.float .f64 0) (.float .f64 0):=Has2.keep ⟨by go_simp,by go_simp,by go_simp,by go_simp,by go_size⟩ hb1
      have HB:Below w.heap.size w V1:=later (by go_grown) hb1
      clear hb1)
   | (go_at_call 55;refine (c1 _).mono ?_;rintro _ w2 ⟨rfl,hb1⟩;replace R:=R.keep hb1;replace HB:=later HB hb1;clear hb1
      obtain⟨k0,k1,k2,k3,k4⟩:=id R))
 refine bodyPost_ret (v:=.agg #[.float .f64 4607182418800017408,.float .f64 4607182418800017408]) (by simp [results,Tryz.results189,go_sem, *]) rfl ⟨rfl, ?_⟩
 repeat' (first | (with_reducible exact HB) | (with_reducible refine Below.setCell ?_ ?_ _) | go_size)
set_option maxHeartbeats 1000000 in
theorem ppow_neg (lo hi p q r1 r2:Nat) (n:Int) (c0:∀b' W,W.cell? ⟨b',0,none⟩=some (.float .f64 lo)->W.cell? ⟨b',1,none⟩=some (.float .f64 hi)->Calls Tryz.prog 103 #[.slice (some ⟨b',0,none⟩) 1 1] W fun e w'=>e=.returned (.bool false)/\Below W.heap.size W w') (h1:-64<=n) (h2:n<0) (c1:∀w,Calls Tryz.prog 55 #[.float .f64 4607182418800017408] w fun e w'=>e=.returned (.agg #[.float .f64 4607182418800017408,.float .f64 4607182418800017408])/\Below w.heap.size w w') (c2:∀w,Calls Tryz.prog 189 #[.agg #[.float .f64 lo,.float .f64 hi],.int .i64 (-n)] w fun e w'=>e=.returned (.agg #[.float .f64 p,.float .f64 q])/\Below w.heap.size w w') (c3:∀w,Calls Tryz.prog 50 #[.agg #[.float .f64 4607182418800017408,.float .f64 4607182418800017408],.agg #[.float .f64 p,.float .f64 q]] w fun e w'=>e=.returned (.agg #[.float .f64 r1,.float .f64 r2])/\Below w.heap.size w w') (w:World) :
   Calls Tryz.prog 189 #[.agg #[.float .f64 lo,.float .f64 hi],.int .i64 n] w fun e w'=>e=.returned (.agg #[.float .f64 r1,.float .f64 r2])/\Below w.heap.size w w':=by
 have ne1:w.heap.size+1≠w.heap.size:=by omega
 have ne2:w.heap.size≠w.heap.size+1:=by omega
 go_enter Tryz.func189,Tryz.ntmps189
 go_upto_region 8 with (first
   | (go_at_call 103;refine (c0 (w.heap.size+1+1) _ (by go_simp) (by go_simp)).mono ?_;rintro _ V1 ⟨rfl,hb1⟩
      have X:Has2 V1 w.heap.size (.float .f64 lo) (.float .f64 hi):=Has2.keep ⟨by go_simp,by go_simp,by go_simp,by go_simp,by go_size⟩ hb1
      have R:Has2 V1 (w.heap.size+1) (.float .f64 0) (.float .f64 0):=Has2.keep ⟨by go_simp,by go_simp,by go_simp,by go_simp,by go_size⟩ hb1
      have HB:Below w.heap.size w V1:=later (by go_grown) hb1
      clear hb1))
 have kx0:=fun n:Behind V1=>n.cell X.1 X.2.2.2.2
 have kx1:=fun n:Behind V1=>n.cell X.2.1 X.2.2.2.2
 refine tail_behind 6 (by kernel_rfl) (by kernel_rfl) ?_
 simp only [List.take_succ_cons,List.take_zero,List.drop_succ_cons,List.drop_zero]
 repeat (go_big_quiet_step (first
   | (go_at_call 55;with_reducible refine Behind.call (c1 _))
   | (go_at_call 189;with_reducible refine Behind.call (c2 _))
   | (go_at_call 50;with_reducible refine Behind.call (c3 _))))
 refine wpQuiet_nil ?_
 rintro _ ⟨m,rfl⟩
 obtain⟨W,hb1⟩:=m
 dsimp only
 clear kx0 kx1
 replace R:=R.keep hb1;replace HB:=later HB hb1;clear hb1
 obtain⟨k0,k1,k2,k3,k4⟩:=id R
 go_wp2_with fail
 refine bodyPost_ret (v:=.agg #[.float .f64 r1,.float .f64 r2]) (by simp [results,Tryz.results189,go_sem, *]) rfl ⟨rfl, ?_⟩
 repeat' (first | (with_reducible exact HB) | (with_reducible refine Below.setCell ?_ ?_ _) | go_size)
set_option maxHeartbeats 1000000 in
theorem ppow_even (lo hi a b p q:Nat) (n:Int) (c0:∀b' W,W.cell? ⟨b',0,none⟩=some (.float .f64 lo)->W.cell? ⟨b',1,none⟩=some (.float .f64 hi)->Calls Tryz.prog 103 #[.slice (some ⟨b',0,none⟩) 1 1] W fun e w'=>e=.returned (.bool false)/\Below W.heap.size W w') (h1:0<n) (h2:n<=64) (h3:n.tmod 2=0) (c1:∀w,Calls Tryz.prog 237 #[.agg #[.float .f64 lo,.float .f64 hi]] w fun e w'=>e=.returned (.float .f64 a)/\Below w.heap.size w w') (c2:∀w,Calls Tryz.prog 109 #[.agg #[.float .f64 lo,.float .f64 hi]] w fun e w'=>e=.returned (.float .f64 b)/\Below w.heap.size w w') (c3:∀w,Calls Tryz.prog 236 #[.float .f64 a,.int .i64 n,.int .i64 (-1)] w fun e w'=>e=.returned (.float .f64 p)/\Below w.heap.size w w') (c4:∀w,Calls Tryz.prog 236 #[.float .f64 b,.int .i64 n,.int .i64 1] w fun e w'=>e=.returned (.float .f64 q)/\Below w.heap.size w w') (w:World) :
   Calls Tryz.prog 189 #[.agg #[.float .f64 lo,.float .f64 hi],.int .i64 n] w fun e w'=>e=.returned (.agg #[.float .f64 p,.float .f64 q])/\Below w.heap.size w w':=by
 have ne1:w.heap.size+1≠w.heap.size:=by omega
 have ne2:w.heap.size≠w.heap.size+1:=by omega
 go_enter Tryz.func189,Tryz.ntmps189
 go_upto_region 10 with (first
   | (go_at_call 103;refine (c0 (w.heap.size+1+1) _ (by go_simp) (by go_simp)).mono ?_;rintro _ V1 ⟨rfl,hb1⟩
      have X:Has2 V1 w.heap.size (.float .f64 lo) (.float .f64 hi):=Has2.keep ⟨by go_simp,by go_simp,by go_simp,by go_simp,by go_size⟩ hb1
      have R:Has2 V1 (w.heap.size+1) (.float .f64 0) (.float .f64 0):=Has2.keep ⟨by go_simp,by go_simp,by go_simp,by go_simp,by go_size⟩ hb1
      have HB:Below w.heap.size w V1:=later (by go_grown) hb1
      clear hb1))
 have kx0:=fun n:Behind V1=>n.cell X.1 X.2.2.2.2
 have kx1:=fun n:Behind V1=>n.cell X.2.1 X.2.2.2.2
 refine tail_behind 9 (by kernel_rfl) (by kernel_rfl) ?_
 simp only [List.take_succ_cons,List.take_zero,List.drop_succ_cons,List.drop_zero]
 repeat (go_big_quiet_step (first
   | (go_at_call 237;with_reducible refine Behind.call (c1 _))
   | (go_at_call 109;with_reducible refine Behind.call (c2 _))
   | (go_at_call 236;with_reducible refine Behind.call (c3 _))
   | (go_at_call 236;with_reducible refine Behind.call (c4 _))))
 refine wpQuiet_nil ?_
 rintro _ ⟨m,rfl⟩
 obtain⟨W,hb1⟩:=m
 dsimp only
 clear kx0 kx1
 replace R:=R.keep hb1;replace HB:=later HB hb1;clear hb1
 obtain⟨k0,k1,k2,k3,k4⟩:=id R
 go_wp2_with fail
 refine bodyPost_ret (v:=.agg #[.float .f64 p,.float .f64 q]) (by simp [results,Tryz.results189,go_sem, *]) rfl ⟨rfl, ?_⟩
 repeat' (first | (with_reducible exact HB) | (with_reducible refine Below.setCell ?_ ?_ _) | go_size)
set_option maxHeartbeats 1000000 in
theorem ppow_odd (lo hi p q r1 r2:Nat) (n:Int) (c0:∀b' W,W.cell? ⟨b',0,none⟩=some (.float .f64 lo)->W.cell? ⟨b',1,none⟩=some (.float .f64 hi)->Calls Tryz.prog 103 #[.slice (some ⟨b',0,none⟩) 1 1] W fun e w'=>e=.returned (.bool false)/\Below W.heap.size W w') (h1:0<n) (h2:n<=64) (h3:n.tmod 2=1) (c3:∀w,Calls Tryz.prog 238 #[.float .f64 lo,.int .i64 n,.int .i64 (-1)] w fun e w'=>e=.returned (.float .f64 p)/\Below w.heap.size w w') (c4:∀w,Calls Tryz.prog 238 #[.float .f64 hi,.int .i64 n,.int .i64 1] w fun e w'=>e=.returned (.float .f64 q)/\Below w.heap.size w w') (c5:∀w,Calls Tryz.prog 32 #[.float .f64 p,.float .f64 q] w fun e w'=>e=.returned (.agg #[.float .f64 r1,.float .f64 r2])/\Below w.heap.size w w') (w:World) :
   Calls Tryz.prog 189 #[.agg #[.float .f64 lo,.float .f64 hi],.int .i64 n] w fun e w'=>e=.returned (.agg #[.float .f64 r1,.float .f64 r2])/\Below w.heap.size w w':=by
 have ne1:w.heap.size+1≠w.heap.size:=by omega
 have ne2:w.heap.size≠w.heap.size+1:=by omega
 go_enter Tryz.func189,Tryz.ntmps189
 go_upto_region 11 with (first
   | (go_at_call 103;refine (c0 (w.heap.size+1+1) _ (by go_simp) (by go_simp)).mono ?_;rintro _ V1 ⟨rfl,hb1⟩
      have X:Has2 V1 w.heap.size (.float .f64 lo) (.float .f64 hi):=Has2.keep ⟨by go_simp,by go_simp,by go_simp,by go_simp,by go_size⟩ hb1
      have R:Has2 V1 (w.heap.size+1) (.float .f64 0) (.float .f64 0):=Has2.keep ⟨by go_simp,by go_simp,by go_simp,by go_simp,by go_size⟩ hb1
      have HB:Below w.heap.size w V1:=later (by go_grown) hb1
      clear hb1))
 have kx0:=fun n:Behind V1=>n.cell X.1 X.2.2.2.2
 have kx1:=fun n:Behind V1=>n.cell X.2.1 X.2.2.2.2
 refine tail_behind 9 (by kernel_rfl) (by kernel_rfl) ?_
 simp only [List.take_succ_cons,List.take_zero,List.drop_succ_cons,List.drop_zero]
 repeat (go_big_quiet_step (first
   | (go_at_call 238;with_reducible refine Behind.call (c3 _))
   | (go_at_call 238;with_reducible refine Behind.call (c4 _))
   | (go_at_call 32;with_reducible refine Behind.call (c5 _))))
 refine wpQuiet_nil ?_
 rintro _ ⟨m,rfl⟩
 obtain⟨W,hb1⟩:=m
 dsimp only
 clear kx0 kx1
 replace R:=R.keep hb1;replace HB:=later HB hb1;clear hb1
 obtain⟨k0,k1,k2,k3,k4⟩:=id R
 go_wp2_with fail
 refine bodyPost_ret (v:=.agg #[.float .f64 r1,.float .f64 r2]) (by simp [results,Tryz.results189,go_sem, *]) rfl ⟨rfl, ?_⟩
 repeat' (first | (with_reducible exact HB) | (with_reducible refine Below.setCell ?_ ?_ _) | go_size)
def posP (lo hi:Nat) (n:Int):Nat×Nat:=if n.tmod 2=0 then powE lo hi (n-1).toNat else powO lo hi (n-1).toNat
def powP (lo hi:Nat) (n:Int):Nat×Nat :=
 if hsB lo hi then (if n < -64 then (infI (-1),infI 1) else if 64<n then (infI (-1),infI 1) else if n=0 then (4607182418800017408,4607182418800017408)
  else if n<0 then divP 4607182418800017408 4607182418800017408 (posP lo hi (-n)).1 (posP lo hi (-n)).2 else posP lo hi n) else (infI 1,infI (-1))
theorem tmod_two {n:Int} (h:0<n):n.tmod 2=0\/n.tmod 2=1:=by
 rw [Int.tmod_eq_emod_of_nonneg (by omega)]
 omega
theorem posP_lt {lo hi:Nat} (hl:lo<18446744073709551616) (hh:hi<18446744073709551616) (S:Some2 lo hi) (n:Int):(posP lo hi n).1<18446744073709551616/\(posP lo hi n).2<18446744073709551616:=by
 obtain⟨k1,k2,k3,n1,n2,w1,w2⟩:=mag_keys hl hh S
 unfold posP
 split
 ·exact⟨(pow_num (-1) (by omega) n1 _).2,(pow_num 1 (by omega) n2 _).2⟩
 ·exact makeP_lt (odd_facts hl S.nl _ _).2.1 (odd_facts hh S.nh _ _).2.1
theorem powP_lt {lo hi:Nat} (hl:lo<18446744073709551616) (hh:hi<18446744073709551616) (n:Int):(powP lo hi n).1<18446744073709551616/\(powP lo hi n).2<18446744073709551616:=by
 have i1:=infI_lt 1
 have i2:=infI_lt (-1)
 unfold powP
 cases hs:hsB lo hi
 ·rw [if_neg (by simp)];exact⟨i1,i2⟩
 ·rw [if_pos rfl]
  have S:=hs_iff.1 hs
  split
  ·exact⟨i2,i1⟩
  ·split
   ·exact⟨i2,i1⟩
   ·split
    ·exact⟨by omega,by omega⟩
    ·split
     ·have p:=posP_lt hl hh S (-n)
      exact divP_lt (by omega) (by omega) p.1 p.2
     ·exact posP_lt hl hh S n
theorem one_point (w:World):Calls Tryz.prog 55 #[.float .f64 4607182418800017408] w fun e w'=>e=.returned (.agg #[.float .f64 4607182418800017408,.float .f64 4607182418800017408])/\Below w.heap.size w w':=by
 have h:=point_w 4607182418800017408 (by omega) w
 have e:makeP 4607182418800017408 4607182418800017408=(4607182418800017408,4607182418800017408):=by decide
 rw [e] at h
 exact h
theorem Pow_pos (lo hi:Nat) (hl:lo<18446744073709551616) (hh:hi<18446744073709551616) (hs:hsB lo hi=true) (n:Int) (h1:0<n) (h2:n<=64) (w:World) :
  Calls Tryz.prog 189 #[.agg #[.float .f64 lo,.float .f64 hi],.int .i64 n] w fun e w'=>e=.returned (.agg #[.float .f64 (posP lo hi n).1,.float .f64 (posP lo hi n).2])/\Below w.heap.size w w':=by
 have S:=hs_iff.1 hs
 have c0:=fun b W c0 c1=>someEmpty1_w b lo hi hl hh W c0 c1
 rw [hs] at c0
 obtain⟨k1,k2,k3,n1,n2,w1,w2⟩:=mag_keys hl hh S
 have hk:(n-1).toNat<=63:=by omega
 have hn:n=(((n-1).toNat:Nat):Int)+1:=by omega
 unfold posP
 rcases tmod_two h1 with c | c
 ·rw [if_pos c]
  exact ppow_even lo hi (migP lo hi) (magP lo hi) _ _ n c0 h1 h2 c (fun w=>mig_w lo hi hl hh w) (fun w=>mag_w lo hi hl hh w) (fun w=>power_w _ _ (by omega) n1 _ hk n hn w) (fun w=>power_w _ _ (by omega) n2 _ hk n hn w) w
 ·rw [if_neg (by omega)]
  have f:=odd_facts hl S.nl (n-1).toNat (-1)
  have g:=odd_facts hh S.nh (n-1).toNat 1
  exact ppow_odd lo hi _ _ _ _ n c0 h1 h2 c (fun w=>odd_w lo (-1) (Or.inl rfl) hl S.nl _ hk n hn w) (fun w=>odd_w hi 1 (Or.inr rfl) hh S.nh _ hk n hn w) (fun w=>make_w _ _ f.2.1 g.2.1 w) w
theorem Pow_w (lo hi:Nat) (hl:lo<18446744073709551616) (hh:hi<18446744073709551616) (n:Int) (w:World) :
  Calls Tryz.prog 189 #[.agg #[.float .f64 lo,.float .f64 hi],.int .i64 n] w fun e w'=>e=.returned (.agg #[.float .f64 (powP lo hi n).1,.float .f64 (powP lo hi n).2])/\Below w.heap.size w w':=by
 have c0:=fun b W c0 c1=>someEmpty1_w b lo hi hl hh W c0 c1
 unfold powP
 cases hs:hsB lo hi
 ·rw [hs] at c0
  rw [if_neg (by simp)]
  exact ppow_none lo hi n c0 w
 ·have P:=fun m h1 h2 w=>Pow_pos lo hi hl hh hs m h1 h2 w
  rw [hs] at c0
  rw [if_pos rfl]
  by_cases c1:n < -64
  ·rw [if_pos c1];exact ppow_low lo hi n c0 c1 w
  ·rw [if_neg c1]
   by_cases c2:64<n
   ·rw [if_pos c2];exact ppow_high lo hi n c0 c2 w
   ·rw [if_neg c2]
    by_cases c3:n=0
    ·rw [if_pos c3];exact ppow_zero lo hi n c0 c3 one_point w
    ·rw [if_neg c3]
     by_cases c4:n<0
     ·rw [if_pos c4]
      have p:=posP_lt hl hh (hs_iff.1 hs) (-n)
      exact ppow_neg lo hi _ _ _ _ n c0 (by omega) c4 one_point (fun w=>P (-n) (by omega) (by omega) w) (fun w=>Div_w _ _ _ _ (by omega) (by omega) p.1 p.2 w) w
     ·rw [if_neg c4]
      exact P n (by omega) (by omega) w
def sqrtP (lo hi:Nat):Nat×Nat:=if hsB lo hi&&!ltB hi 0 then (sqrtV (maxW lo 0) (-1),sqrtV hi 1) else (infI 1,infI (-1))
theorem sqrtF_nneg {a:Nat} (d:Int):0<=key (sqrtF a d):=by
 have hm:=rootM_lt (m:=splitM a) (e:=splitE a) (by have:=splitM_lt a;omega)
 unfold sqrtF
 generalize rootM (splitM a) (splitE a)=m at *
 generalize rootE (splitM a) (splitE a)=e at *
 unfold roundN
 split
 ·decide
 ·rename_i h0
  have l:=rungN_lt (e:=clampN e-shiftN m) (s:=sideN d false) (topN_bounds h0 hm).2
  unfold signN
  simp only [Bool.false_eq_true,if_false]
  unfold key
  rw [if_pos l]
  omega
theorem sqrtV_nneg {a:Nat} (d:Int) (na:nanB a=false) (ka:0<=key a) (ha:a<18446744073709551616):0<=key (sqrtV a d)/\nanB (sqrtV a d)=false/\sqrtV a d<18446744073709551616/\sqrtV a d≠9223372036854775808:=by
 have ga:=nneg_G ha ka
 cases fa:finB a
 ·have e:sqrtV a d=a:=by
   have h:=sqrtV_is d na ga
   rw [sqrtR_infinite d na fa ga] at h
   injection h with h
   exact h.symm
  rw [e]
  refine⟨ka,na,ha,fun c=>?_⟩
  rw [c] at fa
  revert fa
  decide
 ·rw [sqrtV_fin d fa ga]
  have f:=sqrtF_facts (a:=a) d
  exact⟨sqrtF_nneg d,f.1,f.2.2,f.2.1⟩
theorem sqrt_some {p hi:Nat} (hp:p<18446744073709551616) (hh:hi<18446744073709551616) (np:nanB p=false) (nh:nanB hi=false) (k0:0<=key p) (k1:key p<=key hi) (k2:key p<9218868437227405312):Some2 (sqrtV p (-1)) (sqrtV hi 1):=by
 have a:=sqrtV_nneg (-1) np k0 hp
 have b:=sqrtV_nneg 1 nh (by omega) hh
 have gp:=nneg_G hp k0
 have gh:=nneg_G hh (show 0<=key hi by omega)
 have fp:finB p=true:=by
  cases h:finB p
  ·rcases (key_inf hp np).1 h with d | d <;> omega
  ·rfl
 obtain⟨u,hu⟩:∃u:Nat,u=1076:=⟨_,rfl⟩
 have t:=(sqrtF_down hu fp).top
 rw [<-sqrtV_fin (-1) fp gp] at t
 refine⟨a.2.1,b.2.1, ?_,by omega,by omega,a.2.2.2,b.2.2.2⟩
 cases fh:finB hi
 ·have e:sqrtV hi 1=hi:=by
   have h:=sqrtV_is 1 nh gh
   rw [sqrtR_infinite 1 nh fh gh] at h
   injection h with h
   exact h.symm
  rw [e]
  rcases (key_inf hh nh).1 fh with d | d <;> omega
 ·have m:=sqrt_mono_down hp hh fp fh k0 k1
  have s:=sqrtR_sides hh
  rw [sqrtR_fin (-1) fh gh,sqrtR_fin 0 fh gh,sqrtR_fin 1 fh gh] at s
  rw [sqrtV_fin (-1) fp gp,sqrtV_fin 1 fh gh]
  rcases s with ⟨c, -, -⟩ | ⟨d,n,v,e1,e2,e3,ok⟩
  ·cases c
  ·replace e1:=Option.some.inj e1
   replace e2:=Option.some.inj e2
   replace e3:=Option.some.inj e3
   obtain⟨-, -, -,q1,q2, -⟩:=ok
   rw [<-e1,<-e2] at q1
   rw [<-e2,<-e3] at q2
   exact Int.le_trans m (Int.le_trans q1 q2)
theorem root_ends {lo hi:Nat} (hl:lo<18446744073709551616) (S:Some2 lo hi) (k:0<=key hi):maxW lo 0<18446744073709551616/\nanB (maxW lo 0)=false/\0<=key (maxW lo 0)/\key (maxW lo 0)<=key hi/\key (maxW lo 0)<9218868437227405312/\maxW lo 0≠9223372036854775808:=by
 have k0:key 0=0:=by decide
 have s1:=S.le
 have s2:=S.lt
 rw [maxW_is S.zl (by omega),k0]
 by_cases c:key lo<0
 ·rw [if_pos c,k0];exact⟨by omega,by decide,by omega,k,by omega,by omega⟩
 ·rw [if_neg c];exact⟨hl,S.nl,by omega,s1,s2,S.zl⟩
set_option maxHeartbeats 1000000 in
theorem sqrt_none (lo hi:Nat) (hl:lo<18446744073709551616) (hh:hi<18446744073709551616) (b:Bool) (o:(FloatKind.f64.format.order hi 0==some .lt)=b) (hs:(hsB lo hi&&!b)=false) (w:World) :
   Calls Tryz.prog 190 #[.agg #[.float .f64 lo,.float .f64 hi]] w fun e w'=>e=.returned (.agg #[.float .f64 (infI 1),.float .f64 (infI (-1))])/\Below w.heap.size w w':=by
 have c0:=fun b W c0 c1=>someEmpty1_w b lo hi hl hh W c0 c1
 generalize hsB lo hi=t at *
 cases t
 case' true=>cases b
 case true.false=>cases hs
 all_goals
   simp only [Bool.not_true,Bool.not_false] at c0
   go_enter Tryz.func190,Tryz.ntmps190
   go_wp2_with (first
     | (go_at_call 103;refine (c0 (w.heap.size+1+1) _ (by go_simp) (by go_simp)).mono ?_;rintro _ w1 ⟨rfl,hb1⟩
        have R:Has2 w1 (w.heap.size+1) (.float .f64 0) (.float .f64 0):=Has2.keep ⟨by go_simp,by go_simp,by go_simp,by go_simp,by go_size⟩ hb1
        have X:Has2 w1 w.heap.size (.float .f64 lo) (.float .f64 hi):=Has2.keep ⟨by go_simp,by go_simp,by go_simp,by go_simp,by go_size⟩ hb1
        have HB:Below w.heap.size w w1:=later (by go_grown) hb1
        obtain⟨x0,x1,x2,x3,x4⟩:=id X)
     | (go_at_call 76;refine (empty_w _).mono ?_;rintro _ w2 ⟨rfl,hb1⟩;replace R:=R.keep hb1;replace HB:=later HB hb1;clear hb1
        obtain⟨k0,k1,k2,k3,k4⟩:=id R))
   refine bodyPost_ret (v:=.agg #[.float .f64 (infI 1),.float .f64 (infI (-1))]) (by simp [results,Tryz.results190,go_sem, *]) rfl ⟨rfl, ?_⟩
   repeat' (first | (with_reducible exact HB) | (with_reducible refine Below.setCell ?_ ?_ _) | go_size)
theorem Sqrt_w (lo hi:Nat) (hl:lo<18446744073709551616) (hh:hi<18446744073709551616) (w:World):Calls Tryz.prog 190 #[.agg #[.float .f64 lo,.float .f64 hi]] w fun e w'=>e=.returned (.agg #[.float .f64 (sqrtP lo hi).1,.float .f64 (sqrtP lo hi).2])/\Below w.heap.size w w':=by
 have o:=o_lt hh (show (0:Nat)<18446744073709551616 by omega)
 unfold sqrtP
 cases hs:hsB lo hi&&!ltB hi 0
 ·rw [if_neg (by simp)]
  exact sqrt_none lo hi hl hh _ o hs w
 ·rw [if_pos rfl]
  obtain⟨h1,h2⟩:=Bool.and_eq_true_iff.1 hs
  have S:=hs_iff.1 h1
  rw [lt0 S.nh] at h2
  have k:0<=key hi:=by simpa using h2
  obtain⟨p1,p2,p3,p4,p5,p6⟩:=root_ends hl S k
  have c0:=fun b W c0 c1=>someEmpty1_w b lo hi hl hh W c0 c1
  rw [h1] at c0
  rw [lt0 S.nh,decide_eq_false (by omega)] at o
  exact sqrt_core_i lo hi _ _ _ c0 o (fun ts t w=>max_f hl (by omega) S.nl (by decide) _ ts t w) (fun w=>sqrtV_w _ _ p1 p2 (nneg_G p1 p3) w) (fun w=>sqrtV_w _ _ hh S.nh (nneg_G hh k) w) w
theorem sqrtP_lt {lo hi:Nat} (hl:lo<18446744073709551616) (hh:hi<18446744073709551616):(sqrtP lo hi).1<18446744073709551616/\(sqrtP lo hi).2<18446744073709551616:=by
 unfold sqrtP
 cases hs:hsB lo hi&&!ltB hi 0
 ·rw [if_neg (by simp)];exact⟨infI_lt 1,infI_lt (-1)⟩
 ·rw [if_pos rfl]
  obtain⟨h1,h2⟩:=Bool.and_eq_true_iff.1 hs
  have S:=hs_iff.1 h1
  rw [lt0 S.nh] at h2
  have k:0<=key hi:=by simpa using h2
  obtain⟨p1,p2,p3,p4,p5,p6⟩:=root_ends hl S k
  exact⟨(sqrtV_nneg (-1) p2 p3 p1).2.2.1,(sqrtV_nneg 1 S.nh k hh).2.2.1⟩
theorem mul_rise_up {p a q:Nat} (hp:p<18446744073709551616) (ha:a<18446744073709551616) (hq:q<18446744073709551616) (np:nanB p=false) (na:nanB a=false) (nq:nanB q=false) (k0:0<=key q) (h:key p<=key a):key (mulV p q 1)<=key (mulV a q 1):=by
 rw [mulV_mirror' hp np nq,mulV_mirror' ha na nq]
 have:=mul_rise (negB_lt ha) (negB_lt hp) hq (by rw [nanB_negB ha];exact na) (by rw [nanB_negB hp];exact np) nq k0 (by rw [key_negB ha,key_negB hp];omega)
 omega
theorem pow_rise {a b:Nat} (d:Int) (hd:d=-1\/d=1) (ha:a<18446744073709551616) (hb:b<18446744073709551616) (na:nanB a=false) (nb:nanB b=false) (k0:0<=key a) (k1:key a<=key b) (n:Nat):key (powW a d n)<=key (powW b d n):=by
 induction n with
 | zero=>exact k1
 | succ n ih =>
  have f:=pow_num d ha na n
  have g:=pow_num d hb nb n
  have q0:=pow_nneg d hd hb nb (by omega) n
  show key (mulV (powW a d n) a d)<=key (mulV (powW b d n) b d)
  rcases hd with rfl | rfl
  ·have s1:=mul_rise f.2 g.2 ha f.1 g.1 na k0 ih
   have s2:=mul_rise ha hb g.2 na nb g.1 q0 k1
   rw [mulV_comm a,mulV_comm b] at s2
   omega
  ·have s1:=mul_rise_up f.2 g.2 ha f.1 g.1 na k0 ih
   have s2:=mul_rise_up ha hb g.2 na nb g.1 q0 k1
   rw [mulV_comm a,mulV_comm b] at s2
   omega
theorem mig_key {lo hi:Nat} (hl:lo<18446744073709551616) (hh:hi<18446744073709551616) (S:Some2 lo hi):key (migP lo hi)=(if 0<key lo then key lo else if key hi<0 then-key hi else 0)/\key (magP lo hi)=max (- key lo) (key hi):=by
 have hs:=hs_iff.2 S
 have a1:=key_abs hl
 have a2:=key_abs hh
 have kl:=S.le
 have w1:lo%9223372036854775808<9223372036854775808:=Nat.mod_lt _ (by omega)
 have w2:hi%9223372036854775808<9223372036854775808:=Nat.mod_lt _ (by omega)
 unfold migP magP
 rw [hs]
 simp only [if_true]
 rw [maxW_is (by omega) (by omega),minW_is (by omega) (by omega)]
 generalize lo%9223372036854775808=A at *
 generalize hi%9223372036854775808=B at *
 have hb:hasB lo hi 0=decide (key lo<=0/\0<=key hi):=by
  by_cases c:key lo<=0/\0<=key hi
  ·rw [decide_eq_true c]
   exact has_iff.2 ⟨S,by decide,by decide,c.1,c.2⟩
  ·rw [decide_eq_false c]
   cases h:hasB lo hi 0
   ·rfl
   ·have:=has_iff.1 h
    exact absurd ⟨this.2.2.2.1,this.2.2.2.2⟩ c
 rw [hb]
 refine⟨?_, ?_⟩
 ·by_cases c:key lo<=0/\0<=key hi
  ·rw [decide_eq_true c,if_pos rfl,if_neg (by omega),if_neg (by omega)]
   rfl
  ·rw [decide_eq_false c,if_neg (by simp)]
   split at a1 <;> split at a2 <;> split <;> split <;> try split
   all_goals omega
 ·split at a1 <;> split at a2 <;> split <;> omega
theorem even_gr {xl xh ul uh:Nat} (X:In xl xh ul uh) (k:Nat):Gr (powE xl xh k) (powE ul uh k):=by
 obtain⟨k1,k2,k3,n1,n2,w1,w2⟩:=mag_keys X.a1 X.a2 X.S
 obtain⟨j1,j2,j3,m1,m2,v1,v2⟩:=mag_keys X.b1 X.b2 X.T
 obtain⟨a1,a2⟩:=mig_key X.a1 X.a2 X.S
 obtain⟨b1,b2⟩:=mig_key X.b1 X.b2 X.T
 have kl:=X.kl
 have kh:=X.kh
 have ks:=X.S.le
 refine gr_some (even_some X.a1 X.a2 X.S k) (even_some X.b1 X.b2 X.T k) (pow_rise (-1) (Or.inl rfl) (by omega) (by omega) m1 n1 j1 ?_ k) (pow_rise 1 (Or.inr rfl) (by omega) (by omega) n2 m2 (by omega) ?_ k)
 ·rw [a1,b1]
  split <;> split <;> try split
  all_goals try split
  all_goals omega
 ·rw [a2,b2]
  omega
theorem sqr_gr {xl xh ul uh:Nat} (X:In xl xh ul uh):Gr (sqrP xl xh) (sqrP ul uh):=by
 have e1:sqrP xl xh=powE xl xh 1:=by unfold sqrP;rw [if_pos (hs_iff.2 X.S)];rfl
 have e2:sqrP ul uh=powE ul uh 1:=by unfold sqrP;rw [if_pos (hs_iff.2 X.T)];rfl
 rw [e1,e2]
 exact even_gr X 1
theorem odd_rise {a b:Nat} (d:Int) (hd:d=-1\/d=1) (ha:a<18446744073709551616) (hb:b<18446744073709551616) (na:nanB a=false) (nb:nanB b=false) (h:key a<=key b) (k:Nat):key (oddW a k d)<=key (oddW b k d):=by
 have n1:nanB (negB a)=false:=by rw [nanB_negB ha];exact na
 have n2:nanB (negB b)=false:=by rw [nanB_negB hb];exact nb
 have hd':-d=-1\/-d=1:=by omega
 have f:=pow_num (-d) (negB_lt ha) n1 k
 have g:=pow_num (-d) (negB_lt hb) n2 k
 have ka:=key_negB ha
 have kb:=key_negB hb
 unfold oddW
 rw [lt0 na,lt0 nb]
 by_cases c1:key a<0
 ·rw [decide_eq_true c1,if_pos rfl,key_negB f.2]
  have p:=pow_nneg (-d) hd' (negB_lt ha) n1 (by omega) k
  by_cases c2:key b<0
  ·rw [decide_eq_true c2,if_pos rfl,key_negB g.2]
   have:=pow_rise (-d) hd' (negB_lt hb) (negB_lt ha) n2 n1 (by omega) (by omega) k
   omega
  ·rw [decide_eq_false c2,if_neg (by simp)]
   have:=pow_nneg d hd hb nb (by omega) k
   omega
 ·rw [decide_eq_false c1,if_neg (by simp),decide_eq_false (by omega),if_neg (by simp)]
  exact pow_rise d hd ha hb na nb (by omega) h k
theorem odd_updown {v:Nat} (hv:v<18446744073709551616) (nv:nanB v=false) (k:Nat):key (oddW v k (-1))<=key (oddW v k 1):=by
 have nn:nanB (negB v)=false:=by rw [nanB_negB hv];exact nv
 have kn:=key_negB hv
 unfold oddW
 rw [lt0 nv]
 by_cases c:key v<0
 ·rw [decide_eq_true c,if_pos rfl,if_pos rfl,key_negB (pow_num _ (negB_lt hv) nn k).2,key_negB (pow_num _ (negB_lt hv) nn k).2]
  have:=pow_le (negB_lt hv) (negB_lt hv) nn nn (by omega) (Int.le_refl _) k
  simp only [Int.neg_neg]
  omega
 ·rw [decide_eq_false c,if_neg (by simp),if_neg (by simp)]
  exact pow_le hv hv nv nv (by omega) (Int.le_refl _) k
theorem odd_some {lo hi:Nat} (hl:lo<18446744073709551616) (hh:hi<18446744073709551616) (S:Some2 lo hi) (k:Nat):Some2 (powO lo hi k).1 (powO lo hi k).2/\key (powO lo hi k).1=key (oddW lo k (-1))/\key (powO lo hi k).2=key (oddW hi k 1):=by
 have f:=odd_facts hl S.nl k (-1)
 have g:=odd_facts hh S.nh k 1
 have a:=odd_low hl S.nl S.lt k
 have b:=odd_high hh S.nh S.gt k
 have r:=odd_rise (-1) (Or.inl rfl) hl hh S.nl S.nh S.le k
 have u:=odd_updown hh S.nh k
 have P:Some2 (pz (oddW lo k (-1))) (pz (oddW hi k 1)):=⟨by rw [nan_pz];exact f.1,by rw [nan_pz];exact g.1,by rw [key_pz,key_pz];omega,by rw [key_pz];omega,by rw [key_pz];omega,pz_ne _,pz_ne _⟩
 have e:powO lo hi k=(pz (oddW lo k (-1)),pz (oddW hi k 1)):=by unfold powO makeP;rw [hs_iff.2 P];rfl
 rw [e]
 exact⟨P,key_pz _,key_pz _⟩
theorem pos_gr {xl xh ul uh:Nat} (X:In xl xh ul uh) (n:Int):Gr (posP xl xh n) (posP ul uh n):=by
 unfold posP
 split
 ·exact even_gr X _
 ·obtain⟨A,k1,k2⟩:=odd_some X.a1 X.a2 X.S (n-1).toNat
  obtain⟨A',k3,k4⟩:=odd_some X.b1 X.b2 X.T (n-1).toNat
  refine gr_some A A' ?_ ?_
  ·rw [k1,k3]
   exact odd_rise (-1) (Or.inl rfl) X.b1 X.a1 X.T.nl X.S.nl X.kl _
  ·rw [k2,k4]
   exact odd_rise 1 (Or.inr rfl) X.a2 X.b2 X.S.nh X.T.nh X.kh _
theorem Gr.in {p q:Nat×Nat} (h:Gr p q) (S:Some2 p.1 p.2) (a1:p.1<18446744073709551616) (a2:p.2<18446744073709551616) (b1:q.1<18446744073709551616) (b2:q.2<18446744073709551616):In p.1 p.2 q.1 q.2:=by
 rcases h with ⟨rfl, -⟩ | ⟨S,T,k1,k2⟩
 ·have:=hs_iff.2 S
  rw [empty_some] at this
  cases this
 ·exact⟨S,T,k1,k2,a1,a2,b1,b2⟩
theorem lq_bot {t dl dh:Nat} (ht:t<18446744073709551616) (h1:dl<18446744073709551616) (nt:nanB t=false) (n1:nanB dl=false) (k0:0<=key dl) (kd:key dl<9218868437227405312) (k:key t=-9218868437227405312):key (lqP t dl dh)=-9218868437227405312:=by
 unfold lqP
 rw [le00 nt,decide_eq_false (by omega),if_neg (by simp),eq00 n1]
 by_cases c:key dl=0
 ·rw [decide_eq_true c,if_pos rfl];exact key_down
 ·rw [decide_eq_false c,if_neg (by simp)]
  have ft:finB t=false:=(key_inf ht nt).2 (Or.inr k)
  have fl:finB dl=true:=fin_of h1 n1 k0 (by omega)
  have zl:=isZ_pos h1 c
  have zt:=isZ_pos ht (show key t≠0 by omega)
  have e:divR t dl (-1)=some (infW (signB t != signB dl)):=by unfold divR;rw [nt,n1,zl,ft,fl];simp
  unfold divD
  rw [e,Option.getD_some,sign_key ht zt,sign_key h1 zl,decide_eq_true (by omega),decide_eq_false (by omega)]
  decide
theorem lq_grows {t dl dh t' dl' dh':Nat} (ht:t<18446744073709551616) (h1:dl<18446744073709551616) (h2:dh<18446744073709551616) (ht':t'<18446744073709551616) (h1':dl'<18446744073709551616) (h2':dh'<18446744073709551616)
  (nt:nanB t=false) (n1:nanB dl=false) (n2:nanB dh=false) (nt':nanB t'=false) (n1':nanB dl'=false) (n2':nanB dh'=false)
  (kt:key t<9218868437227405312) (k0:0<=key dl') (ktt:key t'<=key t) (kl:key dl'<=key dl) (kd:key dl<=key dh) (kdl:key dl<9218868437227405312) (kp:0<key dh) (kh:key dh<=key dh'):key (lqP t' dl' dh')<=key (lqP t dl dh):=by
 have rt:=key_range ht nt
 have rt':=key_range ht' nt'
 have rh:=key_range h2 n2
 have rh':=key_range h2' n2'
 by_cases cb:key t=-9218868437227405312
 ·rw [lq_bot ht' h1' nt' n1' k0 (by omega) (by omega),lq_bot ht h1 nt n1 (by omega) kdl cb]
  exact Int.le_refl _
 ·have ft:finB t=true:=by
   cases h:finB t
   ·rcases (key_inf ht nt).1 h with z | z <;> omega
   ·rfl
  have e:lqP t dl dh=if leB 0 t then divD t dh else if eqB dl 0 then infI (-1) else divD t dl:=rfl
  rw [e,le00 nt]
  by_cases c:0<=key t
  ·rw [decide_eq_true c,if_pos rfl]
   cases fh:finB dh
   ·have kh1:key dh=9218868437227405312:=by rcases (key_inf h2 n2).1 fh with z | z <;> omega
    have zh:=isZ_pos h2 (show key dh≠0 by omega)
    have ed:divD t dh=0:=by unfold divD divR;rw [nt,n2,zh,ft,fh];simp
    have k00:key 0=0:=by decide
    rw [ed,k00]
    have kh2:key dh'=9218868437227405312:=by omega
    have fh':finB dh'=false:=(key_inf h2' n2').2 (Or.inl kh2)
    have zh':=isZ_pos h2' (show key dh'≠0 by omega)
    have e':lqP t' dl' dh'=if leB 0 t' then divD t' dh' else if eqB dl' 0 then infI (-1) else divD t' dl':=rfl
    rw [e',le00 nt']
    by_cases c':0<=key t'
    ·rw [decide_eq_true c',if_pos rfl]
     have ft':finB t'=true:=fin_of ht' nt' c' (by omega)
     have ed':divD t' dh'=0:=by unfold divD divR;rw [nt',n2',zh',ft',fh'];simp
     rw [ed',k00]
     exact Int.le_refl _
    ·rw [decide_eq_false c',if_neg (by simp),eq00 n1']
     by_cases z:key dl'=0
     ·rw [decide_eq_true z,if_pos rfl,key_down];omega
     ·rw [decide_eq_false z,if_neg (by simp)]
      have fl':finB dl'=true:=fin_of h1' n1' k0 (by omega)
      have zl':=isZ_pos h1' z
      by_cases cb':key t'=-9218868437227405312
      ·have b:=lq_bot (dh:=dh') ht' h1' nt' n1' k0 (by omega) cb'
       rw [e',le00 nt',decide_eq_false c',if_neg (by simp),eq00 n1',decide_eq_false z,if_neg (by simp)] at b
       rw [b];omega
      ·have ft':finB t'=true:=by
        cases h:finB t'
        ·rcases (key_inf ht' nt').1 h with z | z <;> omega
        ·rfl
       have ed':divD t' dl'=divF t' dl' (-1):=by unfold divD;rw [divR_fin (-1) ft' fl' zl',Option.getD_some]
       rw [ed']
       have s:=div_sides ht' h1' ft' fl' zl'
       have u:=div_mirror (a:=t') (b:=dl') h1' ft' fl' zl'
       have fl:=div_flip (a:=negB t') (b:=dl') (negB_lt ht') h1' (by rw [finB_negB ht'];exact ft') fl' zl'
       rw [negB_negB ht'] at fl
       have p:=div_nonneg (a:=negB t') (b:=dl') (negB_lt ht') h1' (by rw [finB_negB ht'];exact ft') fl' (by rw [key_negB ht'];omega) (by omega)
       rw [fl] at u
       refine Int.le_trans s.1.le (Int.le_trans s.2.1.le ?_)
       rw [u]
       exact Int.neg_nonpos_of_nonneg p
   ·have fd:finB dh=true:=fh
    have zh:=isZ_pos h2 (show key dh≠0 by omega)
    have ed:divD t dh=divF t dh (-1):=by unfold divD;rw [divR_fin (-1) ft fd zh,Option.getD_some]
    rw [ed]
    exact (lq_some ht' h1' h2' ht h2 nt' n1' n2' ft fd k0 ktt (by omega) kh kp).2.2.le
  ·rw [decide_eq_false c,if_neg (by simp),eq00 n1]
   by_cases z:key dl=0
   ·rw [decide_eq_true z,if_pos rfl,key_down]
    have e':lqP t' dl' dh'=if leB 0 t' then divD t' dh' else if eqB dl' 0 then infI (-1) else divD t' dl':=rfl
    rw [e',le00 nt',decide_eq_false (by omega),if_neg (by simp),eq00 n1',decide_eq_true (show key dl'=0 by omega),if_pos rfl,key_down]
    exact Int.le_refl _
   ·rw [decide_eq_false z,if_neg (by simp)]
    have fl:finB dl=true:=fin_of h1 n1 (by omega) (by omega)
    have zl:=isZ_pos h1 z
    have ed:divD t dl=divF t dl (-1):=by unfold divD;rw [divR_fin (-1) ft fl zl,Option.getD_some]
    rw [ed]
    exact (lq_some ht' h1' h2' ht h1 nt' n1' n2' ft fl k0 ktt kl (by omega) (by omega)).2.2.le
theorem shrink_some {xl xh dl dh:Nat} (h1:xl<18446744073709551616) (h2:xh<18446744073709551616) (h3:dl<18446744073709551616) (h4:dh<18446744073709551616) (S:Some2 xl xh) (T:Some2 dl dh) (k0:0<=key dl) (k1:0<key dh) :
  Some2 (shrinkP xl xh dl dh).1 (shrinkP xl xh dl dh).2/\key (shrinkP xl xh dl dh).1=key (lqP xl dl dh)/\key (shrinkP xl xh dl dh).2=- key (lqP (negB xh) dl dh):=by
 obtain⟨-,b1,b2,w1,w2,n1,n2⟩:=shrink_w h1 h2 h3 h4 S T k0 k1
 obtain⟨a,X⟩:=held_some h1 h2 S
 obtain⟨b,D,kb⟩:=held_pos h3 h4 T k0 k1
 have zb:=isZ_pos D.hv (show key b≠0 by omega)
 have l1:=(lq_some X.hl D.hl D.hh X.hv D.hv X.nl D.nl D.nh X.fv D.fv k0 X.kl D.kl D.kh kb).2.2.le
 have fn:finB (negB a)=true:=by rw [finB_negB X.hv];exact X.fv
 have xk:=X.kh
 have l2:=(lq_some (negB_lt X.hh) D.hl D.hh (negB_lt X.hv) D.hv (by rw [nanB_negB X.hh];exact X.nh) D.nl D.nh fn D.fv k0 (by rw [key_negB X.hh,key_negB X.hv];omega) D.kl D.kh kb).2.2.le
 have s:=div_sides X.hv D.hv X.fv D.fv zb
 have u:=div_mirror (a:=a) (b:=b) D.hv X.fv D.fv zb
 have fl:=div_flip (a:=negB a) (b:=b) (negB_lt X.hv) D.hv fn D.fv zb
 rw [negB_negB X.hv] at fl
 rw [fl] at u
 have s1:=Int.le_trans s.1.le s.2.1.le
 have le:key (lqP xl dl dh)<=- key (lqP (negB xh) dl dh):=by
  have:=Int.le_trans l1 s1
  rw [u] at this
  exact Int.le_trans this (Int.neg_le_neg l2)
 have kn:=key_negB w2
 have r1:=key_range w1 n1
 generalize hp:lqP xl dl dh=p at *
 generalize hq:lqP (negB xh) dl dh=q at *
 have P:Some2 (pz p) (pz (negB q)):=⟨by rw [nan_pz];exact n1,by rw [nan_pz,nanB_negB w2];exact n2,by rw [key_pz,key_pz,kn];exact le,by rw [key_pz];omega,by rw [key_pz,kn];omega,pz_ne _,pz_ne _⟩
 have e:shrinkP xl xh dl dh=(pz p,pz (negB q)):=by unfold shrinkP makeP;rw [hp,hq,hs_iff.2 P];rfl
 rw [e]
 exact⟨P,key_pz _,by show key (pz (negB q))=_;rw [key_pz,kn]⟩
theorem shrink_gr {xl xh ul uh yl yh vl vh:Nat} (X:In xl xh ul uh) (Y:In yl yh vl vh) (k0:0<=key vl) (k1:0<key yh):Gr (shrinkP xl xh yl yh) (shrinkP ul uh vl vh):=by
 have yk:=Y.kl
 have yh':=Y.kh
 have xk:=X.kh
 have ys:=Y.S.le
 have sg:=X.S.gt
 obtain⟨A,a1,a2⟩:=shrink_some X.a1 X.a2 Y.a1 Y.a2 X.S Y.S (by omega) k1
 obtain⟨A',b1,b2⟩:=shrink_some X.b1 X.b2 Y.b1 Y.b2 X.T Y.T k0 (by omega)
 refine gr_some A A' ?_ ?_
 ·rw [a1,b1]
  exact lq_grows X.a1 Y.a1 Y.a2 X.b1 Y.b1 Y.b2 X.S.nl Y.S.nl Y.S.nh X.T.nl Y.T.nl Y.T.nh X.S.lt k0 X.kl Y.kl ys Y.S.lt k1 Y.kh
 ·rw [a2,b2]
  have:=lq_grows (negB_lt X.a2) Y.a1 Y.a2 (negB_lt X.b2) Y.b1 Y.b2 (by rw [nanB_negB X.a2];exact X.S.nh) Y.S.nl Y.S.nh (by rw [nanB_negB X.b2];exact X.T.nh) Y.T.nl Y.T.nh (by rw [key_negB X.a2];omega) k0 (by rw [key_negB X.a2,key_negB X.b2];omega) Y.kl ys Y.S.lt k1 Y.kh
  exact Int.neg_le_neg this
theorem zero_some:Some2 0 0:=hs_iff.1 (by decide)
theorem whole_some:Some2 (infI (-1)) (infI 1):=hs_iff.1 (by decide)
theorem zero_gr {xl xh ul uh yl yh vl vh:Nat} (X:In xl xh ul uh) (Y:In yl yh vl vh) (cx:key xl=0/\key xh=0) (k0:0<=key vl) (k1:0<key yh):Gr (0,0) (shrinkP ul uh vl vh):=by
 have yk:=Y.kl
 have ys:=Y.S.le
 have g:=shrink_gr X Y k0 k1
 obtain⟨A,a1,a2⟩:=shrink_some X.a1 X.a2 Y.a1 Y.a2 X.S Y.S (by omega) k1
 have zh:=isZ_pos Y.a2 (show key yh≠0 by omega)
 have q:∀t,t<18446744073709551616->nanB t=false->key t=0->key (lqP t yl yh)=0:=fun t ht nt kt=>by
  unfold lqP
  rw [le00 nt,decide_eq_true (by omega),if_pos rfl,divD_zero ht nt Y.S.nh kt zh]
  decide
 rw [q xl X.a1 X.S.nl cx.1] at a1
 rw [q (negB xh) (negB_lt X.a2) (by rw [nanB_negB X.a2];exact X.S.nh) (by rw [key_negB X.a2];omega)] at a2
 rcases g with ⟨e, -⟩ | ⟨-,T,g1,g2⟩
 ·rw [e] at A
  have:=hs_iff.2 A
  rw [empty_some] at this
  cases this
 ·have k00:key 0=0:=by decide
  refine gr_some zero_some T ?_ ?_
  ·show _<=key 0
   omega
  ·show key 0<=_
   omega
theorem mirror_in {xl xh ul uh:Nat} (X:In xl xh ul uh):In (mirrorP (xl,xh)).1 (mirrorP (xl,xh)).2 (mirrorP (ul,uh)).1 (mirrorP (ul,uh)).2:=by
 have e1:negP (xl,xh)=mirrorP (xl,xh):=by unfold negP;rw [if_pos (hs_iff.2 X.S)]
 have e2:negP (ul,uh)=mirrorP (ul,uh):=by unfold negP;rw [if_pos (hs_iff.2 X.T)]
 have:=neg_in X
 rw [e1,e2] at this
 exact this
theorem div_gr {xl xh ul uh yl yh vl vh:Nat} (X:In xl xh ul uh) (Y:In yl yh vl vh):Gr (divP xl xh yl yh) (divP ul uh vl vh):=by
 have xk1:=X.kl
 have xk2:=X.kh
 have xs:=X.S.le
 have xt:=X.T.le
 have yk1:=Y.kl
 have yk2:=Y.kh
 have ys:=Y.S.le
 have yt:=Y.T.le
 have p1:divP xl xh yl yh=if key yl=0/\key yh=0 then (infI 1,infI (-1)) else if key xl=0/\key xh=0 then (0,0) else if 0<=key yl then shrinkP xl xh yl yh else if key yh<=0 then shrinkP (mirrorP (xl,xh)).1 (mirrorP (xl,xh)).2 (mirrorP (yl,yh)).1 (mirrorP (yl,yh)).2 else (infI (-1),infI 1):=by
  unfold divP;rw [hs_iff.2 X.S,hs_iff.2 Y.S];rfl
 have p2:divP ul uh vl vh=if key vl=0/\key vh=0 then (infI 1,infI (-1)) else if key ul=0/\key uh=0 then (0,0) else if 0<=key vl then shrinkP ul uh vl vh else if key vh<=0 then shrinkP (mirrorP (ul,uh)).1 (mirrorP (ul,uh)).2 (mirrorP (vl,vh)).1 (mirrorP (vl,vh)).2 else (infI (-1),infI 1):=by
  unfold divP;rw [hs_iff.2 X.T,hs_iff.2 Y.T];rfl
 obtain⟨MX,m1,m2, -, -⟩:=mirror_some X.a1 X.a2 X.S
 obtain⟨MU,m3,m4, -, -⟩:=mirror_some X.b1 X.b2 X.T
 obtain⟨MY,m5,m6, -, -⟩:=mirror_some Y.a1 Y.a2 Y.S
 obtain⟨MV,m7,m8, -, -⟩:=mirror_some Y.b1 Y.b2 Y.T
 have IX:=mirror_in X
 have IY:=mirror_in Y
 rw [p1,p2]
 by_cases cv:key vl=0/\key vh=0
 ·rw [if_pos cv,if_pos (by omega)];exact gr_empty
 ·rw [if_neg cv]
  by_cases cy:key yl=0/\key yh=0
  ·rw [if_pos cy]
   refine Or.inl ⟨rfl,Or.inr ?_⟩
   split
   ·exact zero_some
   ·split
    ·exact (shrink_some X.b1 X.b2 Y.b1 Y.b2 X.T Y.T (by omega) (by omega)).1
    ·split
     ·exact (shrink_some IX.b1 IX.b2 IY.b1 IY.b2 MU MV (by omega) (by omega)).1
     ·exact whole_some
  ·rw [if_neg cy]
   by_cases cu:key ul=0/\key uh=0
   ·rw [if_pos cu,if_pos (by omega)]
    exact gr_some zero_some zero_some (Int.le_refl _) (Int.le_refl _)
   ·rw [if_neg cu]
    by_cases c1:0<=key vl
    ·rw [if_pos c1]
     by_cases cx:key xl=0/\key xh=0
     ·rw [if_pos cx];exact zero_gr X Y cx c1 (by omega)
     ·rw [if_neg cx,if_pos (by omega)];exact shrink_gr X Y c1 (by omega)
    ·rw [if_neg c1]
     by_cases c2:key vh<=0
     ·rw [if_pos c2]
      by_cases cx:key xl=0/\key xh=0
      ·rw [if_pos cx];exact zero_gr IX IY (by omega) (by omega) (by omega)
      ·rw [if_neg cx,if_neg (by omega),if_pos (by omega)];exact shrink_gr IX IY (by omega) (by omega)
     ·rw [if_neg c2]
      have W:∀p:Nat×Nat,Some2 p.1 p.2->p.1<18446744073709551616->p.2<18446744073709551616->Gr p (infI (-1),infI 1):=fun p S l1 l2=>by
       refine gr_some S whole_some ?_ ?_
       ·show key (infI (-1))<=_
        rw [key_down];exact (key_range l1 S.nl).1
       ·show _<=key (infI 1)
        rw [key_up];exact (key_range l2 S.nh).2
      have L:=divP_lt X.a1 X.a2 Y.a1 Y.a2
      rw [p1,if_neg cy] at L
      revert L
      split
      ·intro L;exact W _ zero_some L.1 L.2
      ·split
       ·intro L;exact W _ (shrink_some X.a1 X.a2 Y.a1 Y.a2 X.S Y.S (by omega) (by omega)).1 L.1 L.2
       ·split
        ·intro L;exact W _ (shrink_some IX.a1 IX.a2 IY.a1 IY.a2 MX MY (by omega) (by omega)).1 L.1 L.2
        ·intro L;exact W _ whole_some L.1 L.2
theorem one_some:Some2 4607182418800017408 4607182418800017408:=hs_iff.1 (by decide)
theorem pow_gr {xl xh ul uh:Nat} (X:In xl xh ul uh) (n:Int):Gr (powP xl xh n) (powP ul uh n):=by
 unfold powP
 rw [if_pos (hs_iff.2 X.S),if_pos (hs_iff.2 X.T)]
 split
 ·exact gr_some whole_some whole_some (Int.le_refl _) (Int.le_refl _)
 ·split
  ·exact gr_some whole_some whole_some (Int.le_refl _) (Int.le_refl _)
  ·split
   ·exact gr_some one_some one_some (Int.le_refl _) (Int.le_refl _)
   ·split
    ·have g:=pos_gr X (-n)
     have l1:=posP_lt X.a1 X.a2 X.S (-n)
     have l2:=posP_lt X.b1 X.b2 X.T (-n)
     have S:Some2 (posP xl xh (-n)).1 (posP xl xh (-n)).2:=by
      unfold posP
      split
      ·exact even_some X.a1 X.a2 X.S _
      ·exact (odd_some X.a1 X.a2 X.S _).1
     exact div_gr (In.refl (by omega) (by omega) one_some) (g.in S l1.1 l1.2 l2.1 l2.2)
    ·exact pos_gr X n
theorem sqrt_gr {xl xh ul uh:Nat} (X:In xl xh ul uh):Gr (sqrtP xl xh) (sqrtP ul uh):=by
 have xk1:=X.kl
 have xk2:=X.kh
 have R:0<=key uh->sqrtP ul uh=(sqrtV (maxW ul 0) (-1),sqrtV uh 1)/\Some2 (sqrtV (maxW ul 0) (-1)) (sqrtV uh 1):=fun k=>by
  obtain⟨p1,p2,p3,p4,p5,p6⟩:=root_ends X.b1 X.T k
  refine⟨?_,sqrt_some p1 X.b2 p2 X.T.nh p3 p4 p5⟩
  unfold sqrtP
  rw [hs_iff.2 X.T,lt0 X.T.nh,decide_eq_false (by omega)]
  rfl
 by_cases k:0<=key xh
 ·obtain⟨p1,p2,p3,p4,p5,p6⟩:=root_ends X.a1 X.S k
  obtain⟨q1,q2,q3,q4,q5,q6⟩:=root_ends X.b1 X.T (show 0<=key uh by omega)
  obtain⟨e2,T⟩:=R (by omega)
  have S:=sqrt_some p1 X.a2 p2 X.S.nh p3 p4 p5
  have e1:sqrtP xl xh=(sqrtV (maxW xl 0) (-1),sqrtV xh 1):=by
   unfold sqrtP
   rw [hs_iff.2 X.S,lt0 X.S.nh,decide_eq_false (by omega)]
   rfl
  rw [e1,e2]
  have m1:=(maxW_key xl 0).1
  have m2:=(maxW_key ul 0).1
  have f1:finB (maxW xl 0)=true:=fin_of p1 p2 p3 (by omega)
  have f2:finB (maxW ul 0)=true:=fin_of q1 q2 q3 (by omega)
  refine gr_some S T ?_ ?_
  ·show key (sqrtV (maxW ul 0) (-1))<=key (sqrtV (maxW xl 0) (-1))
   rw [sqrtV_fin (-1) f1 (nneg_G p1 p3),sqrtV_fin (-1) f2 (nneg_G q1 q3)]
   exact sqrt_mono_down q1 p1 f2 f1 q3 (by omega)
  ·show key (sqrtV xh 1)<=key (sqrtV uh 1)
   have gh:=nneg_G X.b2 (show 0<=key uh by omega)
   have n1:=sqrtV_nneg 1 X.S.nh k X.a2
   cases fh:finB uh
   ·have e:sqrtV uh 1=uh:=by
     have h:=sqrtV_is 1 X.T.nh gh
     rw [sqrtR_infinite 1 X.T.nh fh gh] at h
     exact (Option.some.inj h).symm
    rw [e]
    have r:=key_range n1.2.2.1 n1.2.1
    rcases (key_inf X.b2 X.T.nh).1 fh with d | d <;> omega
   ·have r:=fin_key X.b2 fh
    have f3:finB xh=true:=fin_of X.a2 X.S.nh k (by omega)
    rw [sqrtV_fin 1 f3 (nneg_G X.a2 k),sqrtV_fin 1 fh gh]
    exact sqrt_mono_up X.a2 X.b2 f3 fh k xk2
 ·have e1:sqrtP xl xh=(infI 1,infI (-1)):=by
   unfold sqrtP
   rw [hs_iff.2 X.S,lt0 X.S.nh,decide_eq_true (by omega)]
   rfl
  rw [e1]
  refine Or.inl ⟨rfl, ?_⟩
  by_cases k2:0<=key uh
  ·obtain⟨e2,T⟩:=R k2
   rw [e2]
   exact Or.inr T
  ·left
   unfold sqrtP
   rw [hs_iff.2 X.T,lt0 X.T.nh,decide_eq_true (by omega)]
   rfl
def W2 (p:Nat×Nat):Prop:=p.1<18446744073709551616/\p.2<18446744073709551616
def mulQ (p q:Nat×Nat):Nat×Nat:=mulP p.1 p.2 q.1 q.2
def addQ (p q:Nat×Nat):Nat×Nat:=addP p.1 p.2 q.1 q.2
def negQ (p:Nat×Nat):Nat×Nat:=negP (p.1,p.2)
def subQ (p q:Nat×Nat):Nat×Nat:=addQ p (negQ q)
def divQ (p q:Nat×Nat):Nat×Nat:=divP p.1 p.2 q.1 q.2
def sqrQ (p:Nat×Nat):Nat×Nat:=sqrP p.1 p.2
def sqrtQ (p:Nat×Nat):Nat×Nat:=sqrtP p.1 p.2
def meetQ (p q:Nat×Nat):Nat×Nat:=meetP p.1 p.2 q.1 q.2
def hullQ (p q:Nat×Nat):Nat×Nat:=hullP p.1 p.2 q.1 q.2
def midQ (p:Nat×Nat):Nat:=midP p.1 p.2
def magQ (p:Nat×Nat):Nat:=magP p.1 p.2
def mkQ (a b:Nat):Nat×Nat:=makeP a b
def ptQ (a:Nat):Nat×Nat:=mkQ a a
def wholeQ (k:Int):Nat×Nat:=ptQ (floatOfInt .f64 k)
theorem mkQ_W2 {a b:Nat} (ha:a<18446744073709551616) (hb:b<18446744073709551616):W2 (mkQ a b):=makeP_lt ha hb
theorem ptQ_W2 {a:Nat} (ha:a<18446744073709551616):W2 (ptQ a):=makeP_lt ha ha
theorem wholeQ_W2 (k:Int):W2 (wholeQ k):=ptQ_W2 (foi_lt k)
theorem mulQ_W2 {p q:Nat×Nat} (hp:W2 p) (hq:W2 q):W2 (mulQ p q):=mulP_lt hp.1 hp.2 hq.1 hq.2
theorem addQ_W2 {p q:Nat×Nat} (hp:W2 p) (hq:W2 q):W2 (addQ p q):=addP_lt hp.1 hp.2 hq.1 hq.2
theorem negQ_W2 {p:Nat×Nat} (hp:W2 p):W2 (negQ p):=negP_lt hp.1 hp.2
theorem subQ_W2 {p q:Nat×Nat} (hp:W2 p) (hq:W2 q):W2 (subQ p q):=addQ_W2 hp (negQ_W2 hq)
theorem divQ_W2 {p q:Nat×Nat} (hp:W2 p) (hq:W2 q):W2 (divQ p q):=divP_lt hp.1 hp.2 hq.1 hq.2
theorem sqrQ_W2 {p:Nat×Nat} (hp:W2 p):W2 (sqrQ p):=sqrP_lt hp.1 hp.2
theorem sqrtQ_W2 {p:Nat×Nat} (hp:W2 p):W2 (sqrtQ p):=sqrtP_lt hp.1 hp.2
theorem meetQ_W2 {p q:Nat×Nat} (hp:W2 p) (hq:W2 q):W2 (meetQ p q):=meetP_lt hp.1 hp.2 hq.1 hq.2
theorem hullQ_W2 {p q:Nat×Nat} (hp:W2 p) (hq:W2 q):W2 (hullQ p q):=hullP_lt hp.1 hp.2 hq.1 hq.2
theorem cMul {p q:Nat×Nat} (hp:W2 p) (hq:W2 q) (w:World):Calls Tryz.prog 54 #[.agg #[.float .f64 p.1,.float .f64 p.2],.agg #[.float .f64 q.1,.float .f64 q.2]] w fun e w'=>e=.returned (.agg #[.float .f64 (mulQ p q).1,.float .f64 (mulQ p q).2])/\Below w.heap.size w w':=Mul_w p.1 p.2 q.1 q.2 hp.1 hp.2 hq.1 hq.2 w
theorem cAdd {p q:Nat×Nat} (hp:W2 p) (hq:W2 q) (w:World):Calls Tryz.prog 61 #[.agg #[.float .f64 p.1,.float .f64 p.2],.agg #[.float .f64 q.1,.float .f64 q.2]] w fun e w'=>e=.returned (.agg #[.float .f64 (addQ p q).1,.float .f64 (addQ p q).2])/\Below w.heap.size w w':=Add_w p.1 p.2 q.1 q.2 hp.1 hp.2 hq.1 hq.2 w
theorem cSub {p q:Nat×Nat} (hp:W2 p) (hq:W2 q) (w:World):Calls Tryz.prog 56 #[.agg #[.float .f64 p.1,.float .f64 p.2],.agg #[.float .f64 q.1,.float .f64 q.2]] w fun e w'=>e=.returned (.agg #[.float .f64 (subQ p q).1,.float .f64 (subQ p q).2])/\Below w.heap.size w w':=Sub_w p.1 p.2 q.1 q.2 hp.1 hp.2 hq.1 hq.2 w
theorem cDiv {p q:Nat×Nat} (hp:W2 p) (hq:W2 q) (w:World):Calls Tryz.prog 50 #[.agg #[.float .f64 p.1,.float .f64 p.2],.agg #[.float .f64 q.1,.float .f64 q.2]] w fun e w'=>e=.returned (.agg #[.float .f64 (divQ p q).1,.float .f64 (divQ p q).2])/\Below w.heap.size w w':=Div_w p.1 p.2 q.1 q.2 hp.1 hp.2 hq.1 hq.2 w
theorem cNeg {p:Nat×Nat} (hp:W2 p) (w:World):Calls Tryz.prog 57 #[.agg #[.float .f64 p.1,.float .f64 p.2]] w fun e w'=>e=.returned (.agg #[.float .f64 (negQ p).1,.float .f64 (negQ p).2])/\Below w.heap.size w w':=neg_w p.1 p.2 hp.1 hp.2 w
theorem cSqr {p:Nat×Nat} (hp:W2 p) (w:World):Calls Tryz.prog 206 #[.agg #[.float .f64 p.1,.float .f64 p.2]] w fun e w'=>e=.returned (.agg #[.float .f64 (sqrQ p).1,.float .f64 (sqrQ p).2])/\Below w.heap.size w w':=Sqr_w p.1 p.2 hp.1 hp.2 w
theorem cSqrt {p:Nat×Nat} (hp:W2 p) (w:World):Calls Tryz.prog 190 #[.agg #[.float .f64 p.1,.float .f64 p.2]] w fun e w'=>e=.returned (.agg #[.float .f64 (sqrtQ p).1,.float .f64 (sqrtQ p).2])/\Below w.heap.size w w':=Sqrt_w p.1 p.2 hp.1 hp.2 w
theorem cMeet {p q:Nat×Nat} (hp:W2 p) (hq:W2 q) (w:World):Calls Tryz.prog 113 #[.agg #[.float .f64 p.1,.float .f64 p.2],.agg #[.float .f64 q.1,.float .f64 q.2]] w fun e w'=>e=.returned (.agg #[.float .f64 (meetQ p q).1,.float .f64 (meetQ p q).2])/\Below w.heap.size w w':=meet_w p.1 p.2 q.1 q.2 hp.1 hp.2 hq.1 hq.2 w
theorem cHull {p q:Nat×Nat} (hp:W2 p) (hq:W2 q) (w:World):Calls Tryz.prog 110 #[.agg #[.float .f64 p.1,.float .f64 p.2],.agg #[.float .f64 q.1,.float .f64 q.2]] w fun e w'=>e=.returned (.agg #[.float .f64 (hullQ p q).1,.float .f64 (hullQ p q).2])/\Below w.heap.size w w':=Hull_w p.1 p.2 q.1 q.2 hp.1 hp.2 hq.1 hq.2 w
theorem cMid {p:Nat×Nat} (hp:W2 p) (w:World):Calls Tryz.prog 150 #[.agg #[.float .f64 p.1,.float .f64 p.2]] w fun e w'=>e=.returned (.float .f64 (midQ p))/\Below w.heap.size w w':=Mid_w p.1 p.2 hp.1 hp.2 w
theorem cMag {p:Nat×Nat} (hp:W2 p) (w:World):Calls Tryz.prog 109 #[.agg #[.float .f64 p.1,.float .f64 p.2]] w fun e w'=>e=.returned (.float .f64 (magQ p))/\Below w.heap.size w w':=mag_w p.1 p.2 hp.1 hp.2 w
theorem cMake {a b:Nat} (ha:a<18446744073709551616) (hb:b<18446744073709551616) (w:World):Calls Tryz.prog 32 #[.float .f64 a,.float .f64 b] w fun e w'=>e=.returned (.agg #[.float .f64 (mkQ a b).1,.float .f64 (mkQ a b).2])/\Below w.heap.size w w':=make_w a b ha hb w
theorem cPoint {a:Nat} (ha:a<18446744073709551616) (w:World):Calls Tryz.prog 55 #[.float .f64 a] w fun e w'=>e=.returned (.agg #[.float .f64 (ptQ a).1,.float .f64 (ptQ a).2])/\Below w.heap.size w w':=point_w a ha w
theorem cWhole (k:Int) (w:World):Calls Tryz.prog 155 #[.int .i64 k] w fun e w'=>e=.returned (.agg #[.float .f64 (wholeQ k).1,.float .f64 (wholeQ k).2])/\Below w.heap.size w w':=wholeI_w k w
theorem cPi (w:World):Calls Tryz.prog 5 #[] w fun e w'=>e=.returned (.agg #[.float .f64 (mkQ 4614256656552045848 4614256656552045849).1,.float .f64 (mkQ 4614256656552045848 4614256656552045849).2])/\Below w.heap.size w w':=Pi_w w
theorem cLn2 (w:World):Calls Tryz.prog 7 #[] w fun e w'=>e=.returned (.agg #[.float .f64 (mkQ 4604418534313441775 4604418534313441776).1,.float .f64 (mkQ 4604418534313441775 4604418534313441776).2])/\Below w.heap.size w w':=Ln2_w w
theorem cNear1 (w:World):Calls Tryz.prog 153 #[] w fun e w'=>e=.returned (.agg #[.float .f64 (mkQ 4602678819172646912 4609434218613702656).1,.float .f64 (mkQ 4602678819172646912 4609434218613702656).2])/\Below w.heap.size w w':=nearOne_w w
theorem cPows {p:Nat×Nat} (hp:W2 p) (w:World):Calls Tryz.prog 100 #[.agg #[.float .f64 p.1,.float .f64 p.2]] w fun e w'=>e=.returned (.agg #[.float .f64 (pwsE p).1,.float .f64 (pwsE p).2])/\Below w.heap.size w w':=pwsE_w p.1 p.2 hp.1 hp.2 w
theorem cOdds {p:Nat×Nat} (hp:W2 p) (w:World):Calls Tryz.prog 291 #[.agg #[.float .f64 p.1,.float .f64 p.2]] w fun e w'=>e=.returned (.agg #[.float .f64 (oddE p.1 p.2).1,.float .f64 (oddE p.1 p.2).2])/\Below w.heap.size w w':=oddE_w p.1 p.2 hp.1 hp.2 w
theorem pwsE_W2 {p:Nat×Nat} (hp:W2 p):W2 (pwsE p) :=
 serS_lt W2 (mkQ_W2 (a:=4602678819172646912) (b:=4609434218613702656) (by omega) (by omega)) (fun _ _ hx=>powF_lt hp.1 hp.2 hx) 16 0
theorem odd_W2 (o t:Nat×Nat) (O:W2 o) (T:W2 t) {z1 z2:Nat} (h1:z1<18446744073709551616) (h2:z2<18446744073709551616):W2 (serS (oddF o z1 z2) t 16 0) :=
 serS_lt W2 T (fun _ _ hx=>oddF_lt O h1 h2 hx) 16 0
theorem odd_c:oddE=fun z1 z2=>serS (oddF (makeP 4607182418800017408 4607182418800017408) z1 z2) (makeP 13812540057145311232 4589168020290535424) 16 0:=rfl
theorem oddE_W2 {p:Nat×Nat} (hp:W2 p):W2 (oddE p.1 p.2):=by
 rw [odd_c]
 exact odd_W2 _ _ (makeP_lt (by omega) (by omega)) (makeP_lt (by omega) (by omega)) hp.1 hp.2
set_option maxHeartbeats 1000000 in
theorem fineLn2_core (m:Nat×Nat) (c1:∀w,Calls Tryz.prog 32 #[.float .f64 4419120210296499430,.float .f64 4419120210296499431] w fun e w'=>e=.returned (.agg #[.float .f64 m.1,.float .f64 m.2])/\Below w.heap.size w w') (w:World):Calls Tryz.prog 101 #[] w fun e w'=>e=.returned (.agg #[.float .f64 4604418534313439232,.float .f64 m.1,.float .f64 m.2])/\Below w.heap.size w w':=by
 go_enter Tryz.func101,Tryz.ntmps101
 go_wp2_with (go_at_call 32;refine (c1 _).mono ?_;rintro _ w1 ⟨rfl,hb1⟩
              have k1:Has3 w1 w.heap.size (.float .f64 0) (.float .f64 0) (.float .f64 0):=Has3.keep ⟨by go_simp,by go_simp,by go_simp,by go_simp,by go_simp,by go_simp,by go_size⟩ hb1
              obtain⟨a0,a1,a2,a3,a4,a5,a6⟩:=k1)
 refine bodyPost_ret (v:=.agg #[.float .f64 4604418534313439232,.float .f64 m.1,.float .f64 m.2]) (by simp [results,Tryz.results101,go_sem, *]) rfl ⟨rfl, ?_⟩
 have HB:Below w.heap.size w w1:=later (by go_grown) hb1
 repeat' (first | (with_reducible exact HB) | (with_reducible refine Below.setCell ?_ ?_ _) | go_size)
set_option maxHeartbeats 1000000 in
theorem fineHalf_core (m:Nat×Nat) (c1:∀w,Calls Tryz.prog 32 #[.float .f64 4454258360616903473,.float .f64 4454258360616903474] w fun e w'=>e=.returned (.agg #[.float .f64 m.1,.float .f64 m.2])/\Below w.heap.size w w') (w:World):Calls Tryz.prog 161 #[] w fun e w'=>e=.returned (.agg #[.float .f64 4609753056924401664,.float .f64 m.1,.float .f64 m.2])/\Below w.heap.size w w':=by
 go_enter Tryz.func161,Tryz.ntmps161
 go_wp2_with (go_at_call 32;refine (c1 _).mono ?_;rintro _ w1 ⟨rfl,hb1⟩
              have k1:Has3 w1 w.heap.size (.float .f64 0) (.float .f64 0) (.float .f64 0):=Has3.keep ⟨by go_simp,by go_simp,by go_simp,by go_simp,by go_simp,by go_simp,by go_size⟩ hb1
              obtain⟨a0,a1,a2,a3,a4,a5,a6⟩:=k1)
 refine bodyPost_ret (v:=.agg #[.float .f64 4609753056924401664,.float .f64 m.1,.float .f64 m.2]) (by simp [results,Tryz.results161,go_sem, *]) rfl ⟨rfl, ?_⟩
 have HB:Below w.heap.size w w1:=later (by go_grown) hb1
 repeat' (first | (with_reducible exact HB) | (with_reducible refine Below.setCell ?_ ?_ _) | go_size)
def halfPiQ:Nat×Nat:=mulQ (ptQ 4602678819172646912) (mkQ 4614256656552045848 4614256656552045849)
theorem halfPiQ_W2:W2 halfPiQ:=mulQ_W2 (ptQ_W2 (by omega)) (mkQ_W2 (by omega) (by omega))
def quartQ (x:Nat×Nat):Nat×Nat:=divQ x halfPiQ
set_option maxHeartbeats 1000000 in
theorem quart_core (x o t h s:Nat×Nat) (c1:∀w,Calls Tryz.prog 55 #[.float .f64 4602678819172646912] w fun e w'=>e=.returned (.agg #[.float .f64 o.1,.float .f64 o.2])/\Below w.heap.size w w') (c2:∀w,Calls Tryz.prog 5 #[] w fun e w'=>e=.returned (.agg #[.float .f64 t.1,.float .f64 t.2])/\Below w.heap.size w w') (c3:∀w,Calls Tryz.prog 54 #[.agg #[.float .f64 o.1,.float .f64 o.2],.agg #[.float .f64 t.1,.float .f64 t.2]] w fun e w'=>e=.returned (.agg #[.float .f64 h.1,.float .f64 h.2])/\Below w.heap.size w w') (c4:∀w,Calls Tryz.prog 50 #[.agg #[.float .f64 x.1,.float .f64 x.2],.agg #[.float .f64 h.1,.float .f64 h.2]] w fun e w'=>e=.returned (.agg #[.float .f64 s.1,.float .f64 s.2])/\Below w.heap.size w w') (w:World):Calls Tryz.prog 160 #[.agg #[.float .f64 x.1,.float .f64 x.2]] w fun e w'=>e=.returned (.agg #[.float .f64 s.1,.float .f64 s.2])/\Below w.heap.size w w':=by
 obtain⟨X,R,HB⟩:=enter1 w (.float .f64 x.1) (.float .f64 x.2) 24
 go_enter Tryz.func160,Tryz.ntmps160
 go_upto_region 2 with (first | (go_at_call 55;with_reducible refine (c1 _).mono ?_;rintro _ VV ⟨rfl,hb1⟩;replace X:=X.keep hb1;replace R:=R.keep hb1;replace HB:=later HB hb1;clear hb1) | (go_at_call 5;with_reducible refine (c2 _).mono ?_;rintro _ VV ⟨rfl,hb1⟩;replace X:=X.keep hb1;replace R:=R.keep hb1;replace HB:=later HB hb1;clear hb1) | (go_at_call 54;with_reducible refine (c3 _).mono ?_;rintro _ VV ⟨rfl,hb1⟩;replace X:=X.keep hb1;replace R:=R.keep hb1;replace HB:=later HB hb1;clear hb1))
 have D:Has2 (VV.alloc (.cells #[.float .f64 h.1,.float .f64 h.2] 24)) VV.heap.size (.float .f64 h.1) (.float .f64 h.2):=has2_new _ _ _ _
 have hb1:Below VV.heap.size VV (VV.alloc (.cells #[.float .f64 h.1,.float .f64 h.2] 24)):=by go_grown
 replace X:=X.keep hb1;replace R:=R.keep hb1;replace HB:=later HB hb1;clear hb1
 clear c1 c2 c3
 generalize VV.alloc (.cells #[.float .f64 h.1,.float .f64 h.2] 24)=V2 at *
 generalize VV.heap.size=d at *
 obtain⟨x0,x1,x2,x3,x4⟩:=id X
 obtain⟨d0,d1,d2,d3,d4⟩:=id D
 go_wp2_with (go_at_call 50;refine (c4 _).mono ?_;rintro _ V3 ⟨rfl,hb1⟩;replace R:=R.keep hb1;replace HB:=later HB hb1;clear hb1;obtain⟨k0,k1,k2,k3,k4⟩:=id R)
 refine bodyPost_ret (v:=.agg #[.float .f64 s.1,.float .f64 s.2]) (by simp [results,Tryz.results160,go_sem, *]) rfl ⟨rfl, ?_⟩;repeat' (first | (with_reducible exact HB) | (with_reducible refine Below.setCell ?_ ?_ _) | go_size)
theorem cQuart {x:Nat×Nat} (hx:W2 x) (w:World):Calls Tryz.prog 160 #[.agg #[.float .f64 x.1,.float .f64 x.2]] w fun e w'=>e=.returned (.agg #[.float .f64 (quartQ x).1,.float .f64 (quartQ x).2])/\Below w.heap.size w w' :=
 quart_core x _ _ _ _ (fun w=>cPoint (by omega) w) (fun w=>cPi w) (fun w=>cMul (ptQ_W2 (by omega)) (mkQ_W2 (by omega) (by omega)) w) (fun w=>cDiv hx halfPiQ_W2 w) w
theorem quartQ_W2 {x:Nat×Nat} (hx:W2 x):W2 (quartQ x):=divQ_W2 hx halfPiQ_W2
end Go.Proofs.YtopfabemfbdccaaGreat
