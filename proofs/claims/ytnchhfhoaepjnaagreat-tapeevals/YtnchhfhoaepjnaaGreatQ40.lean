/- Powers of intervals: what the program answers and what the reference does are the same, word for word. The walks of the program's and of the reference's powers of intervals. Powers of intervals: the program's and the reference's answer the same function, at every number. -/
import Derived.Test.YtnchhfhoaepjnaaGreatQ33
import Derived.Test.YtnchhfhoaepjnaaGreatQ39
namespace Go.Proofs.YtnchhfhoaepjnaaGreat
open Go.ChangeShapes Go.WideShapes Go.ChangeAt Go.RowKit
theorem rpower_w (v:Nat) (d:Int) (hv:v<18446744073709551616) (nv:nanB v=false) (k:Nat):k≤63→∀(n:Int),n=(k:Int)+1→∀w,Calls Tryz.prog 97 #[.float .f64 v,.int .i64 n,.int .i64 d] w fun e w'=>e=.returned (.float .f64 (powW v d k))∧Below w.heap.size w w':=by
 induction k with
 | zero =>
   intro _ n hn w
   have:n=1:=by omega
   subst this
   exact rpower_one v d w
 | succ k ih =>
   intro hk n hn w
   have f:=pow_num d hv nv k
   exact rpower_step v (powW v d k) (powW v d (k+1)) n d (by rw [beq_eq_false_iff_ne];omega) (by omega) (by omega) (fun w=>ih (by omega) (n-1) (by omega) w) (fun w=>rmulV_w (powW v d k) v d f.2 hv f.1 nv w) w
set_option maxHeartbeats 1000000 in
theorem power_w (v:Nat) (d:Int) (hv:v<18446744073709551616) (nv:nanB v=false) (k:Nat) (hk:k≤63) (n:Int) (hn:n=(k:Int)+1) (w:World):Calls Tryz.prog 125 #[.float .f64 v,.int .i64 n,.int .i64 d] w fun e w'=>e=.returned (.float .f64 (powW v d k))∧Below w.heap.size w w':=by
 have c:=fun (i:Nat) (w:World)=>mulV_w (powW v d i) v d (pow_num d hv nv i).2 hv (pow_num d hv nv i).1 nv w
 obtain⟨P,hP⟩:∃P:Nat→Nat,∀i,P i=powW v d i:=⟨_,fun _=>rfl⟩
 have hs:∀i,mulV (P i) v d=P (i+1):=fun i=>by rw [hP,hP];rfl
 have h0:P 0=v:=by rw [hP];rfl
 rw [←hP k]
 simp only [←hP,hs] at c
 have hn1:n-1=(k:Int):=by omega
 clear hP hs nv hn hv
 go_enter Tryz.func125,Tryz.ntmps125
 go_wp2_with fail
 go_loopg [7,11] k (fun G s7 s11 wx=>Below w.heap.size w wx∧∃i:Nat,i+G=k∧s7=.float .f64 (P i)∧s11=.int .i64 (i:Int))
 case atStart=>exact⟨Below.refl _ _,0,by omega,by rw [h0],rfl⟩
 case round =>
   clear h0
   obtain⟨HB,i,hi,rfl,rfl⟩:=hrel
   by_cases ci:i=k
   · subst ci
     go_wp2_with fail
     go_ret
     exact⟨rfl,HB⟩
   · have hlt:(i:Int)<(k:Int):=by omega
     go_wp2_with (go_at_call 122;refine (c i _).mono ?_;rintro _ w1 ⟨rfl,hb1⟩)
     go_roundg (k-i-1)
     case measure=>omega
     case rel=>exact⟨later HB hb1,i+1,by omega,rfl,by go_num⟩
def oddW (v:Nat) (k:Nat) (d:Int):Nat:=if ltB v 0 then negB (powW (negB v) (-d) k) else powW v d k
def rsignW (v:Nat) (k:Nat) (d:Int):Nat:=if ltB v 0 then zminus (powW (zminus v) (-d) k) else powW v d k
set_option maxHeartbeats 1000000 in
theorem odd_core (v nv p np q:Nat) (n d e:Int) (b:Bool) (o:(FloatKind.f64.format.order v 0==some .lt)=b) (hd:-1≤d∧d≤1) (he:-d=e) (e1:Op.negFloat .f64 v=nv) (e2:Op.negFloat .f64 p=np)
   (c1:b=true→∀w,Calls Tryz.prog 125 #[.float .f64 nv,.int .i64 n,.int .i64 e] w fun e w'=>e=.returned (.float .f64 p)∧Below w.heap.size w w') (c2:b=false→∀w,Calls Tryz.prog 125 #[.float .f64 v,.int .i64 n,.int .i64 d] w fun e w'=>e=.returned (.float .f64 q)∧Below w.heap.size w w') (w:World) :
   Calls Tryz.prog 128 #[.float .f64 v,.int .i64 n,.int .i64 d] w fun e w'=>e=.returned (.float .f64 (if b then np else q))∧Below w.heap.size w w':=by
 cases b
 · replace c2:=c2 rfl
   clear c1
   go_enter Tryz.func128,Tryz.ntmps128
   go_wp2_with (go_at_call 125;refine (c2 _).mono ?_;rintro _ w1 ⟨rfl,hb1⟩)
   go_ret
   exact⟨rfl,hb1⟩
 · replace c1:=c1 rfl
   clear c2
   go_enter Tryz.func128,Tryz.ntmps128
   go_wp2_with (go_at_call 125;refine (c1 _).mono ?_;rintro _ w1 ⟨rfl,hb1⟩)
   go_ret
   exact⟨rfl,hb1⟩
set_option maxHeartbeats 1000000 in
theorem rsigned_core (v nv p np q:Nat) (n d e:Int) (b:Bool) (o:(FloatKind.f64.format.order v 0==some .lt)=b) (hd:-1≤d∧d≤1) (he:0-d=e)
   (e1:∀(t:TypeId) (w:World),(binOp .sub t (.float .f64 0) (.float .f64 v)).run Tryz.prog w=.ok (.float .f64 nv) w) (e2:∀(t:TypeId) (w:World),(binOp .sub t (.float .f64 0) (.float .f64 p)).run Tryz.prog w=.ok (.float .f64 np) w)
   (c1:b=true→∀w,Calls Tryz.prog 97 #[.float .f64 nv,.int .i64 n,.int .i64 e] w fun e w'=>e=.returned (.float .f64 p)∧Below w.heap.size w w') (c2:b=false→∀w,Calls Tryz.prog 97 #[.float .f64 v,.int .i64 n,.int .i64 d] w fun e w'=>e=.returned (.float .f64 q)∧Below w.heap.size w w') (w:World) :
   Calls Tryz.prog 100 #[.float .f64 v,.int .i64 n,.int .i64 d] w fun e w'=>e=.returned (.float .f64 (if b then np else q))∧Below w.heap.size w w':=by
 cases b
 · replace c2:=c2 rfl
   clear c1 e1 e2
   go_enter Tryz.func100,Tryz.ntmps100
   go_wp2_with (go_at_call 97;refine (c2 _).mono ?_;rintro _ w1 ⟨rfl,hb1⟩)
   go_ret
   exact⟨rfl,hb1⟩
 · replace c1:=c1 rfl
   clear c2
   go_enter Tryz.func100,Tryz.ntmps100
   go_wp2_with (go_at_call 97;refine (c1 _).mono ?_;rintro _ w1 ⟨rfl,hb1⟩)
   go_ret
   exact⟨rfl,hb1⟩
theorem odd_w (v:Nat) (d:Int) (hd:d=-1∨d=1) (hv:v<18446744073709551616) (nv:nanB v=false) (k:Nat) (hk:k≤63) (n:Int) (hn:n=(k:Int)+1) (w:World):Calls Tryz.prog 128 #[.float .f64 v,.int .i64 n,.int .i64 d] w fun e w'=>e=.returned (.float .f64 (oddW v k d))∧Below w.heap.size w w':=by
 have nn:nanB (negB v)=false:=by rw [nanB_negB hv];exact nv
 have f:=pow_num (-d) (negB_lt hv) nn k
 exact odd_core v (negB v) (powW (negB v) (-d) k) (negB (powW (negB v) (-d) k)) (powW v d k) n d (-d) _ (o_lt hv (by omega)) (by omega) rfl (negFloat_eq v hv) (negFloat_eq _ f.2)
   (fun _ w=>power_w (negB v) (-d) (negB_lt hv) nn k hk n hn w) (fun _ w=>power_w v d hv nv k hk n hn w) w
theorem rsigned_w (v:Nat) (d:Int) (hd:d=-1∨d=1) (hv:v<18446744073709551616) (nv:nanB v=false) (k:Nat) (hk:k≤63) (n:Int) (hn:n=(k:Int)+1) (w:World):Calls Tryz.prog 100 #[.float .f64 v,.int .i64 n,.int .i64 d] w fun e w'=>e=.returned (.float .f64 (rsignW v k d))∧Below w.heap.size w w':=by
 have nn:nanB (zminus v)=false:=by rw [zminus_nan hv];exact nv
 have f:=pow_num (-d) (zminus_lt hv) nn k
 exact rsigned_core v (zminus v) (powW (zminus v) (-d) k) (zminus (powW (zminus v) (-d) k)) (powW v d k) n d (-d) _ (o_lt hv (by omega)) (by omega) (by omega) (zminus_run hv nv) (zminus_run f.2 f.1)
   (fun _ w=>rpower_w (zminus v) (-d) (zminus_lt hv) nn k hk n hn w) (fun _ w=>rpower_w v d hv nv k hk n hn w) w
theorem odd_facts {v:Nat} (hv:v<18446744073709551616) (nv:nanB v=false) (k:Nat) (d:Int):nanB (oddW v k d)=false∧oddW v k d<18446744073709551616∧nanB (rsignW v k d)=false∧rsignW v k d<18446744073709551616∧pz (rsignW v k d)=pz (oddW v k d):=by
 have nn:nanB (negB v)=false:=by rw [nanB_negB hv];exact nv
 have f:=pow_num (-d) (negB_lt hv) nn k
 have g:=pow_num d hv nv k
 unfold oddW rsignW
 rw [lt0 nv]
 by_cases c:key v<0
 · rw [decide_eq_true c,if_pos rfl,if_pos rfl,zminus_is hv (by omega)]
   exact⟨by rw [nanB_negB f.2];exact f.1,negB_lt f.2,by rw [zminus_nan f.2];exact f.1,zminus_lt f.2,pz_zminus f.2⟩
 · rw [decide_eq_false c,if_neg (by simp),if_neg (by simp)]
   exact⟨g.1,g.2,g.1,g.2,rfl⟩
theorem odd_low {v:Nat} (hv:v<18446744073709551616) (nv:nanB v=false) (k0:key v<9218868437227405312) (k:Nat):key (oddW v k (-1))≤9218868437227405311:=by
 have nn:nanB (negB v)=false:=by rw [nanB_negB hv];exact nv
 unfold oddW
 rw [lt0 nv]
 by_cases c:key v<0
 · rw [decide_eq_true c,if_pos rfl]
   have f:=pow_num (-(-1)) (negB_lt hv) nn k
   have h:=pow_nneg (-(-1)) (Or.inr rfl) (negB_lt hv) nn (by rw [key_negB hv];omega) k
   rw [key_negB f.2]
   omega
 · rw [decide_eq_false c,if_neg (by simp)]
   exact pow_top hv nv (by omega) (by omega) k
theorem odd_high {v:Nat} (hv:v<18446744073709551616) (nv:nanB v=false) (k0:-9218868437227405312<key v) (k:Nat):-9218868437227405311≤key (oddW v k 1):=by
 have nn:nanB (negB v)=false:=by rw [nanB_negB hv];exact nv
 unfold oddW
 rw [lt0 nv]
 by_cases c:key v<0
 · rw [decide_eq_true c,if_pos rfl]
   have f:=pow_num (-1) (negB_lt hv) nn k
   have h:=pow_top (negB_lt hv) nn (by rw [key_negB hv];omega) (by rw [key_negB hv];omega) k
   rw [key_negB f.2]
   omega
 · rw [decide_eq_false c,if_neg (by simp)]
   have:=pow_nneg 1 (Or.inr rfl) hv nv (by omega) k
   omega
def powO (lo hi k:Nat):Nat×Nat:=makeP (oddW lo k (-1)) (oddW hi k 1)
def powE (lo hi k:Nat):Nat×Nat:=(powW (migP lo hi) (-1) k,powW (magP lo hi) 1 k)
theorem rodd_is {lo hi:Nat} (hl:lo<18446744073709551616) (hh:hi<18446744073709551616) (S:Some2 lo hi) (k:Nat):rendsP (rsignW lo k (-1)) (rsignW hi k 1)=powO lo hi k:=by
 have f:=odd_facts hl S.nl k (-1)
 have g:=odd_facts hh S.nh k 1
 have a:=odd_low hl S.nl S.lt k
 have b:=odd_high hh S.nh S.gt k
 have ka:key (rsignW lo k (-1))=key (oddW lo k (-1)):=by rw [←key_pz,f.2.2.2.2,key_pz]
 have kb:key (rsignW hi k 1)=key (oddW hi k 1):=by rw [←key_pz,g.2.2.2.2,key_pz]
 have k1:key 9218868437227405311=9218868437227405311:=by decide
 have k2:key 18442240474082181119=-9218868437227405311:=by decide
 unfold rendsP powO
 rw [lt_is (by decide) f.2.2.1,lt_is g.2.2.1 (by decide),k1,k2,ka,kb,decide_eq_false (by omega),decide_eq_false (by omega),if_neg (by simp),if_neg (by simp)]
 unfold makeP
 rw [f.2.2.2.2,g.2.2.2.2]
set_option maxHeartbeats 1000000 in
theorem ppow_none (lo hi:Nat) (n:Int) (c0:∀b' W,W.cell? ⟨b',0,none⟩=some (.float .f64 lo)→W.cell? ⟨b',1,none⟩=some (.float .f64 hi)→Calls Tryz.prog 102 #[.slice (some ⟨b',0,none⟩) 1 1] W fun e w'=>e=.returned (.bool true)∧Below W.heap.size W w')  (w:World) :
   Calls Tryz.prog 75 #[.agg #[.float .f64 lo,.float .f64 hi],.int .i64 n] w fun e w'=>e=.returned (.agg #[.float .f64 (infI 1),.float .f64 (infI (-1))])∧Below w.heap.size w w':=by
 have ne1:w.heap.size+1≠w.heap.size:=by omega
 have ne2:w.heap.size≠w.heap.size+1:=by omega
 go_enter Tryz.func75,Tryz.ntmps75
 go_wp2_with (first
   | (go_at_call 102;refine (c0 (w.heap.size+1+1) _ (by go_simp) (by go_simp)).mono ?_;rintro _ V1 ⟨rfl,hb1⟩
      have X:Has2 V1 w.heap.size (.float .f64 lo) (.float .f64 hi):=Has2.keep ⟨by go_simp,by go_simp,by go_simp,by go_simp,by go_size⟩ hb1
      have R:Has2 V1 (w.heap.size+1) (.float .f64 0) (.float .f64 0):=Has2.keep ⟨by go_simp,by go_simp,by go_simp,by go_simp,by go_size⟩ hb1
      have HB:Below w.heap.size w V1:=later (by go_grown) hb1
      clear hb1)
   | (go_at_call 68;refine (empty_w _).mono ?_;rintro _ w2 ⟨rfl,hb1⟩;replace R:=R.keep hb1;replace HB:=later HB hb1;clear hb1
      obtain⟨k0,k1,k2,k3,k4⟩:=id R))
 refine bodyPost_ret (v:=.agg #[.float .f64 (infI 1),.float .f64 (infI (-1))]) (by simp [results,Tryz.results75,go_sem, *]) rfl ⟨rfl, ?_⟩
 repeat' (first | (with_reducible exact HB) | (with_reducible refine Below.setCell ?_ ?_ _) | go_size)
set_option maxHeartbeats 1000000 in
theorem ppow_low (lo hi:Nat) (n:Int) (c0:∀b' W,W.cell? ⟨b',0,none⟩=some (.float .f64 lo)→W.cell? ⟨b',1,none⟩=some (.float .f64 hi)→Calls Tryz.prog 102 #[.slice (some ⟨b',0,none⟩) 1 1] W fun e w'=>e=.returned (.bool false)∧Below W.heap.size W w') (h1:n < -64) (w:World) :
   Calls Tryz.prog 75 #[.agg #[.float .f64 lo,.float .f64 hi],.int .i64 n] w fun e w'=>e=.returned (.agg #[.float .f64 (infI (-1)),.float .f64 (infI 1)])∧Below w.heap.size w w':=by
 have ne1:w.heap.size+1≠w.heap.size:=by omega
 have ne2:w.heap.size≠w.heap.size+1:=by omega
 go_enter Tryz.func75,Tryz.ntmps75
 go_wp2_with (first
   | (go_at_call 102;refine (c0 (w.heap.size+1+1) _ (by go_simp) (by go_simp)).mono ?_;rintro _ V1 ⟨rfl,hb1⟩
      have X:Has2 V1 w.heap.size (.float .f64 lo) (.float .f64 hi):=Has2.keep ⟨by go_simp,by go_simp,by go_simp,by go_simp,by go_size⟩ hb1
      have R:Has2 V1 (w.heap.size+1) (.float .f64 0) (.float .f64 0):=Has2.keep ⟨by go_simp,by go_simp,by go_simp,by go_simp,by go_size⟩ hb1
      have HB:Below w.heap.size w V1:=later (by go_grown) hb1
      clear hb1)
   | (go_at_call 124;refine (whole_w _).mono ?_;rintro _ w2 ⟨rfl,hb1⟩;replace R:=R.keep hb1;replace HB:=later HB hb1;clear hb1
      obtain⟨k0,k1,k2,k3,k4⟩:=id R))
 refine bodyPost_ret (v:=.agg #[.float .f64 (infI (-1)),.float .f64 (infI 1)]) (by simp [results,Tryz.results75,go_sem, *]) rfl ⟨rfl, ?_⟩
 repeat' (first | (with_reducible exact HB) | (with_reducible refine Below.setCell ?_ ?_ _) | go_size)
set_option maxHeartbeats 1000000 in
theorem ppow_high (lo hi:Nat) (n:Int) (c0:∀b' W,W.cell? ⟨b',0,none⟩=some (.float .f64 lo)→W.cell? ⟨b',1,none⟩=some (.float .f64 hi)→Calls Tryz.prog 102 #[.slice (some ⟨b',0,none⟩) 1 1] W fun e w'=>e=.returned (.bool false)∧Below W.heap.size W w') (h1:64<n) (w:World) :
   Calls Tryz.prog 75 #[.agg #[.float .f64 lo,.float .f64 hi],.int .i64 n] w fun e w'=>e=.returned (.agg #[.float .f64 (infI (-1)),.float .f64 (infI 1)])∧Below w.heap.size w w':=by
 have ne1:w.heap.size+1≠w.heap.size:=by omega
 have ne2:w.heap.size≠w.heap.size+1:=by omega
 go_enter Tryz.func75,Tryz.ntmps75
 go_wp2_with (first
   | (go_at_call 102;refine (c0 (w.heap.size+1+1) _ (by go_simp) (by go_simp)).mono ?_;rintro _ V1 ⟨rfl,hb1⟩
      have X:Has2 V1 w.heap.size (.float .f64 lo) (.float .f64 hi):=Has2.keep ⟨by go_simp,by go_simp,by go_simp,by go_simp,by go_size⟩ hb1
      have R:Has2 V1 (w.heap.size+1) (.float .f64 0) (.float .f64 0):=Has2.keep ⟨by go_simp,by go_simp,by go_simp,by go_simp,by go_size⟩ hb1
      have HB:Below w.heap.size w V1:=later (by go_grown) hb1
      clear hb1)
   | (go_at_call 124;refine (whole_w _).mono ?_;rintro _ w2 ⟨rfl,hb1⟩;replace R:=R.keep hb1;replace HB:=later HB hb1;clear hb1
      obtain⟨k0,k1,k2,k3,k4⟩:=id R))
 refine bodyPost_ret (v:=.agg #[.float .f64 (infI (-1)),.float .f64 (infI 1)]) (by simp [results,Tryz.results75,go_sem, *]) rfl ⟨rfl, ?_⟩
 repeat' (first | (with_reducible exact HB) | (with_reducible refine Below.setCell ?_ ?_ _) | go_size)
set_option maxHeartbeats 1000000 in
theorem ppow_zero (lo hi:Nat) (n:Int) (c0:∀b' W,W.cell? ⟨b',0,none⟩=some (.float .f64 lo)→W.cell? ⟨b',1,none⟩=some (.float .f64 hi)→Calls Tryz.prog 102 #[.slice (some ⟨b',0,none⟩) 1 1] W fun e w'=>e=.returned (.bool false)∧Below W.heap.size W w') (h1:n=0) (c1:∀w,Calls Tryz.prog 114 #[.float .f64 4607182418800017408] w fun e w'=>e=.returned (.agg #[.float .f64 4607182418800017408,.float .f64 4607182418800017408])∧Below w.heap.size w w') (w:World) :
   Calls Tryz.prog 75 #[.agg #[.float .f64 lo,.float .f64 hi],.int .i64 n] w fun e w'=>e=.returned (.agg #[.float .f64 4607182418800017408,.float .f64 4607182418800017408])∧Below w.heap.size w w':=by
 have ne1:w.heap.size+1≠w.heap.size:=by omega
 have ne2:w.heap.size≠w.heap.size+1:=by omega
 go_enter Tryz.func75,Tryz.ntmps75
 go_wp2_with (first
   | (go_at_call 102;refine (c0 (w.heap.size+1+1) _ (by go_simp) (by go_simp)).mono ?_;rintro _ V1 ⟨rfl,hb1⟩
      have X:Has2 V1 w.heap.size (.float .f64 lo) (.float .f64 hi):=Has2.keep ⟨by go_simp,by go_simp,by go_simp,by go_simp,by go_size⟩ hb1
      have R:Has2 V1 (w.heap.size+1) (.float .f64 0) (.float .f64 0):=Has2.keep ⟨by go_simp,by go_simp,by go_simp,by go_simp,by go_size⟩ hb1
      have HB:Below w.heap.size w V1:=later (by go_grown) hb1
      clear hb1)
   | (go_at_call 114;refine (c1 _).mono ?_;rintro _ w2 ⟨rfl,hb1⟩;replace R:=R.keep hb1;replace HB:=later HB hb1;clear hb1
      obtain⟨k0,k1,k2,k3,k4⟩:=id R))
 refine bodyPost_ret (v:=.agg #[.float .f64 4607182418800017408,.float .f64 4607182418800017408]) (by simp [results,Tryz.results75,go_sem, *]) rfl ⟨rfl, ?_⟩
 repeat' (first | (with_reducible exact HB) | (with_reducible refine Below.setCell ?_ ?_ _) | go_size)
set_option maxHeartbeats 1000000 in
theorem ppow_neg (lo hi p q r1 r2:Nat) (n:Int) (c0:∀b' W,W.cell? ⟨b',0,none⟩=some (.float .f64 lo)→W.cell? ⟨b',1,none⟩=some (.float .f64 hi)→Calls Tryz.prog 102 #[.slice (some ⟨b',0,none⟩) 1 1] W fun e w'=>e=.returned (.bool false)∧Below W.heap.size W w') (h1:-64≤n) (h2:n<0) (c1:∀w,Calls Tryz.prog 114 #[.float .f64 4607182418800017408] w fun e w'=>e=.returned (.agg #[.float .f64 4607182418800017408,.float .f64 4607182418800017408])∧Below w.heap.size w w') (c2:∀w,Calls Tryz.prog 75 #[.agg #[.float .f64 lo,.float .f64 hi],.int .i64 (-n)] w fun e w'=>e=.returned (.agg #[.float .f64 p,.float .f64 q])∧Below w.heap.size w w') (c3:∀w,Calls Tryz.prog 73 #[.agg #[.float .f64 4607182418800017408,.float .f64 4607182418800017408],.agg #[.float .f64 p,.float .f64 q]] w fun e w'=>e=.returned (.agg #[.float .f64 r1,.float .f64 r2])∧Below w.heap.size w w') (w:World) :
   Calls Tryz.prog 75 #[.agg #[.float .f64 lo,.float .f64 hi],.int .i64 n] w fun e w'=>e=.returned (.agg #[.float .f64 r1,.float .f64 r2])∧Below w.heap.size w w':=by
 have ne1:w.heap.size+1≠w.heap.size:=by omega
 have ne2:w.heap.size≠w.heap.size+1:=by omega
 go_enter Tryz.func75,Tryz.ntmps75
 go_upto_region 8 with (first
   | (go_at_call 102;refine (c0 (w.heap.size+1+1) _ (by go_simp) (by go_simp)).mono ?_;rintro _ V1 ⟨rfl,hb1⟩
      have X:Has2 V1 w.heap.size (.float .f64 lo) (.float .f64 hi):=Has2.keep ⟨by go_simp,by go_simp,by go_simp,by go_simp,by go_size⟩ hb1
      have R:Has2 V1 (w.heap.size+1) (.float .f64 0) (.float .f64 0):=Has2.keep ⟨by go_simp,by go_simp,by go_simp,by go_simp,by go_size⟩ hb1
      have HB:Below w.heap.size w V1:=later (by go_grown) hb1
      clear hb1))
 have kx0:=fun n:Behind V1=>n.cell X.1 X.2.2.2.2
 have kx1:=fun n:Behind V1=>n.cell X.2.1 X.2.2.2.2
 refine tail_behind 6 (by kernel_rfl) (by kernel_rfl) ?_
 simp only [List.take_succ_cons,List.take_zero,List.drop_succ_cons,List.drop_zero]
 repeat (go_big_quiet_step (first
   | (go_at_call 114;with_reducible refine Behind.call (c1 _))
   | (go_at_call 75;with_reducible refine Behind.call (c2 _))
   | (go_at_call 73;with_reducible refine Behind.call (c3 _))))
 refine wpQuiet_nil ?_
 rintro _ ⟨m,rfl⟩
 obtain⟨W,hb1⟩:=m
 dsimp only
 clear kx0 kx1
 replace R:=R.keep hb1;replace HB:=later HB hb1;clear hb1
 obtain⟨k0,k1,k2,k3,k4⟩:=id R
 go_wp2_with fail
 refine bodyPost_ret (v:=.agg #[.float .f64 r1,.float .f64 r2]) (by simp [results,Tryz.results75,go_sem, *]) rfl ⟨rfl, ?_⟩
 repeat' (first | (with_reducible exact HB) | (with_reducible refine Below.setCell ?_ ?_ _) | go_size)
set_option maxHeartbeats 1000000 in
theorem ppow_even (lo hi a b p q:Nat) (n:Int) (c0:∀b' W,W.cell? ⟨b',0,none⟩=some (.float .f64 lo)→W.cell? ⟨b',1,none⟩=some (.float .f64 hi)→Calls Tryz.prog 102 #[.slice (some ⟨b',0,none⟩) 1 1] W fun e w'=>e=.returned (.bool false)∧Below W.heap.size W w') (h1:0<n) (h2:n≤64) (h3:n.tmod 2=0) (c1:∀w,Calls Tryz.prog 126 #[.agg #[.float .f64 lo,.float .f64 hi]] w fun e w'=>e=.returned (.float .f64 a)∧Below w.heap.size w w') (c2:∀w,Calls Tryz.prog 127 #[.agg #[.float .f64 lo,.float .f64 hi]] w fun e w'=>e=.returned (.float .f64 b)∧Below w.heap.size w w') (c3:∀w,Calls Tryz.prog 125 #[.float .f64 a,.int .i64 n,.int .i64 (-1)] w fun e w'=>e=.returned (.float .f64 p)∧Below w.heap.size w w') (c4:∀w,Calls Tryz.prog 125 #[.float .f64 b,.int .i64 n,.int .i64 1] w fun e w'=>e=.returned (.float .f64 q)∧Below w.heap.size w w') (w:World) :
   Calls Tryz.prog 75 #[.agg #[.float .f64 lo,.float .f64 hi],.int .i64 n] w fun e w'=>e=.returned (.agg #[.float .f64 p,.float .f64 q])∧Below w.heap.size w w':=by
 have ne1:w.heap.size+1≠w.heap.size:=by omega
 have ne2:w.heap.size≠w.heap.size+1:=by omega
 go_enter Tryz.func75,Tryz.ntmps75
 go_upto_region 10 with (first
   | (go_at_call 102;refine (c0 (w.heap.size+1+1) _ (by go_simp) (by go_simp)).mono ?_;rintro _ V1 ⟨rfl,hb1⟩
      have X:Has2 V1 w.heap.size (.float .f64 lo) (.float .f64 hi):=Has2.keep ⟨by go_simp,by go_simp,by go_simp,by go_simp,by go_size⟩ hb1
      have R:Has2 V1 (w.heap.size+1) (.float .f64 0) (.float .f64 0):=Has2.keep ⟨by go_simp,by go_simp,by go_simp,by go_simp,by go_size⟩ hb1
      have HB:Below w.heap.size w V1:=later (by go_grown) hb1
      clear hb1))
 have kx0:=fun n:Behind V1=>n.cell X.1 X.2.2.2.2
 have kx1:=fun n:Behind V1=>n.cell X.2.1 X.2.2.2.2
 refine tail_behind 9 (by kernel_rfl) (by kernel_rfl) ?_
 simp only [List.take_succ_cons,List.take_zero,List.drop_succ_cons,List.drop_zero]
 repeat (go_big_quiet_step (first
   | (go_at_call 126;with_reducible refine Behind.call (c1 _))
   | (go_at_call 127;with_reducible refine Behind.call (c2 _))
   | (go_at_call 125;with_reducible refine Behind.call (c3 _))
   | (go_at_call 125;with_reducible refine Behind.call (c4 _))))
 refine wpQuiet_nil ?_
 rintro _ ⟨m,rfl⟩
 obtain⟨W,hb1⟩:=m
 dsimp only
 clear kx0 kx1
 replace R:=R.keep hb1;replace HB:=later HB hb1;clear hb1
 obtain⟨k0,k1,k2,k3,k4⟩:=id R
 go_wp2_with fail
 refine bodyPost_ret (v:=.agg #[.float .f64 p,.float .f64 q]) (by simp [results,Tryz.results75,go_sem, *]) rfl ⟨rfl, ?_⟩
 repeat' (first | (with_reducible exact HB) | (with_reducible refine Below.setCell ?_ ?_ _) | go_size)
set_option maxHeartbeats 1000000 in
theorem ppow_odd (lo hi p q r1 r2:Nat) (n:Int) (c0:∀b' W,W.cell? ⟨b',0,none⟩=some (.float .f64 lo)→W.cell? ⟨b',1,none⟩=some (.float .f64 hi)→Calls Tryz.prog 102 #[.slice (some ⟨b',0,none⟩) 1 1] W fun e w'=>e=.returned (.bool false)∧Below W.heap.size W w') (h1:0<n) (h2:n≤64) (h3:n.tmod 2=1) (c3:∀w,Calls Tryz.prog 128 #[.float .f64 lo,.int .i64 n,.int .i64 (-1)] w fun e w'=>e=.returned (.float .f64 p)∧Below w.heap.size w w') (c4:∀w,Calls Tryz.prog 128 #[.float .f64 hi,.int .i64 n,.int .i64 1] w fun e w'=>e=.returned (.float .f64 q)∧Below w.heap.size w w') (c5:∀w,Calls Tryz.prog 82 #[.float .f64 p,.float .f64 q] w fun e w'=>e=.returned (.agg #[.float .f64 r1,.float .f64 r2])∧Below w.heap.size w w') (w:World) :
   Calls Tryz.prog 75 #[.agg #[.float .f64 lo,.float .f64 hi],.int .i64 n] w fun e w'=>e=.returned (.agg #[.float .f64 r1,.float .f64 r2])∧Below w.heap.size w w':=by
 have ne1:w.heap.size+1≠w.heap.size:=by omega
 have ne2:w.heap.size≠w.heap.size+1:=by omega
 go_enter Tryz.func75,Tryz.ntmps75
 go_upto_region 11 with (first
   | (go_at_call 102;refine (c0 (w.heap.size+1+1) _ (by go_simp) (by go_simp)).mono ?_;rintro _ V1 ⟨rfl,hb1⟩
      have X:Has2 V1 w.heap.size (.float .f64 lo) (.float .f64 hi):=Has2.keep ⟨by go_simp,by go_simp,by go_simp,by go_simp,by go_size⟩ hb1
      have R:Has2 V1 (w.heap.size+1) (.float .f64 0) (.float .f64 0):=Has2.keep ⟨by go_simp,by go_simp,by go_simp,by go_simp,by go_size⟩ hb1
      have HB:Below w.heap.size w V1:=later (by go_grown) hb1
      clear hb1))
 have kx0:=fun n:Behind V1=>n.cell X.1 X.2.2.2.2
 have kx1:=fun n:Behind V1=>n.cell X.2.1 X.2.2.2.2
 refine tail_behind 9 (by kernel_rfl) (by kernel_rfl) ?_
 simp only [List.take_succ_cons,List.take_zero,List.drop_succ_cons,List.drop_zero]
 repeat (go_big_quiet_step (first
   | (go_at_call 128;with_reducible refine Behind.call (c3 _))
   | (go_at_call 128;with_reducible refine Behind.call (c4 _))
   | (go_at_call 82;with_reducible refine Behind.call (c5 _))))
 refine wpQuiet_nil ?_
 rintro _ ⟨m,rfl⟩
 obtain⟨W,hb1⟩:=m
 dsimp only
 clear kx0 kx1
 replace R:=R.keep hb1;replace HB:=later HB hb1;clear hb1
 obtain⟨k0,k1,k2,k3,k4⟩:=id R
 go_wp2_with fail
 refine bodyPost_ret (v:=.agg #[.float .f64 r1,.float .f64 r2]) (by simp [results,Tryz.results75,go_sem, *]) rfl ⟨rfl, ?_⟩
 repeat' (first | (with_reducible exact HB) | (with_reducible refine Below.setCell ?_ ?_ _) | go_size)
set_option maxHeartbeats 1000000 in
theorem rpow_none (lo hi:Nat) (n:Int) (c0:∀w,Calls Tryz.prog 39 #[.agg #[.float .f64 lo,.float .f64 hi]] w fun e w'=>e=.returned (.bool true)∧Below w.heap.size w w')  (w:World) :
   Calls Tryz.prog 54 #[.agg #[.float .f64 lo,.float .f64 hi],.int .i64 n] w fun e w'=>e=.returned (.agg #[.float .f64 (infI 1),.float .f64 (infI (-1))])∧Below w.heap.size w w':=by
 obtain⟨X,R,HB⟩:=enter1 w (.float .f64 lo) (.float .f64 hi) 46
 have ne1:w.heap.size+1≠w.heap.size:=by omega
 have ne2:w.heap.size≠w.heap.size+1:=by omega
 go_enter Tryz.func54,Tryz.ntmps54
 go_wp2_with fail
 generalize (w.alloc (.cells #[.float .f64 lo,.float .f64 hi] 46)).alloc (.cells #[.float .f64 0,.float .f64 0] 46)=V0 at *
 obtain⟨x0,x1,x2,x3,x4⟩:=id X
 go_wp2_with (first
   | (go_at_call 39;refine (c0 _).mono ?_;rintro _ V1 ⟨rfl,hb1⟩;replace X:=X.keep hb1;replace R:=R.keep hb1;replace HB:=later HB hb1;clear hb1;clear x0 x1 x2 x3 x4)
   | (go_at_call 89;refine (rempty_w _).mono ?_;rintro _ w2 ⟨rfl,hb1⟩;replace R:=R.keep hb1;replace HB:=later HB hb1;clear hb1
      obtain⟨k0,k1,k2,k3,k4⟩:=id R))
 refine bodyPost_ret (v:=.agg #[.float .f64 (infI 1),.float .f64 (infI (-1))]) (by simp [results,Tryz.results54,go_sem, *]) rfl ⟨rfl, ?_⟩
 repeat' (first | (with_reducible exact HB) | (with_reducible refine Below.setCell ?_ ?_ _) | go_size)
set_option maxHeartbeats 1000000 in
theorem rpow_low (lo hi:Nat) (n:Int) (c0:∀w,Calls Tryz.prog 39 #[.agg #[.float .f64 lo,.float .f64 hi]] w fun e w'=>e=.returned (.bool false)∧Below w.heap.size w w') (h1:n < -64) (w:World) :
   Calls Tryz.prog 54 #[.agg #[.float .f64 lo,.float .f64 hi],.int .i64 n] w fun e w'=>e=.returned (.agg #[.float .f64 (infI (-1)),.float .f64 (infI 1)])∧Below w.heap.size w w':=by
 obtain⟨X,R,HB⟩:=enter1 w (.float .f64 lo) (.float .f64 hi) 46
 have ne1:w.heap.size+1≠w.heap.size:=by omega
 have ne2:w.heap.size≠w.heap.size+1:=by omega
 go_enter Tryz.func54,Tryz.ntmps54
 go_wp2_with fail
 generalize (w.alloc (.cells #[.float .f64 lo,.float .f64 hi] 46)).alloc (.cells #[.float .f64 0,.float .f64 0] 46)=V0 at *
 obtain⟨x0,x1,x2,x3,x4⟩:=id X
 go_wp2_with (first
   | (go_at_call 39;refine (c0 _).mono ?_;rintro _ V1 ⟨rfl,hb1⟩;replace X:=X.keep hb1;replace R:=R.keep hb1;replace HB:=later HB hb1;clear hb1;clear x0 x1 x2 x3 x4)
   | (go_at_call 96;refine (rwhole_w _).mono ?_;rintro _ w2 ⟨rfl,hb1⟩;replace R:=R.keep hb1;replace HB:=later HB hb1;clear hb1
      obtain⟨k0,k1,k2,k3,k4⟩:=id R))
 refine bodyPost_ret (v:=.agg #[.float .f64 (infI (-1)),.float .f64 (infI 1)]) (by simp [results,Tryz.results54,go_sem, *]) rfl ⟨rfl, ?_⟩
 repeat' (first | (with_reducible exact HB) | (with_reducible refine Below.setCell ?_ ?_ _) | go_size)
set_option maxHeartbeats 1000000 in
theorem rpow_high (lo hi:Nat) (n:Int) (c0:∀w,Calls Tryz.prog 39 #[.agg #[.float .f64 lo,.float .f64 hi]] w fun e w'=>e=.returned (.bool false)∧Below w.heap.size w w') (h1:64<n) (w:World) :
   Calls Tryz.prog 54 #[.agg #[.float .f64 lo,.float .f64 hi],.int .i64 n] w fun e w'=>e=.returned (.agg #[.float .f64 (infI (-1)),.float .f64 (infI 1)])∧Below w.heap.size w w':=by
 obtain⟨X,R,HB⟩:=enter1 w (.float .f64 lo) (.float .f64 hi) 46
 have ne1:w.heap.size+1≠w.heap.size:=by omega
 have ne2:w.heap.size≠w.heap.size+1:=by omega
 go_enter Tryz.func54,Tryz.ntmps54
 go_wp2_with fail
 generalize (w.alloc (.cells #[.float .f64 lo,.float .f64 hi] 46)).alloc (.cells #[.float .f64 0,.float .f64 0] 46)=V0 at *
 obtain⟨x0,x1,x2,x3,x4⟩:=id X
 go_wp2_with (first
   | (go_at_call 39;refine (c0 _).mono ?_;rintro _ V1 ⟨rfl,hb1⟩;replace X:=X.keep hb1;replace R:=R.keep hb1;replace HB:=later HB hb1;clear hb1;clear x0 x1 x2 x3 x4)
   | (go_at_call 96;refine (rwhole_w _).mono ?_;rintro _ w2 ⟨rfl,hb1⟩;replace R:=R.keep hb1;replace HB:=later HB hb1;clear hb1
      obtain⟨k0,k1,k2,k3,k4⟩:=id R))
 refine bodyPost_ret (v:=.agg #[.float .f64 (infI (-1)),.float .f64 (infI 1)]) (by simp [results,Tryz.results54,go_sem, *]) rfl ⟨rfl, ?_⟩
 repeat' (first | (with_reducible exact HB) | (with_reducible refine Below.setCell ?_ ?_ _) | go_size)
set_option maxHeartbeats 1000000 in
theorem rpow_zero (lo hi:Nat) (n:Int) (c0:∀w,Calls Tryz.prog 39 #[.agg #[.float .f64 lo,.float .f64 hi]] w fun e w'=>e=.returned (.bool false)∧Below w.heap.size w w') (h1:n=0) (c1:∀w,Calls Tryz.prog 48 #[.float .f64 4607182418800017408,.float .f64 4607182418800017408] w fun e w'=>e=.returned (.agg #[.float .f64 4607182418800017408,.float .f64 4607182418800017408])∧Below w.heap.size w w') (w:World) :
   Calls Tryz.prog 54 #[.agg #[.float .f64 lo,.float .f64 hi],.int .i64 n] w fun e w'=>e=.returned (.agg #[.float .f64 4607182418800017408,.float .f64 4607182418800017408])∧Below w.heap.size w w':=by
 obtain⟨X,R,HB⟩:=enter1 w (.float .f64 lo) (.float .f64 hi) 46
 have ne1:w.heap.size+1≠w.heap.size:=by omega
 have ne2:w.heap.size≠w.heap.size+1:=by omega
 go_enter Tryz.func54,Tryz.ntmps54
 go_wp2_with fail
 generalize (w.alloc (.cells #[.float .f64 lo,.float .f64 hi] 46)).alloc (.cells #[.float .f64 0,.float .f64 0] 46)=V0 at *
 obtain⟨x0,x1,x2,x3,x4⟩:=id X
 go_wp2_with (first
   | (go_at_call 39;refine (c0 _).mono ?_;rintro _ V1 ⟨rfl,hb1⟩;replace X:=X.keep hb1;replace R:=R.keep hb1;replace HB:=later HB hb1;clear hb1;clear x0 x1 x2 x3 x4)
   | (go_at_call 48;refine (c1 _).mono ?_;rintro _ w2 ⟨rfl,hb1⟩;replace R:=R.keep hb1;replace HB:=later HB hb1;clear hb1
      obtain⟨k0,k1,k2,k3,k4⟩:=id R))
 refine bodyPost_ret (v:=.agg #[.float .f64 4607182418800017408,.float .f64 4607182418800017408]) (by simp [results,Tryz.results54,go_sem, *]) rfl ⟨rfl, ?_⟩
 repeat' (first | (with_reducible exact HB) | (with_reducible refine Below.setCell ?_ ?_ _) | go_size)
set_option maxHeartbeats 1000000 in
theorem rpow_neg (lo hi p q r1 r2:Nat) (n:Int) (c0:∀w,Calls Tryz.prog 39 #[.agg #[.float .f64 lo,.float .f64 hi]] w fun e w'=>e=.returned (.bool false)∧Below w.heap.size w w') (h1:-64≤n) (h2:n<0) (c1:∀w,Calls Tryz.prog 48 #[.float .f64 4607182418800017408,.float .f64 4607182418800017408] w fun e w'=>e=.returned (.agg #[.float .f64 4607182418800017408,.float .f64 4607182418800017408])∧Below w.heap.size w w') (c2:∀w,Calls Tryz.prog 54 #[.agg #[.float .f64 lo,.float .f64 hi],.int .i64 (-n)] w fun e w'=>e=.returned (.agg #[.float .f64 p,.float .f64 q])∧Below w.heap.size w w') (c3:∀w,Calls Tryz.prog 52 #[.agg #[.float .f64 4607182418800017408,.float .f64 4607182418800017408],.agg #[.float .f64 p,.float .f64 q]] w fun e w'=>e=.returned (.agg #[.float .f64 r1,.float .f64 r2])∧Below w.heap.size w w') (w:World) :
   Calls Tryz.prog 54 #[.agg #[.float .f64 lo,.float .f64 hi],.int .i64 n] w fun e w'=>e=.returned (.agg #[.float .f64 r1,.float .f64 r2])∧Below w.heap.size w w':=by
 obtain⟨X,R,HB⟩:=enter1 w (.float .f64 lo) (.float .f64 hi) 46
 have ne1:w.heap.size+1≠w.heap.size:=by omega
 have ne2:w.heap.size≠w.heap.size+1:=by omega
 go_enter Tryz.func54,Tryz.ntmps54
 go_wp2_with fail
 generalize (w.alloc (.cells #[.float .f64 lo,.float .f64 hi] 46)).alloc (.cells #[.float .f64 0,.float .f64 0] 46)=V0 at *
 obtain⟨x0,x1,x2,x3,x4⟩:=id X
 go_upto_region 8 with (first
   | (go_at_call 39;refine (c0 _).mono ?_;rintro _ V1 ⟨rfl,hb1⟩;replace X:=X.keep hb1;replace R:=R.keep hb1;replace HB:=later HB hb1;clear hb1;clear x0 x1 x2 x3 x4))
 have kx0:=fun n:Behind V1=>n.cell X.1 X.2.2.2.2
 have kx1:=fun n:Behind V1=>n.cell X.2.1 X.2.2.2.2
 refine tail_behind 6 (by kernel_rfl) (by kernel_rfl) ?_
 simp only [List.take_succ_cons,List.take_zero,List.drop_succ_cons,List.drop_zero]
 repeat (go_big_quiet_step (first
   | (go_at_call 48;with_reducible refine Behind.call (c1 _))
   | (go_at_call 54;with_reducible refine Behind.call (c2 _))
   | (go_at_call 52;with_reducible refine Behind.call (c3 _))))
 refine wpQuiet_nil ?_
 rintro _ ⟨m,rfl⟩
 obtain⟨W,hb1⟩:=m
 dsimp only
 clear kx0 kx1
 replace R:=R.keep hb1;replace HB:=later HB hb1;clear hb1
 obtain⟨k0,k1,k2,k3,k4⟩:=id R
 go_wp2_with fail
 refine bodyPost_ret (v:=.agg #[.float .f64 r1,.float .f64 r2]) (by simp [results,Tryz.results54,go_sem, *]) rfl ⟨rfl, ?_⟩
 repeat' (first | (with_reducible exact HB) | (with_reducible refine Below.setCell ?_ ?_ _) | go_size)
set_option maxHeartbeats 1000000 in
theorem rpow_even (lo hi a b p q r1 r2:Nat) (n:Int) (c0:∀w,Calls Tryz.prog 39 #[.agg #[.float .f64 lo,.float .f64 hi]] w fun e w'=>e=.returned (.bool false)∧Below w.heap.size w w') (h1:0<n) (h2:n≤64) (h3:n.tmod 2=0) (c1:∀w,Calls Tryz.prog 98 #[.agg #[.float .f64 lo,.float .f64 hi]] w fun e w'=>e=.returned (.float .f64 a)∧Below w.heap.size w w') (c2:∀w,Calls Tryz.prog 99 #[.agg #[.float .f64 lo,.float .f64 hi]] w fun e w'=>e=.returned (.float .f64 b)∧Below w.heap.size w w') (c3:∀w,Calls Tryz.prog 97 #[.float .f64 a,.int .i64 n,.int .i64 (-1)] w fun e w'=>e=.returned (.float .f64 p)∧Below w.heap.size w w') (c4:∀w,Calls Tryz.prog 97 #[.float .f64 b,.int .i64 n,.int .i64 1] w fun e w'=>e=.returned (.float .f64 q)∧Below w.heap.size w w') (c5:∀w,Calls Tryz.prog 90 #[.float .f64 p,.float .f64 q] w fun e w'=>e=.returned (.agg #[.float .f64 r1,.float .f64 r2])∧Below w.heap.size w w') (w:World) :
   Calls Tryz.prog 54 #[.agg #[.float .f64 lo,.float .f64 hi],.int .i64 n] w fun e w'=>e=.returned (.agg #[.float .f64 r1,.float .f64 r2])∧Below w.heap.size w w':=by
 obtain⟨X,R,HB⟩:=enter1 w (.float .f64 lo) (.float .f64 hi) 46
 have ne1:w.heap.size+1≠w.heap.size:=by omega
 have ne2:w.heap.size≠w.heap.size+1:=by omega
 go_enter Tryz.func54,Tryz.ntmps54
 go_wp2_with fail
 generalize (w.alloc (.cells #[.float .f64 lo,.float .f64 hi] 46)).alloc (.cells #[.float .f64 0,.float .f64 0] 46)=V0 at *
 obtain⟨x0,x1,x2,x3,x4⟩:=id X
 go_upto_region 10 with (first
   | (go_at_call 39;refine (c0 _).mono ?_;rintro _ V1 ⟨rfl,hb1⟩;replace X:=X.keep hb1;replace R:=R.keep hb1;replace HB:=later HB hb1;clear hb1;clear x0 x1 x2 x3 x4))
 have kx0:=fun n:Behind V1=>n.cell X.1 X.2.2.2.2
 have kx1:=fun n:Behind V1=>n.cell X.2.1 X.2.2.2.2
 refine tail_behind 9 (by kernel_rfl) (by kernel_rfl) ?_
 simp only [List.take_succ_cons,List.take_zero,List.drop_succ_cons,List.drop_zero]
 repeat (go_big_quiet_step (first
   | (go_at_call 98;with_reducible refine Behind.call (c1 _))
   | (go_at_call 99;with_reducible refine Behind.call (c2 _))
   | (go_at_call 97;with_reducible refine Behind.call (c3 _))
   | (go_at_call 97;with_reducible refine Behind.call (c4 _))
   | (go_at_call 90;with_reducible refine Behind.call (c5 _))))
 refine wpQuiet_nil ?_
 rintro _ ⟨m,rfl⟩
 obtain⟨W,hb1⟩:=m
 dsimp only
 clear kx0 kx1
 replace R:=R.keep hb1;replace HB:=later HB hb1;clear hb1
 obtain⟨k0,k1,k2,k3,k4⟩:=id R
 go_wp2_with fail
 refine bodyPost_ret (v:=.agg #[.float .f64 r1,.float .f64 r2]) (by simp [results,Tryz.results54,go_sem, *]) rfl ⟨rfl, ?_⟩
 repeat' (first | (with_reducible exact HB) | (with_reducible refine Below.setCell ?_ ?_ _) | go_size)
set_option maxHeartbeats 1000000 in
theorem rpow_odd (lo hi p q r1 r2:Nat) (n:Int) (c0:∀w,Calls Tryz.prog 39 #[.agg #[.float .f64 lo,.float .f64 hi]] w fun e w'=>e=.returned (.bool false)∧Below w.heap.size w w') (h1:0<n) (h2:n≤64) (h3:n.tmod 2=1) (c3:∀w,Calls Tryz.prog 100 #[.float .f64 lo,.int .i64 n,.int .i64 (-1)] w fun e w'=>e=.returned (.float .f64 p)∧Below w.heap.size w w') (c4:∀w,Calls Tryz.prog 100 #[.float .f64 hi,.int .i64 n,.int .i64 1] w fun e w'=>e=.returned (.float .f64 q)∧Below w.heap.size w w') (c5:∀w,Calls Tryz.prog 90 #[.float .f64 p,.float .f64 q] w fun e w'=>e=.returned (.agg #[.float .f64 r1,.float .f64 r2])∧Below w.heap.size w w') (w:World) :
   Calls Tryz.prog 54 #[.agg #[.float .f64 lo,.float .f64 hi],.int .i64 n] w fun e w'=>e=.returned (.agg #[.float .f64 r1,.float .f64 r2])∧Below w.heap.size w w':=by
 obtain⟨X,R,HB⟩:=enter1 w (.float .f64 lo) (.float .f64 hi) 46
 have ne1:w.heap.size+1≠w.heap.size:=by omega
 have ne2:w.heap.size≠w.heap.size+1:=by omega
 go_enter Tryz.func54,Tryz.ntmps54
 go_wp2_with fail
 generalize (w.alloc (.cells #[.float .f64 lo,.float .f64 hi] 46)).alloc (.cells #[.float .f64 0,.float .f64 0] 46)=V0 at *
 obtain⟨x0,x1,x2,x3,x4⟩:=id X
 go_upto_region 11 with (first
   | (go_at_call 39;refine (c0 _).mono ?_;rintro _ V1 ⟨rfl,hb1⟩;replace X:=X.keep hb1;replace R:=R.keep hb1;replace HB:=later HB hb1;clear hb1;clear x0 x1 x2 x3 x4))
 have kx0:=fun n:Behind V1=>n.cell X.1 X.2.2.2.2
 have kx1:=fun n:Behind V1=>n.cell X.2.1 X.2.2.2.2
 refine tail_behind 9 (by kernel_rfl) (by kernel_rfl) ?_
 simp only [List.take_succ_cons,List.take_zero,List.drop_succ_cons,List.drop_zero]
 repeat (go_big_quiet_step (first
   | (go_at_call 100;with_reducible refine Behind.call (c3 _))
   | (go_at_call 100;with_reducible refine Behind.call (c4 _))
   | (go_at_call 90;with_reducible refine Behind.call (c5 _))))
 refine wpQuiet_nil ?_
 rintro _ ⟨m,rfl⟩
 obtain⟨W,hb1⟩:=m
 dsimp only
 clear kx0 kx1
 replace R:=R.keep hb1;replace HB:=later HB hb1;clear hb1
 obtain⟨k0,k1,k2,k3,k4⟩:=id R
 go_wp2_with fail
 refine bodyPost_ret (v:=.agg #[.float .f64 r1,.float .f64 r2]) (by simp [results,Tryz.results54,go_sem, *]) rfl ⟨rfl, ?_⟩
 repeat' (first | (with_reducible exact HB) | (with_reducible refine Below.setCell ?_ ?_ _) | go_size)
def posP (lo hi:Nat) (n:Int):Nat×Nat:=if n.tmod 2=0 then powE lo hi (n-1).toNat else powO lo hi (n-1).toNat
def powP (lo hi:Nat) (n:Int):Nat×Nat :=
 if hsB lo hi then (if n < -64 then (infI (-1),infI 1) else if 64<n then (infI (-1),infI 1) else if n=0 then (4607182418800017408,4607182418800017408)
   else if n<0 then divP 4607182418800017408 4607182418800017408 (posP lo hi (-n)).1 (posP lo hi (-n)).2 else posP lo hi n) else (infI 1,infI (-1))
theorem tmod_two {n:Int} (h:0<n):n.tmod 2=0∨n.tmod 2=1:=by
 rw [Int.tmod_eq_emod_of_nonneg (by omega)]
 omega
theorem posP_lt {lo hi:Nat} (hl:lo<18446744073709551616) (hh:hi<18446744073709551616) (S:Some2 lo hi) (n:Int):(posP lo hi n).1<18446744073709551616∧(posP lo hi n).2<18446744073709551616:=by
 obtain⟨k1,k2,k3,n1,n2,w1,w2⟩:=mag_keys hl hh S
 unfold posP
 split
 · exact⟨(pow_num (-1) (by omega) n1 _).2,(pow_num 1 (by omega) n2 _).2⟩
 · exact makeP_lt (odd_facts hl S.nl _ _).2.1 (odd_facts hh S.nh _ _).2.1
theorem powP_lt {lo hi:Nat} (hl:lo<18446744073709551616) (hh:hi<18446744073709551616) (n:Int):(powP lo hi n).1<18446744073709551616∧(powP lo hi n).2<18446744073709551616:=by
 have i1:=infI_lt 1
 have i2:=infI_lt (-1)
 unfold powP
 cases hs:hsB lo hi
 · rw [if_neg (by simp)];exact⟨i1,i2⟩
 · rw [if_pos rfl]
   have S:=hs_iff.1 hs
   split
   · exact⟨i2,i1⟩
   · split
     · exact⟨i2,i1⟩
     · split
       · exact⟨by omega,by omega⟩
       · split
         · have p:=posP_lt hl hh S (-n)
           exact divP_lt (by omega) (by omega) p.1 p.2
         · exact posP_lt hl hh S n
theorem one_point (w:World):Calls Tryz.prog 114 #[.float .f64 4607182418800017408] w fun e w'=>e=.returned (.agg #[.float .f64 4607182418800017408,.float .f64 4607182418800017408])∧Below w.heap.size w w':=by
 have h:=point_w 4607182418800017408 (by omega) w
 have e:makeP 4607182418800017408 4607182418800017408=(4607182418800017408,4607182418800017408):=by decide
 rw [e] at h
 exact h
theorem one_make (w:World):Calls Tryz.prog 48 #[.float .f64 4607182418800017408,.float .f64 4607182418800017408] w fun e w'=>e=.returned (.agg #[.float .f64 4607182418800017408,.float .f64 4607182418800017408])∧Below w.heap.size w w':=by
 have h:=rmake_w 4607182418800017408 4607182418800017408 (by omega) (by omega) w
 have e:makeP 4607182418800017408 4607182418800017408=(4607182418800017408,4607182418800017408):=by decide
 rw [e] at h
 exact h
theorem Pow_pos (lo hi:Nat) (hl:lo<18446744073709551616) (hh:hi<18446744073709551616) (hs:hsB lo hi=true) (n:Int) (h1:0<n) (h2:n≤64) (w:World) :
   Calls Tryz.prog 75 #[.agg #[.float .f64 lo,.float .f64 hi],.int .i64 n] w fun e w'=>e=.returned (.agg #[.float .f64 (posP lo hi n).1,.float .f64 (posP lo hi n).2])∧Below w.heap.size w w':=by
 have S:=hs_iff.1 hs
 have c0:=fun b W c0 c1=>someEmpty1_w b lo hi hl hh W c0 c1
 rw [hs] at c0
 obtain⟨k1,k2,k3,n1,n2,w1,w2⟩:=mag_keys hl hh S
 have hk:(n-1).toNat≤63:=by omega
 have hn:n=(((n-1).toNat:Nat):Int)+1:=by omega
 unfold posP
 rcases tmod_two h1 with c | c
 · rw [if_pos c]
   exact ppow_even lo hi (migP lo hi) (magP lo hi) _ _ n c0 h1 h2 c (fun w=>mig_w lo hi hl hh w) (fun w=>mag_w lo hi hl hh w) (fun w=>power_w _ _ (by omega) n1 _ hk n hn w) (fun w=>power_w _ _ (by omega) n2 _ hk n hn w) w
 · rw [if_neg (by omega)]
   have f:=odd_facts hl S.nl (n-1).toNat (-1)
   have g:=odd_facts hh S.nh (n-1).toNat 1
   exact ppow_odd lo hi _ _ _ _ n c0 h1 h2 c (fun w=>odd_w lo (-1) (Or.inl rfl) hl S.nl _ hk n hn w) (fun w=>odd_w hi 1 (Or.inr rfl) hh S.nh _ hk n hn w) (fun w=>make_w _ _ f.2.1 g.2.1 w) w
theorem rPow_pos (lo hi:Nat) (hl:lo<18446744073709551616) (hh:hi<18446744073709551616) (hs:hsB lo hi=true) (n:Int) (h1:0<n) (h2:n≤64) (w:World) :
   Calls Tryz.prog 54 #[.agg #[.float .f64 lo,.float .f64 hi],.int .i64 n] w fun e w'=>e=.returned (.agg #[.float .f64 (posP lo hi n).1,.float .f64 (posP lo hi n).2])∧Below w.heap.size w w':=by
 have S:=hs_iff.1 hs
 have c0:=fun w=>none_w lo hi hl hh w
 rw [hs] at c0
 obtain⟨k1,k2,k3,n1,n2,w1,w2⟩:=mag_keys hl hh S
 have hk:(n-1).toNat≤63:=by omega
 have hn:n=(((n-1).toNat:Nat):Int)+1:=by omega
 unfold posP
 rcases tmod_two h1 with c | c
 · rw [if_pos c]
   have f:=pow_num (-1) (show migP lo hi<18446744073709551616 by omega) n1 (n-1).toNat
   have g:=pow_num 1 (show magP lo hi<18446744073709551616 by omega) n2 (n-1).toNat
   exact rpow_even lo hi (migP lo hi) (magP lo hi) _ _ _ _ n c0 h1 h2 c (fun w=>rMig_w lo hi hl hh w) (fun w=>rMag_w lo hi hl hh w) (fun w=>rpower_w _ _ (by omega) n1 _ hk n hn w) (fun w=>rpower_w _ _ (by omega) n2 _ hk n hn w) (fun w=>rends_w _ _ f.2 g.2 (even_some hl hh S _) w) w
 · rw [if_neg (by omega),←rodd_is hl hh S]
   have f:=odd_facts hl S.nl (n-1).toNat (-1)
   have g:=odd_facts hh S.nh (n-1).toNat 1
   have ce:=fun w=>rends_core _ _ _ _ _ _ (rendsP _ _) (o_gt f.2.2.2.1 (show 9218868437227405311<18446744073709551616 by omega)) (o_lt g.2.2.2.1 (show 18442240474082181119<18446744073709551616 by omega)) rfl rfl (fun w=>rmake_w _ _ (by split <;> omega) (by split <;> omega) w) w
   exact rpow_odd lo hi _ _ _ _ n c0 h1 h2 c (fun w=>rsigned_w lo (-1) (Or.inl rfl) hl S.nl _ hk n hn w) (fun w=>rsigned_w hi 1 (Or.inr rfl) hh S.nh _ hk n hn w) ce w
theorem Pow_w (lo hi:Nat) (hl:lo<18446744073709551616) (hh:hi<18446744073709551616) (n:Int) (w:World) :
   Calls Tryz.prog 75 #[.agg #[.float .f64 lo,.float .f64 hi],.int .i64 n] w fun e w'=>e=.returned (.agg #[.float .f64 (powP lo hi n).1,.float .f64 (powP lo hi n).2])∧Below w.heap.size w w':=by
 have c0:=fun b W c0 c1=>someEmpty1_w b lo hi hl hh W c0 c1
 unfold powP
 cases hs:hsB lo hi
 · rw [hs] at c0
   rw [if_neg (by simp)]
   exact ppow_none lo hi n c0 w
 · have P:=fun m h1 h2 w=>Pow_pos lo hi hl hh hs m h1 h2 w
   rw [hs] at c0
   rw [if_pos rfl]
   by_cases c1:n < -64
   · rw [if_pos c1];exact ppow_low lo hi n c0 c1 w
   · rw [if_neg c1]
     by_cases c2:64<n
     · rw [if_pos c2];exact ppow_high lo hi n c0 c2 w
     · rw [if_neg c2]
       by_cases c3:n=0
       · rw [if_pos c3];exact ppow_zero lo hi n c0 c3 one_point w
       · rw [if_neg c3]
         by_cases c4:n<0
         · rw [if_pos c4]
           have p:=posP_lt hl hh (hs_iff.1 hs) (-n)
           exact ppow_neg lo hi _ _ _ _ n c0 (by omega) c4 one_point (fun w=>P (-n) (by omega) (by omega) w) (fun w=>Div_w _ _ _ _ (by omega) (by omega) p.1 p.2 w) w
         · rw [if_neg c4]
           exact P n (by omega) (by omega) w
theorem rPow_w (lo hi:Nat) (hl:lo<18446744073709551616) (hh:hi<18446744073709551616) (n:Int) (w:World) :
   Calls Tryz.prog 54 #[.agg #[.float .f64 lo,.float .f64 hi],.int .i64 n] w fun e w'=>e=.returned (.agg #[.float .f64 (powP lo hi n).1,.float .f64 (powP lo hi n).2])∧Below w.heap.size w w':=by
 have c0:=fun w=>none_w lo hi hl hh w
 unfold powP
 cases hs:hsB lo hi
 · rw [hs] at c0
   rw [if_neg (by simp)]
   exact rpow_none lo hi n c0 w
 · have P:=fun m h1 h2 w=>rPow_pos lo hi hl hh hs m h1 h2 w
   rw [hs] at c0
   rw [if_pos rfl]
   by_cases c1:n < -64
   · rw [if_pos c1];exact rpow_low lo hi n c0 c1 w
   · rw [if_neg c1]
     by_cases c2:64<n
     · rw [if_pos c2];exact rpow_high lo hi n c0 c2 w
     · rw [if_neg c2]
       by_cases c3:n=0
       · rw [if_pos c3];exact rpow_zero lo hi n c0 c3 one_make w
       · rw [if_neg c3]
         by_cases c4:n<0
         · rw [if_pos c4]
           have p:=posP_lt hl hh (hs_iff.1 hs) (-n)
           exact rpow_neg lo hi _ _ _ _ n c0 (by omega) c4 one_make (fun w=>P (-n) (by omega) (by omega) w) (fun w=>rDiv_w _ _ _ _ (by omega) (by omega) p.1 p.2 w) w
         · rw [if_neg c4]
           exact P n (by omega) (by omega) w
end Go.Proofs.YtnchhfhoaepjnaaGreat
