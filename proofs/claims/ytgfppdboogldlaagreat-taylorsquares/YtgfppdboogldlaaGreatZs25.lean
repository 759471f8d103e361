/- taylor: the coefficient of a variable, and of a product; what operations ask of their operands. taylor: an operation's operands; whether it is outside: sums and products never are. -/
import Derived.Test.YtgfppdboogldlaaGreatZs23
import Derived.Test.YtgfppdboogldlaaGreatZs24
namespace Go.Proofs.YtgfppdboogldlaaGreat
open Go.ChangeShapes Go.WideShapes Go.ChangeAt Go.RowKit
set_option maxHeartbeats 2000000 in
set_option maxRecDepth 8000 in
theorem tcoef_var (a c:Int) (lo hi N k b vb vo vl VC n C Ca Cb na nb tb td:Nat) (A Aa Ab:Option Addr) (X:Nat→Nat×Nat) (hN:N<n) (hk:k<vl) (w:World) (lb:b<w.heap.size) (lv:vb<w.heap.size)
   (cv:w.cell? ⟨b,4,none⟩=some (.slice (some ⟨vb,vo,none⟩) vl VC)) (cr:w.cell? ⟨vb,vo+k,none⟩=some (.slice A n C)) (Ua:Ivs w A n X) :
   Calls Tryz.prog 78 #[.pointer (some ⟨b,0,none⟩),.int .i64 (k:Int),.agg #[.int .i64 2,.int .i64 a,.int .i64 c,.int .i64 (N:Int),.float .f64 lo,.float .f64 hi],.slice Aa na Ca,.slice Ab nb Cb,.pointer (some ⟨tb,td,none⟩)] w fun e w'=>e=.returned (.agg #[.float .f64 (X N).1,.float .f64 (X N).2])∧Below w.heap.size w w':=by
 obtain⟨v1,hv1⟩:∃v1,v1=w.alloc (.cells #[.int .i64 2,.int .i64 a,.int .i64 c,.int .i64 (N:Int),.float .f64 lo,.float .f64 hi] 45):=⟨_,rfl⟩
 obtain⟨v2,hv2⟩:∃v2,v2=v1.alloc (.cells #[.float .f64 0,.float .f64 0] 43):=⟨_,rfl⟩
 have K1:Below w.heap.size w v1:=by rw [hv1];exact Below.alloc (Below.refl _ _) (Nat.le_refl _) _
 have K2:Below v1.heap.size v1 v2:=by rw [hv2];exact Below.alloc (Below.refl _ _) (Nat.le_refl _) _
 have z1:v1.heap.size=w.heap.size+1:=by rw [hv1];simp
 have o0:v1.cell? ⟨w.heap.size,0,none⟩=some (.int .i64 2):=by rw [hv1];go_simp
 have o3:v1.cell? ⟨w.heap.size,3,none⟩=some (.int .i64 (N:Int)):=by rw [hv1];go_simp
 replace o0:=keepsC K2 o0 (by omega)
 replace o3:=keepsC K2 o3 (by omega)
 have R:Has2 v2 (w.heap.size+1) (.float .f64 0) (.float .f64 0):=by
   have h:Has2 v2 v1.heap.size (.float .f64 0) (.float .f64 0):=by rw [hv2];exact has2_new _ _ _ _
   rw [z1] at h
   exact h
 have HB:Below w.heap.size w v2:=later K1 K2
 have lo0:w.heap.size<v2.heap.size:=by have:=R.2.2.2.2;omega
 clear K1 K2 z1
 replace cv:=keepsC HB cv lb
 replace cr:=keepsC HB cr lv
 replace Ua:=Ua.keep HB
 have lb2:=Nat.lt_of_lt_of_le lb HB.size
 have lv2:=Nat.lt_of_lt_of_le lv HB.size
 obtain⟨xa,oa,rfl,la,ea0,ea1, -⟩:=Ua N hN
 have ltn:(N:Int)<(n:Int):=by omega
 have ltk:(k:Int)<(vl:Int):=by omega
 go_enter Tryz.func78,Tryz.ntmps78
 go_upto_region 1 with fail
 rw [←hv1,←hv2]
 clear hv1 hv2
 go_upto_region 5 with fail
 have k3:=fun n:Behind v2=>n.cell o3 lo0
 have kv:=fun n:Behind v2=>n.cell cv lb2
 have kr:=fun n:Behind v2=>n.cell cr lv2
 have ka0:=fun n:Behind v2=>n.cell ea0 la
 have ka1:=fun n:Behind v2=>n.cell ea1 la
 clear o0 o3 cv cr Ua ea0 ea1
 refine tail_behind 11 (by kernel_rfl) (by kernel_rfl) ?_
 simp only [List.take_succ_cons,List.take_zero,List.drop_succ_cons,List.drop_zero]
 repeat (go_big_quiet_step (first | (go_at_call 141;with_reducible refine Behind.call (zzz _))))
 refine wpQuiet_nil ?_
 rintro _ ⟨m',rfl⟩
 obtain⟨W,hb1⟩:=m'
 dsimp only
 skip
 replace R:=R.keep hb1;replace HB:=later HB hb1;clear hb1
 obtain⟨k0,k1,k2,k3,k4⟩:=id R
 go_wp2_with fail
 refine bodyPost_ret (v:=.agg #[.float .f64 (X N).1,.float .f64 (X N).2]) (by simp [results,Tryz.results78,go_sem, *]) rfl ⟨rfl, ?_⟩;repeat' (first | (with_reducible exact HB) | (with_reducible refine Below.setCell ?_ ?_ _) | go_size)
set_option maxHeartbeats 2000000 in
set_option maxRecDepth 8000 in
theorem tcoef_mul (a c N:Int) (lo hi k b na nb Ca Cb tb td:Nat) (A B:Option Addr) (P:Nat×Nat) (w:World)
   (cp:∀W,Below w.heap.size w W→Calls Tryz.prog 89 #[.pointer (some ⟨b,0,none⟩),.int .i64 (k:Int),.slice A na Ca,.slice B nb Cb] W fun e w'=>e=.returned (.agg #[.float .f64 P.1,.float .f64 P.2])∧Below W.heap.size W w') :
   Calls Tryz.prog 78 #[.pointer (some ⟨b,0,none⟩),.int .i64 (k:Int),.agg #[.int .i64 5,.int .i64 a,.int .i64 c,.int .i64 N,.float .f64 lo,.float .f64 hi],.slice A na Ca,.slice B nb Cb,.pointer (some ⟨tb,td,none⟩)] w fun e w'=>e=.returned (.agg #[.float .f64 P.1,.float .f64 P.2])∧Below w.heap.size w w':=by
 obtain⟨v1,hv1⟩:∃v1,v1=w.alloc (.cells #[.int .i64 5,.int .i64 a,.int .i64 c,.int .i64 N,.float .f64 lo,.float .f64 hi] 45):=⟨_,rfl⟩
 obtain⟨v2,hv2⟩:∃v2,v2=v1.alloc (.cells #[.float .f64 0,.float .f64 0] 43):=⟨_,rfl⟩
 have K1:Below w.heap.size w v1:=by rw [hv1];exact Below.alloc (Below.refl _ _) (Nat.le_refl _) _
 have K2:Below v1.heap.size v1 v2:=by rw [hv2];exact Below.alloc (Below.refl _ _) (Nat.le_refl _) _
 have z1:v1.heap.size=w.heap.size+1:=by rw [hv1];simp
 have o0:v1.cell? ⟨w.heap.size,0,none⟩=some (.int .i64 5):=by rw [hv1];go_simp
 replace o0:=keepsC K2 o0 (by omega)
 have R:Has2 v2 (w.heap.size+1) (.float .f64 0) (.float .f64 0):=by
   have h:Has2 v2 v1.heap.size (.float .f64 0) (.float .f64 0):=by rw [hv2];exact has2_new _ _ _ _
   rw [z1] at h
   exact h
 have HB:Below w.heap.size w v2:=later K1 K2
 have cp':=cp v2 HB
 clear K1 K2 z1 cp
 go_enter Tryz.func78,Tryz.ntmps78
 go_upto_region 1 with fail
 rw [←hv1,←hv2]
 clear hv1 hv2
 go_wp2_with (go_at_call 89;(with_reducible refine cp'.mono ?_);rintro _ VV ⟨rfl,hb1⟩;replace R:=R.keep hb1;replace HB:=later HB hb1;clear hb1;obtain⟨r0,r1,r2,r3,r4⟩:=id R)
 refine bodyPost_ret (v:=.agg #[.float .f64 P.1,.float .f64 P.2]) (by simp [results,Tryz.results78,go_sem, *]) rfl ⟨rfl, ?_⟩;repeat' (first | (with_reducible exact HB) | (with_reducible refine Below.setCell ?_ ?_ _) | go_size)
set_option maxHeartbeats 2000000 in
set_option maxRecDepth 8000 in
theorem topnd_var (a c N:Int) (lo hi b:Nat) (w:World) :
   Calls Tryz.prog 76 #[.pointer (some ⟨b,0,none⟩),.agg #[.int .i64 2,.int .i64 a,.int .i64 c,.int .i64 N,.float .f64 lo,.float .f64 hi]] w fun e w'=>e=.returned (.tuple #[.slice none 0 0,.slice none 0 0])∧Below w.heap.size w w':=by
 obtain⟨v1,hv1⟩:∃v1,v1=w.alloc (.cells #[.int .i64 2,.int .i64 a,.int .i64 c,.int .i64 N,.float .f64 lo,.float .f64 hi] 45):=⟨_,rfl⟩
 have HB:Below w.heap.size w v1:=by rw [hv1];exact Below.alloc (Below.refl _ _) (Nat.le_refl _) _
 have o0:v1.cell? ⟨w.heap.size,0,none⟩=some (.int .i64 2):=by rw [hv1];go_simp
 go_enter Tryz.func76,Tryz.ntmps76
 go_upto_region 1 with fail
 rw [←hv1]
 clear hv1
 go_wp2_with fail
 go_ret2
 exact⟨rfl,HB⟩
set_option maxHeartbeats 2000000 in
set_option maxRecDepth 8000 in
theorem topnd_mul (a c:Nat) (N:Int) (lo hi b db dd dl DC:Nat) (va vb:Value) (ha:a<dl) (hc:c<dl) (w:World) (lb:b<w.heap.size) (ld:db<w.heap.size)
   (cd:w.cell? ⟨b,5,none⟩=some (.slice (some ⟨db,dd,none⟩) dl DC)) (ca:w.cell? ⟨db,dd+a*2,none⟩=some va) (cb:w.cell? ⟨db,dd+c*2,none⟩=some vb) :
   Calls Tryz.prog 76 #[.pointer (some ⟨b,0,none⟩),.agg #[.int .i64 5,.int .i64 (a:Int),.int .i64 (c:Int),.int .i64 N,.float .f64 lo,.float .f64 hi]] w fun e w'=>e=.returned (.tuple #[va,vb])∧Below w.heap.size w w':=by
 obtain⟨v1,hv1⟩:∃v1,v1=w.alloc (.cells #[.int .i64 5,.int .i64 (a:Int),.int .i64 (c:Int),.int .i64 N,.float .f64 lo,.float .f64 hi] 45):=⟨_,rfl⟩
 have HB:Below w.heap.size w v1:=by rw [hv1];exact Below.alloc (Below.refl _ _) (Nat.le_refl _) _
 have o0:v1.cell? ⟨w.heap.size,0,none⟩=some (.int .i64 5):=by rw [hv1];go_simp
 have o1:v1.cell? ⟨w.heap.size,1,none⟩=some (.int .i64 (a:Int)):=by rw [hv1];go_simp
 have o2:v1.cell? ⟨w.heap.size,2,none⟩=some (.int .i64 (c:Int)):=by rw [hv1];go_simp
 replace cd:=keepsC HB cd lb
 replace ca:=keepsC HB ca ld
 replace cb:=keepsC HB cb ld
 have lta:(a:Int)<(dl:Int):=by omega
 have ltc:(c:Int)<(dl:Int):=by omega
 go_enter Tryz.func76,Tryz.ntmps76
 go_upto_region 1 with fail
 rw [←hv1]
 clear hv1
 go_upto_region 9 with fail
 go_quiet (fail)
 go_wp2_with fail
 go_ret2
 exact⟨rfl,⟨HB.os,HB.tape,HB.output,HB.size,HB.block⟩⟩
set_option maxHeartbeats 2000000 in
set_option maxRecDepth 8000 in
theorem tnoval_w (kd a c N:Int) (hk:kd=2∨kd=5) (lo hi b na nb Ca Cb:Nat) (A B:Option Addr) (w:World) :
   Calls Tryz.prog 86 #[.pointer (some ⟨b,0,none⟩),.agg #[.int .i64 kd,.int .i64 a,.int .i64 c,.int .i64 N,.float .f64 lo,.float .f64 hi],.slice A na Ca,.slice B nb Cb] w fun e w'=>e=.returned (.bool false)∧Below w.heap.size w w':=by
 obtain⟨v1,hv1⟩:∃v1,v1=w.alloc (.cells #[.int .i64 kd,.int .i64 a,.int .i64 c,.int .i64 N,.float .f64 lo,.float .f64 hi] 45):=⟨_,rfl⟩
 have HB:Below w.heap.size w v1:=by rw [hv1];exact Below.alloc (Below.refl _ _) (Nat.le_refl _) _
 have o0:v1.cell? ⟨w.heap.size,0,none⟩=some (.int .i64 kd):=by rw [hv1];go_simp
 go_enter Tryz.func86,Tryz.ntmps86
 go_upto_region 1 with fail
 rw [←hv1]
 clear hv1
 rcases hk with rfl | rfl
 · go_wp2_with fail
   go_ret
   exact⟨rfl,HB⟩
 · go_wp2_with fail
   go_ret
   exact⟨rfl,HB⟩
set_option maxHeartbeats 2000000 in
set_option maxRecDepth 8000 in
theorem tout_core (kd a c N k:Int) (h9:(kd==9)=false) (lo hi b na nb nv Ca Cb Cv:Nat) (A B D:Option Addr) (w:World)
   (cn:∀W,Calls Tryz.prog 86 #[.pointer (some ⟨b,0,none⟩),.agg #[.int .i64 kd,.int .i64 a,.int .i64 c,.int .i64 N,.float .f64 lo,.float .f64 hi],.slice A na Ca,.slice B nb Cb] W fun e w'=>e=.returned (.bool false)∧Below W.heap.size W w') :
   Calls Tryz.prog 77 #[.pointer (some ⟨b,0,none⟩),.int .i64 k,.agg #[.int .i64 kd,.int .i64 a,.int .i64 c,.int .i64 N,.float .f64 lo,.float .f64 hi],.slice A na Ca,.slice B nb Cb,.slice D nv Cv] w fun e w'=>e=.returned (.bool false)∧Below w.heap.size w w':=by
 obtain⟨v1,hv1⟩:∃v1,v1=w.alloc (.cells #[.int .i64 kd,.int .i64 a,.int .i64 c,.int .i64 N,.float .f64 lo,.float .f64 hi] 45):=⟨_,rfl⟩
 have HB:Below w.heap.size w v1:=by rw [hv1];exact Below.alloc (Below.refl _ _) (Nat.le_refl _) _
 have l1:w.heap.size<v1.heap.size:=by rw [hv1];simp
 have o0:v1.cell? ⟨w.heap.size,0,none⟩=some (.int .i64 kd):=by rw [hv1];go_simp
 have oA:v1.cell? ⟨w.heap.size,1,none⟩=some (.int .i64 a):=by rw [hv1];go_simp
 have oB:v1.cell? ⟨w.heap.size,2,none⟩=some (.int .i64 c):=by rw [hv1];go_simp
 have oC:v1.cell? ⟨w.heap.size,3,none⟩=some (.int .i64 N):=by rw [hv1];go_simp
 have oD:v1.cell? ⟨w.heap.size,4,none⟩=some (.float .f64 lo):=by rw [hv1];go_simp
 have oE:v1.cell? ⟨w.heap.size,5,none⟩=some (.float .f64 hi):=by rw [hv1];go_simp
 go_enter Tryz.func77,Tryz.ntmps77
 go_upto_region 1 with fail
 rw [←hv1]
 clear hv1
 by_cases c0:k=0
 · subst c0
   go_wp2_with (go_at_call 86;(with_reducible refine (cn _).mono ?_);rintro _ VV ⟨rfl,hb1⟩;replace HB:=later HB hb1)
   go_ret
   exact⟨rfl,HB⟩
 · have e0:(k==0)=false:=by simpa using c0
   clear c0 cn
   by_cases c1:k=1
   · subst c1
     go_wp2_with fail
     go_ret
     exact⟨rfl,HB⟩
   · have e1:(k==1)=false:=by simpa using c1
     clear c1
     go_wp2_with fail
     go_ret
     exact⟨rfl,HB⟩
end Go.Proofs.YtgfppdboogldlaaGreat
