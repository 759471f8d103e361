/- taylor: an operation's next coefficient. Slices of intervals that a call makes: one more at their end, as many noughts, and what they hold. The program's Dot, a matrix's first row, and both images of a vector. -/
import Derived.Test.YtgfppdboogldlaaGreatZs25
import Derived.Test.YtgfppdboogldlaaGreatZs22
import Derived.Handy
namespace Go.Proofs.YtgfppdboogldlaaGreat
open Go.ChangeShapes Go.WideShapes Go.ChangeAt Go.RowKit
theorem tend_core (v:Nat×Nat) (b1 b2:Bool) (c1:∀w,Calls Tryz.prog 61 #[.float .f64 v.1,.int .i64 0] w fun e w'=>e=.returned (.bool b1)∧w=w') (c2:∀w,Calls Tryz.prog 61 #[.float .f64 v.2,.int .i64 0] w fun e w'=>e=.returned (.bool b2)∧w=w') (w:World) :
   Calls Tryz.prog 41 #[.agg #[.float .f64 v.1,.float .f64 v.2]] w fun e w'=>e=.returned (.bool (b1 || b2))∧Below w.heap.size w w':=by
 have X:Has2 (w.alloc (.cells #[.float .f64 v.1,.float .f64 v.2] 43)) w.heap.size (.float .f64 v.1) (.float .f64 v.2):=has2_new _ _ _ _
 have HB:Below w.heap.size w (w.alloc (.cells #[.float .f64 v.1,.float .f64 v.2] 43)):=by go_grown
 go_enter Tryz.func41,Tryz.ntmps41
 go_upto_region 1 with fail
 generalize (w.alloc (.cells #[.float .f64 v.1,.float .f64 v.2] 43))=V1 at *
 obtain⟨p0,p1,p2,p3,p4⟩:=id X
 cases b1 <;> cases b2
 all_goals
   go_wp2_with (first
     | (go_at_call_of 61 (Value.float .f64 v.1);with_reducible refine (c1 _).mono ?_;rintro _ w1 ⟨rfl,rfl⟩)
     | (go_at_call_of 61 (Value.float .f64 v.2);with_reducible refine (c2 _).mono ?_;rintro _ w1 ⟨rfl,rfl⟩))
   go_ret
   exact⟨rfl,HB⟩
def endB (v:Nat×Nat):Bool:=infB v.1 || infB v.2
theorem tend_w {v:Nat×Nat} (hv:W2 v) (w:World):Calls Tryz.prog 41 #[.agg #[.float .f64 v.1,.float .f64 v.2]] w fun e w'=>e=.returned (.bool (endB v))∧Below w.heap.size w w':=tend_core v _ _ (fun w=>isInf0_w v.1 hv.1 w) (fun w=>isInf0_w v.2 hv.2 w) w
theorem pbound_w {v:Nat×Nat} (hv:W2 v) (he:endB v=false) (w:World) :
   Calls Tryz.prog 135 #[.agg #[],.agg #[.float .f64 v.1,.float .f64 v.2]] w fun e w'=>e=.returned (.bool true)∧Below w.heap.size w w':=by
 have c:=fun W=>tend_w hv W
 rw [he] at c
 go_enter Tryz.func135,Tryz.ntmps135
 go_wp2_with (go_at_call 41;(with_reducible refine (c _).mono ?_);rintro _ w1 ⟨rfl,hb1⟩)
 go_ret
 exact⟨rfl,later (by go_grown) hb1⟩
set_option maxHeartbeats 2000000 in
theorem tnext_w (kd a c N:Int) (lo hi k b na nb nv Ca Cb Cv tb td:Nat) (A B D:Option Addr) (P:Nat×Nat) (hP:W2 P) (he:endB P=false) (w:World) (U:WithPl w b) (lt:tb<w.heap.size) (ct:w.cell? ⟨tb,td,none⟩=some (.slice D nv Cv))
   (co:∀W,Below w.heap.size w W→Calls Tryz.prog 76 #[.pointer (some ⟨b,0,none⟩),.agg #[.int .i64 kd,.int .i64 a,.int .i64 c,.int .i64 N,.float .f64 lo,.float .f64 hi]] W fun e w'=>e=.returned (.tuple #[.slice A na Ca,.slice B nb Cb])∧Below W.heap.size W w')
   (cx:∀W,Calls Tryz.prog 77 #[.pointer (some ⟨b,0,none⟩),.int .i64 (k:Int),.agg #[.int .i64 kd,.int .i64 a,.int .i64 c,.int .i64 N,.float .f64 lo,.float .f64 hi],.slice A na Ca,.slice B nb Cb,.slice D nv Cv] W fun e w'=>e=.returned (.bool false)∧Below W.heap.size W w')
   (cc:∀W,Below w.heap.size w W→Calls Tryz.prog 78 #[.pointer (some ⟨b,0,none⟩),.int .i64 (k:Int),.agg #[.int .i64 kd,.int .i64 a,.int .i64 c,.int .i64 N,.float .f64 lo,.float .f64 hi],.slice A na Ca,.slice B nb Cb,.pointer (some ⟨tb,td,none⟩)] W fun e w'=>e=.returned (.agg #[.float .f64 P.1,.float .f64 P.2])∧Below W.heap.size W w') :
   Calls Tryz.prog 62 #[.pointer (some ⟨b,0,none⟩),.int .i64 (k:Int),.agg #[.int .i64 kd,.int .i64 a,.int .i64 c,.int .i64 N,.float .f64 lo,.float .f64 hi],.pointer (some ⟨tb,td,none⟩)] w fun e w'=>e=.returned (.tuple #[.agg #[.float .f64 P.1,.float .f64 P.2],.int .i64 0])∧Below w.heap.size w w':=by
 have cb:=fun W=>pbound_w hP he W
 obtain⟨v1,hv1⟩:∃v1,v1=w.alloc (.cells #[.int .i64 kd,.int .i64 a,.int .i64 c,.int .i64 N,.float .f64 lo,.float .f64 hi] 45):=⟨_,rfl⟩
 obtain⟨v2,hv2⟩:∃v2,v2=v1.alloc (.cells #[.float .f64 0,.float .f64 0] 43):=⟨_,rfl⟩
 obtain⟨v3,hv3⟩:∃v3,v3=v2.alloc (.cells #[.float .f64 0,.float .f64 0] 43):=⟨_,rfl⟩
 have K1:Below w.heap.size w v1:=by rw [hv1];exact Below.alloc (Below.refl _ _) (Nat.le_refl _) _
 have K2:Below v1.heap.size v1 v2:=by rw [hv2];exact Below.alloc (Below.refl _ _) (Nat.le_refl _) _
 have K3:Below v2.heap.size v2 v3:=by rw [hv3];exact Below.alloc (Below.refl _ _) (Nat.le_refl _) _
 have z1:v1.heap.size=w.heap.size+1:=by rw [hv1];simp
 have z2:v2.heap.size=w.heap.size+2:=by rw [hv2];simp;omega
 have l1:w.heap.size<v1.heap.size:=by omega
 have o0:v1.cell? ⟨w.heap.size,0,none⟩=some (.int .i64 kd):=by rw [hv1];go_simp
 have o1:v1.cell? ⟨w.heap.size,1,none⟩=some (.int .i64 a):=by rw [hv1];go_simp
 have o2:v1.cell? ⟨w.heap.size,2,none⟩=some (.int .i64 c):=by rw [hv1];go_simp
 have o3:v1.cell? ⟨w.heap.size,3,none⟩=some (.int .i64 N):=by rw [hv1];go_simp
 have o4:v1.cell? ⟨w.heap.size,4,none⟩=some (.float .f64 lo):=by rw [hv1];go_simp
 have o5:v1.cell? ⟨w.heap.size,5,none⟩=some (.float .f64 hi):=by rw [hv1];go_simp
 have K23:=later K2 K3
 replace o0:=keepsC K23 o0 l1
 replace o1:=keepsC K23 o1 l1
 replace o2:=keepsC K23 o2 l1
 replace o3:=keepsC K23 o3 l1
 replace o4:=keepsC K23 o4 l1
 replace o5:=keepsC K23 o5 l1
 have R:Has2 v3 (w.heap.size+1) (.float .f64 0) (.float .f64 0):=by
   have h:Has2 v2 v1.heap.size (.float .f64 0) (.float .f64 0):=by rw [hv2];exact has2_new _ _ _ _
   rw [z1] at h
   exact h.keep K3
 have HB:Below w.heap.size w v3:=later (later K1 K2) K3
 have lo0:w.heap.size<v3.heap.size:=by have:=R.2.2.2.2;omega
 clear K1 K2 K3 K23 z1 z2 l1
 replace U:=U.keep HB
 replace ct:=keepsC HB ct lt
 replace lt:=Nat.lt_of_lt_of_le lt HB.size
 go_enter Tryz.func62,Tryz.ntmps62
 go_upto_region 2 with fail
 rw [←hv1,←hv2,←hv3]
 clear hv1 hv2 hv3
 go_upto_region 3 with (first | (go_at_call 76;(with_reducible refine (co _ HB).mono ?_);rintro _ W1 ⟨rfl,hb1⟩;replace U:=U.keep hb1;replace ct:=keepsC hb1 ct lt;replace lt:=Nat.lt_of_lt_of_le lt hb1.size;replace R:=R.keep hb1;replace o0:=keepsC hb1 o0 lo0;replace o1:=keepsC hb1 o1 lo0;replace o2:=keepsC hb1 o2 lo0;replace o3:=keepsC hb1 o3 lo0;replace o4:=keepsC hb1 o4 lo0;replace o5:=keepsC hb1 o5 lo0;replace lo0:=Nat.lt_of_lt_of_le lo0 hb1.size;replace HB:=later HB hb1;clear hb1))
 have k0:=fun n:Behind W1=>n.cell o0 lo0
 have k1:=fun n:Behind W1=>n.cell o1 lo0
 have k2:=fun n:Behind W1=>n.cell o2 lo0
 have k3:=fun n:Behind W1=>n.cell o3 lo0
 have k4:=fun n:Behind W1=>n.cell o4 lo0
 have k5:=fun n:Behind W1=>n.cell o5 lo0
 have k6:=fun n:Behind W1=>n.cell ct lt
 refine region_behind (by kernel_rfl) (by kernel_rfl) ?_
 repeat (go_big_quiet_step (first | (go_at_call 77;with_reducible refine Behind.call (cx _))))
 refine wpQuiet_nil ?_
 rintro _ ⟨m',rfl⟩
 obtain⟨W,hb1⟩:=m'
 dsimp only
 clear k0 k1 k2 k3 k4 k5 k6 cx
 replace U:=U.keep hb1;replace R:=R.keep hb1;replace o0:=keepsC hb1 o0 lo0;replace o1:=keepsC hb1 o1 lo0;replace o2:=keepsC hb1 o2 lo0;replace o3:=keepsC hb1 o3 lo0;replace o4:=keepsC hb1 o4 lo0;replace o5:=keepsC hb1 o5 lo0;replace lo0:=Nat.lt_of_lt_of_le lo0 hb1.size;replace HB:=later HB hb1
 clear hb1 ct lt
 go_upto_region 6 with (first | (go_at_call 78;(with_reducible refine (cc _ HB).mono ?_);rintro _ W2' ⟨rfl,hb1⟩;replace U:=U.keep hb1;replace R:=R.keep hb1;replace HB:=later HB hb1;clear hb1 o0 o1 o2 o3 o4 o5))
 have X:Has2 (W2'.alloc (.cells #[.float .f64 P.1,.float .f64 P.2] 43)) W2'.heap.size (.float .f64 P.1) (.float .f64 P.2):=has2_new _ _ _ _
 have hb1:Below W2'.heap.size W2' (W2'.alloc (.cells #[.float .f64 P.1,.float .f64 P.2] 43)):=Below.alloc (Below.refl _ _) (Nat.le_refl _) _
 replace U:=U.keep hb1
 replace R:=R.keep hb1
 replace HB:=later HB hb1
 clear hb1
 generalize (W2'.alloc (.cells #[.float .f64 P.1,.float .f64 P.2] 43))=V5 at *
 generalize W2'.heap.size=xb at *
 have ku:=fun n:Behind V5=>n.cell U.1 U.2
 have kx0:=fun n:Behind V5=>n.cell X.1 X.2.2.2.2
 have kx1:=fun n:Behind V5=>n.cell X.2.1 X.2.2.2.2
 refine region_behind (by kernel_rfl) (by kernel_rfl) ?_
 repeat (go_big_quiet_step (first | (go_at_call 135;with_reducible refine Behind.call (cb _))))
 refine wpQuiet_nil ?_
 rintro _ ⟨m',rfl⟩
 obtain⟨W',hb1⟩:=m'
 dsimp only
 clear ku kx0 kx1 cb
 replace X:=X.keep hb1;replace R:=R.keep hb1;replace HB:=later HB hb1;clear hb1
 obtain⟨x0,x1,x2,x3,x4⟩:=id X
 obtain⟨r0,r1,r2,r3,r4⟩:=id R
 go_wp2_with fail
 refine bodyPost_ret (v:=.tuple #[.agg #[.float .f64 P.1,.float .f64 P.2],.int .i64 0]) (by simp [results,Tryz.results62,go_sem, *]) rfl ⟨rfl, ?_⟩
 repeat' (first | (with_reducible exact HB) | (with_reducible refine Below.setCell ?_ ?_ _) | go_size)
def ivCells (xs:List (Nat×Nat)):List Value:=xs.flatMap fun p=>[.float .f64 p.1,.float .f64 p.2]
theorem ivCells_len (xs:List (Nat×Nat)):(ivCells xs).length=xs.length*2:=by
 induction xs with
 | nil=>rfl
 | cons p t ih =>
   have e:ivCells (p :: t)=.float .f64 p.1 :: .float .f64 p.2 :: ivCells t:=rfl
   rw [e]
   simp only [List.length_cons]
   omega
theorem ivCells_at (xs:List (Nat×Nat)) (i:Nat) (p:Nat×Nat) (h:xs[i]?=some p):(ivCells xs)[i*2]?=some (.float .f64 p.1)∧(ivCells xs)[i*2+1]?=some (.float .f64 p.2):=by
 induction xs generalizing i with
 | nil=>simp at h
 | cons q t ih =>
   have e:ivCells (q :: t)=.float .f64 q.1 :: .float .f64 q.2 :: ivCells t:=rfl
   rw [e]
   cases i with
   | zero =>
     simp at h
     subst h
     exact⟨rfl,rfl⟩
   | succ i =>
     have h':t[i]?=some p:=by simpa using h
     have:=ih i h'
     rw [show (i+1)*2=i*2+2 by omega,show i*2+2+1=(i*2+1)+2 by omega]
     simpa using this
def OwnI (B:Nat) (w:World) (v:Value) (xs:List (Nat×Nat)):Prop:=w.ownsRow B 43 2 v xs.length (ivCells xs)
theorem Tryz.infoIval:(Tryz.prog.info? 43).map (fun i=>(i.zero,i.size,i.bytes))=some (some (.agg #[.float .f64 0,.float .f64 0]),2,16):=by kernel_rfl
theorem ownI_empty (w:World):OwnI w.heap.size (w.alloc (.cells #[] 43)) (.slice (some ⟨w.heap.size,0,none⟩) 0 0) []:=World.ownsRow_made w #[] 0 (Nat.le_refl _) (Nat.zero_le _) rfl
theorem OwnI.keep {B:Nat} {w w2:World} {v:Value} {xs:List (Nat×Nat)} (h:OwnI B w v xs) (hb:Below w.heap.size w w2):OwnI B w2 v xs:=by
 refine⟨h.1, ?_⟩
 rcases h.2 with hn | ⟨g,cap,cur,hv,hb2,hg,rest⟩
 · exact .inl hn
 · have hlt:g<w.heap.size:=(Array.getElem?_eq_some_iff.1 hg).1
   refine .inr ⟨g,cap,cur,hv,hb2, ?_,rest⟩
   rw [←hg]
   exact hb.block g hlt
end Go.Proofs.YtgfppdboogldlaaGreat
