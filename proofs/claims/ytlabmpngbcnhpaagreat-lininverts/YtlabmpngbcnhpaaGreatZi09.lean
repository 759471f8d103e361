/- What math/bits' Div64 answers, of a divisor whose first bit is set; the walk of quotient. The walk of root: the exact root of an amount, with a mark for what is lost. The walks of Add, Sub, Mul, Div and Sqrt where all that comes in is finite: what is rounded is the exact result's Parts. -/
import Derived.Test.YtlabmpngbcnhpaaGreatZi03
import Derived.Test.YtlabmpngbcnhpaaGreatZi08
import Derived.Test.YtlabmpngbcnhpaaGreatZi02
import Derived.Deep.CutBlock
import Derived.Deep.CutRange
import Derived.Deep.LoopGhost
namespace Go.Proofs.YtlabmpngbcnhpaaGreat
open Go.ChangeShapes Go.WideShapes Go.ChangeAt Go.RowKit
theorem wrap_sub (x c p r:Int) (h:x+c-p=r) (h0:0≤r) (h1:r<18446744073709551616):IntKind.u64.wrap (IntKind.u64.wrap (IntKind.u64.wrap x+c)-IntKind.u64.wrap p)=r:=by
 rw [IntKind.wrap_u64,IntKind.wrap_u64,IntKind.wrap_u64,IntKind.wrap_u64];omega
theorem wrap_sub1 (x p r:Int) (h:x-p=r) (h0:0≤r) (h1:r<18446744073709551616):IntKind.u64.wrap (x-IntKind.u64.wrap p)=r:=by
 rw [IntKind.wrap_u64,IntKind.wrap_u64];omega
def DivP (u v y yn1:Nat) (a b:Nat):Prop:=b+a*yn1=u∧(u*4294967296+v)/y≤a∧a≤4294967297∧b<4294967296
theorem divP_start {u v y yn1 yn0:Nat} (hy:y=yn1*4294967296+yn0) (h1:2147483648≤yn1) (h2:yn1<4294967296) (h0:yn0<4294967296) (hu:u<y) (hv:v<4294967296):DivP u v y yn1 (u/yn1) (u%yn1):=by
 refine⟨?_,knuth_start hy h1 hv,knuth_top hy h1 h0 hu, ?_⟩
 · have:=Nat.div_add_mod u yn1
   rw [Nat.mul_comm] at this;omega
 · have:=Nat.mod_lt u (show 0<yn1 by omega)
   omega
theorem divP_A {u v y yn1 yn0 a b:Nat} (hy:y=yn1*4294967296+yn0) (h1:2147483648≤yn1) (h0:yn0<4294967296) (h:DivP u v y yn1 a b) (ha:a<4294967296) :
   ∃A:Nat,IntKind.u64.wrap ((a:Int)*(yn0:Int))=(A:Int)∧((u*4294967296+v)/y<a↔4294967296*b+v<A):=by
 refine⟨a*yn0, ?_,knuth_step hy h1 h.1⟩
 have hlt:a*yn0<4294967296*4294967296:=Nat.mul_lt_mul'' ha h0
 rw [←Int.natCast_mul,IntKind.wrap_u64]
 omega
theorem divP_next {u v y yn1 a b:Nat} (h:DivP u v y yn1 a b) (ht:(u*4294967296+v)/y<a) (hb:b+yn1<4294967296):DivP u v y yn1 (a-1) (b+yn1):=by
 obtain⟨h1,h2,h3,h4⟩:=h
 unfold DivP
 generalize (u*4294967296+v)/y=q at *
 obtain⟨c,rfl⟩:∃c,a=c+1:=⟨a-1,by omega⟩
 rw [Nat.add_mul] at h1
 exact⟨by rw [Nat.add_sub_cancel];omega,by omega,by omega,hb⟩
theorem divP_end {u v y yn1 yn0 a b:Nat} (hy:y=yn1*4294967296+yn0) (hy1:2147483648≤yn1) (h0:yn0<4294967296) (h:DivP u v y yn1 a b) (ht:(u*4294967296+v)/y<a) (hb:4294967296≤b+yn1):a-1=(u*4294967296+v)/y:=by
 obtain⟨h1,h2,h3,h4⟩:=h
 obtain⟨c,rfl⟩:∃c,a=c+1:=⟨a-1,by generalize (u*4294967296+v)/y=q at *;omega⟩
 rw [Nat.add_mul] at h1
 have hs:=knuth_step (u:=u) (v:=v) (a:=c) (b:=b+yn1) hy hy1 (by omega)
 have hle:c*yn0≤4294967296*4294967295:=Nat.mul_le_mul (by omega) (by omega)
 rw [Nat.add_sub_cancel]
 have:¬(u*4294967296+v)/y<c:=by rw [hs];omega
 generalize (u*4294967296+v)/y=q at *
 omega
theorem div_two {hi y un1 un0:Nat} (hy:0<y) :
   (hi*18446744073709551616+(un1*4294967296+un0))/y=(hi*4294967296+un1)/y*4294967296+((hi*4294967296+un1)%y*4294967296+un0)/y ∧
   (hi*18446744073709551616+(un1*4294967296+un0))%y=((hi*4294967296+un1)%y*4294967296+un0)%y:=by
 have e1:hi*18446744073709551616+(un1*4294967296+un0)=(hi*4294967296+un1)*4294967296+un0:=by omega
 have e2:=Nat.div_add_mod (hi*4294967296+un1) y
 have e3:(hi*4294967296+un1)*4294967296+un0=y*((hi*4294967296+un1)/y*4294967296)+((hi*4294967296+un1)%y*4294967296+un0):=by
   conv=>lhs;rw [←e2]
   rw [Nat.add_mul,Nat.mul_assoc];omega
 rw [e1,e3]
 constructor
 · rw [Nat.mul_add_div hy]
 · rw [Nat.mul_add_mod]
theorem mask32 (x:Nat) (hx:x<18446744073709551616):bits .and .u64 (x:Int) 4294967295=((x%4294967296:Nat):Int):=low32 x hx
theorem div64_w (hi lo y:Nat) (hy1:9223372036854775808≤y) (hy2:y<18446744073709551616) (h0:0<hi) (hh:hi<y) (hl:lo<18446744073709551616) (w:World) :
   Calls Tryz.prog 113 #[.int .u64 hi,.int .u64 lo,.int .u64 y] w fun r w'=>r=.returned (.tuple #[.int .u64 (((hi*18446744073709551616+lo)/y:Nat):Int),.int .u64 (((hi*18446744073709551616+lo)%y:Nat):Int)])∧w=w':=by
 have hyy:y=y/4294967296*4294967296+y%4294967296:=by omega
 have a1:2147483648≤y/4294967296:=by omega
 have a2:y/4294967296<4294967296:=by omega
 have a3:y%4294967296<4294967296:=by omega
 have l1:lo/4294967296<4294967296:=by omega
 have l0:lo%4294967296<4294967296:=by omega
 have hlo:lo=lo/4294967296*4294967296+lo%4294967296:=by omega
 have hR1:(hi*4294967296+lo/4294967296)%y<y:=Nat.mod_lt _ (by omega)
 have hR0:((hi*4294967296+lo/4294967296)%y*4294967296+lo%4294967296)%y<y:=Nat.mod_lt _ (by omega)
 have hlog:63-y.log2=0:=by
   have:¬y.log2<63:=fun h=>by have:=(Nat.log2_lt (n:=y) (k:=63) (by omega)).1 h;omega
   omega
 have hd:=@div_two hi y (lo/4294967296) (lo%4294967296) (by omega)
 rw [←hlo] at hd
 rw [hd.1,hd.2]
 generalize hy1n:y/4294967296=yn1 at *
 generalize hy0n:y%4294967296=yn0 at *
 generalize hu1n:lo/4294967296=un1 at *
 generalize hu0n:lo%4294967296=un0 at *
 have q1:=knuth_lt (v:=un1) hh l1
 have q0:=knuth_lt (v:=un0) hR1 l0
 have e1:=Nat.div_add_mod (hi*4294967296+un1) y
 have e0:=Nat.div_add_mod ((hi*4294967296+un1)%y*4294967296+un0) y
 have c:=div64_core hi lo y yn1 yn0 un1 un0 (hi/yn1) (hi%yn1) ((hi*4294967296+un1)/y) ((hi*4294967296+un1)%y) ((hi*4294967296+un1)%y/yn1) ((hi*4294967296+un1)%y%yn1)
   (((hi*4294967296+un1)%y*4294967296+un0)/y) (((hi*4294967296+un1)%y*4294967296+un0)%y) (by simp;omega) (by omega) (by simp;omega) hy2 hl (by omega) a2 l1 l0
   (fun w=>by have:=lz_w y (by omega) hy2 w;rw [hlog] at this;exact this) (by omega) (by rw [mask32 y hy2,hy0n]) (by omega) (by rw [mask32 lo hl,hu0n]) (by omega)
   (by rw [show (0:Int)=((0:Nat):Int) from rfl,u64_or_nat hi 0 (by omega) (by decide),Nat.or_zero])
   (by rw [←Int.natCast_ediv,IntKind.wrap_u64];have:=Nat.div_le_self hi yn1;generalize hi/yn1=z at *;omega)
   (by refine wrap_sub1 _ _ _ ?_ (by omega) (by have:=Nat.mod_le hi yn1;omega)
       have:=Nat.div_add_mod hi yn1
       rw [←Int.natCast_mul,Nat.mul_comm];omega)
   (DivP hi un1 y yn1) (DivP ((hi*4294967296+un1)%y) un0 y yn1) (divP_start hyy a1 a2 a3 hh l1) (fun a b h=>⟨h.2.1,h.2.2.1,h.2.2.2⟩) (fun a b h ha=>divP_A hyy a1 a3 h ha) (fun a b h ht hb=>divP_next h ht hb)
   (fun a b h ht hb=>divP_end hyy a1 a3 h ht hb) q1
   (by refine wrap_sub _ _ _ _ ?_ (by omega) (by omega)
       rw [←Int.natCast_mul,Nat.mul_comm ((hi*4294967296+un1)/y) y];omega)
   (by rw [←Int.natCast_ediv,IntKind.wrap_u64];have:=Nat.div_le_self ((hi*4294967296+un1)%y) yn1;generalize (hi*4294967296+un1)%y/yn1=z at *;omega)
   (by refine wrap_sub1 _ _ _ ?_ (by omega) (by have:=Nat.mod_le ((hi*4294967296+un1)%y) yn1;omega)
       have:=Nat.div_add_mod ((hi*4294967296+un1)%y) yn1
       rw [←Int.natCast_mul,Nat.mul_comm ((hi*4294967296+un1)%y/yn1) yn1];omega)
   (divP_start hyy a1 a2 a3 hR1 l0) (fun a b h=>⟨h.2.1,h.2.2.1,h.2.2.2⟩) (fun a b h ha=>divP_A hyy a1 a3 h ha) (fun a b h ht hb=>divP_next h ht hb)
   (fun a b h ht hb=>divP_end hyy a1 a3 h ht hb) q0
   (by refine wrap_sub _ _ _ _ ?_ (by omega) (by omega)
       rw [←Int.natCast_mul,Nat.mul_comm (((hi*4294967296+un1)%y*4294967296+un0)/y) y];omega) w
 rw [Int.natCast_add,Int.natCast_mul]
 exact c
theorem drewN_later {B:Nat} {w w1:World} (n:Nat) (h:Below B w w1):Below B w (w1.drewN n):=⟨h.os,h.tape,h.output,h.size,h.block⟩
set_option maxHeartbeats 4000000 in
theorem quotient_core (gp gq:Bool) (mp mq np nq hi lo m r k:Nat) (ep eq fp fq:Int) (hfp:-5000≤fp∧fp≤5000) (hfq:-5000≤fq∧fq≤5000)
   (hn1:∀w,Calls Tryz.prog 109 #[.agg #[.bool gp,.int .u64 mp,.int .i64 ep]] w fun r w'=>r=.returned (.agg #[.bool gp,.int .u64 np,.int .i64 fp])∧Below w.heap.size w w')
   (hn2:∀w,Calls Tryz.prog 109 #[.agg #[.bool gq,.int .u64 mq,.int .i64 eq]] w fun r w'=>r=.returned (.agg #[.bool gq,.int .u64 nq,.int .i64 fq])∧Below w.heap.size w w')
   (hhi:(np:Int)/2=(hi:Int)) (hlo:IntKind.u64.wrap ((np:Int)*9223372036854775808)=(lo:Int))
   (hdv:∀w,Calls Tryz.prog 113 #[.int .u64 hi,.int .u64 lo,.int .u64 nq] w fun x w'=>x=.returned (.tuple #[.int .u64 m,.int .u64 r])∧∃n,w'=w.drewN n)
   (hmk:∀w,Calls Tryz.prog 114 #[.int .u64 m,.bool ((r:Int) != 0)] w fun x w'=>x=.returned (.int .u64 k)∧w=w') (w:World) :
   Calls Tryz.prog 84 #[.agg #[.bool gp,.int .u64 mp,.int .i64 ep],.agg #[.bool gq,.int .u64 mq,.int .i64 eq]] w fun r w'=>r=.returned (.agg #[.bool (gp != gq),.int .u64 k,.int .i64 (fp-fq-63)])∧Below w.heap.size w w':=by
 go_enter Tryz.func84,Tryz.ntmps84
 go_upto_region 1 with fail
 go_cut [] from 9 to 12 (fun wx=>Below w.heap.size w wx∧Has3 wx w.heap.size (.bool gp) (.int .u64 np) (.int .i64 fp)∧Has3 wx (w.heap.size+1) (.bool gq) (.int .u64 nq) (.int .i64 fq)∧Has3 wx (w.heap.size+1+1) (.bool false) (.int .u64 0) (.int .i64 0))
 case first =>
   obtain⟨hA,hB,hC,hS⟩:=has_new3 97 w (.bool gp) (.int .u64 mp) (.int .i64 ep) (.bool gq) (.int .u64 mq) (.int .i64 eq) (.bool false) (.int .u64 0) (.int .i64 0)
   go_region_with (first
     | (go_at_call_of 109 (Value.agg #[.bool gp,.int .u64 mp,.int .i64 ep]);refine (hn1 _).mono ?_;rintro _ w1 ⟨rfl,hb1⟩;have c10:w1.cell? ⟨w.heap.size+1,0,none⟩=some (.bool gq):=(hb1.cell (by simp)).trans (by go_simp);have c11:w1.cell? ⟨w.heap.size+1,1,none⟩=some (.int .u64 mq):=(hb1.cell (by simp)).trans (by go_simp);have c12:w1.cell? ⟨w.heap.size+1,2,none⟩=some (.int .i64 eq):=(hb1.cell (by simp)).trans (by go_simp))
     | (go_at_call_of 109 (Value.agg #[.bool gq,.int .u64 mq,.int .i64 eq]);refine (hn2 _).mono ?_;rintro _ w2 ⟨rfl,hb2⟩;
        obtain⟨x0,x1,x2,x3,x4,x5,x6⟩:=(hA.keep hb1).keep hb2;obtain⟨y0,y1,y2,y3,y4,y5,y6⟩:=(hB.keep hb1).keep hb2))
   all_goals
     go_wp2_with fail
     go_meet
     case rel =>
       refine⟨?_,(((hA.keep hb1).keep hb2).put _ _ _).far (by omega) _ _ _,((((hB.keep hb1).keep hb2).far (by omega) _ _ _).put _ _ _),((((hC.keep hb1).keep hb2).far (by omega) _ _ _).far (by omega) _ _ _)⟩
       have hT:=later (later hS hb1) hb2
       repeat' (first | (with_reducible exact hT) | (with_reducible refine Below.setCell ?_ ?_ _) | go_size)
 case rest =>
 have ne1:w.heap.size+1+1≠w.heap.size:=by omega
 have ne2:w.heap.size≠w.heap.size+1+1:=by omega
 obtain⟨hb,⟨a0,a1,a2,b0,b1,b2,bl⟩,⟨c0,c1,c2,d0,d1,d2,dl⟩,⟨e0,e1,e2,f0,f1,f2,fl⟩⟩:=hcut
 go_wp2_with fail
 go_region
 all_goals go_wp2_with (first | (go_at_call 113;refine (hdv _).mono ?_;rintro _ _ ⟨rfl,nd,rfl⟩))
 all_goals
   go_region_held3 (fun w'=>w'.cell? ⟨w.heap.size,0,none⟩=some (.bool gp)∧w'.cell? ⟨w.heap.size,2,none⟩=some (.int .i64 fp)∧w'.cell? ⟨w.heap.size+1,0,none⟩=some (.bool gq)∧w'.cell? ⟨w.heap.size+1,2,none⟩=some (.int .i64 fq)) (go_keep)
     (first | (go_at_call 114;refine (hmk _).mono ?_;rintro _ _ ⟨rfl,rfl⟩))
 all_goals go_wp2_with fail
 all_goals
   have hw1:IntKind.i64.wrap (IntKind.i64.wrap (fp-fq)-63)=fp-fq-63:=by rw [IntKind.wrap_i64,IntKind.wrap_i64];omega
   rw [hw1]
   refine bodyPost_ret (v:=.agg #[.bool (!(gp==gq)),.int .u64 k,.int .i64 (fp-fq-63)]) (by simp [results,Tryz.results84,go_sem,e0,e1,e2]) rfl ⟨rfl, ?_⟩
   repeat' (first | (with_reducible exact hb) | (with_reducible refine Below.drew ?_) | (with_reducible refine drewN_later _ ?_) | (with_reducible refine Below.setCell ?_ ?_ _) | go_size)
theorem nan_w (w:World):Calls Tryz.prog 83 #[] w fun e w'=>e=.returned (.float .f64 9221120237041090561)∧w=w':=by
 go_enter Tryz.func83,Tryz.ntmps83
 go_wp2
 all_goals (go_ret;exact⟨rfl,rfl⟩)
theorem isNaN_w (x:Nat) (hx:x<18446744073709551616) (w:World) :
   Calls Tryz.prog 82 #[.float .f64 x] w fun e w'=>e=.returned (.bool (nanB x))∧w=w':=by
 have ho:(FloatKind.f64.format.order x x != some Ordering.eq)=nanB x:=by
   rw [order_eq x x hx hx,Bool.or_self]
   cases nanB x <;> simp
 go_enter Tryz.func82,Tryz.ntmps82
 go_wp2
 all_goals (go_ret;exact⟨rfl,rfl⟩)
set_option maxHeartbeats 400000 in
theorem add_core (a b:Nat) (dir:Int) (ga gb gs:Bool) (ma mb ms:Nat) (ea eb es:Int) (r:Nat)
   (ha:∀w,Calls Tryz.prog 79 #[.float .f64 a] w fun x w'=>x=.returned (.tuple #[.agg #[.bool ga,.int .u64 ma,.int .i64 ea],.bool true])∧Below w.heap.size w w')
   (hb:∀w,Calls Tryz.prog 79 #[.float .f64 b] w fun x w'=>x=.returned (.tuple #[.agg #[.bool gb,.int .u64 mb,.int .i64 eb],.bool true])∧Below w.heap.size w w')
   (hs:∀w,Calls Tryz.prog 81 #[.agg #[.bool ga,.int .u64 ma,.int .i64 ea],.agg #[.bool gb,.int .u64 mb,.int .i64 eb]] w fun x w'=>x=.returned (.agg #[.bool gs,.int .u64 ms,.int .i64 es])∧Below w.heap.size w w')
   (hr:∀w,Calls Tryz.prog 80 #[.agg #[.bool gs,.int .u64 ms,.int .i64 es],.int .i64 dir] w fun x w'=>x=.returned (.float .f64 r)∧Below w.heap.size w w') (w:World) :
   Calls Tryz.prog 54 #[.float .f64 a,.float .f64 b,.int .i64 dir] w fun x w'=>x=.returned (.float .f64 r)∧Below w.heap.size w w':=by
 go_enter Tryz.func54,Tryz.ntmps54
 go_upto_region 2 with (first | (go_at_call_of 79 (Value.float .f64 a);refine (ha _).mono ?_;rintro _ w1 ⟨rfl,hb1⟩))
 go_wp2_with (first
   | (go_at_call_of 79 (Value.float .f64 b);refine (hb _).mono ?_;rintro _ w2 ⟨rfl,hb2⟩
      have c0:=keepsC hb2 (b:=w1.heap.size) (o:=0) (v:=.bool ga) (by go_simp) (by simp)
      have c1:=keepsC hb2 (b:=w1.heap.size) (o:=1) (v:=.int .u64 ma) (by go_simp) (by simp)
      have c2:=keepsC hb2 (b:=w1.heap.size) (o:=2) (v:=.int .i64 ea) (by go_simp) (by simp)
      have hsz:w1.heap.size<w2.heap.size:=by have:=hb2.size;simp only [World.size_alloc] at this;omega)
   | (go_at_call 81;refine (hs _).mono ?_;rintro _ w3 ⟨rfl,hb3⟩)
   | (go_at_call 80;refine (hr _).mono ?_;rintro _ w4 ⟨rfl,hb4⟩))
 all_goals
   go_ret
   refine⟨rfl, ?_⟩
   have t2:Below w.heap.size w (w1.alloc (Obj.cells #[Value.bool ga,Value.int IntKind.u64 ma,Value.int IntKind.i64 ea] 97)):=hb1.alloc hb1.size _
   have t3:=later t2 hb2
   have t4:Below w.heap.size w (w2.alloc (Obj.cells #[Value.bool gb,Value.int IntKind.u64 mb,Value.int IntKind.i64 eb] 97)):=t3.alloc t3.size _
   exact later (later t4 hb3) hb4
end Go.Proofs.YtlabmpngbcnhpaaGreat
