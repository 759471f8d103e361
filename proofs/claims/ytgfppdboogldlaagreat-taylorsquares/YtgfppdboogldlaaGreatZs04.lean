/- What math/bits' Div64 answers, of a divisor whose first bit is set; the walk of quotient. The walk of root: the exact root of an amount, with a mark for what is lost. The walks of Add, Sub, Mul, Div and Sqrt where all that comes in is finite: what is rounded is the exact result's Parts. Plain facts on the program's rounding, whatever is rounded: its three sides stand in order, no more than neighbours apart. Plain facts: what the program rounds an amount to is what the document asks for, of any exact amount that the parts stand for. Plain facts: numbers with signs, rounded down: the place of the greatest float that is not above; the greater the number, the greater the place. -/
import Derived.Test.YtgfppdboogldlaaGreatZs03
import Derived.Test.YtgfppdboogldlaaGreatZs02
import Derived.Deep.CutBlock
import Derived.Deep.CutRange
import Derived.Deep.LoopGhost
namespace Go.Proofs.YtgfppdboogldlaaGreat
open Go.ChangeShapes Go.WideShapes Go.ChangeAt Go.RowKit
theorem wrap_sub (x c p r:Int) (h:x+c-p=r) (h0:0≤r) (h1:r<18446744073709551616):IntKind.u64.wrap (IntKind.u64.wrap (IntKind.u64.wrap x+c)-IntKind.u64.wrap p)=r:=by
 rw [IntKind.wrap_u64,IntKind.wrap_u64,IntKind.wrap_u64,IntKind.wrap_u64];omega
theorem wrap_sub1 (x p r:Int) (h:x-p=r) (h0:0≤r) (h1:r<18446744073709551616):IntKind.u64.wrap (x-IntKind.u64.wrap p)=r:=by
 rw [IntKind.wrap_u64,IntKind.wrap_u64];omega
def DivP (u v y yn1:Nat) (a b:Nat):Prop:=b+a*yn1=u∧(u*4294967296+v)/y≤a∧a≤4294967297∧b<4294967296
theorem divP_start {u v y yn1 yn0:Nat} (hy:y=yn1*4294967296+yn0) (h1:2147483648≤yn1) (h2:yn1<4294967296) (h0:yn0<4294967296) (hu:u<y) (hv:v<4294967296):DivP u v y yn1 (u/yn1) (u%yn1):=by
 refine⟨?_,knuth_start hy h1 hv,knuth_top hy h1 h0 hu, ?_⟩
 · have:=Nat.div_add_mod u yn1
   rw [Nat.mul_comm] at this;omega
 · have:=Nat.mod_lt u (show 0<yn1 by omega)
   omega
theorem divP_A {u v y yn1 yn0 a b:Nat} (hy:y=yn1*4294967296+yn0) (h1:2147483648≤yn1) (h0:yn0<4294967296) (h:DivP u v y yn1 a b) (ha:a<4294967296) :
   ∃A:Nat,IntKind.u64.wrap ((a:Int)*(yn0:Int))=(A:Int)∧((u*4294967296+v)/y<a↔4294967296*b+v<A):=by
 refine⟨a*yn0, ?_,knuth_step hy h1 h.1⟩
 have hlt:a*yn0<4294967296*4294967296:=Nat.mul_lt_mul'' ha h0
 rw [←Int.natCast_mul,IntKind.wrap_u64]
 omega
theorem divP_next {u v y yn1 a b:Nat} (h:DivP u v y yn1 a b) (ht:(u*4294967296+v)/y<a) (hb:b+yn1<4294967296):DivP u v y yn1 (a-1) (b+yn1):=by
 obtain⟨h1,h2,h3,h4⟩:=h
 unfold DivP
 generalize (u*4294967296+v)/y=q at *
 obtain⟨c,rfl⟩:∃c,a=c+1:=⟨a-1,by omega⟩
 rw [Nat.add_mul] at h1
 exact⟨by rw [Nat.add_sub_cancel];omega,by omega,by omega,hb⟩
theorem divP_end {u v y yn1 yn0 a b:Nat} (hy:y=yn1*4294967296+yn0) (hy1:2147483648≤yn1) (h0:yn0<4294967296) (h:DivP u v y yn1 a b) (ht:(u*4294967296+v)/y<a) (hb:4294967296≤b+yn1):a-1=(u*4294967296+v)/y:=by
 obtain⟨h1,h2,h3,h4⟩:=h
 obtain⟨c,rfl⟩:∃c,a=c+1:=⟨a-1,by generalize (u*4294967296+v)/y=q at *;omega⟩
 rw [Nat.add_mul] at h1
 have hs:=knuth_step (u:=u) (v:=v) (a:=c) (b:=b+yn1) hy hy1 (by omega)
 have hle:c*yn0≤4294967296*4294967295:=Nat.mul_le_mul (by omega) (by omega)
 rw [Nat.add_sub_cancel]
 have:¬(u*4294967296+v)/y<c:=by rw [hs];omega
 generalize (u*4294967296+v)/y=q at *
 omega
theorem div_two {hi y un1 un0:Nat} (hy:0<y) :
   (hi*18446744073709551616+(un1*4294967296+un0))/y=(hi*4294967296+un1)/y*4294967296+((hi*4294967296+un1)%y*4294967296+un0)/y ∧
   (hi*18446744073709551616+(un1*4294967296+un0))%y=((hi*4294967296+un1)%y*4294967296+un0)%y:=by
 have e1:hi*18446744073709551616+(un1*4294967296+un0)=(hi*4294967296+un1)*4294967296+un0:=by omega
 have e2:=Nat.div_add_mod (hi*4294967296+un1) y
 have e3:(hi*4294967296+un1)*4294967296+un0=y*((hi*4294967296+un1)/y*4294967296)+((hi*4294967296+un1)%y*4294967296+un0):=by
   conv=>lhs;rw [←e2]
   rw [Nat.add_mul,Nat.mul_assoc];omega
 rw [e1,e3]
 constructor
 · rw [Nat.mul_add_div hy]
 · rw [Nat.mul_add_mod]
theorem mask32 (x:Nat) (hx:x<18446744073709551616):bits .and .u64 (x:Int) 4294967295=((x%4294967296:Nat):Int):=low32 x hx
theorem div64_w (hi lo y:Nat) (hy1:9223372036854775808≤y) (hy2:y<18446744073709551616) (h0:0<hi) (hh:hi<y) (hl:lo<18446744073709551616) (w:World) :
   Calls Tryz.prog 227 #[.int .u64 hi,.int .u64 lo,.int .u64 y] w fun r w'=>r=.returned (.tuple #[.int .u64 (((hi*18446744073709551616+lo)/y:Nat):Int),.int .u64 (((hi*18446744073709551616+lo)%y:Nat):Int)])∧w=w':=by
 have hyy:y=y/4294967296*4294967296+y%4294967296:=by omega
 have a1:2147483648≤y/4294967296:=by omega
 have a2:y/4294967296<4294967296:=by omega
 have a3:y%4294967296<4294967296:=by omega
 have l1:lo/4294967296<4294967296:=by omega
 have l0:lo%4294967296<4294967296:=by omega
 have hlo:lo=lo/4294967296*4294967296+lo%4294967296:=by omega
 have hR1:(hi*4294967296+lo/4294967296)%y<y:=Nat.mod_lt _ (by omega)
 have hR0:((hi*4294967296+lo/4294967296)%y*4294967296+lo%4294967296)%y<y:=Nat.mod_lt _ (by omega)
 have hlog:63-y.log2=0:=by
   have:¬y.log2<63:=fun h=>by have:=(Nat.log2_lt (n:=y) (k:=63) (by omega)).1 h;omega
   omega
 have hd:=@div_two hi y (lo/4294967296) (lo%4294967296) (by omega)
 rw [←hlo] at hd
 rw [hd.1,hd.2]
 generalize hy1n:y/4294967296=yn1 at *
 generalize hy0n:y%4294967296=yn0 at *
 generalize hu1n:lo/4294967296=un1 at *
 generalize hu0n:lo%4294967296=un0 at *
 have q1:=knuth_lt (v:=un1) hh l1
 have q0:=knuth_lt (v:=un0) hR1 l0
 have e1:=Nat.div_add_mod (hi*4294967296+un1) y
 have e0:=Nat.div_add_mod ((hi*4294967296+un1)%y*4294967296+un0) y
 have c:=div64_core hi lo y yn1 yn0 un1 un0 (hi/yn1) (hi%yn1) ((hi*4294967296+un1)/y) ((hi*4294967296+un1)%y) ((hi*4294967296+un1)%y/yn1) ((hi*4294967296+un1)%y%yn1)
   (((hi*4294967296+un1)%y*4294967296+un0)/y) (((hi*4294967296+un1)%y*4294967296+un0)%y) (by simp;omega) (by omega) (by simp;omega) hy2 hl (by omega) a2 l1 l0
   (fun w=>by have:=lz_w y (by omega) hy2 w;rw [hlog] at this;exact this) (by omega) (by rw [mask32 y hy2,hy0n]) (by omega) (by rw [mask32 lo hl,hu0n]) (by omega)
   (by rw [show (0:Int)=((0:Nat):Int) from rfl,u64_or_nat hi 0 (by omega) (by decide),Nat.or_zero])
   (by rw [←Int.natCast_ediv,IntKind.wrap_u64];have:=Nat.div_le_self hi yn1;generalize hi/yn1=z at *;omega)
   (by refine wrap_sub1 _ _ _ ?_ (by omega) (by have:=Nat.mod_le hi yn1;omega)
       have:=Nat.div_add_mod hi yn1
       rw [←Int.natCast_mul,Nat.mul_comm];omega)
   (DivP hi un1 y yn1) (DivP ((hi*4294967296+un1)%y) un0 y yn1) (divP_start hyy a1 a2 a3 hh l1) (fun a b h=>⟨h.2.1,h.2.2.1,h.2.2.2⟩) (fun a b h ha=>divP_A hyy a1 a3 h ha) (fun a b h ht hb=>divP_next h ht hb)
   (fun a b h ht hb=>divP_end hyy a1 a3 h ht hb) q1
   (by refine wrap_sub _ _ _ _ ?_ (by omega) (by omega)
       rw [←Int.natCast_mul,Nat.mul_comm ((hi*4294967296+un1)/y) y];omega)
   (by rw [←Int.natCast_ediv,IntKind.wrap_u64];have:=Nat.div_le_self ((hi*4294967296+un1)%y) yn1;generalize (hi*4294967296+un1)%y/yn1=z at *;omega)
   (by refine wrap_sub1 _ _ _ ?_ (by omega) (by have:=Nat.mod_le ((hi*4294967296+un1)%y) yn1;omega)
       have:=Nat.div_add_mod ((hi*4294967296+un1)%y) yn1
       rw [←Int.natCast_mul,Nat.mul_comm ((hi*4294967296+un1)%y/yn1) yn1];omega)
   (divP_start hyy a1 a2 a3 hR1 l0) (fun a b h=>⟨h.2.1,h.2.2.1,h.2.2.2⟩) (fun a b h ha=>divP_A hyy a1 a3 h ha) (fun a b h ht hb=>divP_next h ht hb)
   (fun a b h ht hb=>divP_end hyy a1 a3 h ht hb) q0
   (by refine wrap_sub _ _ _ _ ?_ (by omega) (by omega)
       rw [←Int.natCast_mul,Nat.mul_comm (((hi*4294967296+un1)%y*4294967296+un0)/y) y];omega) w
 rw [Int.natCast_add,Int.natCast_mul]
 exact c
theorem drewN_later {B:Nat} {w w1:World} (n:Nat) (h:Below B w w1):Below B w (w1.drewN n):=⟨h.os,h.tape,h.output,h.size,h.block⟩
set_option maxHeartbeats 4000000 in
theorem quotient_core (gp gq:Bool) (mp mq np nq hi lo m r k:Nat) (ep eq fp fq:Int) (hfp:-5000≤fp∧fp≤5000) (hfq:-5000≤fq∧fq≤5000)
   (hn1:∀w,Calls Tryz.prog 191 #[.agg #[.bool gp,.int .u64 mp,.int .i64 ep]] w fun r w'=>r=.returned (.agg #[.bool gp,.int .u64 np,.int .i64 fp])∧Below w.heap.size w w')
   (hn2:∀w,Calls Tryz.prog 191 #[.agg #[.bool gq,.int .u64 mq,.int .i64 eq]] w fun r w'=>r=.returned (.agg #[.bool gq,.int .u64 nq,.int .i64 fq])∧Below w.heap.size w w')
   (hhi:(np:Int)/2=(hi:Int)) (hlo:IntKind.u64.wrap ((np:Int)*9223372036854775808)=(lo:Int))
   (hdv:∀w,Calls Tryz.prog 227 #[.int .u64 hi,.int .u64 lo,.int .u64 nq] w fun x w'=>x=.returned (.tuple #[.int .u64 m,.int .u64 r])∧∃n,w'=w.drewN n)
   (hmk:∀w,Calls Tryz.prog 197 #[.int .u64 m,.bool ((r:Int) != 0)] w fun x w'=>x=.returned (.int .u64 k)∧w=w') (w:World) :
   Calls Tryz.prog 221 #[.agg #[.bool gp,.int .u64 mp,.int .i64 ep],.agg #[.bool gq,.int .u64 mq,.int .i64 eq]] w fun r w'=>r=.returned (.agg #[.bool (gp != gq),.int .u64 k,.int .i64 (fp-fq-63)])∧Below w.heap.size w w':=by
 go_enter Tryz.func221,Tryz.ntmps221
 go_upto_region 1 with fail
 go_cut [] from 9 to 12 (fun wx=>Below w.heap.size w wx∧Has3 wx w.heap.size (.bool gp) (.int .u64 np) (.int .i64 fp)∧Has3 wx (w.heap.size+1) (.bool gq) (.int .u64 nq) (.int .i64 fq)∧Has3 wx (w.heap.size+1+1) (.bool false) (.int .u64 0) (.int .i64 0))
 case first =>
   obtain⟨hA,hB,hC,hS⟩:=has_new3 63 w (.bool gp) (.int .u64 mp) (.int .i64 ep) (.bool gq) (.int .u64 mq) (.int .i64 eq) (.bool false) (.int .u64 0) (.int .i64 0)
   go_region_with (first
     | (go_at_call_of 191 (Value.agg #[.bool gp,.int .u64 mp,.int .i64 ep]);refine (hn1 _).mono ?_;rintro _ w1 ⟨rfl,hb1⟩;have c10:w1.cell? ⟨w.heap.size+1,0,none⟩=some (.bool gq):=(hb1.cell (by simp)).trans (by go_simp);have c11:w1.cell? ⟨w.heap.size+1,1,none⟩=some (.int .u64 mq):=(hb1.cell (by simp)).trans (by go_simp);have c12:w1.cell? ⟨w.heap.size+1,2,none⟩=some (.int .i64 eq):=(hb1.cell (by simp)).trans (by go_simp))
     | (go_at_call_of 191 (Value.agg #[.bool gq,.int .u64 mq,.int .i64 eq]);refine (hn2 _).mono ?_;rintro _ w2 ⟨rfl,hb2⟩;
        obtain⟨x0,x1,x2,x3,x4,x5,x6⟩:=(hA.keep hb1).keep hb2;obtain⟨y0,y1,y2,y3,y4,y5,y6⟩:=(hB.keep hb1).keep hb2))
   all_goals
     go_wp2_with fail
     go_meet
     case rel =>
       refine⟨?_,(((hA.keep hb1).keep hb2).put _ _ _).far (by omega) _ _ _,((((hB.keep hb1).keep hb2).far (by omega) _ _ _).put _ _ _),((((hC.keep hb1).keep hb2).far (by omega) _ _ _).far (by omega) _ _ _)⟩
       have hT:=later (later hS hb1) hb2
       repeat' (first | (with_reducible exact hT) | (with_reducible refine Below.setCell ?_ ?_ _) | go_size)
 case rest =>
 have ne1:w.heap.size+1+1≠w.heap.size:=by omega
 have ne2:w.heap.size≠w.heap.size+1+1:=by omega
 obtain⟨hb,⟨a0,a1,a2,b0,b1,b2,bl⟩,⟨c0,c1,c2,d0,d1,d2,dl⟩,⟨e0,e1,e2,f0,f1,f2,fl⟩⟩:=hcut
 go_wp2_with fail
 go_region
 all_goals go_wp2_with (first | (go_at_call 227;refine (hdv _).mono ?_;rintro _ _ ⟨rfl,nd,rfl⟩))
 all_goals
   go_region_held3 (fun w'=>w'.cell? ⟨w.heap.size,0,none⟩=some (.bool gp)∧w'.cell? ⟨w.heap.size,2,none⟩=some (.int .i64 fp)∧w'.cell? ⟨w.heap.size+1,0,none⟩=some (.bool gq)∧w'.cell? ⟨w.heap.size+1,2,none⟩=some (.int .i64 fq)) (go_keep)
     (first | (go_at_call 197;refine (hmk _).mono ?_;rintro _ _ ⟨rfl,rfl⟩))
 all_goals go_wp2_with fail
 all_goals
   have hw1:IntKind.i64.wrap (IntKind.i64.wrap (fp-fq)-63)=fp-fq-63:=by rw [IntKind.wrap_i64,IntKind.wrap_i64];omega
   rw [hw1]
   refine bodyPost_ret (v:=.agg #[.bool (!(gp==gq)),.int .u64 k,.int .i64 (fp-fq-63)]) (by simp [results,Tryz.results221,go_sem,e0,e1,e2]) rfl ⟨rfl, ?_⟩
   repeat' (first | (with_reducible exact hb) | (with_reducible refine Below.drew ?_) | (with_reducible refine drewN_later _ ?_) | (with_reducible refine Below.setCell ?_ ?_ _) | go_size)
theorem nan_w (w:World):Calls Tryz.prog 66 #[] w fun e w'=>e=.returned (.float .f64 9221120237041090561)∧w=w':=by
 go_enter Tryz.func66,Tryz.ntmps66
 go_wp2
 all_goals (go_ret;exact⟨rfl,rfl⟩)
theorem isNaN_w (x:Nat) (hx:x<18446744073709551616) (w:World) :
   Calls Tryz.prog 169 #[.float .f64 x] w fun e w'=>e=.returned (.bool (nanB x))∧w=w':=by
 have ho:(FloatKind.f64.format.order x x != some Ordering.eq)=nanB x:=by
   rw [order_eq x x hx hx,Bool.or_self]
   cases nanB x <;> simp
 go_enter Tryz.func169,Tryz.ntmps169
 go_wp2
 all_goals (go_ret;exact⟨rfl,rfl⟩)
set_option maxHeartbeats 400000 in
theorem add_core (a b:Nat) (dir:Int) (ga gb gs:Bool) (ma mb ms:Nat) (ea eb es:Int) (r:Nat)
   (ha:∀w,Calls Tryz.prog 165 #[.float .f64 a] w fun x w'=>x=.returned (.tuple #[.agg #[.bool ga,.int .u64 ma,.int .i64 ea],.bool true])∧Below w.heap.size w w')
   (hb:∀w,Calls Tryz.prog 165 #[.float .f64 b] w fun x w'=>x=.returned (.tuple #[.agg #[.bool gb,.int .u64 mb,.int .i64 eb],.bool true])∧Below w.heap.size w w')
   (hs:∀w,Calls Tryz.prog 167 #[.agg #[.bool ga,.int .u64 ma,.int .i64 ea],.agg #[.bool gb,.int .u64 mb,.int .i64 eb]] w fun x w'=>x=.returned (.agg #[.bool gs,.int .u64 ms,.int .i64 es])∧Below w.heap.size w w')
   (hr:∀w,Calls Tryz.prog 166 #[.agg #[.bool gs,.int .u64 ms,.int .i64 es],.int .i64 dir] w fun x w'=>x=.returned (.float .f64 r)∧Below w.heap.size w w') (w:World) :
   Calls Tryz.prog 152 #[.float .f64 a,.float .f64 b,.int .i64 dir] w fun x w'=>x=.returned (.float .f64 r)∧Below w.heap.size w w':=by
 go_enter Tryz.func152,Tryz.ntmps152
 go_upto_region 2 with (first | (go_at_call_of 165 (Value.float .f64 a);refine (ha _).mono ?_;rintro _ w1 ⟨rfl,hb1⟩))
 go_wp2_with (first
   | (go_at_call_of 165 (Value.float .f64 b);refine (hb _).mono ?_;rintro _ w2 ⟨rfl,hb2⟩
      have c0:=keepsC hb2 (b:=w1.heap.size) (o:=0) (v:=.bool ga) (by go_simp) (by simp)
      have c1:=keepsC hb2 (b:=w1.heap.size) (o:=1) (v:=.int .u64 ma) (by go_simp) (by simp)
      have c2:=keepsC hb2 (b:=w1.heap.size) (o:=2) (v:=.int .i64 ea) (by go_simp) (by simp)
      have hsz:w1.heap.size<w2.heap.size:=by have:=hb2.size;simp only [World.size_alloc] at this;omega)
   | (go_at_call 167;refine (hs _).mono ?_;rintro _ w3 ⟨rfl,hb3⟩)
   | (go_at_call 166;refine (hr _).mono ?_;rintro _ w4 ⟨rfl,hb4⟩))
 all_goals
   go_ret
   refine⟨rfl, ?_⟩
   have t2:Below w.heap.size w (w1.alloc (Obj.cells #[Value.bool ga,Value.int IntKind.u64 ma,Value.int IntKind.i64 ea] 63)):=hb1.alloc hb1.size _
   have t3:=later t2 hb2
   have t4:Below w.heap.size w (w2.alloc (Obj.cells #[Value.bool gb,Value.int IntKind.u64 mb,Value.int IntKind.i64 eb] 63)):=t3.alloc t3.size _
   exact later (later t4 hb3) hb4
end Go.Proofs.YtgfppdboogldlaaGreat
namespace Go.Proofs.YtgfppdboogldlaaGreat
theorem keptN_lt {m d:Nat} (hm:m<18446744073709551616) (hd:11≤d):keptN m d≤9007199254740991:=by
 unfold keptN
 split
 · omega
 · have h1:m/2^d≤m/2^11:=Nat.div_le_div_left (Nat.pow_le_pow_right (by omega) hd) (Nat.two_pow_pos _)
   have h2:m/2^11<2^53:=Nat.div_lt_of_lt_mul (by rw [←Nat.pow_add];exact hm)
   omega
theorem goes_zero (k r:Nat):goesN k r 0=false:=rfl
theorem goes_mono {k r:Nat} (h:goesN k r 1=true):goesN k r 2=true:=by
 have h1:goesN k r 1=decide (9223372036854775808<r∨r=9223372036854775808∧k%2=1):=rfl
 have h2:goesN k r 2=decide (r≠0):=rfl
 rw [h1] at h
 rw [h2]
 simp only [decide_eq_true_eq] at h ⊢
 omega
theorem rung_sides (t:Nat) (e:Int) (ht:t<18446744073709551616) :
   ∃(r:Nat) (b1 b2:Bool),r≤9218868437227405311∧rungN t e 0=r∧rungN t e 1=r+b1.toNat∧rungN t e 2=r+b2.toNat∧(b1=true→b2=true):=by
 have hd11:11≤dropN e:=by unfold dropN;omega
 have hk:=keptN_lt (d:=dropN e) ht hd11
 by_cases h:971<e+dropN e
 · refine⟨9218868437227405311,true,true,by omega, ?_, ?_, ?_,fun _=>rfl⟩
   · have b:rungN t e 0=boundN 0:=by unfold rungN;exact if_pos h
     have c:boundN 0=9218868437227405311:=if_pos rfl
     omega
   · have b:rungN t e 1=boundN 1:=by unfold rungN;exact if_pos h
     have c:boundN 1=9218868437227405312:=if_neg (by decide)
     simp only [Bool.toNat_true];omega
   · have b:rungN t e 2=boundN 2:=by unfold rungN;exact if_pos h
     have c:boundN 2=9218868437227405312:=if_neg (by decide)
     simp only [Bool.toNat_true];omega
 · have hd:-1074≤e+dropN e:=by unfold dropN;omega
   refine⟨(e+dropN e+1074).toNat*4503599627370496+keptN t (dropN e),goesN (keptN t (dropN e)) (restN t (dropN e)) 1,goesN (keptN t (dropN e)) (restN t (dropN e)) 2,by omega, ?_, ?_, ?_,goes_mono⟩
   · have b:rungN t e 0=(e+dropN e+1074).toNat*4503599627370496+keptN t (dropN e)+(goesN (keptN t (dropN e)) (restN t (dropN e)) 0).toNat:=by unfold rungN;exact if_neg h
     rw [b,goes_zero,Bool.toNat_false,Nat.add_zero]
   · unfold rungN;exact if_neg h
   · unfold rungN;exact if_neg h
def SidesOK (d n u:Nat):Prop :=
 (nanB d=false∧nanB n=false∧nanB u=false)∧(d≠9223372036854775808∧n≠9223372036854775808∧u≠9223372036854775808) ∧
 (d<18446744073709551616∧n<18446744073709551616∧u<18446744073709551616)∧key d≤key n∧key n≤key u∧(key u=key d∨key u=key d+1)
theorem signN_facts (g:Bool) (r:Nat) (h:r≤9218868437227405312) :
   nanB (signN g r)=false∧signN g r≠9223372036854775808∧signN g r<18446744073709551616∧key (signN g r)=if g then -(r:Int) else r:=by
 unfold signN nanB key
 cases g
 · simp only [Bool.false_eq_true,if_false]
   refine⟨?_,by omega,by omega, ?_⟩
   · simp;omega
   · rw [if_pos (by omega)]
 · simp only [if_true]
   by_cases hz:r=0
   · subst hz;simp
   · rw [if_neg hz]
     refine⟨?_,by omega,by omega, ?_⟩
     · simp;omega
     · rw [if_neg (by omega)];omega
theorem roundN_facts (g:Bool) (m:Nat) (e dir:Int) (hm:m<18446744073709551616) :
   nanB (roundN g m e dir)=false∧roundN g m e dir≠9223372036854775808∧roundN g m e dir<18446744073709551616:=by
 unfold roundN
 by_cases h0:m=0
 · rw [if_pos h0];decide
 · rw [if_neg h0]
   have ht:=(topN_bounds h0 hm).2
   have hle:rungN (topN m) (clampN e-shiftN m) (sideN dir g)≤9218868437227405312:=by
     obtain⟨r,b1,b2,hr,h0',h1',h2',_⟩:=rung_sides (topN m) (clampN e-shiftN m) ht
     have hs:sideN dir g=0∨sideN dir g=1∨sideN dir g=2:=by unfold sideN;split <;> (try split) <;> omega
     rcases hs with hs | hs | hs
     · rw [hs,h0'];omega
     · rw [hs,h1'];cases b1 <;> simp <;> omega
     · rw [hs,h2'];cases b2 <;> simp <;> omega
   have hf:=signN_facts g _ hle
   exact⟨hf.1,hf.2.1,hf.2.2.1⟩
theorem round_sides (g:Bool) (m:Nat) (e:Int) (hm:m<18446744073709551616):SidesOK (roundN g m e (-1)) (roundN g m e 0) (roundN g m e 1):=by
 have f1:=roundN_facts g m e (-1) hm
 have f2:=roundN_facts g m e 0 hm
 have f3:=roundN_facts g m e 1 hm
 refine⟨⟨f1.1,f2.1,f3.1⟩,⟨f1.2.1,f2.2.1,f3.2.1⟩,⟨f1.2.2,f2.2.2,f3.2.2⟩, ?_⟩
 clear f1 f2 f3
 unfold roundN
 by_cases h0:m=0
 · simp only [h0,if_true];decide
 · simp only [h0,if_false]
   obtain⟨r,b1,b2,hr,h0',h1',h2',hb⟩:=rung_sides (topN m) (clampN e-shiftN m) (topN_bounds h0 hm).2
   have c1:r+b1.toNat≤9218868437227405312:=by cases b1 <;> simp <;> omega
   have c2:r+b2.toNat≤9218868437227405312:=by cases b2 <;> simp <;> omega
   have c12:b1.toNat≤b2.toNat∧b2.toNat≤1:=by
     cases b1 <;> cases b2 <;> simp at hb ⊢
   cases g
   · have s1:sideN (-1) false=0:=rfl
     have s2:sideN 0 false=1:=rfl
     have s3:sideN 1 false=2:=rfl
     rw [s1,s2,s3,h0',h1',h2',(signN_facts false r (by omega)).2.2.2,(signN_facts false _ c1).2.2.2,(signN_facts false _ c2).2.2.2]
     simp only [Bool.false_eq_true,if_false]
     omega
   · have s1:sideN (-1) true=2:=rfl
     have s2:sideN 0 true=1:=rfl
     have s3:sideN 1 true=0:=rfl
     rw [s1,s2,s3,h0',h1',h2',(signN_facts true r (by omega)).2.2.2,(signN_facts true _ c1).2.2.2,(signN_facts true _ c2).2.2.2]
     simp only [if_true]
     omega
theorem round_mirror (g:Bool) (m:Nat) (e:Int) (hm:m<18446744073709551616):key (roundN (!g) m e 1)=- key (roundN g m e (-1)):=by
 unfold roundN
 by_cases h0:m=0
 · simp only [h0,if_true];rfl
 · simp only [h0,if_false]
   obtain⟨r,b1,b2,hr,h0',h1',h2',hb⟩:=rung_sides (topN m) (clampN e-shiftN m) (topN_bounds h0 hm).2
   have c2:r+b2.toNat≤9218868437227405312:=by cases b2 <;> simp <;> omega
   cases g
   · have s1:sideN (-1) false=0:=rfl
     have s3:sideN 1 (!false)=0:=rfl
     rw [s1,s3,h0',(signN_facts false r (by omega)).2.2.2,(signN_facts (!false) r (by omega)).2.2.2]
     simp
   · have s1:sideN (-1) true=2:=rfl
     have s3:sideN 1 (!true)=2:=rfl
     rw [s1,s3,h2',(signN_facts true _ c2).2.2.2,(signN_facts (!true) _ c2).2.2.2]
     simp
end Go.Proofs.YtgfppdboogldlaaGreat
namespace Go.Proofs.YtgfppdboogldlaaGreat
structure Cut where
 le:Nat→Prop
 eq:Nat→Prop
structure Cut.Ok (C:Cut):Prop where
 down:∀{h k:Nat},h≤k→C.le k→C.le h
 eqle:∀{h:Nat},C.eq h→C.le h
 eqlt:∀{h k:Nat},C.eq h→h<k→¬C.le k
 zero:C.le 0
structure IsDown (C:Cut) (d:Nat):Prop where
 top:d≤9218868437227405311
 low:C.le (2*val d)
 up:d=9218868437227405311∨¬C.le (2*val (d+1))
def IsR (C:Cut) (s:Int) (r:Nat):Prop:=∃d,IsDown C d∧(s=0→r=d)∧(s=2→(C.eq (2*val d)∧r=d∨¬C.eq (2*val d)∧r=d+1)) ∧
 (s=1→(C.eq (2*val d)∧r=d∨¬C.eq (2*val d)∧(C.eq (val d+val (d+1))∧r=(if d%2=0 then d else d+1)∨¬C.eq (val d+val (d+1))∧(C.le (val d+val (d+1))∧r=d+1∨¬C.le (val d+val (d+1))∧r=d))))
def Near (M:Nat) (E:Int) (C:Cut):Prop:=∃a b:Nat,(b:Int)-a=E+1075 ∧
 ((∀h,(C.le h↔h*2^a≤M*2^b)∧(C.eq h↔h*2^a=M*2^b)) ∨
  (M%2=1∧36028797018963968≤M∧∀h,(h*2^a≤(M-1)*2^b→C.le h∧¬C.eq h)∧((M+1)*2^b≤h*2^a→¬C.le h∧¬C.eq h)))
theorem mul_two_pow_le {x y b:Nat}:x*2^b≤y*2^b↔x≤y:=Nat.mul_le_mul_right_iff (Nat.two_pow_pos b)
theorem mul_two_pow_eq {x y b:Nat}:x*2^b=y*2^b↔x=y:=Nat.mul_left_inj (Nat.ne_of_gt (Nat.two_pow_pos b))
theorem near_grid {M:Nat} {E:Int} {C:Cut} (h:Near M E C) (h0:M≠0) (hM:M<18446744073709551616) (u:Nat) (hu:(u:Int)=E-shiftN M+dropN (E-shiftN M)+1074) (j:Nat) :
   (C.le (j*2^u)↔j*2^(dropN (E-shiftN M)-1)≤topN M)∧(C.eq (j*2^u)↔j*2^(dropN (E-shiftN M)-1)=topN M):=by
 obtain⟨a,b,hab,hc⟩:=h
 have hd:11≤dropN (E-shiftN M):=by unfold dropN;omega
 have hsh:shiftN M=63-M.log2:=rfl
 have hl:M.log2<64:=(Nat.log2_lt h0).2 hM
 generalize dropN (E-shiftN M)=d at *
 unfold topN
 generalize shiftN M=s at *
 have ex:u+a+s=d-1+b:=by omega
 have e1:j*2^u*2^a*2^s=j*2^(d-1)*2^b:=by
   rw [Nat.mul_assoc,Nat.mul_assoc,Nat.mul_assoc,←Nat.pow_add,←Nat.pow_add,←Nat.pow_add]
   congr 2;omega
 have e2:M*2^b*2^s=M*2^s*2^b:=Nat.mul_right_comm _ _ _
 rcases hc with hc | ⟨odd,big,hc⟩
 · rw [(hc (j*2^u)).1,(hc (j*2^u)).2,←mul_two_pow_le (b:=s),←mul_two_pow_eq (b:=s),e1,e2,mul_two_pow_le,mul_two_pow_eq]
   exact⟨Iff.rfl,Iff.rfl⟩
 · have hlog:55≤M.log2:=(Nat.le_log2 h0).2 big
   have hs:s+2≤d-1:=by omega
   have e3:j*2^(d-1)=(j*2^(d-1-s))*2^s:=by
     rw [Nat.mul_assoc,←Nat.pow_add];congr 2;omega
   have e4:j*2^u*2^a=(j*2^(d-1-s))*2^b:=by
     have:=e1
     rw [e3,Nat.mul_right_comm _ (2^s) (2^b)] at this
     exact mul_two_pow_eq.1 this
   have e5:2^(d-1-s)=2*2^(d-1-s-1):=by rw [←Nat.pow_succ'];congr 1;omega
   rw [e3,mul_two_pow_le,mul_two_pow_eq]
   have hc:=hc (j*2^u)
   rw [e4] at hc
   have ev:j*2^(d-1-s)%2=0:=by rw [e5,←Nat.mul_assoc,Nat.mul_comm j 2,Nat.mul_assoc];exact Nat.mul_mod_right _ _
   generalize j*2^(d-1-s)=J at *
   rw [mul_two_pow_le,mul_two_pow_le] at hc
   rcases Nat.lt_or_ge J M with c | c
   · have:=hc.1 (by omega)
     exact⟨⟨fun _=>by omega,fun _=>this.1⟩,⟨fun h=>absurd h this.2,fun h=>by omega⟩⟩
   · have:=hc.2 (by omega)
     exact⟨⟨fun h=>absurd h this.1,fun _=>by omega⟩,⟨fun h=>absurd h this.2,fun h=>by omega⟩⟩
theorem val_grid {u k:Nat} (hk:k≤9007199254740992) (h:u=0∨4503599627370496≤k):val (u*4503599627370496+k)=k*2^u:=by
 unfold val
 rcases Nat.lt_or_ge k 4503599627370496 with c | c
 · have hu:u=0:=by omega
   subst hu
   rw [if_pos (by omega)];simp
 · rw [if_neg (by omega)]
   rcases Nat.lt_or_ge k 9007199254740992 with c2 | c2
   · have h1:(u*4503599627370496+k)%4503599627370496=k-4503599627370496:=by omega
     have h2:(u*4503599627370496+k)/4503599627370496-1=u:=by omega
     have h3:4503599627370496+(k-4503599627370496)=k:=by omega
     rw [h1,h2,h3]
   · have hk2:k=9007199254740992:=by omega
     subst hk2
     have h1:(u*4503599627370496+9007199254740992)%4503599627370496=0:=by omega
     have h2:(u*4503599627370496+9007199254740992)/4503599627370496-1=u+1:=by omega
     rw [h1,h2,Nat.pow_succ];omega
theorem rest_facts {t d:Nat} (hd:11≤d) (ht:t<18446744073709551616) (h0:0<t) :
   (restN t d≠0↔(2*keptN t d)*2^(d-1)≠t)∧(9223372036854775808<restN t d↔(2*keptN t d+1)*2^(d-1)<t)∧(restN t d=9223372036854775808↔(2*keptN t d+1)*2^(d-1)=t) ∧
   (2*keptN t d)*2^(d-1)≤t∧t<(2*keptN t d+2)*2^(d-1):=by
 unfold restN keptN
 have e5:2^d=2*2^(d-1):=by rw [←Nat.pow_succ'];congr 1;omega
 by_cases c:64<d
 · rw [if_pos c,if_pos c]
   have hp:2^64≤2^(d-1):=Nat.pow_le_pow_right (by omega) (by omega)
   generalize 2^(d-1)=p at *
   simp only [Nat.mul_zero,Nat.zero_add,Nat.zero_mul,Nat.one_mul]
   omega
 · rw [if_neg c,if_neg c,e5]
   have hm:=Nat.div_add_mod t (2*2^(d-1))
   have hlt:t%(2*2^(d-1))<2*2^(d-1):=Nat.mod_lt _ (by have:=Nat.two_pow_pos (d-1);omega)
   have e6:2^(d-1)*2^(64-d)=9223372036854775808:=by rw [←Nat.pow_add,show d-1+(64-d)=63 by omega]
   have hq:=Nat.two_pow_pos (64-d)
   generalize t%(2*2^(d-1))=r at *
   generalize t/(2*2^(d-1))=k at *
   have e7:2*k*2^(d-1)=2*2^(d-1)*k:=by rw [Nat.mul_right_comm]
   have e8:(2*k+1)*2^(d-1)=2*2^(d-1)*k+2^(d-1):=by rw [Nat.add_mul,e7,Nat.one_mul]
   have e9:(2*k+2)*2^(d-1)=2*2^(d-1)*k+2*2^(d-1):=by rw [Nat.add_mul,e7]
   rw [e7,e8,e9]
   have g1:9223372036854775808<r*2^(64-d)↔2^(d-1)<r:=by
     rw [←e6];exact Nat.mul_lt_mul_right hq
   have g2:r*2^(64-d)=9223372036854775808↔r=2^(d-1):=by
     rw [←e6];exact mul_two_pow_eq
   have g3:r*2^(64-d)≠0↔r≠0:=by
     rw [ne_eq,Nat.mul_eq_zero];constructor <;> intro h <;> omega
   rw [g1,g2,g3]
   generalize 2*2^(d-1)*k=z at *
   generalize 2^(d-1)=p at *
   omega
theorem rung_far {C:Cut} (ok:C.Ok) {s:Int} (hs:s=0∨s=1∨s=2) {L:Nat} (hL:L=9218868437227405311) (h:C.le (2*val (L+1))):IsR C s (boundN s):=by
 have hv:=val_mono (show L<L+1 by omega)
 have b0:boundN 0=L:=hL.symm
 have b1:boundN 1=L+1:=by rw [hL];rfl
 have b2:boundN 2=L+1:=by rw [hL];rfl
 refine⟨L,⟨by omega,ok.down (by omega) h,Or.inl hL⟩, ?_, ?_, ?_⟩
 · rintro rfl;exact b0
 · rintro rfl
   exact Or.inr ⟨fun e=>ok.eqlt e (by omega) h,b2⟩
 · rintro rfl
   exact Or.inr ⟨fun e=>ok.eqlt e (by omega) h,Or.inr ⟨fun e=>ok.eqlt e (by omega) h,Or.inl ⟨ok.down (by omega) h,b1⟩⟩⟩
theorem rung_is {M:Nat} {E:Int} {C:Cut} (ok:C.Ok) (h:Near M E C) (h0:M≠0) (hM:M<18446744073709551616) {s:Int} (hs:s=0∨s=1∨s=2) :
   IsR C s (rungN (topN M) (E-shiftN M) s):=by
 have hb:=topN_bounds h0 hM
 have hd:11≤dropN (E-shiftN M):=by unfold dropN;omega
 have hd2:-1074≤E-shiftN M+dropN (E-shiftN M):=by unfold dropN;omega
 have hd3:dropN (E-shiftN M)=11∨E-shiftN M+dropN (E-shiftN M)=-1074:=by unfold dropN;omega
 obtain⟨u,hu⟩:∃u:Nat,(u:Int)=E-shiftN M+dropN (E-shiftN M)+1074:=⟨(E-shiftN M+dropN (E-shiftN M)+1074).toNat,by omega⟩
 have grid:=near_grid h h0 hM u hu
 have hk:=keptN_lt (d:=dropN (E-shiftN M)) hb.2 hd
 have rf:=rest_facts (t:=topN M) hd hb.2 (by omega)
 unfold rungN
 have hut:(E-shiftN M+dropN (E-shiftN M)+1074).toNat=u:=by omega
 rw [hut]
 generalize E-(shiftN M:Int)=e at *
 generalize dropN e=d at *
 generalize topN M=t at *
 clear h h0 hM
 by_cases far:971<e+d
 · rw [if_pos far]
   have hd11:d=11:=by omega
   subst hd11
   refine rung_far ok hs rfl ?_
   have g:=(grid 9007199254740992).1.2 (by omega)
   refine ok.down ?_ g
   obtain⟨U,hU⟩:∃U:Nat,U=2046:=⟨_,rfl⟩
   have e0:9218868437227405311+1=U*4503599627370496+4503599627370496:=by omega
   have e1:=val_grid (u:=U) (k:=4503599627370496) (by omega) (Or.inr (by omega))
   have hp:2^U≤2^u:=Nat.pow_le_pow_right (by omega) (by omega)
   rw [e0,e1,←Nat.mul_assoc]
   exact Nat.mul_le_mul (by omega) hp
 · rw [if_neg far]
   have hk2:u=0∨4503599627370496≤keptN t d:=by
     rcases hd3 with c | c
     · right
       subst c
       unfold keptN
       rw [if_neg (by omega)]
       have:(2:Nat)^11=2048:=rfl
       rw [this];omega
     · left;omega
   have v0:=val_grid (u:=u) (k:=keptN t d) (by omega) hk2
   have v1:=val_grid (u:=u) (k:=keptN t d+1) (by omega) (by omega)
   rw [←Nat.add_assoc] at v1
   generalize keptN t d=k at *
   have m0:2*val (u*4503599627370496+k)=(2*k)*2^u:=by rw [v0,Nat.mul_assoc]
   have m2:2*val (u*4503599627370496+k+1)=(2*k+2)*2^u:=by rw [v1,←Nat.mul_assoc,Nat.mul_add]
   have m1:val (u*4503599627370496+k)+val (u*4503599627370496+k+1)=(2*k+1)*2^u:=by rw [v0,v1,←Nat.add_mul];congr 1;omega
   have par:(u*4503599627370496+k)%2=k%2:=by omega
   obtain⟨r0,r1,r2,r3,r4⟩:=rf
   refine⟨u*4503599627370496+k,⟨by omega, ?_,Or.inr ?_⟩, ?_, ?_, ?_⟩
   · rw [m0];exact (grid _).1.2 r3
   · rw [m2];exact fun c=>absurd ((grid _).1.1 c) (by omega)
   · rintro rfl
     have eg:goesN k (restN t d) 0=false:=rfl
     rw [eg,Bool.toNat_false,Nat.add_zero]
   · rintro rfl
     rw [m0]
     have eg:goesN k (restN t d) 2=decide (restN t d≠0):=rfl
     rw [eg]
     by_cases c:restN t d≠0
     · right
       exact⟨fun h=>r0.1 c ((grid _).2.1 h),by simp [c]⟩
     · left
       exact⟨(grid _).2.2 (Decidable.not_not.1 (fun h=>c (r0.2 h))),by simp [Decidable.not_not.1 c]⟩
   · rintro rfl
     rw [m0,m1,par]
     have eg:goesN k (restN t d) 1=decide (9223372036854775808<restN t d∨restN t d=9223372036854775808∧k%2=1):=rfl
     rw [eg]
     by_cases c:restN t d≠0
     · right
       refine⟨fun h=>r0.1 c ((grid _).2.1 h), ?_⟩
       by_cases c2:restN t d=9223372036854775808
       · left
         refine⟨(grid _).2.2 (r2.1 c2), ?_⟩
         by_cases c3:k%2=0
         · have:¬k%2=1:=by omega
           simp [c2,c3]
         · have c4:k%2=1:=by omega
           simp [c2,c4]
       · right
         refine⟨fun h=>c2 (r2.2 ((grid _).2.1 h)), ?_⟩
         by_cases c3:9223372036854775808<restN t d
         · left
           exact⟨(grid _).1.2 (Nat.le_of_lt (r1.1 c3)),by simp [c3]⟩
         · right
           refine⟨fun h=>?_,by simp [c2,c3]⟩
           have:=(grid _).1.1 h
           rcases Nat.lt_or_eq_of_le this with c4 | c4
           · exact c3 (r1.2 c4)
           · exact c2 (r2.2 c4)
     · left
       have c0:restN t d=0:=Decidable.not_not.1 c
       exact⟨(grid _).2.2 (Decidable.not_not.1 (fun h=>c (r0.2 h))),by simp [c0]⟩
end Go.Proofs.YtgfppdboogldlaaGreat
namespace Go.Proofs.YtgfppdboogldlaaGreat
def V (k:Int):Int:=if k<0 then -(val (-k).toNat:Int) else (val k.toNat:Int)
theorem V_nat (r:Nat):V (r:Int)=val r:=by unfold V;rw [if_neg (by omega)];simp
theorem V_negnat (r:Nat):V (-(r:Int))=-(val r:Int):=by
 unfold V
 by_cases h:r=0
 · subst h;simp [val_zero]
 · rw [if_pos (by omega),Int.neg_neg];simp
theorem V_neg (k:Int):V (-k)=-V k:=by
 rcases Int.le_total 0 k with h | h
 · obtain⟨r,rfl⟩:=Int.eq_ofNat_of_zero_le h
   rw [V_negnat,V_nat]
 · obtain⟨r,hr⟩:=Int.eq_ofNat_of_zero_le (show 0≤-k by omega)
   have:k=-(r:Int):=by omega
   subst this
   rw [V_negnat,Int.neg_neg,V_nat,Int.neg_neg]
theorem V_mono {i j:Int} (h:i<j):V i<V j:=by
 rcases Int.lt_or_le i 0 with hi | hi
 · obtain⟨r,hr⟩:=Int.eq_ofNat_of_zero_le (show 0≤-i by omega)
   have:i=-(r:Int):=by omega
   subst this
   have h0:=val_mono (show 0<r by omega)
   rw [V_negnat]
   rcases Int.lt_or_le j 0 with hj | hj
   · obtain⟨s,hs⟩:=Int.eq_ofNat_of_zero_le (show 0≤-j by omega)
     have:j=-(s:Int):=by omega
     subst this
     have:=val_mono (show s<r by omega)
     rw [V_negnat];omega
   · obtain⟨s,rfl⟩:=Int.eq_ofNat_of_zero_le hj
     rw [V_nat];omega
 · obtain⟨r,rfl⟩:=Int.eq_ofNat_of_zero_le hi
   obtain⟨s,rfl⟩:=Int.eq_ofNat_of_zero_le (show 0≤j by omega)
   have:=val_mono (show r<s by omega)
   rw [V_nat,V_nat];omega
theorem V_mono_le {i j:Int} (h:i≤j):V i≤V j:=by
 rcases Int.lt_or_eq_of_le h with c | c
 · exact Int.le_of_lt (V_mono c)
 · subst c;exact Int.le_refl _
theorem V_zero:V 0=0:=rfl
theorem V_nonneg {k:Int} (h:0≤k):0≤V k:=by have:=V_mono_le h;rw [V_zero] at this;exact this
theorem V_pos {k:Int} (h:0<k):0<V k:=by have:=V_mono h;rw [V_zero] at this;exact this
theorem V_npos {k:Int} (h:k≤0):V k≤0:=by have:=V_mono_le h;rw [V_zero] at this;exact this
theorem V_lt0 {k:Int} (h:k<0):V k<0:=by have:=V_mono h;rw [V_zero] at this;exact this
structure Ex where
 le:Int→Prop
 ge:Int→Prop
structure Ex.Ok (x:Ex):Prop where
 down:∀{h k:Int},h≤k→x.le k→x.le h
 total:∀h:Int,x.le h∨x.ge h
 sep:∀{h k:Int},x.ge h→x.le k→k≤h
def Ex.amt (g:Bool) (x:Ex):Cut:=if g then ⟨fun h=>x.ge (-(h:Int)),fun h=>x.le (-(h:Int))∧x.ge (-(h:Int))⟩ else ⟨fun h=>x.le (h:Int),fun h=>x.le (h:Int)∧x.ge (h:Int)⟩
theorem Ex.Ok.up {x:Ex} (ok:x.Ok) {h k:Int} (hk:h≤k) (g:x.ge h):x.ge k:=by
 rcases ok.total k with c | c
 · have:=ok.sep g c
   have:h=k:=by omega
   subst this;exact g
 · exact c
theorem Ex.Ok.cut {x:Ex} (ok:x.Ok) {g:Bool} (hg:if g then x.ge 0 else x.le 0):(x.amt g).Ok:=by
 cases g
 · simp only [Bool.false_eq_true,if_false] at hg
   exact⟨fun {h k} c d=>ok.down (by omega) (show x.le (k:Int) from d),fun {h} c=>c.1,fun {h k} c d e=>by have:=ok.sep c.2 (show x.le (k:Int) from e);omega,hg⟩
 · simp only [if_true] at hg
   exact⟨fun {h k} c d=>ok.up (show -(k:Int)≤-(h:Int) by omega) (show x.ge (-(k:Int)) from d),fun {h} c=>c.2,fun {h k} c d e=>by have:=ok.sep (show x.ge (-(k:Int)) from e) c.1;omega,hg⟩
structure KDown (x:Ex) (k:Int):Prop where
 bot:-9218868437227405312≤k
 top:k≤9218868437227405311
 low:k=-9218868437227405312∨x.le (2*V k)
 up:k=9218868437227405311∨¬x.le (2*V (k+1))
theorem kdown_mono {x y:Ex} (oky:y.Ok) (h:∀h,x.le h→y.le h) {k l:Int} (hk:KDown x k) (hl:KDown y l):k≤l:=by
 rcases Int.lt_or_le l k with c | c
 · exfalso
   rcases hl.up with u | u
   · have:=hk.top;omega
   · rcases hk.low with w | w
     · have:=hl.bot;omega
     · exact u (oky.down (by have:=V_mono_le (show l+1≤k by omega);omega) (h _ w))
 · exact c
theorem kdown_of {x:Ex} (ok:x.Ok) {g:Bool} (hg:if g then x.ge 0 else x.le 0) {r:Nat} (h:IsR (x.amt g) (if g then 2 else 0) r):KDown x (if g then -(r:Int) else r):=by
 obtain⟨d,hd,h0,h2, -⟩:=h
 have dt:=hd.top
 cases g
 · simp only [Bool.false_eq_true,if_false] at *
   obtain rfl:=h0 trivial
   have lo:x.le ((2*val r:Nat):Int):=hd.low
   have up:r=9218868437227405311∨¬x.le ((2*val (r+1):Nat):Int):=hd.up
   refine⟨by omega,by omega,Or.inr ?_, ?_⟩
   · rw [V_nat];exact ok.down (by omega) lo
   · rcases up with u | u
     · left;omega
     · right
       have e:((r:Int)+1)=((r+1:Nat):Int):=by omega
       rw [e,V_nat]
       exact fun c=>u (ok.down (by omega) c)
 · simp only [if_true] at *
   have lo:x.ge (-((2*val d:Nat):Int)):=hd.low
   have up:d=9218868437227405311∨¬x.ge (-((2*val (d+1):Nat):Int)):=hd.up
   rcases h2 trivial with ⟨e,rfl⟩ | ⟨e,rfl⟩
   · have e1:x.le (-((2*val r:Nat):Int)):=e.1
     refine⟨by omega,by omega,Or.inr ?_,Or.inr ?_⟩
     · rw [V_negnat];exact ok.down (by omega) e1
     · intro c
       have c1:=ok.sep lo c
       have c2:=V_mono (show -(r:Int) < -(r:Int)+1 by omega)
       rw [V_negnat] at c2
       omega
   · refine⟨by omega,by omega, ?_,Or.inr ?_⟩
     · rcases up with u | u
       · left;omega
       · right
         rcases ok.total (-((2*val (d+1):Nat):Int)) with c | c
         · rw [V_negnat];exact ok.down (by omega) c
         · exact absurd c u
     · have e3:(-((d+1:Nat):Int)+1)=-(d:Int):=by omega
       rw [e3,V_negnat]
       intro c
       refine e ⟨ok.down ?_ c,lo⟩
       omega
end Go.Proofs.YtgfppdboogldlaaGreat
