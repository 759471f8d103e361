/- The walks of counted, Hull and Meet. The walks of Meet, of the laws' hull, and of Add and Mul with an interval that holds nothing. Plain facts: hulls hold both, meets lie in both and hold just what both hold. What is taken off itself holds nought, what is divided by itself one; negatives twice; the least amount is not above the greatest. A region that draws its order, whose callees make memory of their own but change none: one walk, in the text's order, over all worlds that are as the first one was below its end. The walk of the statement IvalLattice: its two variables. IvalLattice: for every two intervals and every float64 the statement's answer is true. The program's whole numbers of one and two words (rat): amounts, divisors, halves, products. The program's whole numbers of two words (rat): products, sums, negatives, signs. The program's whole numbers of two words (rat): sums, negatives, products with a sign. The program's whole numbers of two words (rat): division bit by bit. -/
import Derived.Test.YtgocelaghggpmaaGreatDoorKo05
import Derived.Test.YtgocelaghggpmaaGreatDoorKo02
import Derived.BigQuiet
import Derived.Deep.RegionWith
import Derived.Test.YtgocelaghggpmaaGreatDoorKo01
import Derived.Test.YtgocelaghggpmaaGreatDoorKo04
import Derived.WalkKit
import Derived.Deep.CutBlock
import Derived.Deep.CutRange
import Derived.Deep.LoopGhost
import Derived.Deep.Quiet
import Derived.StillTail
namespace Go.Proofs.YtgocelaghggpmaaGreatDoor
open Go.ChangeShapes Go.WideShapes Go.ChangeAt Go.RowKit
theorem Has2.put {w:World} {b:Nat} {x y:Value} (h:Has2 w b x y) (x' y':Value):Has2 ((w.setCell ⟨b,0,none⟩ x').setCell ⟨b,1,none⟩ y') b x' y':=by
 obtain⟨h0,h1,f0,f1,hl⟩:=h
 refine⟨by go_simp,by go_simp,by go_simp,by go_simp, ?_⟩
 simp only [World.size_setCell];exact hl
theorem Has2.far {w:World} {b c:Nat} {x y:Value} (h:Has2 w b x y) (hne:c≠b) (x' y':Value):Has2 ((w.setCell ⟨c,0,none⟩ x').setCell ⟨c,1,none⟩ y') b x y:=by
 obtain⟨h0,h1,f0,f1,hl⟩:=h
 have hne':b≠c:=fun e=>hne e.symm
 refine⟨by simp [World.cell?_setCell_far, *],by simp [World.cell?_setCell_far, *],by go_simp,by go_simp, ?_⟩
 simp only [World.size_setCell];exact hl
structure Behind (w0:World) where
 W:World
 bel:Below w0.heap.size w0 W
instance (w0:World):Nonempty (Behind w0):=⟨⟨w0,Below.refl _ _⟩⟩
theorem region_behind {P:Program} {id:Nat} {Q:Exit→Act→World→Prop} {a:Act} {w:World} {l:List Oper} (hm:P.follows .mixedOrders=true) (hB:Region.lexB .any l.toArray=true)
   (h:wpQuiet P l.toArray (fun w'=>∃n:Behind w,w'=n.W) (fun a'=>∀w',(∃n:Behind w,w'=n.W)→Q .normal a' w') l a):(Code.region id l.toArray true).wp P Q a w :=
 wp_region_quiet (C:=fun w'=>∃n:Behind w,w'=n.W) hm hB ⟨⟨w.drew,(Below.refl _ _).drew⟩,rfl⟩ (by simpa using h)
theorem Behind.same {P:Program} {f:FuncId} {args:Array Value} {w0:World} {n:Behind w0} {v:Value} (h:Calls P f args n.W fun e w'=>e=.returned v∧n.W=w') :
   Calls P f args n.W fun e w''=>e=.returned v∧∃m:Behind w0,w''=m.W :=
 h.mono fun _ _ ⟨a,b⟩=>⟨a,⟨n,b.symm⟩⟩
theorem Behind.cell {w0:World} (n:Behind w0) {b o:Nat} {v:Value} (h:w0.cell? ⟨b,o,none⟩=some v) (hl:b<w0.heap.size):n.W.cell? ⟨b,o,none⟩=some v:=keepsC n.bel h hl
theorem ramount_w (n:Int) (h1:-9223372036854775808≤n) (h2:n≤9223372036854775807) (w:World) :
   Calls Tryz.prog 79 #[.int .i64 n] w fun r w'=>r=.returned (.int .u64 ((n.natAbs:Nat):Int))∧w=w':=by
 have e1:n<0→IntKind.u64.wrap (-IntKind.u64.wrap n)=(n.natAbs:Int):=fun c=>by rw [IntKind.wrap_u64,IntKind.wrap_u64];omega
 have e2:¬n<0→IntKind.u64.wrap n=(n.natAbs:Int):=fun c=>by rw [IntKind.wrap_u64];omega
 generalize n.natAbs=m at *
 by_cases c:n<0
 · have e:=e1 c
   clear e1 e2
   go_enter Tryz.func79,Tryz.ntmps79
   go_wp2_with fail
   go_ret
   exact⟨rfl,rfl⟩
 · have e:=e2 c
   clear e1 e2
   go_enter Tryz.func79,Tryz.ntmps79
   go_wp2_with fail
   go_ret
   exact⟨rfl,rfl⟩
theorem rem_u64 (m n:Nat):Int.tmod (m:Int) (n:Int)=((m%n:Nat):Int):=rfl
theorem quo_u64 (m n:Nat):Int.tdiv (m:Int) (n:Int)=((m/n:Nat):Int):=rfl
theorem rlow_w (a:Nat) (w:World) :
   Calls Tryz.prog 93 #[.int .u64 (a:Int)] w fun r w'=>r=.returned (.int .u64 ((a%4294967296:Nat):Int))∧w=w':=by
 have e1:IntKind.u32.wrap (a:Int)=((a%4294967296:Nat):Int):=by rw [IntKind.wrap_u32];omega
 have e2:IntKind.u64.wrap ((a%4294967296:Nat):Int)=((a%4294967296:Nat):Int):=by rw [IntKind.wrap_u64];omega
 generalize a%4294967296=m at *
 go_enter Tryz.func93,Tryz.ntmps93
 go_wp2_with fail
 go_ret
 exact⟨rfl,rfl⟩
theorem rhalves_w (a:Nat) (w:World) :
   Calls Tryz.prog 92 #[.int .u64 (a:Int)] w fun r w'=>r=.returned (.tuple #[.int .u64 ((a/4294967296:Nat):Int),.int .u64 ((a%4294967296:Nat):Int)])∧w=w':=by
 have c:=fun W=>rlow_w a W
 have e1:(a:Int)/4294967296=((a/4294967296:Nat):Int):=by omega
 generalize a%4294967296=m at *
 generalize a/4294967296=n at *
 go_enter Tryz.func92,Tryz.ntmps92
 go_wp2_with (go_at_call 93;(with_reducible refine (c _).mono ?_);rintro _ _ ⟨rfl,rfl⟩)
 go_ret2
 exact⟨rfl,rfl⟩
def Sg (h l:Nat) (z:Int):Prop:=h<18446744073709551616∧l<18446744073709551616∧((h*18446744073709551616+l:Nat):Int)=z%340282366920938463463374607431768211456
theorem sg_ex (z:Int):∃h l,Sg h l z:=by
 refine⟨(z%340282366920938463463374607431768211456).toNat/18446744073709551616,(z%340282366920938463463374607431768211456).toNat%18446744073709551616, ?_, ?_, ?_⟩ <;> omega
theorem Sg.uniq {h l h' l':Nat} {z:Int} (a:Sg h l z) (b:Sg h' l' z):h=h'∧l=l':=by
 obtain⟨a1,a2,a3⟩:=a
 obtain⟨b1,b2,b3⟩:=b
 omega
theorem Sg.nat {h l:Nat} {z:Int} (a:Sg h l z) (h0:0≤z) (h1:z<340282366920938463463374607431768211456):((h*18446744073709551616+l:Nat):Int)=z:=by
 obtain⟨a1,a2,a3⟩:=a
 omega
set_option maxHeartbeats 1000000 in
theorem wprod_core (a b ah al bh bl low lowh lowl p10 mid midl midh p01 kept kepth k2 p11 t hi lo:Nat)
   (c1:∀W,Calls Tryz.prog 92 #[.int .u64 (a:Int)] W fun r w'=>r=.returned (.tuple #[.int .u64 (ah:Int),.int .u64 (al:Int)])∧W=w')
   (c2:∀W,Calls Tryz.prog 92 #[.int .u64 (b:Int)] W fun r w'=>r=.returned (.tuple #[.int .u64 (bh:Int),.int .u64 (bl:Int)])∧W=w')
   (c3:∀W,Calls Tryz.prog 93 #[.int .u64 (mid:Int)] W fun r w'=>r=.returned (.int .u64 (midl:Int))∧W=w')
   (c4:∀W,Calls Tryz.prog 93 #[.int .u64 (low:Int)] W fun r w'=>r=.returned (.int .u64 (lowl:Int))∧W=w')
   (e1:IntKind.u64.wrap ((al:Int)*(bl:Int))=(low:Int)) (e2:(low:Int)/4294967296=(lowh:Int)) (e3:IntKind.u64.wrap ((ah:Int)*(bl:Int))=(p10:Int)) (e4:IntKind.u64.wrap ((p10:Int)+(lowh:Int))=(mid:Int))
   (e5:IntKind.u64.wrap ((al:Int)*(bh:Int))=(p01:Int)) (e6:IntKind.u64.wrap ((p01:Int)+(midl:Int))=(kept:Int)) (e7:IntKind.u64.wrap ((ah:Int)*(bh:Int))=(p11:Int)) (e8:(mid:Int)/4294967296=(midh:Int))
   (e9:IntKind.u64.wrap ((p11:Int)+(midh:Int))=(t:Int)) (e10:(kept:Int)/4294967296=(kepth:Int)) (e11:IntKind.u64.wrap ((t:Int)+(kepth:Int))=(hi:Int)) (e12:IntKind.u64.wrap ((kept:Int)*4294967296)=(k2:Int)) (e13:bits .or .u64 (k2:Int) (lowl:Int)=(lo:Int)) (w:World) :
   Calls Tryz.prog 88 #[.int .u64 (a:Int),.int .u64 (b:Int)] w fun r w'=>r=.returned (.agg #[.int .u64 (hi:Int),.int .u64 (lo:Int)])∧Below w.heap.size w w':=by
 go_enter Tryz.func88,Tryz.ntmps88
 go_wp2_with (first
   | (go_at_call_of 92 (Value.int .u64 (a:Int));(with_reducible refine (c1 _).mono ?_);rintro _ _ ⟨rfl,rfl⟩)
   | (go_at_call_of 92 (Value.int .u64 (b:Int));(with_reducible refine (c2 _).mono ?_);rintro _ _ ⟨rfl,rfl⟩)
   | (go_at_call_of 93 (Value.int .u64 (mid:Int));(with_reducible refine (c3 _).mono ?_);rintro _ _ ⟨rfl,rfl⟩)
   | (go_at_call_of 93 (Value.int .u64 (low:Int));(with_reducible refine (c4 _).mono ?_);rintro _ _ ⟨rfl,rfl⟩))
 refine bodyPost_ret (v:=.agg #[.int .u64 (hi:Int),.int .u64 (lo:Int)]) (by simp [results,Tryz.results88,go_sem, *]) rfl ⟨rfl, ?_⟩
 go_grown
theorem or32 (k m:Nat) (hm:m<4294967296) (hk:k*4294967296<18446744073709551616):bits .or .u64 ((k*4294967296:Nat):Int) (m:Int)=((k*4294967296+m:Nat):Int):=by
 have e:k*4294967296 ||| m=k*4294967296+m:=by
   have:=Nat.two_pow_add_eq_or_of_lt (i:=32) (b:=m) (by simpa using hm) k
   rw [show 2^32*k=k*4294967296 by omega] at this
   exact this.symm
 rw [u64_or_nat (k*4294967296) m (by omega) (by omega),e]
theorem lower_word {p00 p10 p01 p11 P h l mid kept:Nat} (hP:P=p11*18446744073709551616+(p10+p01)*4294967296+p00) (hm:mid=p10+p00/4294967296) (hk:kept=p01+mid%4294967296) (hn:h*18446744073709551616+l=P) (hl:l<18446744073709551616):l=kept%4294967296*4294967296+p00%4294967296:=by
 have e1:p00=p00/4294967296*4294967296+p00%4294967296:=by omega
 have e2:mid=mid/4294967296*4294967296+mid%4294967296:=by omega
 have e3:kept=kept/4294967296*4294967296+kept%4294967296:=by omega
 have b1:p00%4294967296<4294967296:=Nat.mod_lt _ (by omega)
 have b3:kept%4294967296<4294967296:=Nat.mod_lt _ (by omega)
 generalize p00/4294967296=a at *
 generalize p00%4294967296=b at *
 generalize mid/4294967296=c at *
 generalize mid%4294967296=d at *
 generalize kept/4294967296=e at *
 generalize kept%4294967296=f at *
 subst e1
 have:h*18446744073709551616+l=(p11+c+e)*18446744073709551616+(f*4294967296+b):=by omega
 have u1:=congrArg (·%18446744073709551616) this
 rw [Nat.mul_comm h,Nat.mul_comm (p11+c+e),Nat.mul_add_mod,Nat.mul_add_mod,Nat.mod_eq_of_lt hl,Nat.mod_eq_of_lt (by omega)] at u1
 exact u1
theorem wprod_w (a b h l:Nat) (ha:a<18446744073709551616) (hb:b<18446744073709551616) (S:Sg h l ((a:Int)*(b:Int))) (w:World) :
   Calls Tryz.prog 88 #[.int .u64 (a:Int),.int .u64 (b:Int)] w fun r w'=>r=.returned (.agg #[.int .u64 (h:Int),.int .u64 (l:Int)])∧Below w.heap.size w w':=by
 have le:∀a b:Nat,a<4294967296→b<4294967296→a*b≤18446744065119617025:=fun a b h k=>Nat.mul_le_mul (show a≤4294967295 by omega) (show b≤4294967295 by omega)
 have b00:=le (a%4294967296) (b%4294967296) (by omega) (by omega)
 have b10:=le (a/4294967296) (b%4294967296) (by omega) (by omega)
 have b01:=le (a%4294967296) (b/4294967296) (by omega) (by omega)
 have b11:=le (a/4294967296) (b/4294967296) (by omega) (by omega)
 have hP:a*b=a/4294967296*(b/4294967296)*18446744073709551616+(a/4294967296*(b%4294967296)+a%4294967296*(b/4294967296))*4294967296+a%4294967296*(b%4294967296):=by
   have ex:a=a/4294967296*4294967296+a%4294967296:=by omega
   have ey:b=b/4294967296*4294967296+b%4294967296:=by omega
   generalize a/4294967296=u at *
   generalize a%4294967296=v at *
   generalize b/4294967296=r at *
   generalize b%4294967296=q at *
   subst ex ey
   grind
 have hlt:a*b<18446744073709551616*18446744073709551616:=Nat.mul_lt_mul'' ha hb
 have kxy:(a:Int)*(b:Int)=((a*b:Nat):Int):=(Int.natCast_mul _ _).symm
 have hn:=S.nat (by rw [kxy];omega) (by rw [kxy];generalize a*b=z at *;omega)
 obtain⟨s1,s2, -⟩:=S
 rw [kxy] at hn
 have k00:(((a%4294967296:Nat):Int))*((b%4294967296:Nat):Int)=((a%4294967296*(b%4294967296):Nat):Int):=(Int.natCast_mul _ _).symm
 have k10:(((a/4294967296:Nat):Int))*((b%4294967296:Nat):Int)=((a/4294967296*(b%4294967296):Nat):Int):=(Int.natCast_mul _ _).symm
 have k01:(((a%4294967296:Nat):Int))*((b/4294967296:Nat):Int)=((a%4294967296*(b/4294967296):Nat):Int):=(Int.natCast_mul _ _).symm
 have k11:(((a/4294967296:Nat):Int))*((b/4294967296:Nat):Int)=((a/4294967296*(b/4294967296):Nat):Int):=(Int.natCast_mul _ _).symm
 have c1:=fun W=>rhalves_w a W
 have c2:=fun W=>rhalves_w b W
 generalize a%4294967296*(b%4294967296)=p00 at *
 generalize a/4294967296*(b%4294967296)=p10 at *
 generalize a%4294967296*(b/4294967296)=p01 at *
 generalize a/4294967296*(b/4294967296)=p11 at *
 generalize a*b=P at *
 obtain⟨mid,hm⟩:∃m,m=p10+p00/4294967296:=⟨_,rfl⟩
 obtain⟨kept,hk⟩:∃m,m=p01+mid%4294967296:=⟨_,rfl⟩
 have ho:=or32 (kept%4294967296) (p00%4294967296) (by omega) (by omega)
 refine wprod_core a b _ _ _ _ p00 (p00/4294967296) (p00%4294967296) p10 mid (mid%4294967296) (mid/4294967296) p01 kept (kept/4294967296) (kept%4294967296*4294967296) p11 (p11+mid/4294967296) h l
   c1 c2 (fun W=>rlow_w mid W) (fun W=>rlow_w p00 W) ?_ (by omega) ?_ ?_ ?_ ?_ ?_ (by omega) ?_ (by omega) ?_ ?_ ?_ w
 · rw [k00,IntKind.wrap_u64];omega
 · rw [k10,IntKind.wrap_u64];omega
 · rw [IntKind.wrap_u64];omega
 · rw [k01,IntKind.wrap_u64];omega
 · rw [IntKind.wrap_u64];omega
 · rw [k11,IntKind.wrap_u64];omega
 · rw [IntKind.wrap_u64];omega
 · rw [IntKind.wrap_u64];omega
 · rw [IntKind.wrap_u64];omega
 · rw [ho];exact congrArg Int.ofNat (lower_word hP hm hk (by exact_mod_cast hn) s2).symm
theorem wroom_w (h l:Nat) (w:World) :
   Calls Tryz.prog 87 #[.agg #[.int .u64 (h:Int),.int .u64 (l:Int)]] w fun r w'=>r=.returned (.bool (decide (h=0)&&decide (l≤9223372036854775807)))∧Below w.heap.size w w':=by
 by_cases c:h=0
 · subst c
   have e:(decide ((l:Int)≤9223372036854775807))=decide (l≤9223372036854775807):=by
     by_cases q:l≤9223372036854775807
     · rw [decide_eq_true q,decide_eq_true (by omega)]
     · rw [decide_eq_false q,decide_eq_false (by omega)]
   have z:decide ((0:Nat)=0)=true:=rfl
   rw [z,Bool.true_and]
   clear z
   generalize decide (l≤9223372036854775807)=b at *
   go_enter Tryz.func87,Tryz.ntmps87
   go_wp2_with fail
   go_ret
   exact⟨rfl,by go_grown⟩
 · have e:((h:Int)==0)=false:=by simpa using c
   have e2:¬(h:Int)=0:=by omega
   rw [decide_eq_false c,Bool.false_and]
   go_enter Tryz.func87,Tryz.ntmps87
   go_wp2_with fail
   go_ret
   exact⟨rfl,by go_grown⟩
end Go.Proofs.YtgocelaghggpmaaGreatDoor
