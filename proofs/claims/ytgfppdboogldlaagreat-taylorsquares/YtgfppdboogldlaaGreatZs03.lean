/- The walk of Split: how the program takes a float apart. The walk of sum: the exact sum of two finite floats, with a mark for what is lost. The walk of product: the exact product of two amounts, with a mark for what is lost. Plain arithmetic of a long division by two digits of 32 bits (no Go text is spoken of here). The walk of math/bits' Div64, of a divisor whose first bit is set: quotient and rest of two words by one. -/
import Derived.Test.YtgfppdboogldlaaGreatZs02
import Derived.Deep.QuietTactic
import Derived.BigQuiet
import Derived.Deep.RegionHeld3
import Derived.Deep.CutRange
import Derived.WalkKit
import Derived.Deep.CutBlock
import Derived.Deep.LoopGhost
namespace Go.Proofs.YtgfppdboogldlaaGreat
open Go.ChangeShapes Go.WideShapes Go.ChangeAt Go.RowKit
def splitG (x:Nat):Bool:=decide (9223372036854775808<x)
def splitM (x:Nat):Nat:=if x%9223372036854775808<4503599627370496 then x%9223372036854775808 else 4503599627370496+x%4503599627370496
def splitE (x:Nat):Int:=if x%9223372036854775808=0 then 0 else -1074+((x%9223372036854775808/4503599627370496-1:Nat):Int)
theorem split_not (x:Nat) (hx:x<18446744073709551616) (hf:finB x=false) (w:World) :
   Calls Tryz.prog 165 #[.float .f64 x] w fun r w'=>r=.returned (.tuple #[.agg #[.bool false,.int .u64 0,.int .i64 0],.bool false])∧Below w.heap.size w w':=by
 go_enter Tryz.func165,Tryz.ntmps165
 go_wp2_with (go_at_call 189;refine (isFinite_w _ hx _).mono ?_;rintro _ _ ⟨rfl,rfl⟩)
 all_goals (go_returns;refine⟨rfl, ?_⟩;go_grown)
theorem split_zero (x:Nat) (hx:x<18446744073709551616) (hf:finB x=true) (ho:FloatKind.f64.format.order x 0=some .eq) (w:World) :
   Calls Tryz.prog 165 #[.float .f64 x] w fun r w'=>r=.returned (.tuple #[.agg #[.bool false,.int .u64 0,.int .i64 0],.bool true])∧Below w.heap.size w w':=by
 go_enter Tryz.func165,Tryz.ntmps165
 go_wp2_with (go_at_call 189;refine (isFinite_w _ hx _).mono ?_;rintro _ _ ⟨rfl,rfl⟩)
 all_goals (go_returns;refine⟨rfl, ?_⟩;go_grown)
theorem split_core (x f ex fx:Nat) (g:Bool) (hx:x<18446744073709551616) (hf:finB x=true) (ho:FloatKind.f64.format.order x 0=some .lt∨FloatKind.f64.format.order x 0=some .gt)
   (h1:(bits .and .u64 (x:Int) 9223372036854775808 != 0)=g) (h2:bits .and .u64 (x:Int) 4503599627370495=(f:Int)) (h3:bits .and .u64 ((x:Int)/4503599627370496) 2047=(ex:Int))
   (h4:bits .or .u64 (f:Int) 4503599627370496=(fx:Int)) (hex:ex<2048) (w:World) :
   Calls Tryz.prog 165 #[.float .f64 x] w fun r w'=>r=.returned (.tuple #[.agg #[.bool g,.int .u64 (if ex=0 then f else fx),.int .i64 (-1074+((ex-1:Nat):Int))],.bool true])∧Below w.heap.size w w':=by
 by_cases h0:ex=0
 · subst h0
   have e1:(if (0:Nat)=0 then (f:Int) else (fx:Int))=f:=rfl
   have e2:(-1074:Int)+((0-1:Nat):Int)=-1074:=rfl
   rw [e1,e2]
   rcases ho with ho | ho
   all_goals
     go_enter Tryz.func165,Tryz.ntmps165
     go_wp2_with (go_at_call 189;refine (isFinite_w _ hx _).mono ?_;rintro _ _ ⟨rfl,rfl⟩)
     all_goals (go_returns;refine⟨rfl, ?_⟩;go_grown)
 · have e1:(if ex=0 then (f:Int) else (fx:Int))=fx:=by rw [if_neg h0]
   have e2:((ex-1:Nat):Int)=(ex:Int)-1:=by omega
   have hp:(0:Int)<(ex:Int):=by omega
   rw [e1,e2]
   clear e1 e2
   rcases ho with ho | ho
   all_goals
     go_enter Tryz.func165,Tryz.ntmps165
     go_wp2_with (go_at_call 189;refine (isFinite_w _ hx _).mono ?_;rintro _ _ ⟨rfl,rfl⟩)
     all_goals (go_returns;refine⟨rfl, ?_⟩;go_grown)
theorem split_w (x:Nat) (hx:x<18446744073709551616) (hf:finB x=true) (w:World) :
   Calls Tryz.prog 165 #[.float .f64 x] w fun r w'=>r=.returned (.tuple #[.agg #[.bool (splitG x),.int .u64 (splitM x),.int .i64 (splitE x)],.bool true])∧Below w.heap.size w w':=by
 have hr:x%9223372036854775808<9218868437227405312:=by simpa [finB] using hf
 have hcases:(FloatKind.f64.format.order x 0=some .eq∧x%9223372036854775808=0)∨((FloatKind.f64.format.order x 0=some .lt∨FloatKind.f64.format.order x 0=some .gt)∧x%9223372036854775808≠0):=by
   rcases cases0 x hx with ⟨_,_,hc⟩ | ⟨_,ho,hc⟩ | ⟨_,ho,hc⟩ | ⟨_,ho,hc⟩
   · omega
   · exact Or.inl ⟨ho,hc⟩
   · exact Or.inr ⟨Or.inr ho,by omega⟩
   · exact Or.inr ⟨Or.inl ho,by omega⟩
 rcases hcases with ⟨ho,hz⟩ | ⟨ho,hz⟩
 · have e1:splitG x=false:=by unfold splitG;simp;omega
   have e2:splitM x=0:=by unfold splitM;rw [if_pos (by omega),hz]
   have e3:splitE x=0:=by unfold splitE;rw [if_pos hz]
   rw [e1,e2,e3]
   exact split_zero x hx hf ho w
 · have g1:(bits .and .u64 (x:Int) 9223372036854775808 != 0)=splitG x:=by
     rw [show (9223372036854775808:Int)=((9223372036854775808:Nat):Int) from rfl,u64_and_nat x _ hx (by decide)]
     have:=nat_bit 63 x
     rw [show (2:Nat)^63=9223372036854775808 from rfl] at this
     rw [this]
     unfold splitG
     rw [Bool.eq_iff_iff]
     simp only [bne_iff_ne,ne_eq,decide_eq_true_eq]
     omega
   have g2:bits .and .u64 (x:Int) 4503599627370495=((x%4503599627370496:Nat):Int):=by
     rw [show (4503599627370495:Int)=((4503599627370495:Nat):Int) from rfl,u64_and_nat x _ hx (by decide)]
     rw [Nat.and_two_pow_sub_one_eq_mod x 52]
   have g3:bits .and .u64 ((x:Int)/4503599627370496) 2047=((x/4503599627370496%2048:Nat):Int):=by
     rw [show (x:Int)/4503599627370496=((x/4503599627370496:Nat):Int) by omega,show (2047:Int)=((2047:Nat):Int) from rfl,u64_and_nat _ _ (by omega) (by decide),nat_mask11]
   have g4:bits .or .u64 ((x%4503599627370496:Nat):Int) 4503599627370496=((4503599627370496+x%4503599627370496:Nat):Int):=by
     rw [show (4503599627370496:Int)=((4503599627370496:Nat):Int) from rfl,u64_or_nat _ _ (by omega) (by decide)]
     have h:=nat_join 52 4503599627370496 (x%4503599627370496) (by decide) (by omega)
     rw [Nat.or_comm,h]
   have hc:=split_core x _ _ _ _ hx hf ho g1 g2 g3 g4 (by omega) w
   have e2:(if x/4503599627370496%2048=0 then ((x%4503599627370496:Nat):Int) else ((4503599627370496+x%4503599627370496:Nat):Int))=((splitM x:Nat):Int):=by
     unfold splitM
     by_cases h:x%9223372036854775808<4503599627370496
     · rw [if_pos h,if_pos (by omega)];omega
     · rw [if_neg h,if_neg (by omega)]
   have e3:(-1074:Int)+((x/4503599627370496%2048-1:Nat):Int)=splitE x:=by
     unfold splitE
     rw [if_neg hz]
     omega
   rw [e2,e3] at hc
   exact hc
theorem splitM_lt (x:Nat):splitM x<9007199254740992:=by unfold splitM;split <;> omega
theorem splitE_bounds {x:Nat} (hf:finB x=true):-1074≤splitE x∧splitE x≤971:=by
 have hr:x%9223372036854775808<9218868437227405312:=by simpa [finB] using hf
 unfold splitE;split <;> omega
theorem drewN_below {B:Nat} {w w1:World} (n:Nat) (h:Below B w w1):Below B w (w1.drewN n):=⟨h.os,h.tape,h.output,h.size,h.block⟩
set_option maxHeartbeats 1000000 in
theorem sum_keep (gp gq:Bool) (mp mq s:Nat) (ep eq:Int) (hmp:((mp:Int)==0)=false) (hmq:((mq:Int)==0)=false) (h1:mp<9007199254740992) (h2:mq<9007199254740992) (he1:-2000≤ep∧ep≤2000) (he2:-2000≤eq∧eq≤2000)
   (hlt:¬ep<eq) (hor:(ep==eq)=false∨((ep==eq)=true∧¬(mp:Int)<(mq:Int)))
   (hmv:∀w,Calls Tryz.prog 194 #[.int .u64 ((mq:Int)*1024),.int .i64 (ep-eq)] w fun r w'=>r=.returned (.int .u64 s)∧w'=w) (hs:s≤mp*1024) (w:World) :
   Calls Tryz.prog 167 #[.agg #[.bool gp,.int .u64 mp,.int .i64 ep],.agg #[.bool gq,.int .u64 mq,.int .i64 eq]] w fun r w'=>r=.returned (.agg #[.bool gp,.int .u64 (if gp != gq then (mp:Int)*1024-s else (mp:Int)*1024+s),.int .i64 (ep-10)])∧Below w.heap.size w w':=by
 generalize hd:(gp != gq)=d
 rcases hor with hor | ⟨ho1,ho2⟩ <;> cases d
 all_goals
   go_enter Tryz.func167,Tryz.ntmps167
   go_wp2_with fail
   go_quiet (first | (go_at_call 194;refine Calls.quiet_of_same (hmv _)))
   go_wp2
   all_goals
     go_returns
     first | refine⟨rfl, ?_⟩ | (exfalso;clear hmv;cases gp <;> cases gq <;> simp_all;done)
     repeat' (first | (with_reducible exact Below.refl _ _) | (with_reducible refine Below.alloc ?_ ?_ _) | (with_reducible refine drewN_below _ ?_) | (with_reducible refine Below.setCell ?_ ?_ _) | go_size)
set_option maxHeartbeats 1000000 in
theorem sum_swap (gp gq:Bool) (mp mq s:Nat) (ep eq:Int) (hmp:((mp:Int)==0)=false) (hmq:((mq:Int)==0)=false) (h1:mp<9007199254740992) (h2:mq<9007199254740992) (he1:-2000≤ep∧ep≤2000) (he2:-2000≤eq∧eq≤2000)
   (hor:ep<eq∨(¬ep<eq∧(ep==eq)=true∧(mp:Int)<(mq:Int)))
   (hmv:∀w,Calls Tryz.prog 194 #[.int .u64 ((mp:Int)*1024),.int .i64 (eq-ep)] w fun r w'=>r=.returned (.int .u64 s)∧w'=w) (hs:s≤mq*1024) (w:World) :
   Calls Tryz.prog 167 #[.agg #[.bool gp,.int .u64 mp,.int .i64 ep],.agg #[.bool gq,.int .u64 mq,.int .i64 eq]] w fun r w'=>r=.returned (.agg #[.bool gq,.int .u64 (if gq != gp then (mq:Int)*1024-s else (mq:Int)*1024+s),.int .i64 (eq-10)])∧Below w.heap.size w w':=by
 generalize hd:(gq != gp)=d
 rcases hor with hor | ⟨ho0,ho1,ho2⟩ <;> cases d
 all_goals
   go_enter Tryz.func167,Tryz.ntmps167
   go_wp2_with fail
   go_quiet (first | (go_at_call 194;refine Calls.quiet_of_same (hmv _)))
   go_wp2
   all_goals
     go_returns
     first | refine⟨rfl, ?_⟩ | (exfalso;clear hmv;cases gp <;> cases gq <;> simp_all;done)
     repeat' (first | (with_reducible exact Below.refl _ _) | (with_reducible refine Below.alloc ?_ ?_ _) | (with_reducible refine drewN_below _ ?_) | (with_reducible refine Below.setCell ?_ ?_ _) | go_size)
theorem sum_zero1 (gp gq:Bool) (mq:Nat) (ep eq:Int) (w:World) :
   Calls Tryz.prog 167 #[.agg #[.bool gp,.int .u64 0,.int .i64 ep],.agg #[.bool gq,.int .u64 mq,.int .i64 eq]] w fun r w'=>r=.returned (.agg #[.bool gq,.int .u64 mq,.int .i64 eq])∧Below w.heap.size w w':=by
 go_enter Tryz.func167,Tryz.ntmps167
 go_wp2_with fail
 all_goals (go_returns;refine⟨rfl, ?_⟩;go_grown)
theorem sum_zero2 (gp gq:Bool) (mp:Nat) (ep eq:Int) (hmp:((mp:Int)==0)=false) (w:World) :
   Calls Tryz.prog 167 #[.agg #[.bool gp,.int .u64 mp,.int .i64 ep],.agg #[.bool gq,.int .u64 0,.int .i64 eq]] w fun r w'=>r=.returned (.agg #[.bool gp,.int .u64 mp,.int .i64 ep])∧Below w.heap.size w w':=by
 go_enter Tryz.func167,Tryz.ntmps167
 go_wp2_with fail
 all_goals (go_returns;refine⟨rfl, ?_⟩;go_grown)
def addM (gp:Bool) (mp:Nat) (ep:Int) (gq:Bool) (mq:Nat) (eq:Int):Nat :=
 if gp != gq then mp*1024-moveN (mq*1024) (ep-eq).toNat else mp*1024+moveN (mq*1024) (ep-eq).toNat
def swapP (mp:Nat) (ep:Int) (mq:Nat) (eq:Int):Bool:=decide (ep<eq∨ep=eq∧mp<mq)
def sumG (gp:Bool) (mp:Nat) (ep:Int) (gq:Bool) (mq:Nat) (eq:Int):Bool:=if mp=0 then gq else if mq=0 then gp else if swapP mp ep mq eq then gq else gp
def sumM (gp:Bool) (mp:Nat) (ep:Int) (gq:Bool) (mq:Nat) (eq:Int):Nat:=if mp=0 then mq else if mq=0 then mp else if swapP mp ep mq eq then addM gq mq eq gp mp ep else addM gp mp ep gq mq eq
def sumE (mp:Nat) (ep:Int) (mq:Nat) (eq:Int):Int:=if mp=0 then eq else if mq=0 then ep else if swapP mp ep mq eq then eq-10 else ep-10
theorem move_le {m n k:Nat} (h:m<9007199254740992) (hk:n≠0∧4503599627370496≤k∨n=0∧m≤k):moveN (m*1024) n≤k*1024:=by
 unfold moveN markN
 rcases hk with ⟨h0,hk⟩ | ⟨rfl,hk⟩
 · have h1:m*1024/2^n≤m*1024/2^1:=Nat.div_le_div_left (Nat.pow_le_pow_right (by omega) (by omega)) (by omega)
   split <;> omega
 · have:¬(m*1024%2^0≠0):=by simp [Nat.mod_one]
   simp only [this,decide_false,Bool.false_eq_true,if_false,Nat.pow_zero,Nat.div_one]
   omega
theorem sum_w (gp gq:Bool) (mp mq:Nat) (ep eq:Int) (h1:mp<9007199254740992) (h2:mq<9007199254740992) (he1:-1074≤ep∧ep≤971) (he2:-1074≤eq∧eq≤971)
   (hn1:mp≠0→-1074<ep→4503599627370496≤mp) (hn2:mq≠0→-1074<eq→4503599627370496≤mq) (w:World) :
   Calls Tryz.prog 167 #[.agg #[.bool gp,.int .u64 mp,.int .i64 ep],.agg #[.bool gq,.int .u64 mq,.int .i64 eq]] w fun r w'=>r=.returned (.agg #[.bool (sumG gp mp ep gq mq eq),.int .u64 (sumM gp mp ep gq mq eq),.int .i64 (sumE mp ep mq eq)])∧Below w.heap.size w w':=by
 unfold sumG sumM sumE
 by_cases z1:mp=0
 · subst z1
   exact sum_zero1 gp gq mq ep eq w
 · rw [if_neg z1,if_neg z1,if_neg z1]
   by_cases z2:mq=0
   · subst z2
     exact sum_zero2 gp gq mp ep eq (by simp;omega) w
   · rw [if_neg z2,if_neg z2,if_neg z2]
     by_cases hsw:ep<eq∨ep=eq∧mp<mq
     · have hsw':swapP mp ep mq eq=true:=by unfold swapP;simp only [hsw,decide_true]
       simp only [hsw',if_true]
       have hle:moveN (mp*1024) (eq-ep).toNat≤mq*1024:=by
         refine move_le h1 ?_
         rcases hsw with h | ⟨h,h'⟩
         · exact Or.inl ⟨by omega,hn2 z2 (by omega)⟩
         · exact Or.inr ⟨by omega,by omega⟩
       have hc:=sum_swap gp gq mp mq (moveN (mp*1024) (eq-ep).toNat) ep eq (by simp;omega) (by simp;omega) h1 h2 (by omega) (by omega)
         (by rcases hsw with h | ⟨h,h'⟩
             · exact Or.inl h
             · exact Or.inr ⟨by omega,by simp;omega,by omega⟩)
         (fun w=>by
           have hm:=moveDown_w (mp*1024) (eq-ep).toNat (by omega) w
           have c1:(((mp*1024:Nat)):Int)=(mp:Int)*1024:=by omega
           have c2:(((eq-ep).toNat:Nat):Int)=eq-ep:=by omega
           rw [c1,c2] at hm
           exact hm.mono fun _ _ h=>⟨h.1,h.2.symm⟩) hle w
       have ea:((addM gq mq eq gp mp ep:Nat):Int)=if gq != gp then (mq:Int)*1024-((moveN (mp*1024) (eq-ep).toNat:Nat):Int) else (mq:Int)*1024+((moveN (mp*1024) (eq-ep).toNat:Nat):Int):=by
         unfold addM;split <;> omega
       rw [ea]
       exact hc
     · have hsw':swapP mp ep mq eq=false:=by unfold swapP;simp only [hsw,decide_false]
       simp only [hsw',Bool.false_eq_true,if_false]
       have hle:moveN (mq*1024) (ep-eq).toNat≤mp*1024:=by
         refine move_le h2 ?_
         by_cases h:ep=eq
         · exact Or.inr ⟨by omega,by omega⟩
         · exact Or.inl ⟨by omega,hn1 z1 (by omega)⟩
       have hc:=sum_keep gp gq mp mq (moveN (mq*1024) (ep-eq).toNat) ep eq (by simp;omega) (by simp;omega) h1 h2 (by omega) (by omega) (by omega)
         (by by_cases h:ep=eq
             · exact Or.inr ⟨by simp;omega,by omega⟩
             · exact Or.inl (by simp;omega))
         (fun w=>by
           have hm:=moveDown_w (mq*1024) (ep-eq).toNat (by omega) w
           have c1:(((mq*1024:Nat)):Int)=(mq:Int)*1024:=by omega
           have c2:(((ep-eq).toNat:Nat):Int)=ep-eq:=by omega
           rw [c1,c2] at hm
           exact hm.mono fun _ _ h=>⟨h.1,h.2.symm⟩) hle w
       have ea:((addM gp mp ep gq mq eq:Nat):Int)=if gp != gq then (mp:Int)*1024-((moveN (mq*1024) (ep-eq).toNat:Nat):Int) else (mp:Int)*1024+((moveN (mq*1024) (ep-eq).toNat:Nat):Int):=by
         unfold addM;split <;> omega
       rw [ea]
       exact hc
theorem keepsC {W0 w2:World} (hb:Below W0.heap.size W0 w2) {b o:Nat} {v:Value} (hc:W0.cell? ⟨b,o,none⟩=some v) (hlt:b<W0.heap.size):w2.cell? ⟨b,o,none⟩=some v:=(hb.cell hlt).trans hc
theorem keepsF {W0 w2:World} (hb:Below W0.heap.size W0 w2) {b o:Nat} {v:Bool} (hc:W0.frozen? ⟨b,o,none⟩=v) (hlt:b<W0.heap.size):w2.frozen? ⟨b,o,none⟩=v:=(hb.frozen hlt).trans hc
def Has3 (w:World) (b:Nat) (x y z:Value):Prop:=w.cell? ⟨b,0,none⟩=some x∧w.cell? ⟨b,1,none⟩=some y∧w.cell? ⟨b,2,none⟩=some z∧w.frozen? ⟨b,0,none⟩=false∧w.frozen? ⟨b,1,none⟩=false∧w.frozen? ⟨b,2,none⟩=false∧b<w.heap.size
theorem Has3.keep {W0 w2:World} {b:Nat} {x y z:Value} (h:Has3 W0 b x y z) (hb:Below W0.heap.size W0 w2):Has3 w2 b x y z:=by
 obtain⟨h0,h1,h2,f0,f1,f2,hl⟩:=h
 exact⟨keepsC hb h0 hl,keepsC hb h1 hl,keepsC hb h2 hl,keepsF hb f0 hl,keepsF hb f1 hl,keepsF hb f2 hl,Nat.lt_of_lt_of_le hl hb.size⟩
theorem has_new3 (T:TypeId) (w:World) (x1 y1 z1 x2 y2 z2 x3 y3 z3:Value) :
   Has3 (((w.alloc (.cells #[x1,y1,z1] T)).alloc (.cells #[x2,y2,z2] T)).alloc (.cells #[x3,y3,z3] T)).drew w.heap.size x1 y1 z1 ∧
   Has3 (((w.alloc (.cells #[x1,y1,z1] T)).alloc (.cells #[x2,y2,z2] T)).alloc (.cells #[x3,y3,z3] T)).drew (w.heap.size+1) x2 y2 z2 ∧
   Has3 (((w.alloc (.cells #[x1,y1,z1] T)).alloc (.cells #[x2,y2,z2] T)).alloc (.cells #[x3,y3,z3] T)).drew (w.heap.size+1+1) x3 y3 z3 ∧
   Below w.heap.size w (((w.alloc (.cells #[x1,y1,z1] T)).alloc (.cells #[x2,y2,z2] T)).alloc (.cells #[x3,y3,z3] T)).drew:=by
 refine⟨⟨by go_simp,by go_simp,by go_simp,by go_simp,by go_simp,by go_simp, ?_⟩,⟨by go_simp,by go_simp,by go_simp,by go_simp,by go_simp,by go_simp, ?_⟩,⟨by go_simp,by go_simp,by go_simp,by go_simp,by go_simp,by go_simp, ?_⟩,by go_grown⟩
 · show w.heap.size<((((w.alloc _).alloc _).alloc _).drew).heap.size
   simp only [World.size_drew,World.size_alloc];omega
 · show w.heap.size+1<((((w.alloc _).alloc _).alloc _).drew).heap.size
   simp only [World.size_drew,World.size_alloc];omega
 · show w.heap.size+1+1<((((w.alloc _).alloc _).alloc _).drew).heap.size
   simp only [World.size_drew,World.size_alloc];omega
theorem Has3.put {w:World} {b:Nat} {x y z:Value} (h:Has3 w b x y z) (x' y' z':Value):Has3 (((w.setCell ⟨b,0,none⟩ x').setCell ⟨b,1,none⟩ y').setCell ⟨b,2,none⟩ z') b x' y' z':=by
 obtain⟨h0,h1,h2,f0,f1,f2,hl⟩:=h
 refine⟨by go_simp,by go_simp,by go_simp,by go_simp,by go_simp,by go_simp, ?_⟩
 simp only [World.size_setCell];exact hl
theorem Has3.far {w:World} {b c:Nat} {x y z:Value} (h:Has3 w b x y z) (hne:c≠b) (x' y' z':Value):Has3 (((w.setCell ⟨c,0,none⟩ x').setCell ⟨c,1,none⟩ y').setCell ⟨c,2,none⟩ z') b x y z:=by
 obtain⟨h0,h1,h2,f0,f1,f2,hl⟩:=h
 have hne':b≠c:=fun e=>hne e.symm
 refine⟨by simp [World.cell?_setCell_far, *],by simp [World.cell?_setCell_far, *],by simp [World.cell?_setCell_far, *],by go_simp,by go_simp,by go_simp, ?_⟩
 simp only [World.size_setCell];exact hl
set_option maxHeartbeats 4000000 in
theorem product_core (gp gq:Bool) (mp mq np nq hi lo k:Nat) (ep eq fp fq:Int) (hfp:-5000≤fp∧fp≤5000) (hfq:-5000≤fq∧fq≤5000)
   (hn1:∀w,Calls Tryz.prog 191 #[.agg #[.bool gp,.int .u64 mp,.int .i64 ep]] w fun r w'=>r=.returned (.agg #[.bool gp,.int .u64 np,.int .i64 fp])∧Below w.heap.size w w')
   (hn2:∀w,Calls Tryz.prog 191 #[.agg #[.bool gq,.int .u64 mq,.int .i64 eq]] w fun r w'=>r=.returned (.agg #[.bool gq,.int .u64 nq,.int .i64 fq])∧Below w.heap.size w w')
   (hml:∀w,Calls Tryz.prog 216 #[.int .u64 np,.int .u64 nq] w fun r w'=>r=.returned (.tuple #[.int .u64 hi,.int .u64 lo])∧w=w')
   (hmk:∀w,Calls Tryz.prog 197 #[.int .u64 hi,.bool ((lo:Int) != 0)] w fun r w'=>r=.returned (.int .u64 k)∧w=w') (w:World) :
   Calls Tryz.prog 188 #[.agg #[.bool gp,.int .u64 mp,.int .i64 ep],.agg #[.bool gq,.int .u64 mq,.int .i64 eq]] w fun r w'=>r=.returned (.agg #[.bool (gp != gq),.int .u64 k,.int .i64 (fp+fq+64)])∧Below w.heap.size w w':=by
 go_enter Tryz.func188,Tryz.ntmps188
 go_upto_region 1 with fail
 go_cut [] from 7 to 10 (fun wx=>Below w.heap.size w wx∧Has3 wx w.heap.size (.bool gp) (.int .u64 np) (.int .i64 fp)∧Has3 wx (w.heap.size+1) (.bool gq) (.int .u64 nq) (.int .i64 fq)∧Has3 wx (w.heap.size+1+1) (.bool false) (.int .u64 0) (.int .i64 0))
 case first =>
   obtain⟨hA,hB,hC,hS⟩:=has_new3 63 w (.bool gp) (.int .u64 mp) (.int .i64 ep) (.bool gq) (.int .u64 mq) (.int .i64 eq) (.bool false) (.int .u64 0) (.int .i64 0)
   go_region_with (first
     | (go_at_call_of 191 (Value.agg #[.bool gp,.int .u64 mp,.int .i64 ep]);refine (hn1 _).mono ?_;rintro _ w1 ⟨rfl,hb1⟩;have c10:w1.cell? ⟨w.heap.size+1,0,none⟩=some (.bool gq):=(hb1.cell (by simp)).trans (by go_simp);have c11:w1.cell? ⟨w.heap.size+1,1,none⟩=some (.int .u64 mq):=(hb1.cell (by simp)).trans (by go_simp);have c12:w1.cell? ⟨w.heap.size+1,2,none⟩=some (.int .i64 eq):=(hb1.cell (by simp)).trans (by go_simp))
     | (go_at_call_of 191 (Value.agg #[.bool gq,.int .u64 mq,.int .i64 eq]);refine (hn2 _).mono ?_;rintro _ w2 ⟨rfl,hb2⟩;
        obtain⟨x0,x1,x2,x3,x4,x5,x6⟩:=(hA.keep hb1).keep hb2;obtain⟨y0,y1,y2,y3,y4,y5,y6⟩:=(hB.keep hb1).keep hb2))
   all_goals
     go_wp2_with fail
     go_meet
     case rel =>
       refine⟨?_,(((hA.keep hb1).keep hb2).put _ _ _).far (by omega) _ _ _,((((hB.keep hb1).keep hb2).far (by omega) _ _ _).put _ _ _),((((hC.keep hb1).keep hb2).far (by omega) _ _ _).far (by omega) _ _ _)⟩
       have hT:=later (later hS hb1) hb2
       repeat' (first | (with_reducible exact hT) | (with_reducible refine Below.setCell ?_ ?_ _) | go_size)
 case rest =>
 have ne1:w.heap.size+1+1≠w.heap.size:=by omega
 have ne2:w.heap.size≠w.heap.size+1+1:=by omega
 obtain⟨hb,⟨a0,a1,a2,b0,b1,b2,bl⟩,⟨c0,c1,c2,d0,d1,d2,dl⟩,⟨e0,e1,e2,f0,f1,f2,fl⟩⟩:=hcut
 go_wp2_with (first | (go_at_call 216;refine (hml _).mono ?_;rintro _ _ ⟨rfl,rfl⟩))
 go_region_held3 (fun w'=>w'.cell? ⟨w.heap.size,0,none⟩=some (.bool gp)∧w'.cell? ⟨w.heap.size,2,none⟩=some (.int .i64 fp)∧w'.cell? ⟨w.heap.size+1,0,none⟩=some (.bool gq)∧w'.cell? ⟨w.heap.size+1,2,none⟩=some (.int .i64 fq)) (go_keep)
   (first | (go_at_call 197;refine (hmk _).mono ?_;rintro _ _ ⟨rfl,rfl⟩))
 all_goals go_wp2_with fail
 all_goals
   have hw1:IntKind.i64.wrap (IntKind.i64.wrap (fp+fq)+64)=fp+fq+64:=by rw [IntKind.wrap_i64,IntKind.wrap_i64];omega
   rw [hw1]
   refine bodyPost_ret (v:=.agg #[.bool (!(gp==gq)),.int .u64 k,.int .i64 (fp+fq+64)]) (by simp [results,Tryz.results188,go_sem,e0,e1,e2]) rfl ⟨rfl, ?_⟩
   refine Below.drew ?_
   repeat' (first | (with_reducible exact hb) | (with_reducible refine Below.setCell ?_ ?_ _) | go_size)
def prodM (mp mq:Nat):Nat:=markN (topN mp*topN mq/18446744073709551616) (decide (topN mp*topN mq%18446744073709551616≠0))
def prodE (mp:Nat) (ep:Int) (mq:Nat) (eq:Int):Int:=(ep-shiftN mp)+(eq-shiftN mq)+64
theorem product_w (gp gq:Bool) (mp mq:Nat) (ep eq:Int) (z1:mp≠0) (z2:mq≠0) (h1:mp<18446744073709551616) (h2:mq<18446744073709551616) (he1:-2000≤ep∧ep≤2000) (he2:-2000≤eq∧eq≤2000) (w:World) :
   Calls Tryz.prog 188 #[.agg #[.bool gp,.int .u64 mp,.int .i64 ep],.agg #[.bool gq,.int .u64 mq,.int .i64 eq]] w fun r w'=>r=.returned (.agg #[.bool (gp != gq),.int .u64 (prodM mp mq),.int .i64 (prodE mp ep mq eq)])∧Below w.heap.size w w':=by
 have b1:=topN_bounds z1 h1
 have b2:=topN_bounds z2 h2
 have s1:shiftN mp≤63:=by unfold shiftN;omega
 have s2:shiftN mq≤63:=by unfold shiftN;omega
 refine product_core gp gq mp mq (topN mp) (topN mq) _ _ _ ep eq (ep-shiftN mp) (eq-shiftN mq) (by omega) (by omega) (fun w=>normal_w gp mp ep z1 h1 (by omega) (by omega) w) (fun w=>normal_w gq mq eq z2 h2 (by omega) (by omega) w) (fun w=>mul64_w _ _ b1.2 b2.2 w) (fun w=>?_) w
 have hlt:topN mp*topN mq/18446744073709551616<18446744073709551616:=Nat.div_lt_of_lt_mul (Nat.mul_lt_mul'' b1.2 b2.2)
 have hm:=mark_w (topN mp*topN mq/18446744073709551616) (decide (topN mp*topN mq%18446744073709551616≠0)) hlt w
 have e:(((topN mp*topN mq%18446744073709551616:Nat):Int) != 0)=decide (topN mp*topN mq%18446744073709551616≠0):=by
   rw [Bool.eq_iff_iff];simp only [bne_iff_ne,ne_eq,decide_eq_true_eq];omega
 rw [e]
 exact hm
end Go.Proofs.YtgfppdboogldlaaGreat
namespace Go.Proofs.YtgfppdboogldlaaGreat
theorem knuth_lt {u v y:Nat} (hu:u<y) (hv:v<4294967296):(u*4294967296+v)/y<4294967296:=by
 refine Nat.div_lt_of_lt_mul ?_
 have h:(u+1)*4294967296≤y*4294967296:=Nat.mul_le_mul_right _ hu
 omega
theorem knuth_start {u v y yn1 yn0:Nat} (hy:y=yn1*4294967296+yn0) (h1:2147483648≤yn1) (hv:v<4294967296):(u*4294967296+v)/y≤u/yn1:=by
 rw [Nat.le_div_iff_mul_le (by omega)]
 have h:=Nat.div_mul_le_self (u*4294967296+v) y
 generalize (u*4294967296+v)/y=q at *
 subst hy
 rw [Nat.mul_add,←Nat.mul_assoc] at h
 have h2:q*yn1*4294967296<(u+1)*4294967296:=by omega
 have h3:=Nat.lt_of_mul_lt_mul_right h2
 omega
theorem knuth_top {u y yn1 yn0:Nat} (hy:y=yn1*4294967296+yn0) (h1:2147483648≤yn1) (h0:yn0<4294967296) (hu:u<y):u/yn1≤4294967297:=by
 have:u/yn1<4294967298:=by
   refine Nat.div_lt_of_lt_mul ?_
   omega
 omega
theorem knuth_step {u v y yn1 yn0 a b:Nat} (hy:y=yn1*4294967296+yn0) (h1:2147483648≤yn1) (h:b+a*yn1=u):(u*4294967296+v)/y<a↔4294967296*b+v<a*yn0:=by
 rw [Nat.div_lt_iff_lt_mul (by omega)]
 subst hy
 subst h
 rw [Nat.mul_add,←Nat.mul_assoc,Nat.add_mul]
 omega
end Go.Proofs.YtgfppdboogldlaaGreat
namespace Go.Proofs.YtgfppdboogldlaaGreat
open Go.ChangeShapes Go.WideShapes Go.ChangeAt Go.RowKit
set_option maxHeartbeats 2000000 in
set_option maxRecDepth 100000 in
theorem div64_core (hi lo y yn1 yn0 un1 un0 qh rh Q1 R1 q2 r2 Q0 R0:Nat) (hy:((y:Int)==0)=false) (hle:¬(y:Int)≤(hi:Int)) (hh:((hi:Int)==0)=false)
   (hyl:y<18446744073709551616) (hll:lo<18446744073709551616) (hyn:¬yn1=0) (hyn1:yn1<4294967296) (hun1:un1<4294967296) (hun0:un0<4294967296)
   (hlz:∀w,Calls Tryz.prog 220 #[.int .u64 y] w fun r w'=>r=.returned (.int .i64 0)∧w=w')
   (e1:(y:Int)/4294967296=(yn1:Int)) (e2:bits .and .u64 (y:Int) 4294967295=(yn0:Int)) (e3:(lo:Int)/4294967296=(un1:Int)) (e4:bits .and .u64 (lo:Int) 4294967295=(un0:Int))
   (e5:(lo:Int)/18446744073709551616=0) (e6:bits .or .u64 (hi:Int) 0=(hi:Int))
   (e7:IntKind.u64.wrap ((hi:Int)/(yn1:Int))=(qh:Int)) (e8:IntKind.u64.wrap ((hi:Int)-IntKind.u64.wrap ((qh:Int)*(yn1:Int)))=(rh:Int))
   (P1 P2:Nat→Nat→Prop) (hq0:P1 qh rh) (hqb:∀a b,P1 a b→Q1≤a∧a≤4294967297∧b<4294967296)
   (hqA:∀a b,P1 a b→a<4294967296→∃A:Nat,IntKind.u64.wrap ((a:Int)*(yn0:Int))=(A:Int)∧(Q1<a↔4294967296*b+un1<A))
   (hqn:∀a b,P1 a b→Q1<a→b+yn1<4294967296→P1 (a-1) (b+yn1))
   (hqe:∀a b,P1 a b→Q1<a→4294967296≤b+yn1→a-1=Q1) (hQ1:Q1<4294967296)
   (f1:IntKind.u64.wrap (IntKind.u64.wrap (IntKind.u64.wrap ((hi:Int)*4294967296)+(un1:Int))-IntKind.u64.wrap ((Q1:Int)*(y:Int)))=(R1:Int))
   (f7:IntKind.u64.wrap ((R1:Int)/(yn1:Int))=(q2:Int)) (f8:IntKind.u64.wrap ((R1:Int)-IntKind.u64.wrap ((q2:Int)*(yn1:Int)))=(r2:Int))
   (gq0:P2 q2 r2) (gqb:∀a b,P2 a b→Q0≤a∧a≤4294967297∧b<4294967296)
   (gqA:∀a b,P2 a b→a<4294967296→∃A:Nat,IntKind.u64.wrap ((a:Int)*(yn0:Int))=(A:Int)∧(Q0<a↔4294967296*b+un0<A))
   (gqn:∀a b,P2 a b→Q0<a→b+yn1<4294967296→P2 (a-1) (b+yn1))
   (gqe:∀a b,P2 a b→Q0<a→4294967296≤b+yn1→a-1=Q0) (hQ0:Q0<4294967296)
   (f9:IntKind.u64.wrap (IntKind.u64.wrap (IntKind.u64.wrap ((R1:Int)*4294967296)+(un0:Int))-IntKind.u64.wrap ((Q0:Int)*(y:Int)))=(R0:Int))
   (w:World) :
   Calls Tryz.prog 227 #[.int .u64 hi,.int .u64 lo,.int .u64 y] w fun r w'=>r=.returned (.tuple #[.int .u64 ((Q1:Int)*4294967296+Q0),.int .u64 R0])∧w=w':=by
 go_enter Tryz.func227,Tryz.ntmps227
 go_upto_block 0 with (go_at_call 220;refine (hlz _).mono ?_;rintro _ _ ⟨rfl,rfl⟩)
 go_cut [15,16] from 67 to 85 (fun s15 _ wx=>w=wx∧s15=.int .u64 (Q1:Int))
 case first =>
   clear f1 f7 f8 gq0 gqb gqA gqn gqe hQ0 f9
   go_wp2_with fail
   obtain⟨N,hN⟩:∃N:Nat,4294967297<N:=⟨4294967298,by omega⟩
   go_loopg [15,16] N (fun g s15 s16 wx=>w=wx∧∃a b:Nat,a≤g∧P1 a b∧s15=.int .u64 (a:Int)∧s16=.int .u64 (b:Int))
   case atStart=>exact⟨rfl,qh,rh,by have:=hqb _ _ hq0;omega,hq0,rfl,rfl⟩
   case round =>
     obtain⟨rfl,a,b,hag,hP,rfl,rfl⟩:=hrel
     clear e1 e2 e3 e4 e5 e6 e7 e8 hy hle hh hlz hq0 hN
     obtain⟨b1,b2,b3⟩:=hqb _ _ hP
     by_cases hbig:a<4294967296
     · obtain⟨A,hA,hAiff⟩:=hqA _ _ hP hbig
       by_cases ht:Q1<a
       · have ht2:(4294967296:Int)*(b:Int)+(un1:Int)<(A:Int):=by have:=hAiff.1 ht;omega
         by_cases hbr:b+yn1<4294967296
         · have hnew:=hqn _ _ hP ht hbr
           clear hqb hqA hqn hqe hAiff hP
           have hbigZ:¬(4294967296:Int)≤(a:Int):=by omega
           have hbrZ:¬(4294967296:Int)≤(b:Int)+(yn1:Int):=by omega
           have HT:Hid (Q1<a):=ht
           have HN:=(show Hid _ from hnew)
           have ha1:(1:Int)≤(a:Int):=by omega
           clear ht hnew hbr
           clear hbig b2
           go_upto_if 85 with fail
           have ht:=HT.out
           have hnew:=HN.out
           refine wp_cond_false (by simp [Act.eval]) ?_
           refine wp_skip ?_
           simp only [Exit.inBlock,Exit.then]
           apply_assumption
           refine Handed.intro (a-1) (by omega) ?_
           apply_assumption
           (repeat apply Exists.intro)
           refine⟨?_,rfl⟩
           exact⟨rfl,a-1,b+yn1,Nat.le_refl _,hnew,by congr 1;omega,by congr 1⟩
         · have hnew:=hqe _ _ hP ht (by omega)
           clear hqb hqA hqn hqe hAiff hP
           have hbigZ:¬(4294967296:Int)≤(a:Int):=by omega
           have hbrZ:(4294967296:Int)≤(b:Int)+(yn1:Int):=by omega
           have HT:Hid (Q1<a):=ht
           have HN:=(show Hid _ from hnew)
           have ha1:(1:Int)≤(a:Int):=by omega
           clear ht hnew hbr
           clear hbig b2
           go_upto_if 85 with fail
           have ht:=HT.out
           have hnew:=HN.out
           refine wp_cond_true (by simp [Act.eval]) ?_
           refine wp_exit ?_
           simp only [Exit.inBlock,Exit.then,Nat.zero_ne_one,if_false,if_true]
           apply_assumption
           refine Met.intro ?_
           apply_assumption
           (repeat apply Exists.intro)
           refine⟨?_,rfl⟩
           exact⟨rfl,by congr 1;omega⟩
       · have ht2:¬(4294967296:Int)*(b:Int)+(un1:Int)<(A:Int):=by intro hx;exact ht (hAiff.2 (by omega))
         have hnew:a=Q1:=by omega
         clear hqb hqA hqn hqe hAiff hP ht
         have hid:Hid (a=Q1):=hnew
         clear hnew
         have hbigZ:¬(4294967296:Int)≤(a:Int):=by omega
         clear hbig b2
         go_upto_if 78 with fail
         have hnew:=hid.out
         refine wp_cond_false (by simp [Act.eval]) ?_
         refine wp_exit ?_
         simp only [Exit.inBlock,Exit.then,if_true]
         apply_assumption
         refine Met.intro ?_
         apply_assumption
         (repeat apply Exists.intro)
         refine⟨?_,rfl⟩
         exact⟨rfl,by rw [hnew]⟩
     · have ht:Q1<a:=by omega
       by_cases hbr:b+yn1<4294967296
       · have hnew:=hqn _ _ hP ht hbr
         clear hqb hqA hqn hqe hP
         have hbigZ:(4294967296:Int)≤(a:Int)∧(a:Int)≤4294967297:=by omega
         have hbrZ:¬(4294967296:Int)≤(b:Int)+(yn1:Int):=by omega
         have HT:Hid (Q1<a):=ht
         have HN:=(show Hid _ from hnew)
         have ha1:(1:Int)≤(a:Int):=by omega
         clear ht hnew hbr
         clear hbig b2
         go_upto_if 85 with fail
         have ht:=HT.out
         have hnew:=HN.out
         refine wp_cond_false (by simp [Act.eval]) ?_
         refine wp_skip ?_
         simp only [Exit.inBlock,Exit.then]
         apply_assumption
         refine Handed.intro (a-1) (by omega) ?_
         apply_assumption
         (repeat apply Exists.intro)
         refine⟨?_,rfl⟩
         exact⟨rfl,a-1,b+yn1,Nat.le_refl _,hnew,by congr 1;omega,by congr 1⟩
       · have hnew:=hqe _ _ hP ht (by omega)
         clear hqb hqA hqn hqe hP
         have hbigZ:(4294967296:Int)≤(a:Int)∧(a:Int)≤4294967297:=by omega
         have hbrZ:(4294967296:Int)≤(b:Int)+(yn1:Int):=by omega
         have HT:Hid (Q1<a):=ht
         have HN:=(show Hid _ from hnew)
         have ha1:(1:Int)≤(a:Int):=by omega
         clear ht hnew hbr
         clear hbig b2
         go_upto_if 85 with fail
         have ht:=HT.out
         have hnew:=HN.out
         refine wp_cond_true (by simp [Act.eval]) ?_
         refine wp_exit ?_
         simp only [Exit.inBlock,Exit.then,Nat.zero_ne_one,if_false,if_true]
         apply_assumption
         refine Met.intro ?_
         apply_assumption
         (repeat apply Exists.intro)
         refine⟨?_,rfl⟩
         exact⟨rfl,by congr 1;omega⟩
 case rest =>
 obtain⟨rfl,rfl⟩:=hcut
 clear hqb hqA hqn hqe hq0 e7 e8
 go_upto_block 2 with fail
 go_cut [18,16] from 102 to 120 (fun s18 _ wx=>w=wx∧s18=.int .u64 (Q0:Int))
 case first =>
   clear f1 f7 f8 f9
   go_wp2_with fail
   obtain⟨N,hN⟩:∃N:Nat,4294967297<N:=⟨4294967298,by omega⟩
   go_loopg [18,16] N (fun g s18 s16 wx=>w=wx∧∃a b:Nat,a≤g∧P2 a b∧s18=.int .u64 (a:Int)∧s16=.int .u64 (b:Int))
   case atStart=>exact⟨rfl,q2,r2,by have:=gqb _ _ gq0;omega,gq0,rfl,rfl⟩
   case round =>
     obtain⟨rfl,a,b,hag,hP,rfl,rfl⟩:=hrel
     clear e1 e2 e3 e4 e5 e6 hy hle hh hlz gq0 hN
     obtain⟨b1,b2,b3⟩:=gqb _ _ hP
     by_cases hbig:a<4294967296
     · obtain⟨A,hA,hAiff⟩:=gqA _ _ hP hbig
       by_cases ht:Q0<a
       · have ht2:(4294967296:Int)*(b:Int)+(un0:Int)<(A:Int):=by have:=hAiff.1 ht;omega
         by_cases hbr:b+yn1<4294967296
         · have hnew:=gqn _ _ hP ht hbr
           clear gqb gqA gqn gqe hAiff hP
           have hbigZ:¬(4294967296:Int)≤(a:Int):=by omega
           have hbrZ:¬(4294967296:Int)≤(b:Int)+(yn1:Int):=by omega
           have HT:Hid (Q0<a):=ht
           have HN:=(show Hid _ from hnew)
           have ha1:(1:Int)≤(a:Int):=by omega
           clear ht hnew hbr
           clear hbig b2
           go_upto_if 120 with fail
           have ht:=HT.out
           have hnew:=HN.out
           refine wp_cond_false (by simp [Act.eval]) ?_
           refine wp_skip ?_
           simp only [Exit.inBlock,Exit.then]
           apply_assumption
           refine Handed.intro (a-1) (by omega) ?_
           apply_assumption
           (repeat apply Exists.intro)
           refine⟨?_,rfl⟩
           exact⟨rfl,a-1,b+yn1,Nat.le_refl _,hnew,by congr 1;omega,by congr 1⟩
         · have hnew:=gqe _ _ hP ht (by omega)
           clear gqb gqA gqn gqe hAiff hP
           have hbigZ:¬(4294967296:Int)≤(a:Int):=by omega
           have hbrZ:(4294967296:Int)≤(b:Int)+(yn1:Int):=by omega
           have HT:Hid (Q0<a):=ht
           have HN:=(show Hid _ from hnew)
           have ha1:(1:Int)≤(a:Int):=by omega
           clear ht hnew hbr
           clear hbig b2
           go_upto_if 120 with fail
           have ht:=HT.out
           have hnew:=HN.out
           refine wp_cond_true (by simp [Act.eval]) ?_
           refine wp_exit ?_
           simp only [Exit.inBlock,Exit.then,show ¬(2:Nat)=3 by decide,if_false,if_true]
           apply_assumption
           refine Met.intro ?_
           apply_assumption
           (repeat apply Exists.intro)
           refine⟨?_,rfl⟩
           exact⟨rfl,by congr 1;omega⟩
       · have ht2:¬(4294967296:Int)*(b:Int)+(un0:Int)<(A:Int):=by intro hx;exact ht (hAiff.2 (by omega))
         have hnew:a=Q0:=by omega
         clear gqb gqA gqn gqe hAiff hP ht
         have hid:Hid (a=Q0):=hnew
         clear hnew
         have hbigZ:¬(4294967296:Int)≤(a:Int):=by omega
         clear hbig b2
         go_upto_if 113 with fail
         have hnew:=hid.out
         refine wp_cond_false (by simp [Act.eval]) ?_
         refine wp_exit ?_
         simp only [Exit.inBlock,Exit.then,if_true]
         apply_assumption
         refine Met.intro ?_
         apply_assumption
         (repeat apply Exists.intro)
         refine⟨?_,rfl⟩
         exact⟨rfl,by rw [hnew]⟩
     · have ht:Q0<a:=by omega
       by_cases hbr:b+yn1<4294967296
       · have hnew:=gqn _ _ hP ht hbr
         clear gqb gqA gqn gqe hP
         have hbigZ:(4294967296:Int)≤(a:Int)∧(a:Int)≤4294967297:=by omega
         have hbrZ:¬(4294967296:Int)≤(b:Int)+(yn1:Int):=by omega
         have HT:Hid (Q0<a):=ht
         have HN:=(show Hid _ from hnew)
         have ha1:(1:Int)≤(a:Int):=by omega
         clear ht hnew hbr
         clear hbig b2
         go_upto_if 120 with fail
         have ht:=HT.out
         have hnew:=HN.out
         refine wp_cond_false (by simp [Act.eval]) ?_
         refine wp_skip ?_
         simp only [Exit.inBlock,Exit.then]
         apply_assumption
         refine Handed.intro (a-1) (by omega) ?_
         apply_assumption
         (repeat apply Exists.intro)
         refine⟨?_,rfl⟩
         exact⟨rfl,a-1,b+yn1,Nat.le_refl _,hnew,by congr 1;omega,by congr 1⟩
       · have hnew:=gqe _ _ hP ht (by omega)
         clear gqb gqA gqn gqe hP
         have hbigZ:(4294967296:Int)≤(a:Int)∧(a:Int)≤4294967297:=by omega
         have hbrZ:(4294967296:Int)≤(b:Int)+(yn1:Int):=by omega
         have HT:Hid (Q0<a):=ht
         have HN:=(show Hid _ from hnew)
         have ha1:(1:Int)≤(a:Int):=by omega
         clear ht hnew hbr
         clear hbig b2
         go_upto_if 120 with fail
         have ht:=HT.out
         have hnew:=HN.out
         refine wp_cond_true (by simp [Act.eval]) ?_
         refine wp_exit ?_
         simp only [Exit.inBlock,Exit.then,show ¬(2:Nat)=3 by decide,if_false,if_true]
         apply_assumption
         refine Met.intro ?_
         apply_assumption
         (repeat apply Exists.intro)
         refine⟨?_,rfl⟩
         exact⟨rfl,by congr 1;omega⟩
 case rest =>
 obtain⟨rfl,rfl⟩:=hcut
 clear gqb gqA gqn gqe gq0 f7 f8
 go_wp2_with fail
 go_ret2
 exact⟨rfl,rfl⟩
end Go.Proofs.YtgfppdboogldlaaGreat
