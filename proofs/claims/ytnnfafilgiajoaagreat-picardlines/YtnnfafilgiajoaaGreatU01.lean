/- The walks of counted, Hull and Meet. The walks of Meet, of the laws' hull, and of Add and Mul with an interval that holds nothing. Plain facts: hulls hold both, meets lie in both and hold just what both hold. What is taken off itself holds nought, what is divided by itself one; negatives twice; the least amount is not above the greatest. A region that draws its order, whose callees make memory of their own but change none: one walk, in the text's order, over all worlds that are as the first one was below its end. The walk of the statement IvalLattice: its two variables. IvalLattice: for every two intervals and every float64 the statement's answer is true. The reference's Add and Sub: the exact sum, rounded; the walk of the statement UlpSums. The reference's products, amounts and even powers of intervals answer as the program's; IvalProducts' walk. Sin and Cos as functions of words. Tapes that may be, and what a tape's Eval, Grad refuse. Go's quotient of a float by a power of two: how great it is at most. -/
import Derived.Lib.Strings
import Derived.Lib.Slices
import Derived.Lib.Small
import Derived.Lib.Walk
import Derived.Lib.BitFns
import Derived.KernelRfl
import Derived.WalkKit
import Derived.Laws.Cover2
import Derived.Laws.FloatArith
import Derived.Laws.BitsAllLaws
import Derived.ProofKit
import Derived.OpenShut
import Derived.WalkSpells
import Derived.WalkLawsBesides
import Derived.Laws.Externs
import Derived.Laws.Bits64b
import Derived.Handy
import Derived.Deep.RegionWith
import Derived.Deep.QuietTactic
import Derived.BigQuiet
import Derived.Deep.RegionHeld3
import Derived.Deep.CutRange
import Derived.Deep.CutBlock
import Derived.Deep.LoopGhost
import Derived.WalkSmall
import Derived.ChangeSame
import Derived.JoinedOf
import Derived.JoinedAt
import Derived.RowKit3
import Derived.Deep.Slices
import Derived.WideKeyArgs
import Derived.Deep.Quiet
import Derived.StillTail
import Derived.Deep.SlicePairs
import Derived.Deep.AppendLies
import Derived.Deep.RegionLaw
import Derived.Lib.SliceRun
import Derived.WideKeyRuns
import Derived.Maps.Own
import Derived.Test.YtnnfafilgiajoaaGreatZ01
import Derived.Test.YtnnfafilgiajoaaGreatZ02
import Derived.Test.YtnnfafilgiajoaaGreatZ03
import Derived.Test.YtnnfafilgiajoaaGreatZ04
import Derived.Test.YtnnfafilgiajoaaGreatZ05
import Derived.Test.YtnnfafilgiajoaaGreatZ06
import Derived.Test.YtnnfafilgiajoaaGreatZ07
import Derived.Test.YtnnfafilgiajoaaGreatZ08
import Derived.Test.YtnnfafilgiajoaaGreatZ09
import Derived.Test.YtnnfafilgiajoaaGreatZ10
import Derived.Test.YtnnfafilgiajoaaGreatZ11
import Derived.Test.YtnnfafilgiajoaaGreatZ12
import Derived.Test.YtnnfafilgiajoaaGreatZ13
import Derived.Test.YtnnfafilgiajoaaGreatZ14
import Derived.Test.YtnnfafilgiajoaaGreatZ15
import Derived.Test.YtnnfafilgiajoaaGreatZ16
import Derived.Test.YtnnfafilgiajoaaGreatZ17
import Derived.Test.YtnnfafilgiajoaaGreatZ18
import Derived.Test.YtnnfafilgiajoaaGreatZ19
import Derived.Test.YtnnfafilgiajoaaGreatZ20
import Derived.Test.YtnnfafilgiajoaaGreatZ21
import Derived.Test.YtnnfafilgiajoaaGreatZ22
import Derived.Test.YtnnfafilgiajoaaGreatZ23
import Derived.Test.YtnnfafilgiajoaaGreatZ24
import Derived.Test.YtnnfafilgiajoaaGreatZ25
import Derived.Test.YtnnfafilgiajoaaGreatZ26
import Derived.Test.YtnnfafilgiajoaaGreatZ27
import Derived.Test.YtnnfafilgiajoaaGreatZ28
import Derived.Test.YtnnfafilgiajoaaGreatZ29
import Derived.Test.YtnnfafilgiajoaaGreatZ30
import Derived.Test.YtnnfafilgiajoaaGreatZ31
import Derived.Test.YtnnfafilgiajoaaGreatZ32
import Derived.Test.YtnnfafilgiajoaaGreatZ33
import Derived.Test.YtnnfafilgiajoaaGreatZ34
import Derived.Test.YtnnfafilgiajoaaGreatZ35
import Derived.Test.YtnnfafilgiajoaaGreatZ36
import Derived.Test.YtnnfafilgiajoaaGreatZ37
import Derived.Test.YtnnfafilgiajoaaGreatZ38
import Derived.Test.YtnnfafilgiajoaaGreatZ39
import Derived.Test.YtnnfafilgiajoaaGreatZ40
import Derived.Test.YtnnfafilgiajoaaGreatZ41
import Derived.Test.YtnnfafilgiajoaaGreatZ42
import Derived.Test.YtnnfafilgiajoaaGreatZ43
import Derived.Test.YtnnfafilgiajoaaGreatZ44
import Derived.Test.YtnnfafilgiajoaaGreatZ45
import Derived.Test.YtnnfafilgiajoaaGreatZ46
import Derived.Test.YtnnfafilgiajoaaGreatZ47
import Derived.Test.YtnnfafilgiajoaaGreatZ48
import Derived.Test.YtnnfafilgiajoaaGreatZ49
namespace Go.Proofs.YtnnfafilgiajoaaGreat
open Go.ChangeShapes Go.WideShapes Go.ChangeAt Go.RowKit
instance (w0:World):Nonempty (Behind w0):=⟨⟨w0,Below.refl _ _⟩⟩
theorem log2_mul_pow {m k:Nat} (h:m≠0):(m*2^k).log2=m.log2+k:=by
 have hp:=Nat.two_pow_pos k
 have h0:m*2^k≠0:=by
   intro c
   rcases Nat.mul_eq_zero.1 c with c | c
   · exact h c
   · omega
 have a:=Nat.log2_self_le h
 have b:=@Nat.lt_log2_self m
 have l1:m.log2+k≤(m*2^k).log2:=by
   rw [Nat.le_log2 h0,Nat.pow_add]
   exact Nat.mul_le_mul_right _ a
 have l2:(m*2^k).log2<m.log2+1+k:=by
   rw [Nat.log2_lt h0,Nat.pow_add]
   exact Nat.mul_lt_mul_of_pos_right b hp
 omega
def rmagP (lo hi:Nat):Nat:=if hsB lo hi then (if ltB (lo%9223372036854775808) (hi%9223372036854775808) then hi%9223372036854775808 else lo%9223372036854775808) else 0
theorem rmag_is (lo hi:Nat):rmagP lo hi=magP lo hi:=by
 unfold rmagP magP
 cases hs:hsB lo hi
 · rfl
 · simp only [if_true]
   have S:=hs_iff.1 hs
   have w1:lo%9223372036854775808<9223372036854775808:=Nat.mod_lt _ (by omega)
   have w2:hi%9223372036854775808<9223372036854775808:=Nat.mod_lt _ (by omega)
   rw [maxW_is (by omega) (by omega),lt_is (by rw [nan_abs];exact S.nl) (by rw [nan_abs];exact S.nh)]
   simp only [decide_eq_true_eq]
set_option maxHeartbeats 1000000 in
theorem rmag_core (lo hi al ah:Nat) (b b2:Bool)
   (c1:∀w,Calls Tryz.prog 24 #[.agg #[.float .f64 lo,.float .f64 hi]] w fun e w'=>e=.returned (.bool (!b))∧Below w.heap.size w w')
   (c2:∀w,Calls Tryz.prog 39 #[.float .f64 lo] w fun e w'=>e=.returned (.float .f64 al)∧w=w')
   (c3:∀w,Calls Tryz.prog 39 #[.float .f64 hi] w fun e w'=>e=.returned (.float .f64 ah)∧w=w')
   (o:(FloatKind.f64.format.order ah al==some .gt)=b2) (w:World) :
   Calls Tryz.prog 17 #[.agg #[.float .f64 lo,.float .f64 hi]] w fun e w'=>e=.returned (.float .f64 (if b then (if b2 then ah else al) else 0))∧Below w.heap.size w w':=by
 have X:Has2 (w.alloc (.cells #[.float .f64 lo,.float .f64 hi] 40)) w.heap.size (.float .f64 lo) (.float .f64 hi):=⟨by go_simp,by go_simp,by go_simp,by go_simp,by go_size⟩
 have HB:Below w.heap.size w (w.alloc (.cells #[.float .f64 lo,.float .f64 hi] 40)):=by go_grown
 cases b <;> cases b2
 all_goals
   simp only [Bool.not_true,Bool.not_false,if_true,Bool.false_eq_true,if_false] at c1 ⊢
   go_enter Tryz.func17,Tryz.ntmps17
   go_wp2_with fail
   generalize w.alloc (.cells #[.float .f64 lo,.float .f64 hi] 40)=V0 at *
   obtain⟨x0,x1,x2,x3,x4⟩:=id X
   go_wp2_with (first
     | (go_at_call 24;refine (c1 _).mono ?_;rintro _ w1 ⟨rfl,hb1⟩;replace X:=X.keep hb1;replace HB:=later HB hb1;clear hb1;clear x0 x1 x2 x3 x4
        obtain⟨x0,x1,x2,x3,x4⟩:=id X)
     | (go_at_call_of 39 (Value.float .f64 lo);refine (c2 _).mono ?_;rintro _ _ ⟨rfl,rfl⟩)
     | (go_at_call 39;refine (c3 _).mono ?_;rintro _ _ ⟨rfl,rfl⟩))
   go_ret
   exact⟨rfl,HB⟩
theorem rMag_w (lo hi:Nat) (hl:lo<18446744073709551616) (hh:hi<18446744073709551616) (w:World) :
   Calls Tryz.prog 17 #[.agg #[.float .f64 lo,.float .f64 hi]] w fun e w'=>e=.returned (.float .f64 (magP lo hi))∧Below w.heap.size w w':=by
 rw [←rmag_is]
 exact rmag_core lo hi _ _ _ _ (fun w=>none_w lo hi hl hh w) (fun w=>abs_w lo hl w) (fun w=>abs_w hi hh w) (o_gt absw absw) w
instance (p:Nat×Nat):Decidable (W2 p):=inferInstanceAs (Decidable (_∧_))
theorem right_of {v:Int} {n:Nat} {X:Nat→Opw} {m:Nat} {Y:Nat→Int} (h1:0≤v∧v≤64∧n≤4000∧m≤400) (h2:∀i,i<n→opB (X i) (i:Int) v=true) (h3:∀k,k<m→0≤Y k∧Y k<(n:Int)):rightT v n X m Y=true:=by
 unfold rightT sizesB opsB outsB
 simp only [Bool.and_eq_true]
 refine⟨⟨decide_eq_true h1, ?_⟩, ?_⟩
 · rw [all_upto2];exact h2
 · rw [all_upto2];exact fun k hk=>decide_eq_true (h3 k hk)
theorem cut_le (neg:Bool) (n d:Nat):Ieee.Toward.cut .even neg n d≤n/2^d+1:=by
 unfold Ieee.Toward.cut
 simp only [Nat.one_shiftLeft]
 have lo:n/2^(min d (n.log2+2))≤n/2^d:=by
   rcases Nat.le_total d (n.log2+2) with c | c
   · rw [Nat.min_eq_left c]
     exact Nat.le_refl _
   · rw [Nat.min_eq_right c]
     have:n<2^(n.log2+2):=Nat.lt_of_lt_of_le (@Nat.lt_log2_self n) (Nat.pow_le_pow_right (by omega) (by omega))
     rw [Nat.div_eq_of_lt this]
     exact Nat.zero_le _
 generalize n/2^(min d (n.log2+2))=q at *
 have:∀b:Bool,b.toNat≤1:=fun b=>by cases b <;> simp
 have:=this (decide (2^min d (n.log2+2)<2*(n%2^min d (n.log2+2))) || 2^min d (n.log2+2)==2*(n%2^min d (n.log2+2))&&q%2==1)
 omega
theorem read_parts {t:Nat} (hf:t<9218868437227405312):∃m j:Nat,Ieee.double.read t=.number false m (-1074+(j:Int))∧((t<4503599627370496∧m=t∧j=0)∨(4503599627370496≤t∧m=4503599627370496+t%4503599627370496∧j=t/4503599627370496-1)):=by
 have e:=read_eq t (by omega)
 have e1:t%9223372036854775808=t:=Nat.mod_eq_of_lt (by omega)
 rw [e1,if_pos hf,decide_eq_false (by omega)] at e
 by_cases c:t<4503599627370496
 · rw [if_pos c] at e
   exact⟨t,t/4503599627370496-1,e,Or.inl ⟨c,rfl,by omega⟩⟩
 · rw [if_neg c] at e
   exact⟨_,_,e,Or.inr ⟨by omega,rfl,rfl⟩⟩
set_option maxRecDepth 4000 in
theorem quo_pow (t b c:Nat) (hf:t<9218868437227405312) (hc:1≤c) (hc2:c≤5) (hb:Ieee.double.read b=.number false 4503599627370496 ((c:Int)-52)):∃r,floatBits .quo .f64 t b=some r∧r≤t∧(c=5→t≤4607182418800017408→r≤4589168020290535424):=by
 obtain⟨m,j,hr,hm⟩:=read_parts hf
 have hB:Ieee.double.binade=4503599627370496:=by decide
 have hI:Ieee.double.infRung=9218868437227405312:=by decide
 have hP:Ieee.double.leastPlace=-1074:=by decide
 have hS:Ieee.double.signWeight=9223372036854775808:=by decide
 have hw:∀x,Ieee.double.word false x=x:=fun x=>by unfold Ieee.Format.word;rfl
 by_cases m0:m=0
 · refine⟨0, ?_,by omega,fun _ _=>by omega⟩
   show ((Ieee.double.read t).quotient 54 (Ieee.double.read b)).map Ieee.double.write=_
   rw [hr,hb]
   subst m0
   simp only [Ieee.Datum.quotient]
   rw [if_neg (by omega)]
   simp only [Option.map_some,Nat.zero_shiftLeft]
   refine congrArg some ?_
   unfold Ieee.Format.write Ieee.Format.nearest
   simp only
   rw [if_pos (by decide)]
   exact hw 0
 · have hlog:m.log2≤52:=by
     have:m<2^53:=by
       rw [show (2:Nat)^53=9007199254740992 by decide]
       omega
     have:=(Nat.log2_lt m0).2 this
     omega
   obtain⟨more,hmore⟩:∃more,more=106-m.log2:=⟨_,rfl⟩
   have l52:Nat.log2 4503599627370496=52:=by decide
   have e1:m <<< more/4503599627370496=m*2^(more-52)∧m <<< more%4503599627370496=0:=by
     rw [Nat.shiftLeft_eq,show more=(more-52)+52 by omega,Nat.pow_add,←Nat.mul_assoc,show (4503599627370496:Nat)=2^52 by decide]
     rw [show more-52+52-52=more-52 by omega]
     exact⟨Nat.mul_div_cancel _ (Nat.two_pow_pos 52),Nat.mul_mod_left _ _⟩
   have hmag:2*(m <<< more/4503599627370496)+(m <<< more%4503599627370496 != 0).toNat=m*2^(more-51):=by
     rw [e1.1,e1.2,show more-51=more-52+1 by omega,Nat.pow_succ]
     simp
     rw [Nat.mul_comm 2,Nat.mul_assoc]
   refine⟨Ieee.double.nearest false (m*2^(more-51)) (-1074+(j:Int)-((c:Int)-52)-(more:Int)-1), ?_, ?_⟩
   · show ((Ieee.double.read t).quotient 54 (Ieee.double.read b)).map Ieee.double.write=_
     rw [hr,hb]
     simp only [Ieee.Datum.quotient]
     rw [if_neg (by omega),l52,show 54+52-m.log2=more by omega,hmag]
     rfl
   · have hlm:(m*2^(more-51)).log2=m.log2+(more-51):=log2_mul_pow m0
     have hne:m*2^(more-51)≠0:=Nat.mul_ne_zero m0 (Nat.ne_of_gt (Nat.two_pow_pos _))
     unfold Ieee.Format.nearest
     rw [if_neg hne]
     simp only [hB,hI,hP,hw,hlm,show Ieee.double.fractionBits=52 from rfl]
     generalize hl:max (-1074+(j:Int)-((c:Int)-52)-(more:Int)-1+((m.log2+(more-51):Nat):Int)-((52:Nat):Int)) (-1074)=last
     generalize hpl:-1074+(j:Int)-((c:Int)-52)-(more:Int)-1=place at *
     have hsh:(place-last).toNat=0:=by omega
     rw [hsh,Nat.shiftLeft_zero]
     have hk:=cut_le false (m*2^(more-51)) (last-place).toNat
     generalize Ieee.Toward.cut .even false (m*2^(more-51)) (last-place).toNat=kept at *
     have hmin:min ((last - -1074).toNat*4503599627370496+kept) 9218868437227405312≤(last - -1074).toNat*4503599627370496+kept:=Nat.min_le_left _ _
     generalize min ((last - -1074).toNat*4503599627370496+kept) 9218868437227405312=r at *
     by_cases hcj:j<c
     · have cA:last=-1074:=by omega
       have hd:(last-place).toNat=(more-51)+(c-j):=by omega
       have hq:m*2^(more-51)/2^(last-place).toNat≤m/2:=by
         rw [hd,Nat.pow_add,←Nat.div_div_eq_div_mul,Nat.mul_div_cancel _ (Nat.two_pow_pos _)]
         refine Nat.div_le_div_left ?_ (by omega)
         calc 2=2^1:=rfl
           _≤2^(c-j):=Nat.pow_le_pow_right (by omega) (by omega)
       have z:(last - -1074).toNat=0:=by omega
       rw [z] at hmin
       rcases hm with ⟨h1,h2,h3⟩ | ⟨h1,h2,h3⟩
       · exact⟨by omega,fun _ _=>by omega⟩
       · exact⟨by omega,fun _ _=>by omega⟩
     · have h52:m.log2=52∧4503599627370496≤t∧m<9007199254740992∧j=t/4503599627370496-1:=by
         rcases hm with ⟨h1,h2,h3⟩ | ⟨h1,h2,h3⟩
         · exfalso
           omega
         · have:52≤m.log2:=(Nat.le_log2 m0).2 (by rw [show (2:Nat)^52=4503599627370496 by decide];omega)
           exact⟨by omega,h1,by omega,h3⟩
       obtain⟨g1,g2,g3,g4⟩:=h52
       have hm54:more=54:=by omega
       subst hm54
       have hd:(last-place).toNat=3:=by omega
       rw [hd] at hk
       have hq:m*2^(54-51)/2^3=m:=by
         rw [show 54-51=3 by omega]
         exact Nat.mul_div_cancel _ (Nat.two_pow_pos 3)
       rw [hq] at hk
       have hlast:(last - -1074).toNat=j-c:=by omega
       have hjc:c≤j:=by omega
       rw [hlast] at hmin
       have b1:r≤(j-c)*4503599627370496+9007199254740992:=by omega
       have ht:t=(j+1)*4503599627370496+t%4503599627370496:=by
         have:=Nat.div_add_mod t 4503599627370496
         have:t/4503599627370496=j+1:=by omega
         omega
       refine⟨by omega,fun h5 h6=>by omega⟩
end Go.Proofs.YtnnfafilgiajoaaGreat
