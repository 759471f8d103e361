/- The reference's numbers of stage 11: whole numbers as exact ones, the order, sums and differences. -/
import Derived.Test.YtbejmklkicoibaaKe12
namespace Go.Proofs.Ytbejmklkicoibaa
open Go.ChangeShapes Go.WideShapes Go.ChangeAt Go.RowKit
structure Whl (a:Nm) (z:Int):Prop where
 e:a.e=0
 v:sgnd a.g a.m=z
theorem Whl.m {a:Nm} {z:Int} (h:Whl a z):a.m=z.natAbs:=by
 have:=h.v
 unfold sgnd at this
 split at this <;> omega
theorem Whl.g {a:Nm} {z:Int} (h:Whl a z) (hz:z≠0):a.g=decide (z<0):=by
 have:=h.v
 unfold sgnd at this
 cases hg:a.g
 ·rw [hg] at this
  simp only [Bool.false_eq_true,if_false] at this
  rw [decide_eq_false (by omega)]
 ·rw [hg] at this
  simp only [if_true] at this
  rw [decide_eq_true (by omega)]
theorem whl_num (n:Int):Whl (numR n) n:=by
 refine⟨rfl, ?_⟩
 unfold numR sgnd
 by_cases c:n<0
 ·simp only [c,decide_true,if_true];omega
 ·simp only [c,decide_false,Bool.false_eq_true,if_false];omega
theorem sgnd_both (g h:Bool) (a b:Nat):sgnd (g != h) (a*b)=sgnd g a*sgnd h b:=by
 unfold sgnd
 cases g <;> cases h <;> simp [Int.natCast_mul,Int.neg_mul,Int.mul_neg]
theorem whl_prod {a b:Nm} {x y:Int} (ha:Whl a x) (hb:Whl b y):Whl (prodX a b) (x*y):=by
 unfold prodX
 by_cases c:a.m*b.m=0
 ·rw [if_pos c]
  refine⟨rfl, ?_⟩
  rcases Nat.mul_eq_zero.1 c with z | z
  ·have:x=0:=by have:=ha.m;omega
   rw [this,Int.zero_mul];rfl
  ·have:y=0:=by have:=hb.m;omega
   rw [this,Int.mul_zero];rfl
 ·rw [if_neg c]
  refine⟨by show a.e+b.e=0;rw [ha.e,hb.e];rfl, ?_⟩
  show sgnd (a.g != b.g) (a.m*b.m)=x*y
  rw [sgnd_both,ha.v,hb.v]
theorem whl_sum {a b:Nm} {x y:Int} (ha:Whl a x) (hb:Whl b y):Whl (sumX a b) (x+y):=by
 have e1:(a.e-min a.e b.e).toNat=0:=by rw [ha.e,hb.e];rfl
 have e2:(b.e-min a.e b.e).toNat=0:=by rw [ha.e,hb.e];rfl
 have e3:min a.e b.e=0:=by rw [ha.e,hb.e];rfl
 have va:=ha.v
 have vb:=hb.v
 unfold sumX
 rw [e1,e2,e3,Nat.pow_zero,Nat.mul_one,Nat.mul_one]
 by_cases c1:a.m=0
 ·rw [if_pos c1]
  have:x=0:=by have:=ha.m;omega
  rw [this,Int.zero_add];exact hb
 rw [if_neg c1]
 by_cases c2:b.m=0
 ·rw [if_pos c2]
  have:y=0:=by have:=hb.m;omega
  rw [this,Int.add_zero];exact ha
 rw [if_neg c2]
 have k:∀g m,sgnd g m=if g then -(m:Int) else (m:Int):=fun _ _=>rfl
 rw [k] at va vb
 by_cases c3:a.g=b.g
 ·rw [if_pos c3]
  refine⟨rfl, ?_⟩
  show sgnd a.g (a.m+b.m)=x+y
  rw [k]
  rw [<-c3] at vb
  cases hg:a.g <;> rw [hg] at va vb <;> simp only [Bool.false_eq_true,if_false,if_true] at va vb ⊢ <;> omega
 rw [if_neg c3]
 have c4:b.g=!a.g:=by cases ha:a.g <;> cases hb:b.g <;> simp [ha,hb] at c3 ⊢
 rw [c4] at vb ⊢
 by_cases c5:a.m=b.m
 ·rw [if_pos c5]
  refine⟨rfl, ?_⟩
  show sgnd false 0=x+y
  rw [k]
  cases hg:a.g <;> rw [hg] at va vb <;> simp only [Bool.not_false,Bool.not_true,Bool.false_eq_true,if_false,if_true] at va vb ⊢ <;> omega
 rw [if_neg c5]
 by_cases c6:b.m<a.m
 ·rw [if_pos c6]
  refine⟨rfl, ?_⟩
  show sgnd a.g (a.m-b.m)=x+y
  rw [k]
  cases hg:a.g <;> rw [hg] at va vb <;> simp only [Bool.not_false,Bool.not_true,Bool.false_eq_true,if_false,if_true] at va vb ⊢ <;> omega
 ·rw [if_neg c6]
  refine⟨rfl, ?_⟩
  show sgnd (!a.g) (b.m-a.m)=x+y
  rw [k]
  cases hg:a.g <;> rw [hg] at va vb <;> simp only [Bool.not_false,Bool.not_true,Bool.false_eq_true,if_false,if_true] at va vb ⊢ <;> omega
theorem sm_whl {a:Nm} {z:Int} (h:Whl a z) {t:Nat} (ht:t<=2000) (hz:z.natAbs<2^t):Sm a:=by
 have q:∀K:Nat,t<=K->a.m<2^K:=fun K hK=>by rw [h.m];exact Nat.lt_of_lt_of_le hz (Nat.pow_le_pow_right (by omega) hK)
 exact⟨q 2000 ht,by rw [h.e];decide,by rw [h.e];decide⟩
theorem nat64z {a b:Int} (ha:a.natAbs<2^64) (hb:b.natAbs<2^64):(a*b).natAbs<2^128:=by
 rw [Int.natAbs_mul]
 exact nat64 ha hb
theorem nat129 {x y:Int} (hx:x.natAbs<2^128) (hy:y.natAbs<2^128):(x+y).natAbs<2^129:=by omega
end Go.Proofs.Ytbejmklkicoibaa
