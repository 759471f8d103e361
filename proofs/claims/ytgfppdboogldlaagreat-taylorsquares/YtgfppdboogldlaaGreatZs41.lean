/- The series of x' = x x and of x' = x: their intervals as lists. -/
import Derived.Test.YtgfppdboogldlaaGreatZs40
namespace Go.Proofs.YtgfppdboogldlaaGreat
open Go.ChangeShapes Go.WideShapes Go.ChangeAt Go.RowKit
theorem sumT_congr {f g:Nat→Nat×Nat}:∀{n:Nat},(∀i,i<n→f i=g i)→sumT f n=sumT g n
 | 0,_=>rfl
 | n+1,h=>by
   show addQ (sumT f n) (f n)=addQ (sumT g n) (g n)
   rw [sumT_congr (n:=n) (fun i hi=>h i (by omega)),h n (by omega)]
def sqL (x:Nat×Nat):Nat→List (Nat×Nat)
 | 0=>[x]
 | k+1=>sqL x k++[divQ (sumT (fun i=>mulQ ((sqL x k).getD i (0,0)) ((sqL x k).getD (k-i) (0,0))) (k+1)) (wholeQ ((k:Int)+1))]
def sqX (x:Nat×Nat) (k:Nat):Nat×Nat:=(sqL x k).getD k (0,0)
def sqS (x:Nat×Nat) (k:Nat):Nat×Nat:=sumT (fun i=>mulQ (sqX x i) (sqX x (k-i))) (k+1)
theorem sqL_len (x:Nat×Nat):∀k,(sqL x k).length=k+1
 | 0=>rfl
 | k+1=>by show (sqL x k++[_]).length=_;rw [List.length_append,sqL_len x k];rfl
theorem sqL_at (x:Nat×Nat) {i:Nat}:∀{k:Nat},i≤k→(sqL x k).getD i (0,0)=sqX x i:=by
 intro k
 induction k with
 | zero=>
   intro h
   obtain rfl:i=0:=by omega
   rfl
 | succ k ih =>
   intro h
   by_cases e:i=k+1
   · subst e;rfl
   · rw [←ih (by omega)]
     show (sqL x k++[_]).getD i (0,0)=_
     rw [List.getD_eq_getElem?_getD,List.getD_eq_getElem?_getD,List.getElem?_append_left (by rw [sqL_len];omega)]
theorem sqX_succ (x:Nat×Nat) (k:Nat):sqX x (k+1)=divQ (sqS x k) (wholeQ ((k:Int)+1)):=by
 show (sqL x k++[_]).getD (k+1) (0,0)=_
 rw [List.getD_eq_getElem?_getD,List.getElem?_append_right (by rw [sqL_len];omega),sqL_len,Nat.sub_self]
 show divQ _ _=_
 unfold sqS
 rw [sumT_congr (g:=fun i=>mulQ (sqX x i) (sqX x (k-i))) fun i hi=>by rw [sqL_at x (by omega),sqL_at x (by omega)]]
theorem sqX_W2 {x:Nat×Nat} (hx:W2 x) (k:Nat):W2 (sqX x k):=by
 induction k using Nat.strongRecOn with
 | ind k ih =>
   cases k with
   | zero=>exact hx
   | succ k =>
     rw [sqX_succ]
     exact divQ_W2 (sumT_W2 fun i hi=>mulQ_W2 (ih i (by omega)) (ih (k-i) (by omega))) (wholeQ_W2 _)
theorem sqV_W2 {x:Nat×Nat} (hx:W2 x) (j k:Nat):W2 (if j=0 then sqX x k else sqS x k):=by
 split
 · exact sqX_W2 hx k
 · exact sumT_W2 fun i _=>mulQ_W2 (sqX_W2 hx _) (sqX_W2 hx _)
def pwR (v:Rat):Nat→Rat
 | 0=>1
 | n+1=>pwR v n*v
theorem pwR_add (v:Rat) (a:Nat):∀b,pwR v (a+b)=pwR v a*pwR v b
 | 0=>by show pwR v a=pwR v a*1;grind
 | b+1=>by show pwR v (a+b)*v=pwR v a*(pwR v b*v);rw [pwR_add v a b];grind
theorem hi_nul (x:Rat) (hx:x=0) {e:Nat} (he:e<70):HI (wholeQ 0) x (bN 0 e):=by
 subst hx
 obtain⟨a,b⟩:=g_nul
 have b':bN 0 e=(0,0):=b ⟨e,he⟩
 rw [a,b']
 have k0:key 0=0:=by decide
 refine⟨⟨by decide,by decide,zero_some,Or.inr (by show vq (key 0)≤0;rw [k0,vq_zero];exact Rat.le_refl),Or.inr (by show vq (-key 0)≤-0;rw [k0,show (-0:Int)=0 by rfl,vq_zero];grind)⟩,In.refl (by decide) (by decide) zero_some⟩
theorem sq_sum {x:Nat×Nat} {v:Rat} {k:Nat} (hk:k<13) (ih:∀i,i≤k→HI (sqX x i) (pwR v (i+1)) (bN 1 (4*i+4))):∀n,n≤k+1→HI (sumT (fun i=>mulQ (sqX x i) (sqX x (k-i))) n) (((n:Int):Rat)*pwR v (k+2)) (bN n (4*k+8))
 | 0,_=>hi_nul _ (by show ((0:Int):Rat)*_=0;grind) (by omega)
 | n+1,hn=>by
   have a:=sq_sum hk ih n (by omega)
   have m:=hi_mul (ih n (by omega)) (ih (k-n) (by omega)) (g_mul ⟨k,hk⟩ ⟨n,by omega⟩ (by show n≤k;omega))
   have s:=hi_add a m (g_add ⟨k,hk⟩ ⟨n,by omega⟩)
   have e:pwR v (n+1)*pwR v (k-n+1)=pwR v (k+2):=by rw [←pwR_add,show n+1+(k-n+1)=k+2 by omega]
   rw [e] at s
   have e2:((n:Int):Rat)*pwR v (k+2)+pwR v (k+2)=(((n+1:Nat):Int):Rat)*pwR v (k+2):=by
     rw [show ((n+1:Nat):Int)=(n:Int)+1 by omega,Rat.intCast_add]
     grind
   rw [e2] at s
   exact s
theorem sq_hi {x:Nat×Nat} {v:Rat} (h:HI x v (bN 1 4)):∀m k,k≤m→k≤13→HI (sqX x k) (pwR v (k+1)) (bN 1 (4*k+4)):=by
 intro m
 induction m with
 | zero =>
   intro k hk _
   obtain rfl:k=0:=by omega
   show HI x (1*v) (bN 1 4)
   rw [show 1*v=v by grind]
   exact h
 | succ m ih =>
   intro k hk h13
   cases k with
   | zero=>exact ih 0 (by omega) (by omega)
   | succ k =>
     have s:=sq_sum (by omega) (fun i hi=>ih i (by omega) (by omega)) (k+1) (Nat.le_refl _)
     have d:=hi_div s (n:=k) (by omega) (g_div ⟨k,by omega⟩)
     rw [sqX_succ]
     have e:(((k+1:Nat):Int):Rat)*pwR v (k+2)*(((k:Int)+1:Int):Rat)⁻¹=pwR v (k+2):=by
       have c:(((k:Int)+1:Int):Rat)≠0:=by
         have:(0:Rat)<(((k:Int)+1:Int):Rat):=Rat.intCast_pos.2 (by omega)
         grind
       have i:=Rat.mul_inv_cancel _ c
       rw [show ((k+1:Nat):Int)=(k:Int)+1 by omega]
       generalize (((k:Int)+1:Int):Rat)=A at *
       generalize A⁻¹=B at *
       grind
     rw [e] at d
     exact d
theorem sq_end {x:Nat×Nat} {v:Rat} (h:HI x v (bN 1 4)) {k:Nat} (hk:k<13) (j:Nat):endB (if j=0 then sqX x k else sqS x k)=false:=by
 split
 · obtain⟨a,b⟩:=g_key ⟨k,by omega⟩ ⟨1,by omega⟩
   exact (sq_hi h k k (Nat.le_refl _) (by omega)).bound a b
 · obtain⟨a,b⟩:=g_key ⟨k+1,by omega⟩ ⟨k+1,by omega⟩
   exact (sq_sum hk (fun i hi=>sq_hi h i i (Nat.le_refl _) (by omega)) (k+1) (Nat.le_refl _)).bound a b
def exX (x:Nat×Nat):Nat→Nat×Nat
 | 0=>x
 | k+1=>divQ (exX x k) (wholeQ ((k:Int)+1))
def exQR (v:Rat):Nat→Rat
 | 0=>v
 | k+1=>exQR v k*(((k:Int)+1:Int):Rat)⁻¹
theorem exX_W2 {x:Nat×Nat} (hx:W2 x):∀k,W2 (exX x k)
 | 0=>hx
 | k+1=>divQ_W2 (exX_W2 hx k) (wholeQ_W2 _)
theorem g_ex:∀k:Fin 13,key (bN 1 4).1≤key (divQ (bN 1 4) (wholeQ ((k.1:Int)+1))).1∧key (divQ (bN 1 4) (wholeQ ((k.1:Int)+1))).2≤key (bN 1 4).2:=by decide +kernel
theorem ex_hi {x:Nat×Nat} {v:Rat} (h:HI x v (bN 1 4)):∀k,k≤13→HI (exX x k) (exQR v k) (bN 1 4)
 | 0,_=>h
 | k+1,hk=>by
   have a:=ex_hi h k (by omega)
   have d:=hi_div a (n:=k) (by omega) rfl
   obtain⟨k1,k2⟩:=g_ex ⟨k,by omega⟩
   exact⟨d.h,⟨d.i.S,a.i.T,Int.le_trans k1 d.i.kl,Int.le_trans d.i.kh k2,d.i.a1,d.i.a2,a.i.b1,a.i.b2⟩⟩
theorem ex_end {x:Nat×Nat} {v:Rat} (h:HI x v (bN 1 4)) {k:Nat} (hk:k<13):endB (exX x k)=false:=by
 obtain⟨a,b⟩:=g_key ⟨0,by omega⟩ ⟨1,by omega⟩
 exact (ex_hi h k (by omega)).bound a b
end Go.Proofs.YtgfppdboogldlaaGreat
