/- lin.Inverse: it ends: refused, or a square of intervals. What a norm tells: the amounts of rational numbers that a table of intervals holds; below 1 where room is left. -/
import Derived.Test.YtlabmpngbcnhpaaGreatZi34
import Derived.Test.YtlabmpngbcnhpaaGreatZi32
import Derived.Test.YtlabmpngbcnhpaaGreatZi35
import Derived.Test.YtlabmpngbcnhpaaGreatZi36
import Derived.Test.YtlabmpngbcnhpaaGreatZi33
import Derived.Test.YtlabmpngbcnhpaaGreatZi25
namespace Go.Proofs.YtlabmpngbcnhpaaGreat
open Go.ChangeShapes Go.WideShapes Go.ChangeAt Go.RowKit
def Sq (w:World) (A:Option Addr) (n:Nat):Prop:=∃g h F,A=some ⟨g,0,none⟩∧Grd w g n n h F∧∀r,r<n→∀c,c<n→(F r c).1<18446744073709551616∧(F r c).2<18446744073709551616
theorem Sq.rws {w:World} {A:Option Addr} {n:Nat} (h:Sq w A n) (hn:n≤24):∃RA RC X,Rws w A n RA (fun _=>n) RC X:=by
 obtain⟨g,k,F,rfl,G,l⟩:=h
 exact⟨_,_,_,G.rws (by omega) l⟩
def Nr (w:World) (A:Option Addr) (l n:Nat):Prop:=∃RA RL RC X,Rfs w A l RA RL RC X∧(l=0∨l=n)∧∀r,r<l→RL r=0∨RL r=n
theorem near_nr (gb n b:Nat) (hb:Nat→Nat) (hn:n≤24) (w:World) (T:Tab b w gb n n hb) :
   Calls Tryz.prog 15 #[.slice (some ⟨gb,0,none⟩) n n] w fun e w'=>(∃A l C,e=.returned (.slice A l C)∧Nr w' A l n)∧Below w.heap.size w w':=by
 refine (nearly_w gb n b hb hn w T).mono fun _ _ ⟨a,d⟩=>⟨?_,d⟩
 rcases a with rfl | ⟨c,f,rfl,p⟩
 · exact⟨none,0,0,rfl,fun _=>none,fun _=>0,fun _=>0,fun _ _=>0,fun r hr=>absurd hr (by omega),Or.inl rfl,fun r hr=>absurd hr (by omega)⟩
 · obtain⟨RA,RL,RC,X,V,h⟩:=p.rows hn
   exact⟨_,_,_,rfl,RA,RL,RC,X,V,Or.inr rfl,h⟩
def UpQ (a:Nat) (x:Rat):Prop:=a=9218868437227405312∨x≤vq (a:Int)
theorem am_hq {a:Nat} {x:Rat} (h:Am a) (h0:0≤x) (h1:UpQ a x):Hq (0,a) x:=by
 have k0:key 0=0:=by decide
 have kx:=key_am h
 have hn:=h.num
 have hl:=h.lt
 unfold Am at h
 refine⟨by omega,hl, ?_,Or.inr (by rw [k0,vq_zero];exact h0), ?_⟩
 · have n0:nanB 0=false:=by decide
   exact⟨n0,hn,by rw [k0,kx];omega,by rw [k0];omega,by rw [kx];omega,by simp,by show a≠_;omega⟩
 · show LoQ (-key a) (-x)
   rw [kx]
   rcases h1 with c | c
   · exact Or.inl (by omega)
   · refine Or.inr ?_
     rw [vq_neg]
     grind
theorem add_up {a b u:Nat} {x y:Rat} (ha:Am a) (hb:Am b) (x0:0≤x) (y0:0≤y) (X:UpQ a x) (Y:UpQ b y) (e:addR a b 1=some u) (hu:Am u):UpQ u (x+y):=by
 have A:=am_hq ha x0 X
 have B:=am_hq hb y0 Y
 have H:=hq_add A B
 have e0:addR 0 0 (-1)=some 0:=by decide
 have q:addP 0 a 0 b=(0,u):=by unfold addP;rw [hs_iff.2 A.S,hs_iff.2 B.S,e0,e];rfl
 have H2:Hq (addP 0 a 0 b) (x+y):=H
 rw [q] at H2
 have h:=H2.hi
 rw [show key (0,u).2=(u:Int) from key_am hu] at h
 rcases h with c | c
 · exact Or.inl (by omega)
 · refine Or.inr ?_
   rw [vq_neg] at c
   grind
theorem key_mod {a:Nat} (ha:a<18446744073709551616):-((a%9223372036854775808:Nat):Int)≤key a∧key a≤((a%9223372036854775808:Nat):Int):=by
 unfold key
 split <;> omega
theorem mod_am {a:Nat} (ha:nanB a=false):Am (a%9223372036854775808):=by
 unfold nanB at ha
 simp at ha
 exact ha
theorem hq_mag {p:Nat×Nat} {x:Rat} (X:Hq p x):UpQ (magP p.1 p.2) (absQ x):=by
 have a1:=mod_am X.S.nl
 have a2:=mod_am X.S.nh
 have e:magP p.1 p.2=if p.1%9223372036854775808<p.2%9223372036854775808 then p.2%9223372036854775808 else p.1%9223372036854775808:=by
   unfold magP
   rw [if_pos (hs_iff.2 X.S),maxW_am a1 a2]
 obtain⟨k1, -⟩:=key_mod X.l1
 obtain⟨-,k2⟩:=key_mod X.l2
 have g1:p.1%9223372036854775808≤magP p.1 p.2:=by rw [e];split <;> omega
 have g2:p.2%9223372036854775808≤magP p.1 p.2:=by rw [e];split <;> omega
 have am:Am (magP p.1 p.2):=mag_am
 have hlo:=X.lo
 have hhi:=X.hi
 clear e
 unfold Am at a1 a2 am
 generalize magP p.1 p.2=m at *
 generalize p.1%9223372036854775808=c at *
 generalize p.2%9223372036854775808=d at *
 by_cases hm:m=9218868437227405312
 · exact Or.inl hm
 refine Or.inr ?_
 rw [absQ_le]
 refine⟨?_, ?_⟩
 · rcases hhi with h | h
   · omega
   · rw [vq_neg] at h
     have:=vq_le (show key p.2≤(m:Int) by omega)
     grind
 · rcases hlo with h | h
   · omega
   · have:=vq_le (show -(m:Int)≤key p.1 by omega)
     rw [vq_neg] at this
     grind
theorem sumQ_nonneg {f:Nat→Rat} {n:Nat} (h:∀i,i<n→0≤f i):0≤sumQ f n:=by
 have:=sumQ_le (f:=fun _=>0) (g:=f) (n:=n) h
 rw [sumQ_zero] at this
 exact this
theorem sum_up (X:Nat→Nat×Nat) (x:Nat→Rat):∀n,(∀j,j<n→Hq (X j) (x j))→UpQ (sumP X n) (sumQ (fun j=>absQ (x j)) n):=by
 intro n
 induction n with
 | zero =>
   intro _
   refine Or.inr ?_
   show (0:Rat)≤vq ((0:Nat):Int)
   rw [show ((0:Nat):Int)=0 from rfl,vq_zero]
   exact Rat.le_refl
 | succ n ih =>
   intro h
   obtain⟨a,e⟩:=sum_am X n
   exact add_up a mag_am (sumQ_nonneg fun i _=>absQ_nonneg _) (absQ_nonneg _) (ih fun j hj=>h j (by omega)) (hq_mag (h n (by omega))) e (sum_am X (n+1)).1
theorem norm_sum (RL:Nat→Nat) (X:Nat→Nat→Nat×Nat):∀r i,i<r→sumP (X i) (RL i)≤normP RL X r:=by
 intro r
 induction r with
 | zero=>intro i hi;omega
 | succ r ih =>
   intro i hi
   show _≤if normP RL X r<sumP (X r) (RL r) then sumP (X r) (RL r) else normP RL X r
   by_cases c:i=r
   · subst c;split <;> omega
   · have:=ih i (by omega)
     split <;> omega
theorem vq_one:vq 4607182418800017408=1:=by
 unfold vq
 have:V 4607182418800017408=(unitN:Int):=by
   unfold unitN expN
   decide +kernel
 rw [this]
 exact iuQ_one
end Go.Proofs.YtlabmpngbcnhpaaGreat
