/- The inverse of what was scaled, turned back. The greatest powers' bounds; what was picked are rows of no floats, or of as many as there are rows. -/
import Derived.Test.YtlabmpngbcnhpaaGreatZi28
import Derived.Test.YtlabmpngbcnhpaaGreatZi23
import Derived.Test.YtlabmpngbcnhpaaGreatZi29
import Derived.Test.YtlabmpngbcnhpaaGreatZi32
import Derived.Test.YtlabmpngbcnhpaaGreatZi24
namespace Go.Proofs.YtlabmpngbcnhpaaGreat
open Go.ChangeShapes Go.WideShapes Go.ChangeAt Go.RowKit
theorem Has2.block {w w2:World} {b:Nat} {x y:Value} (h:Has2 w b x y) (e:w2.heap[b]?=w.heap[b]?) (hs:w.heap.size≤w2.heap.size):Has2 w2 b x y :=
 ⟨(World.cell?_of_block e).trans h.1,(World.cell?_of_block e).trans h.2.1,(World.frozen?_of_block e).trans h.2.2.1,(World.frozen?_of_block e).trans h.2.2.2.1,Nat.lt_of_lt_of_le h.2.2.2.2 hs⟩
def Pws (w:World) (A:Option Addr) (n:Nat) (P:Nat→Int):Prop:=∀j,j<n→∃b o,A=some ⟨b,o,none⟩∧b<w.heap.size∧w.cell? ⟨b,o+j,none⟩=some (.int .i64 (P j))∧-10000≤P j∧P j≤10000
theorem Pws.keep {w w2:World} {A:Option Addr} {n:Nat} {P:Nat→Int} (h:Pws w A n P) (hb:Below w.heap.size w w2):Pws w2 A n P:=fun j hj=>by
 obtain⟨b,o,e,l,c,r⟩:=h j hj
 exact⟨b,o,e,Nat.lt_of_lt_of_le l hb.size,keepsC hb c l,r⟩
theorem gp_some (X:Nat→Nat) (D:Nat→Int) (lo hi:Int) (hlo:-100000≤lo) (hhi:hi≤100000):∀n,(∀j,j<n→finB (X j)=true)→(∀j,j<n→zeB (X j)=false→lo≤D j∧D j≤hi)→gpI X D n=-9223372036854775808∨(-1074-hi≤gpI X D n∧gpI X D n≤1035-lo)
 | 0,_,_=>Or.inl rfl
 | n+1,hf,hD=>by
   have ih:=gp_some X D lo hi hlo hhi n (fun j hj=>hf j (by omega)) (fun j hj=>hD j (by omega))
   unfold gpI
   cases hz:zeB (X n)
   · rw [if_neg (by simp)]
     have b:=pw_bounds (hf n (by omega))
     have d:=hD n (by omega) hz
     right
     omega
   · rw [if_pos rfl]
     exact ih
theorem gp_seen (X:Nat→Nat) (D:Nat→Int) (lo hi:Int) (hlo:-100000≤lo) (hhi:hi≤100000) (n:Nat) (hf:∀j,j<n→finB (X j)=true) (hD:∀j,j<n→zeB (X j)=false→lo≤D j∧D j≤hi) (j:Nat) (hj:j<n) (hz:zeB (X j)=false):-1074-hi≤gpI X D n∧gpI X D n≤1035-lo:=by
 rcases gp_some X D lo hi hlo hhi n hf hD with h | h
 · exfalso
   have up:∀m,j<m→m≤n→-1074-hi≤gpI X D m:=fun m=>by
     induction m with
     | zero=>intro h;omega
     | succ m ih =>
       intro h1 h2
       unfold gpI
       by_cases e:j=m
       · subst e
         rw [hz,if_neg (by simp)]
         have b:=pw_bounds (hf j hj)
         have d:=hD j hj hz
         omega
       · have q:=ih (by omega) (by omega)
         cases zeB (X m)
         · rw [if_neg (by simp)];omega
         · rw [if_pos rfl];exact q
   have:=up n hj (Nat.le_refl _)
   omega
 · exact h
theorem Pick.rows {w:World} {c n:Nat} {f:Nat→Value} (h:Pick w c n f) (hn:n≤24):∃(RA:Nat→Option Addr) (RL RC:Nat→Nat) (X:Nat→Nat→Nat),Rfs w (some ⟨c,0,none⟩) n RA RL RC X∧∀r,r<n→RL r=0∨RL r=n:=by
 have q:∀r,∃p:Option Addr×Nat×Nat×(Nat→Nat),r<n→f r=.slice p.1 p.2.1 p.2.2.1∧p.2.1≤9223372036854775807∧Fls w p.1 p.2.1 p.2.2.2∧(p.2.1=0∨p.2.1=n):=fun r=>by
   by_cases hr:r<n
   · rcases h.half r hr with e | ⟨d,e,F⟩
     · exact⟨(none,0,0,fun _=>0),fun _=>⟨e,by simp,fun i hi=>absurd hi (by simp),Or.inl rfl⟩⟩
     · obtain⟨X,hX⟩:=F.fls n n (Nat.le_refl _)
       exact⟨(some ⟨d,n,none⟩,n,n,X),fun _=>⟨e,by show n≤_;omega,fun i hi=>⟨d,n,rfl,F.lt,(hX i hi).1,(hX i hi).2⟩,Or.inr rfl⟩⟩
   · exact⟨(none,0,0,fun _=>0),fun a=>absurd a hr⟩
 obtain⟨R,hR⟩:=Classical.axiomOfChoice q
 refine⟨fun r=>(R r).1,fun r=>(R r).2.1,fun r=>(R r).2.2.1,fun r=>(R r).2.2.2,fun r hr=>?_,fun r hr=>(hR r hr).2.2.2⟩
 obtain⟨e,l,J, -⟩:=hR r hr
 exact⟨c,0,rfl,h.out.1,by rw [Nat.zero_add,(h.out.2 r hr).1,e],l,J⟩
end Go.Proofs.YtlabmpngbcnhpaaGreat
