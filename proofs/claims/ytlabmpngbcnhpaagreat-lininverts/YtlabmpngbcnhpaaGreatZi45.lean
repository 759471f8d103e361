/- An interval as an argument: opened and shut. Slices of intervals, and slices of those, as arguments: opened. Slices of floats, and of slices of floats, as arguments: opened. -/
import Derived.Test.YtlabmpngbcnhpaaGreatZi12
import Derived.ChangeSame
import Derived.JoinedOf
import Derived.JoinedAt
import Derived.RowKit3
import Derived.Test.YtlabmpngbcnhpaaGreatZi22
import Derived.Deep.SlicePairs
import Derived.Deep.Slices
import Derived.WideKeyArgs
import Derived.Test.YtlabmpngbcnhpaaGreatZi34
namespace Go.Proofs.YtlabmpngbcnhpaaGreat
open Go.ChangeShapes Go.WideShapes Go.ChangeAt Go.RowKit
theorem cellsFloat:Tryz.prog.cellsOf 33=1:=by kernel_rfl
theorem f64_lt {b:Nat} (h:(Lit.float .f64 b).wf=true):b<18446744073709551616:=by simpa [Lit.wf] using h
theorem trod_float {H:Type} {enc:TypeId×Value→H} {W:World} {base:Nat} {sp:Nat→Bool} {held:Bool} {m:Nat} {c:Value} {y:DataW H×List MemPlace} (h:DataW.trod enc Tryz.prog W base sp held m 33 [c]=some y) :
   ∃b,c=.float .f64 b∧y=(.lit (.float .f64 b),[])∧b<18446744073709551616:=by
 have ht:=Tryz.underlying33
 cases m with
 | zero=>simp [DataW.trod] at h
 | succ n =>
   cases c <;> simp [DataW.trod,ht] at h
   rename_i k b
   obtain⟨⟨rfl,h1⟩,h2⟩:=h
   exact⟨b,rfl,h2.symm,f64_lt h1⟩
end Go.Proofs.YtlabmpngbcnhpaaGreat
namespace Go.Proofs.YtlabmpngbcnhpaaGreat
open Go.ChangeShapes Go.WideShapes Go.ChangeAt Go.RowKit Go.Deep
theorem Tryz.laidOut:laidOutB Tryz.prog=true:=by kernel_rfl
theorem addr_add (b o j:Nat):(⟨b,o,none⟩:Addr).add j=⟨b,o+j,none⟩:=by
 first
   | rfl
   | (unfold Addr.add;rfl)
   | simp [Addr.add]
   | (unfold Addr.add;split <;> simp_all)
theorem cellsRowF:Tryz.prog.cellsOf 49=1:=by kernel_rfl
theorem open_fls {H:Type} {enc:TypeId×Value→H} {W:World} {fuel:Nat} {v:Value} {x:DataW H×List MemPlace} (h:DataW.trod enc Tryz.prog W 0 (fun _=>true) true fuel 49 [v]=some x) :
   ∃A n C X,v=.slice A n C∧n≤9223372036854775807∧Fls W A n X:=by
 rcases open_slice1 Tryz.underlying49 cellsFloat h with ⟨e, -⟩ | ⟨a,len,cap,m,f,V,D,Pl,e, -,hl,hm,hmm, -,hc⟩
 · simp only [List.cons.injEq,and_true] at e
   exact⟨none,0,0,fun _=>0,e,by omega,fun i hi=>absurd hi (by omega)⟩
 · simp only [List.cons.injEq,and_true] at e
   simp only [if_true] at hmm
   subst hmm
   obtain⟨X,hX⟩:=Classical.axiomOfChoice (fun i=>(show ∃p:Nat,i<len→W.cell? (a.add i)=some (.float .f64 p)∧p<18446744073709551616 by
     by_cases hi:i<len
     · obtain⟨c0,t0⟩:=hc i (by omega)
       obtain⟨b0,e0, -,l0⟩:=trod_float t0
       rw [e0] at c0
       exact⟨b0,fun _=>⟨c0,l0⟩⟩
     · exact⟨0,fun q=>absurd q hi⟩))
   refine⟨some a,len,_,X,e,by unfold maxLen at hm;omega,fun i hi=>?_⟩
   obtain⟨c0,l⟩:=hX i hi
   obtain⟨b,o,sp⟩:=a
   have hs:sp=none:=by
     have q:=World.cell?_spot (hX 0 (by omega)).1
     simpa [Addr.add] using q
   subst hs
   rw [addr_add] at c0
   exact⟨b,o,rfl,World.block_lt_of_cell? _ _ c0,c0,l⟩
theorem open_rfs {H:Type} {enc:TypeId×Value→H} {W:World} {fuel:Nat} {v:Value} {x:DataW H×List MemPlace} (h:DataW.trod enc Tryz.prog W 0 (fun _=>true) true fuel 22 [v]=some x) :
   ∃A N C RA RL RC X,v=.slice A N C∧N≤9223372036854775807∧Rfs W A N RA RL RC X:=by
 rcases open_slice1 Tryz.underlying22 cellsRowF h with ⟨e, -⟩ | ⟨a,len,cap,m,f,V,D,Pl,e, -,hl,hm,hmm, -,hc⟩
 · simp only [List.cons.injEq,and_true] at e
   exact⟨none,0,0,fun _=>none,fun _=>0,fun _=>0,fun _ _=>0,e,by omega,fun i hi=>absurd hi (by omega)⟩
 · simp only [List.cons.injEq,and_true] at e
   simp only [if_true] at hmm
   subst hmm
   obtain⟨R,hR⟩:=Classical.axiomOfChoice (fun i=>(show ∃p:Option Addr×Nat×Nat×(Nat→Nat),i<len→W.cell? (a.add i)=some (.slice p.1 p.2.1 p.2.2.1)∧p.2.1≤9223372036854775807∧Fls W p.1 p.2.1 p.2.2.2 by
     by_cases hi:i<len
     · obtain⟨c0,t0⟩:=hc i (by omega)
       obtain⟨A,n,C,X,e0,l0,J⟩:=open_fls t0
       rw [e0] at c0
       exact⟨(A,n,C,X),fun _=>⟨c0,l0,J⟩⟩
     · exact⟨(none,0,0,fun _=>0),fun q=>absurd q hi⟩))
   refine⟨some a,len,_,fun i=>(R i).1,fun i=>(R i).2.1,fun i=>(R i).2.2.1,fun i=>(R i).2.2.2,e,by unfold maxLen at hm;omega,fun i hi=>?_⟩
   obtain⟨c0,l,J⟩:=hR i hi
   obtain⟨b,o,sp⟩:=a
   have hs:sp=none:=by
     have q:=World.cell?_spot (hR 0 (by omega)).1
     simpa [Addr.add] using q
   subst hs
   rw [addr_add] at c0
   exact⟨b,o,rfl,World.block_lt_of_cell? _ _ c0,c0,l,J⟩
end Go.Proofs.YtlabmpngbcnhpaaGreat
