/- LexBlanks, whole; a slice of whole numbers as an argument, opened. -/
import Derived.Test.YtgocelaghggpmaaDoorKa32
import Derived.Deep.SlicePairs
import Derived.Deep.Slices
import Derived.WideKeyArgs
import Derived.ChangeArms
namespace Go.Proofs.YtgocelaghggpmaaDoor
open Go.ChangeShapes Go.WideShapes Go.ChangeAt Go.RowKit Go.Deep
theorem lexBlanks_w (s:ByteArray) (hs:(s.size:Int)≤9223372036854775807) (B:Option Addr) (m C:Nat) (X:Nat→Int) (hm:m≤9223372036854775807) (w:World) (hX:Ints w B m X) (T1:SpT w) (T2:ErrR w) :
   Calls Tryd.prog 7 #[.string s,.slice B m C] w fun e w'=>e=.returned (.bool true)∧Below w.heap.size w w':=by
 have cl0:=lex_w s hs w T1 T2
 by_cases h:(lexV s).e≠0∨300<(lexV s).t.length
 · exact lexBlanks_skip s B m C _ _ _ h w cl0
 · have he:(lexV s).e=0:=Decidable.not_not.1 fun q=>h (Or.inl q)
   have h3:(lexV s).t.length≤300:=Nat.le_of_not_lt fun q=>h (Or.inr q)
   rw [he,lex_p he] at cl0
   refine lexBlanks_good s B m C X hm he _ rfl h3 w hX cl0 ?_
   intro t U W ht hz hb
   have:=lex_w t (by omega) W (T1.on hb) (T2.on hb)
   rw [ht] at this
   exact this
theorem Tryd.laidOutX:laidOutB Tryd.prog=true:=by kernel_rfl
theorem cellsIntX:Tryd.prog.cellsOf 3=1:=by kernel_rfl
theorem addr_addX (b o j:Nat):(⟨b,o,none⟩:Addr).add j=⟨b,o+j,none⟩:=by
 first
   | rfl
   | (unfold Addr.add;rfl)
   | simp [Addr.add]
   | (unfold Addr.add;split <;> simp_all)
theorem open_intsX {H:Type} {enc:TypeId×Value→H} {W:World} {fuel:Nat} {v:Value} {x:DataW H×List MemPlace} (h:DataW.trod enc Tryd.prog W 0 (fun _=>true) true fuel 41 [v]=some x) :
   ∃A n C X,v=.slice A n C∧n≤9223372036854775807∧Ints W A n X:=by
 rcases open_slice1 Tryd.underlying41 cellsIntX h with ⟨e, -⟩ | ⟨a,len,cap,m,f,V,D,Pl,e, -,hl,hm,hmm, -,hc⟩
 · simp only [List.cons.injEq,and_true] at e
   exact⟨none,0,0,fun _=>0,e,by omega,fun i hi=>absurd hi (by omega)⟩
 · simp only [List.cons.injEq,and_true] at e
   simp only [if_true] at hmm
   subst hmm
   obtain⟨X,hX⟩:=Classical.axiomOfChoice (fun i=>(show ∃p:Int,i<len→W.cell? (a.add i)=some (.int .i64 p) by
     by_cases hi:i<len
     · obtain⟨c0,t0⟩:=hc i (by omega)
       obtain⟨b0,e0, -, -⟩:=DataW.trod_int Tryd.underlying3 t0
       simp only [List.cons.injEq,and_true] at e0
       rw [e0] at c0
       exact⟨b0,fun _=>c0⟩
     · exact⟨0,fun q=>absurd q hi⟩))
   refine⟨some a,len,_,X,e,by unfold maxLen at hm;omega,fun i hi=>?_⟩
   have c0:=hX i hi
   obtain⟨b,o,sp⟩:=a
   have hs:sp=none:=by
     have q:=World.cell?_spot (hX 0 (by omega))
     simpa [Addr.add] using q
   subst hs
   rw [addr_addX] at c0
   exact⟨b,o,rfl,World.block_lt_of_cell? _ _ c0,c0⟩
end Go.Proofs.YtgocelaghggpmaaDoor
