/- Sums of amounts, rounded up: they are always told, and are amounts. Norms: lin.norm and the reference's Norm. lin.Norm with its refusal; Points and One of both sides as rows in memory, under one contract each. LinNorms: the law's walk. An interval as an argument: opened and shut. Slices of intervals, and slices of those, as arguments: opened. -/
import Derived.Test.YtdokikhhlmelkaaGreatZs18
import Derived.Test.YtdokikhhlmelkaaGreatZs32
import Derived.Test.YtdokikhhlmelkaaGreatZs31
import Derived.Test.YtdokikhhlmelkaaGreatZs35
import Derived.Test.YtdokikhhlmelkaaGreatZs09
import Derived.ChangeSame
import Derived.JoinedOf
import Derived.JoinedAt
import Derived.RowKit3
import Derived.Deep.SlicePairs
import Derived.Deep.Slices
import Derived.WideKeyArgs
namespace Go.Proofs.YtdokikhhlmelkaaGreat
open Go.ChangeShapes Go.WideShapes Go.ChangeAt Go.RowKit
theorem rfs_words {w:World} {A:Option Addr} {N:Nat} {RA:Nat→Option Addr} {RL RC:Nat→Nat} {X:Nat→Nat→Nat} (V:Rfs w A N RA RL RC X) {r c:Nat} (hr:r<N) (hc:c<RL r):X r c<18446744073709551616:=by
 obtain⟨_,_,_,_,_,_,I⟩:=V r hr
 obtain⟨_,_,_,_,_,q⟩:=I c hc
 exact q
theorem Points_any (A:Option Addr) (N C:Nat) (RA:Nat→Option Addr) (RL RC:Nat→Nat) (X:Nat→Nat→Nat) (hN:N≤9223372036854775807) (w:World) (V:Rfs w A N RA RL RC X) :
   Calls Tryz.prog 26 #[.slice A N C] w fun e w'=>∃B D SA SC,e=.returned (.slice B (if fltB N RL X then N else 0) D)∧Rws w' B (if fltB N RL X then N else 0) SA (fun _=>RL 0) SC (ptsP X)∧Below w.heap.size w w':=by
 cases h:fltB N RL X
 · exact (Points_bad A N C RA RL RC X hN h w V).mono fun e w' ⟨he,hb⟩=>⟨none,0,fun _=>none,fun _=>0,he,fun r hr=>absurd hr (by simp),hb⟩
 · obtain⟨-, -,hR, -,m2⟩:=fltB_parts h
   exact (Points_good A N C RA RL RC X hN h w V).mono fun e w' ⟨g,k,he,G,hb⟩=>⟨_,_,_,_,he,G.rws (by omega) fun r hr c hc=>makeP_lt (rfs_words V hr (by rw [hR r hr];exact hc)) (rfs_words V hr (by rw [hR r hr];exact hc)),hb⟩
theorem rPoints_any (A:Option Addr) (N C:Nat) (RA:Nat→Option Addr) (RL RC:Nat→Nat) (X:Nat→Nat→Nat) (hN:N≤9223372036854775807) (w:World) (V:Rfs w A N RA RL RC X) :
   Calls Tryz.prog 18 #[.slice A N C] w fun e w'=>∃B D SA SC,e=.returned (.slice B (if fltB N RL X then N else 0) D)∧Rws w' B (if fltB N RL X then N else 0) SA (fun _=>RL 0) SC (ptsP X)∧Below w.heap.size w w':=by
 cases h:fltB N RL X
 · exact (rPoints_bad A N C RA RL RC X hN h w V).mono fun e w' ⟨B,D,he,hb⟩=>⟨B,D,fun _=>none,fun _=>0,he,fun r hr=>absurd hr (by simp),hb⟩
 · obtain⟨-, -,hR, -,m2⟩:=fltB_parts h
   refine (rPoints_good A N C RA RL RC X hN h w V).mono fun e w' ⟨v,vs,he,hO,hG,hb⟩=>?_
   obtain⟨B,D,SA,SC,e1,J⟩:=hG.rws hO (by omega) fun r hr c hc=>makeP_lt (rfs_words V hr (by rw [hR r hr];exact hc)) (rfs_words V hr (by rw [hR r hr];exact hc))
   exact⟨B,D,SA,SC,by rw [he,e1];rfl,J,hb⟩
theorem oneP_lt (r c:Nat):(oneP r c).1<18446744073709551616∧(oneP r c).2<18446744073709551616:=by
 unfold oneP
 split
 · exact makeP_lt (by omega) (by omega)
 · exact⟨by simp,by simp⟩
theorem One_rws (n:Nat) (h1:1≤n) (h2:n≤24) (w:World):Calls Tryz.prog 33 #[.int .i64 (n:Int)] w fun e w'=>∃B D SA SC,e=.returned (.slice B n D)∧Rws w' B n SA (fun _=>n) SC oneP∧Below w.heap.size w w' :=
 (One_good n h1 h2 w).mono fun e w' ⟨g,k,he,G,hb⟩=>⟨_,_,_,_,he,G.rws (by omega) fun r _ c _=>oneP_lt r c,hb⟩
theorem rOne_rws (n:Nat) (h2:n≤24) (w:World):Calls Tryz.prog 19 #[.int .i64 (n:Int)] w fun e w'=>∃B D SA SC,e=.returned (.slice B n D)∧Rws w' B n SA (fun _=>n) SC oneP∧Below w.heap.size w w':=by
 refine (rOne_w n h2 w).mono fun e w' ⟨v,vs,he,hO,hG,hb⟩=>?_
 obtain⟨B,D,SA,SC,e1,J⟩:=hG.rws hO (by omega) fun r _ c _=>oneP_lt r c
 exact⟨B,D,SA,SC,by rw [he,e1],J,hb⟩
theorem cellsIval:Tryz.prog.cellsOf 38=2:=by kernel_rfl
theorem cellsFloat:Tryz.prog.cellsOf 36=1:=by kernel_rfl
theorem f64_lt {b:Nat} (h:(Lit.float .f64 b).wf=true):b<18446744073709551616:=by simpa [Lit.wf] using h
theorem trod_float {H:Type} {enc:TypeId×Value→H} {W:World} {base:Nat} {sp:Nat→Bool} {held:Bool} {m:Nat} {c:Value} {y:DataW H×List MemPlace} (h:DataW.trod enc Tryz.prog W base sp held m 36 [c]=some y) :
   ∃b,c=.float .f64 b∧y=(.lit (.float .f64 b),[])∧b<18446744073709551616:=by
 have ht:=Tryz.underlying36
 cases m with
 | zero=>simp [DataW.trod] at h
 | succ n =>
   cases c <;> simp [DataW.trod,ht] at h
   rename_i k b
   obtain⟨⟨rfl,h1⟩,h2⟩:=h
   exact⟨b,rfl,h2.symm,f64_lt h1⟩
end Go.Proofs.YtdokikhhlmelkaaGreat
namespace Go.Proofs.YtdokikhhlmelkaaGreat
open Go.ChangeShapes Go.WideShapes Go.ChangeAt Go.RowKit Go.Deep
theorem Tryz.laidOut:laidOutB Tryz.prog=true:=by kernel_rfl
theorem addr_add (b o j:Nat):(⟨b,o,none⟩:Addr).add j=⟨b,o+j,none⟩:=by
 first
   | rfl
   | (unfold Addr.add;rfl)
   | simp [Addr.add]
   | (unfold Addr.add;split <;> simp_all)
theorem open_ivs {H:Type} {enc:TypeId×Value→H} {W:World} {fuel:Nat} {v:Value} {x:DataW H×List MemPlace} (h:DataW.trod enc Tryz.prog W 0 (fun _=>true) true fuel 24 [v]=some x) :
   ∃A n C X,v=.slice A n C∧n≤9223372036854775807∧Ivs W A n X:=by
 rcases open_slice_pairs Tryz.underlying24 Tryz.underlying38 cellsIval rfl rfl cellsFloat cellsFloat h with ⟨e, -⟩ | ⟨a,len,cap,m,f,V0,V1,D0,D1,P0,P1,e, -,hl,hm,hmm, -,hc⟩
 · simp only [List.cons.injEq,and_true] at e
   exact⟨none,0,0,fun _=>(0,0),e,by omega,fun i hi=>absurd hi (by omega)⟩
 · simp only [List.cons.injEq,and_true] at e
   simp only [if_true] at hmm
   subst hmm
   obtain⟨X,hX⟩:=Classical.axiomOfChoice (fun i=>(show ∃p:Nat×Nat,i<len→W.cell? (a.add (i*2))=some (.float .f64 p.1)∧W.cell? (a.add (i*2+1))=some (.float .f64 p.2)∧p.1<18446744073709551616∧p.2<18446744073709551616 by
     by_cases hi:i<len
     · obtain⟨c0,c1,t0,t1⟩:=hc i (by omega)
       obtain⟨b0,e0, -,l0⟩:=trod_float t0
       obtain⟨b1,e1, -,l1⟩:=trod_float t1
       rw [e0] at c0
       rw [e1] at c1
       exact⟨(b0,b1),fun _=>⟨c0,c1,l0,l1⟩⟩
     · exact⟨(0,0),fun q=>absurd q hi⟩))
   refine⟨some a,len,_,X,e,by unfold maxLen at hm;omega,fun i hi=>?_⟩
   obtain⟨c0,c1,l⟩:=hX i hi
   obtain⟨b,o,sp⟩:=a
   have hs:sp=none:=by
     have q:=World.cell?_spot (hX 0 (by omega)).1
     simpa [Addr.add] using q
   subst hs
   rw [addr_add] at c0 c1
   exact⟨b,o,rfl,World.block_lt_of_cell? _ _ c0,c0,c1,l⟩
end Go.Proofs.YtdokikhhlmelkaaGreat
