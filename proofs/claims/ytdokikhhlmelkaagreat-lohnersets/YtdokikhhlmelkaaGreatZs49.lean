/- A set as an argument: opened; LohnerSets of sets and boxes as they lie in memory. -/
import Derived.Test.YtdokikhhlmelkaaGreatZs48
import Derived.Test.YtdokikhhlmelkaaGreatZs37
namespace Go.Proofs.YtdokikhhlmelkaaGreat
open Go.ChangeShapes Go.WideShapes Go.ChangeAt Go.RowKit Go.Deep
theorem cellsSet:Tryz.prog.cellsOf 26=3:=by kernel_rfl
theorem cellsFloats:Tryz.prog.cellsOf 22=1:=by kernel_rfl
theorem cellsFrows:Tryz.prog.cellsOf 23=1:=by kernel_rfl
theorem cellsIvs:Tryz.prog.cellsOf 24=1:=by kernel_rfl
set_option maxRecDepth 100000 in
theorem open_set {H:Type} {enc:TypeId×Value→H} {W:World} {r:Reach} {b0:Nat} {v:Value} {d:DataW H} {ps:List MemPlace} (hval:Value.okWide Tryz.prog W r b0 26 v)
   (hd:DataW.Trod enc Tryz.prog W 0 (fun _=>true) true 26 v d ps):∃A n C B N D R L E RA RL RC X Y Z,v=setV A n C B N D R L E∧n≤9223372036854775807∧N≤9223372036854775807∧L≤9223372036854775807∧Fls W A n X∧Rfs W B N RA RL RC Y∧Ivs W R L Z:=by
 obtain⟨cs,rfl,hsz⟩:=okWide_struct Tryz.underlying26 hval
 rw [cellsSet] at hsz
 obtain⟨l⟩:=cs
 match l,hsz with
 | [c0,c1,c2],_ =>
 obtain⟨fuel,hf⟩:=hd
 obtain⟨xs,k, -, -, -,hx,hf⟩:=DataW.trod_struct Tryz.underlying26 hf
 match xs,hx with
 | [z0,z1,z2],_ =>
 have g0:=hf 0 _ rfl
 have g1:=hf 1 _ rfl
 have g2:=hf 2 _ rfl
 simp [Value.cells,cellsFloats] at g0
 simp [Value.cells,cellsFrows] at g1
 simp [Value.cells,cellsIvs] at g2
 obtain⟨A,n,C,X,e0,hn,VX⟩:=open_fls g0
 obtain⟨B,N,D,RA,RL,RC,Y,e1,hN,VY⟩:=open_rfs g1
 obtain⟨R,L,E,Z,e2,hL,VZ⟩:=open_ivs g2
 subst e0 e1 e2
 exact⟨A,n,C,B,N,D,R,L,E,RA,RL,RC,X,Y,Z,rfl,hn,hN,hL,VX,VY,VZ⟩
theorem lohnerSets_all (A:Option Addr) (n C:Nat) (B:Option Addr) (N D:Nat) (R:Option Addr) (L E:Nat) (RA:Nat→Option Addr) (RL RC:Nat→Nat) (X:Nat→Nat) (Y:Nat→Nat→Nat) (Z:Nat→Nat×Nat) (G:Option Addr) (m H:Nat) (XX:Nat→Nat×Nat)
   (hn:n≤9223372036854775807) (hN:N≤9223372036854775807) (hL:L≤9223372036854775807) (hm:m≤9223372036854775807) (w:World) (VX:Fls w A n X) (VY:Rfs w B N RA RL RC Y) (VZ:Ivs w R L Z) (V:Ivs w G m XX) :
   Calls Tryz.prog 3 #[setV A n C B N D R L E,.slice G m H] w fun e w'=>e=.returned (.bool true)∧Below w.heap.size w w':=by
 have ok:setB n N L RL X Y Z=true→SetOk n N L RL X Y Z:=setB_iff.1
 have hQ:setB n N L RL X Y Z=true→∀i,i<n→(boxQ X Y Z n i).1<18446744073709551616∧(boxQ X Y Z n i).2<18446744073709551616:=fun h i hi=>by
   obtain⟨⟨n1,n2⟩,rfl,rfl,hr,hx,hz⟩:=ok h
   have wz:=ivs_words VZ
   have wy:=fun r (hlt:r<L) c (hc:c<L)=>rfs_words VY hlt (by rw [(hr r hlt).1];exact hc)
   obtain⟨_,_,_,_,_,lx⟩:=VX i hi
   have dl:=dotP_lt (n:=L) (X:=ptsP Y i) (Y:=Z) (fun c hc=>makeP_lt (wy i hi c hc) (wy i hi c hc)) wz
   exact addP_lt (makeP_lt lx lx).1 (makeP_lt lx lx).2 dl.1 dl.2
 refine sets_core A B R n C N D L E G m H XX (setB n N L RL X Y Z) ((List.range n).all fun i=>bdB (boxQ X Y Z n i)) (boxQ X Y Z n) hm w V ?_ ?_ ?_ ?_ ?_ ?_ ?_ ?_
 · exact fun W hW=>lright_w A B R n C N D L E RA RL RC X Y Z hn hN hL W (VX.keep hW) (VY.keep hW) (VZ.keep hW)
 · exact fun W hW=>rright9_w A B R n C N D L E RA RL RC X Y Z hn hN hL W (VX.keep hW) (VY.keep hW) (VZ.keep hW)
 · intro hs W hW
   refine lbox_bad A B R n C N D L E W fun W2 hW2=>?_
   have c:=lright_w A B R n C N D L E RA RL RC X Y Z hn hN hL W2 ((VX.keep hW).keep hW2) ((VY.keep hW).keep hW2) ((VZ.keep hW).keep hW2)
   rw [hs] at c
   exact c
 · exact fun hs W hW=>lbox_w A B R n C N D L E RA RL RC X Y Z (ok hs) W (VX.keep hW) (VY.keep hW) (VZ.keep hW)
 · exact fun hs W hW=>lawbox_w A B R n C N D L E RA RL RC X Y Z (ok hs) W (VX.keep hW) (VY.keep hW) (VZ.keep hW)
 · exact fun hs W g c I=>lbounded_w (some ⟨g,0,none⟩) n c (boxQ X Y Z n) hn W (I.ivs (hQ hs))
 · exact fun hs W g g' c I I'=>rsameV_w (some ⟨g,0,none⟩) (some ⟨g',0,none⟩) n n c (boxQ X Y Z n) (boxQ X Y Z n) hn (fun _ _=>rfl) W (I.ivs (hQ hs)) (I'.ivs (hQ hs))
 · exact fun W hW=>new_says G m H XX hm W (V.keep hW)
end Go.Proofs.YtdokikhhlmelkaaGreat
