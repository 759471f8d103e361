/- The law of the two series: its tapes as they lie in memory; Coefs of them. -/
import Derived.Test.YtgfppdboogldlaaGreatZs49
namespace Go.Proofs.YtgfppdboogldlaaGreat
open Go.ChangeShapes Go.WideShapes Go.ChangeAt Go.RowKit
def zVar:Opw:=⟨2,0,0,0,0,0⟩
def zMul:Opw:=⟨5,0,0,0,0,0⟩
def Zsq (i:Nat):Opw:=if i=0 then zVar else zMul
def Zid (_:Nat):Opw:=zVar
structure Lay (W:World) (q:Nat) (x:Nat×Nat):Prop where
 I:Ivs W (some ⟨q,0,none⟩) 1 (fun _=>x)
 O1:Ops W (some ⟨q+1,0,none⟩) 2 Zsq
 D1:Ins W (some ⟨q+1+1,0,none⟩) 1 (fun _=>((1:Nat):Int))
 c1:W.cell? ⟨q+1+1,0,none⟩=some (.int .i64 ((1:Nat):Int))
 T1:TpAt W (q+1+1+1) (.int .i64 1) (.slice (some ⟨q+1,0,none⟩) 2 2) (.slice (some ⟨q+1+1,0,none⟩) 1 1)
 O2:Ops W (some ⟨q+1+1+1+1,0,none⟩) 1 Zid
 D2:Ins W (some ⟨q+1+1+1+1+1,0,none⟩) 1 (fun _=>((0:Nat):Int))
 c2:W.cell? ⟨q+1+1+1+1+1,0,none⟩=some (.int .i64 ((0:Nat):Int))
 T2:TpAt W (q+1+1+1+1+1+1) (.int .i64 1) (.slice (some ⟨q+1+1+1+1,0,none⟩) 1 1) (.slice (some ⟨q+1+1+1+1+1,0,none⟩) 1 1)
 lt:q+1+1+1+1+1+1<W.heap.size
theorem Lay.keep {W W':World} {q:Nat} {x:Nat×Nat} (h:Lay W q x) (k:Below W.heap.size W W'):Lay W' q x :=
 ⟨h.I.keep k,h.O1.keep k,h.D1.keep k,keepsC k h.c1 (by have:=h.lt;omega),h.T1.keep k,h.O2.keep k,h.D2.keep k,keepsC k h.c2 (by have:=h.lt;omega),h.T2.keep k,Nat.lt_of_lt_of_le h.lt k.size⟩
theorem seven (V:World) (o0 o1 o2 o3 o4 o5 o6:Obj) :
   let W:=((((((V.alloc o0).alloc o1).alloc o2).alloc o3).alloc o4).alloc o5).alloc o6
   W.heap[V.heap.size]?=some o0∧W.heap[V.heap.size+1]?=some o1∧W.heap[V.heap.size+1+1]?=some o2∧W.heap[V.heap.size+1+1+1]?=some o3∧W.heap[V.heap.size+1+1+1+1]?=some o4∧W.heap[V.heap.size+1+1+1+1+1]?=some o5∧W.heap[V.heap.size+1+1+1+1+1+1]?=some o6∧Below V.heap.size V W:=by
 intro W
 have n1:∀(W:World) (o:Obj),(W.alloc o).heap[W.heap.size]?=some o:=fun W o=>by show (W.heap.push o)[W.heap.size]?=some o;simp
 have sz:∀(W:World) (o:Obj),(W.alloc o).heap.size=W.heap.size+1:=fun W o=>by simp
 obtain⟨A0,h0⟩:∃A,A=V.alloc o0:=⟨_,rfl⟩
 obtain⟨A1,h1⟩:∃A,A=A0.alloc o1:=⟨_,rfl⟩
 obtain⟨A2,h2⟩:∃A,A=A1.alloc o2:=⟨_,rfl⟩
 obtain⟨A3,h3⟩:∃A,A=A2.alloc o3:=⟨_,rfl⟩
 obtain⟨A4,h4⟩:∃A,A=A3.alloc o4:=⟨_,rfl⟩
 obtain⟨A5,h5⟩:∃A,A=A4.alloc o5:=⟨_,rfl⟩
 obtain⟨A6,h6⟩:∃A,A=A5.alloc o6:=⟨_,rfl⟩
 have e:W=A6:=by rw [h6,h5,h4,h3,h2,h1,h0]
 rw [e]
 have g0:=grewT V o0;rw [←h0] at g0
 have g1:=grewT A0 o1;rw [←h1] at g1
 have g2:=grewT A1 o2;rw [←h2] at g2
 have g3:=grewT A2 o3;rw [←h3] at g3
 have g4:=grewT A3 o4;rw [←h4] at g4
 have g5:=grewT A4 o5;rw [←h5] at g5
 have g6:=grewT A5 o6;rw [←h6] at g6
 have s0:=sz V o0;rw [←h0] at s0
 have s1:=sz A0 o1;rw [←h1] at s1
 have s2:=sz A1 o2;rw [←h2] at s2
 have s3:=sz A2 o3;rw [←h3] at s3
 have s4:=sz A3 o4;rw [←h4] at s4
 have s5:=sz A4 o5;rw [←h5] at s5
 have m0:=n1 V o0;rw [←h0] at m0
 have m1:=n1 A0 o1;rw [←h1,s0] at m1
 have m2:=n1 A1 o2;rw [←h2,s1,s0] at m2
 have m3:=n1 A2 o3;rw [←h3,s2,s1,s0] at m3
 have m4:=n1 A3 o4;rw [←h4,s3,s2,s1,s0] at m4
 have m5:=n1 A4 o5;rw [←h5,s4,s3,s2,s1,s0] at m5
 have m6:=n1 A5 o6;rw [←h6,s5,s4,s3,s2,s1,s0] at m6
 clear h0 h1 h2 h3 h4 h5 h6 e
 refine⟨?_, ?_, ?_, ?_, ?_, ?_,m6,later g0 (later g1 (later g2 (later g3 (later g4 (later g5 g6)))))⟩
 · rw [g6.block _ (by omega),g5.block _ (by omega),g4.block _ (by omega),g3.block _ (by omega),g2.block _ (by omega),g1.block _ (by omega)];exact m0
 · rw [g6.block _ (by omega),g5.block _ (by omega),g4.block _ (by omega),g3.block _ (by omega),g2.block _ (by omega)];exact m1
 · rw [g6.block _ (by omega),g5.block _ (by omega),g4.block _ (by omega),g3.block _ (by omega)];exact m2
 · rw [g6.block _ (by omega),g5.block _ (by omega),g4.block _ (by omega)];exact m3
 · rw [g6.block _ (by omega),g5.block _ (by omega)];exact m4
 · rw [g6.block _ (by omega)];exact m5
theorem lay_of {W:World} {q:Nat} {x:Nat×Nat} (hx:W2 x)
   (h0:W.heap[q]?=some (.cells #[.float .f64 x.1,.float .f64 x.2] 43))
   (h1:W.heap[q+1]?=some (.cells #[.int .i64 2,.int .i64 0,.int .i64 0,.int .i64 0,.float .f64 0,.float .f64 0,.int .i64 5,.int .i64 0,.int .i64 0,.int .i64 0,.float .f64 0,.float .f64 0] 45))
   (h2:W.heap[q+1+1]?=some (.cells #[.int .i64 1] 3))
   (h3:W.heap[q+1+1+1]?=some (.cells #[.int .i64 1,.slice (some ⟨q+1,0,none⟩) 2 2,.slice (some ⟨q+1+1,0,none⟩) 1 1] 25))
   (h4:W.heap[q+1+1+1+1]?=some (.cells #[.int .i64 2,.int .i64 0,.int .i64 0,.int .i64 0,.float .f64 0,.float .f64 0] 45))
   (h5:W.heap[q+1+1+1+1+1]?=some (.cells #[.int .i64 0] 3))
   (h6:W.heap[q+1+1+1+1+1+1]?=some (.cells #[.int .i64 1,.slice (some ⟨q+1+1+1+1,0,none⟩) 1 1,.slice (some ⟨q+1+1+1+1+1,0,none⟩) 1 1] 25)):Lay W q x:=by
 have ce:∀{b o:Nat} {cs:Array Value} {t:Nat} {u:Value},W.heap[b]?=some (.cells cs t)→cs[o]?=some u→W.cell? ⟨b,o,none⟩=some u:=fun {b o cs t u} h e=>by simp only [World.cell?,h];exact e
 have lt:∀{b:Nat} {o:Obj},W.heap[b]?=some o→b<W.heap.size:=fun h=>(Array.getElem?_eq_some_iff.1 h).1
 refine⟨fun i hi=>?_,fun i hi=>?_,fun i hi=>?_,ce h2 rfl,⟨ce h3 rfl,ce h3 rfl,ce h3 rfl,lt h3⟩,fun i hi=>?_,fun i hi=>?_,ce h5 rfl,⟨ce h6 rfl,ce h6 rfl,ce h6 rfl,lt h6⟩,lt h6⟩
 · obtain rfl:i=0:=by omega
   exact⟨q,0,rfl,lt h0,ce h0 rfl,ce h0 rfl,hx⟩
 · have:i=0∨i=1:=by omega
   rcases this with rfl | rfl
   · exact⟨_,0,rfl,lt h1,ce h1 rfl,ce h1 rfl,ce h1 rfl,ce h1 rfl,ce h1 rfl,ce h1 rfl,by decide,by decide⟩
   · exact⟨_,0,rfl,lt h1,ce h1 rfl,ce h1 rfl,ce h1 rfl,ce h1 rfl,ce h1 rfl,ce h1 rfl,by decide,by decide⟩
 · obtain rfl:i=0:=by omega
   exact⟨_,0,rfl,lt h2,ce h2 rfl⟩
 · obtain rfl:i=0:=by omega
   exact⟨_,0,rfl,lt h4,ce h4 rfl,ce h4 rfl,ce h4 rfl,ce h4 rfl,ce h4 rfl,ce h4 rfl,by decide,by decide⟩
 · obtain rfl:i=0:=by omega
   exact⟨_,0,rfl,lt h5,ce h5 rfl⟩
theorem box_of {v:Nat} (hv:v<18446744073709551616) (h1:leB 13848568854164275200 v=true) (h2:leB v 4625196817309499392=true):HI (makeP v v) (vq (key v)) (bN 1 4)∧finB v=true:=by
 obtain⟨-,n,k1⟩:=le_iff.1 h1
 obtain⟨-, -,k2⟩:=le_iff.1 h2
 have c1:key 13848568854164275200=-4625196817309499392:=by decide
 have c2:key 4625196817309499392=4625196817309499392:=by decide
 rw [c1] at k1
 rw [c2] at k2
 have f:=fin_two hv n (by omega) (by omega)
 have h:=hq_point hv f
 refine⟨⟨h, ?_⟩,f⟩
 have e:makeP v v=(pz v,pz v):=by
   have hs:hsB (pz v) (pz v)=true:=by
     have k:=fin_key hv f
     exact hs_iff.2 ⟨by rw [nan_pz];exact n,by rw [nan_pz];exact n,Int.le_refl _,by rw [key_pz];omega,by rw [key_pz];omega,pz_ne v,pz_ne v⟩
   unfold makeP;rw [hs];rfl
 have b:bN 1 4=(13848568854164275200,4625196817309499392):=by decide +kernel
 have S:Some2 13848568854164275200 4625196817309499392:=hs_iff.1 (by decide +kernel)
 rw [b]
 refine⟨h.S,S, ?_, ?_,h.l1,h.l2,by decide,by decide⟩
 · rw [e,c1];show _≤key (pz v);rw [key_pz];exact k1
 · rw [e,c2];show key (pz v)≤_;rw [key_pz];exact k2
end Go.Proofs.YtgfppdboogldlaaGreat
