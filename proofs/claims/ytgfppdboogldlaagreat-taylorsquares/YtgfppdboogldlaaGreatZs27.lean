/- The program's image of a vector. A slice of intervals grows in its own block, or in a new one: what lies in other blocks stays. -/
import Derived.Test.YtgfppdboogldlaaGreatZs26
namespace Go.Proofs.YtgfppdboogldlaaGreat
open Go.ChangeShapes Go.WideShapes Go.ChangeAt Go.RowKit
def Img (w:World) (g N:Nat) (xs:Nat→Nat×Nat):Prop :=
 g<w.heap.size∧∀i,i<N→w.cell? ⟨g,i*2,none⟩=some (.float .f64 (xs i).1)∧w.cell? ⟨g,i*2+1,none⟩=some (.float .f64 (xs i).2)∧w.frozen? ⟨g,i*2,none⟩=false∧w.frozen? ⟨g,i*2+1,none⟩=false
theorem Img.keep {w w2:World} {g N:Nat} {xs:Nat→Nat×Nat} (h:Img w g N xs) (hb:Below w.heap.size w w2):Img w2 g N xs :=
 ⟨Nat.lt_of_lt_of_le h.1 hb.size,fun i hi=>by obtain⟨a,b,c,d⟩:=h.2 i hi;exact⟨keepsC hb a h.1,keepsC hb b h.1,keepsF hb c h.1,keepsF hb d h.1⟩⟩
theorem Img.set {w:World} {g N:Nat} {xs:Nat→Nat×Nat} (h:Img w g N xs) (r p q:Nat) (hr:r<N):Img ((w.setCell ⟨g,r*2,none⟩ (.float .f64 p)).setCell ⟨g,r*2+1,none⟩ (.float .f64 q)) g N (fun i=>if i=r then (p,q) else xs i):=by
 refine⟨by simp only [World.size_setCell];exact h.1,fun i hi=>?_⟩
 obtain⟨a,b,c,d⟩:=h.2 i hi
 obtain⟨a',b',c',d'⟩:=h.2 r hr
 have ne3:r*2≠r*2+1:=by omega
 have ne4:r*2+1≠r*2:=by omega
 by_cases e:i=r
 · subst e
   simp only [if_true]
   exact⟨by go_simp,by go_simp,by go_simp,by go_simp⟩
 · simp only [e,if_false]
   have n1:i*2≠r*2:=by omega
   have n2:i*2≠r*2+1:=by omega
   have n3:i*2+1≠r*2:=by omega
   have n4:i*2+1≠r*2+1:=by omega
   have m1:r*2≠i*2:=by omega
   have m2:r*2+1≠i*2:=by omega
   have m3:r*2≠i*2+1:=by omega
   have m4:r*2+1≠i*2+1:=by omega
   refine⟨?_, ?_,by go_simp,by go_simp⟩
   · go_simp
   · go_simp
theorem Img.congr {w:World} {g N:Nat} {xs ys:Nat→Nat×Nat} (h:Img w g N xs) (e:∀i,i<N→xs i=ys i):Img w g N ys :=
 ⟨h.1,fun i hi=>by rw [←e i hi];exact h.2 i hi⟩
theorem Img.ivs {w:World} {g N:Nat} {xs:Nat→Nat×Nat} (h:Img w g N xs) (hx:∀i,i<N→(xs i).1<18446744073709551616∧(xs i).2<18446744073709551616):Ivs w (some ⟨g,0,none⟩) N xs:=fun i hi=>by
 obtain⟨a,b, -, -⟩:=h.2 i hi
 exact⟨g,0,rfl,h.1,by rw [Nat.zero_add];exact a,by rw [Nat.zero_add];exact b,hx i hi⟩
theorem wpList_makeI {w:World} {ops:Array Oper} {rest:List Oper} {o:Oper} {a:Act} {Q:Exit→Act→World→Prop} (hgd:o.guard=none) (l c:Operand)
   (ho:o.op=.makeSlice 26 l c) (n:Nat) (hl:a.eval l=.int .i64 (n:Int)) (hc:a.eval c=.int .i64 (n:Int)) (hn:n≤3000000)
   (h:∀w',Img w' w.heap.size n (fun _=>(0,0))→Below w.heap.size w w'→w.heap.size<w'.heap.size→wpList Tryz.prog ops Q rest (a.put o.dst (.slice (some ⟨w.heap.size,0,none⟩) n n)) w'):wpList Tryz.prog ops Q (o :: rest) a w:=by
 obtain⟨i0,hi,hz0,hz1,hz2⟩:=info_parts Tryz.infoIval
 refine wpList_make_full w hgd l c 26 ho w.heap.size 43 i0 (.agg #[.float .f64 0,.float .f64 0]) 2 Tryz.underlying26 hi hz0 hz1 .i64 .i64 _ _ n hl hc rfl rfl (by rw [hz2];omega) (by unfold maxLen;omega) (Nat.le_refl _) ?_
 intro w' h1 h2
 have hlt:=(World.ownsRow.lt h1 _ rfl).2
 refine h w' ⟨hlt,fun i hi=>?_⟩ ⟨h2.os,h2.tape,h2.output,h2.size,fun k hk=>h2.block k hk (by simp)⟩ hlt
 have hc:∀j,j<n*2→w'.cell? ⟨w.heap.size,j,none⟩=some (.float .f64 0):=fun j hj=>by
   have e1:(madeCells (Value.agg #[.float .f64 0,.float .f64 0]).cells (n*2)).toList=List.replicate (n*2) (Value.float .f64 0):=by
     refine List.eq_replicate_iff.2 ⟨by simp [madeCells],fun b hb=>?_⟩
     simp [madeCells,Value.cells] at hb
     obtain⟨x, -,hx⟩:=hb
     rw [←hx]
     have:x%2=0∨x%2=1:=by omega
     rcases this with e | e <;> simp [e]
   rw [World.ownsRow.cellAt h1 j hj,e1]
   simp [hj]
 exact⟨hc _ (by omega),hc _ (by omega),World.ownsRow.frozenAt h1 _,World.ownsRow.frozenAt h1 _⟩
theorem ownI_ivs {B:Nat} {w:World} {v:Value} {xs:List (Nat×Nat)} (h:OwnI B w v xs) (hx:∀p∈xs,p.1<18446744073709551616∧p.2<18446744073709551616):∃A C,v=.slice A xs.length C∧Ivs w A xs.length (fun i=>xs.getD i (0,0)):=by
 have h':w.ownsRow B 43 2 v xs.length (ivCells xs):=h
 rcases h'.2 with ⟨rfl,hn⟩ | ⟨g,cap,cur,rfl, -⟩
 · rw [hn]
   exact⟨none,0,rfl,fun i hi=>by omega⟩
 · refine⟨_,cap,rfl,fun i hi=>?_⟩
   have hl:=(World.ownsRow.lt h g rfl).2
   have hg:xs[i]?=some (xs.getD i (0,0)):=by simp [List.getD,hi]
   obtain⟨a,b⟩:=ivCells_at xs i _ hg
   refine⟨g,0,rfl,hl, ?_, ?_,hx _ ?_⟩
   · rw [Nat.zero_add,World.ownsRow.cellAt h (i*2) (by omega)];exact a
   · rw [Nat.zero_add,World.ownsRow.cellAt h (i*2+1) (by omega)];exact b
   · show xs.getD i (0,0)∈xs
     have:=List.getElem?_eq_some_iff.1 hg
     obtain⟨h1,h2⟩:=this
     rw [←h2]
     exact List.getElem_mem h1
def Ap (u v:Value):Prop:=u.ownBlock=none∨v.ownBlock=none∨u.ownBlock≠v.ownBlock
theorem Ap.symm {u v:Value} (h:Ap u v):Ap v u:=by
 rcases h with h | h | h
 · exact Or.inr (Or.inl h)
 · exact Or.inl h
 · exact Or.inr (Or.inr (fun e=>h e.symm))
def Gw (N:Nat) (v v':Value):Prop:=(v'.ownBlock=v.ownBlock∧v.ownBlock≠none)∨v'.ownBlock=some N
theorem own_at {B:Nat} {w:World} {v:Value} {xs:List (Nat×Nat)} (h:OwnI B w v xs):∀k,v.ownBlock=some k→B≤k∧k<w.heap.size:=World.ownsRow.lt h
theorem Ap.grown {N B:Nat} {w:World} {u v v':Value} {xs:List (Nat×Nat)} (h:Ap u v) (U:OwnI B w u xs) (hN:w.heap.size≤N) (g:Gw N v v'):Ap u v':=by
 rcases g with ⟨e, -⟩ | e
 · unfold Ap
   rw [e]
   exact h
 · cases hu:u.ownBlock with
   | none=>exact Or.inl hu
   | some k =>
     have:=(own_at U k hu).2
     refine Or.inr (Or.inr ?_)
     rw [hu,e]
     intro q
     cases q
     omega
theorem run_pushA {B:Nat} {wr:World} (ty:TypeId) (v:Value) (xs:List (Nat×Nat)) (p q:Nat) (hown:OwnI B wr v xs) (hl:xs.length≤2000000) (hB:B≤wr.heap.size) :
   ∃v' w',(Builtin.append_ #[26,26] ty #[v,.slice (some ⟨wr.heap.size,0,none⟩) 1 1]).run Tryz.prog (wr.alloc (.cells #[.float .f64 p,.float .f64 q] 43))=.ok v' w'∧OwnI B w' v' (xs++[(p,q)])∧(wr.alloc (.cells #[.float .f64 p,.float .f64 q] 43)).grownBy w' v.ownBlock∧Gw (wr.heap.size+1) v v':=by
 obtain⟨i0,hi,hz0,hz1,hz2⟩:=info_parts Tryz.infoIval
 have hal:Below wr.heap.size wr (wr.alloc (.cells #[.float .f64 p,.float .f64 q] 43)):=Below.alloc (Below.refl _ _) (Nat.le_refl _) _
 have hown2:OwnI B (wr.alloc (.cells #[.float .f64 p,.float .f64 q] 43)) v xs:=hown.keep hal
 have hz:(wr.alloc (.cells #[.float .f64 p,.float .f64 q] 43)).heap.size=wr.heap.size+1:=by simp
 have hn:∀(j:Nat) (u:Value),([.float .f64 p,.float .f64 q]:List Value)[j]?=some u→(wr.alloc (.cells #[.float .f64 p,.float .f64 q] 43)).cell? ((⟨wr.heap.size,0,none⟩:Addr).add j)=some u:=by
   intro j u hj
   match j,hj with
   | 0,hj=>simp at hj;subst hj;simp [Addr.add]
   | 1,hj=>simp at hj;subst hj;simp [Addr.add]
 have h1:∀u∈([.float .f64 p,.float .f64 q]:List Value),u.oneCell'=true:=by
   intro u hu
   simp at hu
   rcases hu with rfl | rfl <;> rfl
 obtain⟨v',w',hr,a1,a2, -⟩:=run_append_own (P:=Tryz.prog) (wr.alloc (.cells #[.float .f64 p,.float .f64 q] 43)) B 26 ty 43 i0 (.agg #[.float .f64 0,.float .f64 0]) 2 16 Tryz.underlying26 hi hz0 hz1 hz2 rfl (by decide) v xs.length (ivCells xs) hown2 ⟨wr.heap.size,0,none⟩ 1 1 [.float .f64 p,.float .f64 q] rfl hn h1 (by unfold maxLen;omega) (by omega) (by simp;omega)
 refine⟨v',w',hr, ?_,a2, ?_⟩
 · unfold OwnI
   have e:ivCells (xs++[(p,q)])=ivCells xs++[.float .f64 p,.float .f64 q]:=by simp [ivCells]
   rw [e,List.length_append]
   exact a1
 · clear a1 a2
   rcases hown2.2 with ⟨rfl,hx⟩ | ⟨g,cap,cur,rfl, -,hg,hnc, -,hcs,htake⟩
   · have hr2:=run_append_nil (P:=Tryz.prog) (wr.alloc (.cells #[.float .f64 p,.float .f64 q] 43)) 26 ty 43 i0 (.agg #[.float .f64 0,.float .f64 0]) Tryz.underlying26 hi hz0 ⟨wr.heap.size,0,none⟩ 1 1 [.float .f64 p,.float .f64 q] (by rw [hz1];rfl) hn (by omega) (by omega) (by rw [hz2];omega)
     rw [hr,hz] at hr2
     injection hr2 with e1 e2
     rw [e1]
     exact Or.inr rfl
   · by_cases hroom:xs.length+1≤cap
     · have hr2:=run_append_room (P:=Tryz.prog) (wr.alloc (.cells #[.float .f64 p,.float .f64 q] 43)) 26 ty 43 i0 Tryz.underlying26 hi g xs.length cap cur hg ⟨wr.heap.size,0,none⟩ 1 1 [.float .f64 p,.float .f64 q] (by rw [hz1];rfl) hn h1 hroom (by rw [hz1,hcs];show xs.length*2+2≤cap*2;omega)
       rw [hr] at hr2
       injection hr2 with e1 e2
       rw [e1]
       exact Or.inl ⟨rfl,by simp [Value.ownBlock]⟩
     · have holds:∀(j:Nat) (u:Value),(ivCells xs)[j]?=some u→(wr.alloc (.cells #[.float .f64 p,.float .f64 q] 43)).cell? ((⟨g,0,none⟩:Addr).add j)=some u:=World.ownsRow.cells hown2 (g:=g) rfl
       have hr2:=run_append_grow (P:=Tryz.prog) (wr.alloc (.cells #[.float .f64 p,.float .f64 q] 43)) 26 ty 43 i0 (.agg #[.float .f64 0,.float .f64 0]) Tryz.underlying26 hi hz0 ⟨g,0,none⟩ xs.length cap (ivCells xs) (by rw [hz1,ivCells_len]) holds ⟨wr.heap.size,0,none⟩ 1 1 [.float .f64 p,.float .f64 q] (by rw [hz1];rfl) hn (by omega) (by omega) (growslice_fits (by omega) (by rw [hz2];omega))
       rw [hr,hz] at hr2
       injection hr2 with e1 e2
       rw [e1]
       exact Or.inr rfl
end Go.Proofs.YtgfppdboogldlaaGreat
