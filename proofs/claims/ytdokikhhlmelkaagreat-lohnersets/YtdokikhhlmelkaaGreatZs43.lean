/- Rows of floats, divided and taken off one another by Go's own operators; the place of the greatest amount. Rows of noughts, in floats. -/
import Derived.Test.YtdokikhhlmelkaaGreatZs42
import Derived.Test.YtdokikhhlmelkaaGreatZs18
import Derived.BigRegion
import Derived.Test.YtdokikhhlmelkaaGreatZs09
namespace Go.Proofs.YtdokikhhlmelkaaGreat
open Go.ChangeShapes Go.WideShapes Go.ChangeAt Go.RowKit
theorem Tryz.infoFlt:(Tryz.prog.info? 36).map (fun i=>(i.zero,i.size,i.bytes))=some (some (.float .f64 0),1,8):=by kernel_rfl
theorem Tryz.infoFrow:(Tryz.prog.info? 22).map (fun i=>(i.zero,i.size,i.bytes))=some (some (.slice none 0 0),1,24):=by kernel_rfl
theorem made_same {v:Value} (hv:v.cells=#[v]) (n:Nat):(madeCells v.cells (n*1)).toList=List.replicate (n*1) v:=by
 refine List.eq_replicate_iff.2 ⟨by simp [madeCells],fun b hb=>?_⟩
 rw [hv] at hb
 simp [madeCells] at hb
 obtain⟨x, -,hx⟩:=hb
 rw [←hx]
 have:x%1=0:=by omega
 simp [this]
theorem wpList_makeF {w:World} {ops:Array Oper} {rest:List Oper} {o:Oper} {a:Act} {Q:Exit→Act→World→Prop} (hgd:o.guard=none) (l c:Operand)
   (ho:o.op=.makeSlice 22 l c) (n:Nat) (hl:a.eval l=.int .i64 (n:Int)) (hc:a.eval c=.int .i64 (n:Int)) (hn:n≤3000000)
   (h:∀w',Flo w' w.heap.size n→Below w.heap.size w w'→w.heap.size<w'.heap.size→wpList Tryz.prog ops Q rest (a.put o.dst (.slice (some ⟨w.heap.size,0,none⟩) n n)) w'):wpList Tryz.prog ops Q (o :: rest) a w:=by
 obtain⟨i0,hi,hz0,hz1,hz2⟩:=info_parts Tryz.infoFlt
 refine wpList_make_full w hgd l c 22 ho w.heap.size 36 i0 (.float .f64 0) 1 Tryz.underlying22 hi hz0 hz1 .i64 .i64 _ _ n hl hc rfl rfl (by rw [hz2];omega) (by unfold maxLen;omega) (Nat.le_refl _) ?_
 intro w' h1 h2
 have hlt:=(World.ownsRow.lt h1 _ rfl).2
 refine h w' ?_ ⟨h2.os,h2.tape,h2.output,h2.size,fun k hk=>h2.block k hk (by simp)⟩ hlt
 have hcell:=fun i (hi:i<n)=>World.ownsRow.cellAt h1 i (by omega)
 rw [made_same rfl] at hcell
 rcases h1.2 with ⟨h',_⟩ | ⟨g',cap',cur,h',_,hg,_,_,hs,_⟩
 · simp at h'
 · simp only [Value.slice.injEq,Option.some.injEq,Addr.mk.injEq,and_true,true_and] at h'
   obtain⟨rfl,rfl⟩:=h'
   refine⟨cur,_,hg,by omega,fun i hi=>⟨0, ?_,by omega⟩⟩
   have q:=hcell i hi
   simp only [World.cell?,hg] at q
   simpa [hi] using q
theorem wpList_makeRF {w:World} {ops:Array Oper} {rest:List Oper} {o:Oper} {a:Act} {Q:Exit→Act→World→Prop} (hgd:o.guard=none) (l c:Operand)
   (ho:o.op=.makeSlice 23 l c) (n:Nat) (hl:a.eval l=.int .i64 (n:Int)) (hc:a.eval c=.int .i64 (n:Int)) (hn:n≤3000000)
   (h:∀w',Out w' w.heap.size n (fun _=>.slice none 0 0)→Below w.heap.size w w'→w.heap.size<w'.heap.size→wpList Tryz.prog ops Q rest (a.put o.dst (.slice (some ⟨w.heap.size,0,none⟩) n n)) w'):wpList Tryz.prog ops Q (o :: rest) a w:=by
 obtain⟨i0,hi,hz0,hz1,hz2⟩:=info_parts Tryz.infoFrow
 refine wpList_make_full w hgd l c 23 ho w.heap.size 22 i0 (.slice none 0 0) 1 Tryz.underlying23 hi hz0 hz1 .i64 .i64 _ _ n hl hc rfl rfl (by rw [hz2];omega) (by unfold maxLen;omega) (Nat.le_refl _) ?_
 intro w' h1 h2
 have hlt:=(World.ownsRow.lt h1 _ rfl).2
 refine h w' ⟨hlt,fun i hi=>⟨?_,World.ownsRow.frozenAt h1 _⟩⟩ ⟨h2.os,h2.tape,h2.output,h2.size,fun k hk=>h2.block k hk (by simp)⟩ hlt
 rw [World.ownsRow.cellAt h1 i (by omega),made_same rfl]
 simp [hi]
end Go.Proofs.YtdokikhhlmelkaaGreat
