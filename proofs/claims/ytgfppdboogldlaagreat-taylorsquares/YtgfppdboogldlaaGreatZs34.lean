/- taylor: a series' beginning. -/
import Derived.Test.YtgfppdboogldlaaGreatZs33
namespace Go.Proofs.YtgfppdboogldlaaGreat
open Go.ChangeShapes Go.WideShapes Go.ChangeAt Go.RowKit
theorem Tryz.infoTerms:(Tryz.prog.info? 87).map (fun i=>(i.zero,i.size,i.bytes))=some (some (.agg #[.slice none 0 0,.slice none 0 0]),2,48):=by kernel_rfl
theorem run_makeT (n:Nat) (hn:n≤4000) (w:World):(Instr.makeSlice 82 (.int .i64 (n:Int)) (.int .i64 (n:Int))).run Tryz.prog w=.ok (.slice (some ⟨w.heap.size,0,none⟩) n n) (w.alloc (.cells (madeCells #[.slice none 0 0,.slice none 0 0] (n*2)) 87)):=by
 obtain⟨i0,hi,hz0,hz1,hz2⟩:=info_parts Tryz.infoTerms
 have hr:=run_make (P:=Tryz.prog) w 82 87 i0 _ Tryz.underlying82 hi hz0 .i64 .i64 n n (by omega) (by omega) (by rw [hz2];omega) (by omega)
 rw [hz1] at hr
 simp only [Int.toNat_natCast] at hr
 exact hr
theorem run_makeT0 (w:World):(Instr.makeSlice 29 (.int .i64 0) (.int .i64 0)).run Tryz.prog w=.ok (.slice (some ⟨w.heap.size,0,none⟩) 0 0) (w.alloc (.cells #[] 26)):=by
 obtain⟨i0,hi,hz0,hz1,hz2⟩:=info_parts Tryz.infoRow
 have hr:=run_make (P:=Tryz.prog) w 29 26 i0 _ Tryz.underlying29 hi hz0 .i64 .i64 0 0 (by omega) (by omega) (by rw [hz2];omega) (by omega)
 rw [hz1,show madeCells (Value.slice none 0 0).cells (Int.toNat 0*1)=#[] by simp [madeCells]] at hr
 exact hr
set_option maxHeartbeats 2000000 in
theorem sbeside_w (kd a c N:Int) (hk:kd=2∨kd=5) (lo hi:Nat) (w:World) :
   Calls Tryz.prog 42 #[.agg #[.int .i64 kd,.int .i64 a,.int .i64 c,.int .i64 N,.float .f64 lo,.float .f64 hi]] w fun e w'=>e=.returned (.int .i64 0)∧Below w.heap.size w w':=by
 obtain⟨v1,hv1⟩:∃v1,v1=w.alloc (.cells #[.int .i64 kd,.int .i64 a,.int .i64 c,.int .i64 N,.float .f64 lo,.float .f64 hi] 45):=⟨_,rfl⟩
 have HB:Below w.heap.size w v1:=by rw [hv1];exact Below.alloc (Below.refl _ _) (Nat.le_refl _) _
 have o0:v1.cell? ⟨w.heap.size,0,none⟩=some (.int .i64 kd):=by rw [hv1];go_simp
 go_enter Tryz.func42,Tryz.ntmps42
 go_upto_region 1 with fail
 rw [←hv1]
 clear hv1
 rcases hk with rfl | rfl
 · go_wp2_with fail
   go_ret
   exact⟨rfl,HB⟩
 · go_wp2_with fail
   go_ret
   exact⟨rfl,HB⟩
variable {w0:World} {n b db:Nat} {oV uV:Value} {X:Nat→Nat×Nat} {k:Nat} {gr rc:Nat→Nat} {w:World} {vo:Nat→Value} {vv:Value}
theorem SeS.congrL {L L':Nat→List (Nat×Nat)} (h:SeS w0 n b db oV uV X L k gr rc w vo vv) (e:∀i,i<n→L i=L' i):SeS w0 n b db oV uV X L' k gr rc w vo vv:={ h with own:=fun i hi=>by rw [←e i hi];exact h.own i hi }
theorem SeS.beside {L:Nat→List (Nat×Nat)} (h:SeS w0 n b db oV uV X L k gr rc w vo vv) (i:Nat) (v:Value):SeS w0 n b db oV uV X L k gr rc (w.setCell ⟨db,i*2+1,none⟩ v) vo vv:=by
 have blk:∀c,c≠db→(w.setCell ⟨db,i*2+1,none⟩ v).heap[c]?=w.heap[c]?:=fun c hc=>Below.heap_setCell _ _ _ _ hc
 have cb:∀{o:Nat} {u:Value},w.cell? ⟨b,o,none⟩=some u→(w.setCell ⟨db,i*2+1,none⟩ v).cell? ⟨b,o,none⟩=some u:=fun {o u} hc=>(World.cell?_of_block (w:=w) (blk b h.bd)).trans hc
 refine⟨Below.setCell h.bl h.d0 _,⟨cb h.pl.1,by rw [World.size_setCell];exact h.pl.2⟩,cb h.c2,cb h.c3,cb h.c4,cb h.c5,by rw [World.frozen?_setCell];exact h.f4,h.b0,h.d0,by rw [World.size_setCell];exact h.dl,h.bd, ?_, ?_, ?_,h.ap,h.ob, ?_,h.vb, ?_,h.rb⟩
 · exact fun t ht=>own_block (h.own t ht) fun c _ hv=>blk c (fun q=>(h.ob t ht).2 (q ▸ hv))
 · intro t ht
   rw [World.cell?_setCell_other _ _ _ _ (by intro q;injection q with _ q2;omega)]
   exact h.cel t ht
 · intro t ht
   rw [World.frozen?_setCell]
   exact h.fz t ht
 · exact ownR_block h.hv fun c _ hv=>blk c (fun q=>h.vb.2 (q ▸ hv))
 · exact fun t ht=>ivs_block (h.row t ht) (by rw [World.size_setCell];exact Nat.le_refl _) (blk _ (h.rb t ht).2.1)
def BsT (w:World) (db n:Nat):Prop:=∀i,i<n→(w.cell? ⟨db,i*2+1,none⟩).isSome=true∧w.frozen? ⟨db,i*2+1,none⟩=false
theorem BsT.keep {W:World} (h:BsT w db n) (hl:db<w.heap.size) (hb:Below w.heap.size w W):BsT W db n:=fun i hi=>by
 have e:W.heap[db]?=w.heap[db]?:=hb.block db hl
 exact⟨by rw [World.cell?_of_block (w:=w) (a:=⟨db,i*2+1,none⟩) e];exact (h i hi).1,by rw [World.frozen?_of_block (w:=w) (a:=⟨db,i*2+1,none⟩) e];exact (h i hi).2⟩
theorem BsT.set (h:BsT w db n) (t:Nat) (v:Value):BsT (w.setCell ⟨db,t*2+1,none⟩ v) db n:=fun i hi=>by
 refine⟨?_,by rw [World.frozen?_setCell];exact (h i hi).2⟩
 by_cases e:i=t
 · subst e
   obtain⟨u,hu⟩:=Option.isSome_iff_exists.1 (h i hi).1
   rw [World.cell?_setCell_same _ _ _ hu]
   rfl
 · rw [World.cell?_setCell_other _ _ _ _ (by intro q;injection q with _ q2;omega)]
   exact (h i hi).1
end Go.Proofs.YtgfppdboogldlaaGreat
