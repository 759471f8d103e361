/- taylor: what lies in memory while a series is on its way. taylor: one order more of the variable. -/
import Derived.Test.YtgfppdboogldlaaGreatZs27
import Derived.Test.YtgfppdboogldlaaGreatZs28
namespace Go.Proofs.YtgfppdboogldlaaGreat
open Go.ChangeShapes Go.WideShapes Go.ChangeAt Go.RowKit
def updT {α:Type} (f:Nat→α) (j:Nat) (x:α):Nat→α:=fun i=>if i=j then x else f i
theorem updT_same {α:Type} (f:Nat→α) (j:Nat) (x:α):updT f j x j=x:=if_pos rfl
theorem updT_other {α:Type} (f:Nat→α) {i j:Nat} (x:α) (h:i≠j):updT f j x i=f i:=if_neg h
theorem own_block {B:Nat} {w w2:World} {v:Value} {xs:List (Nat×Nat)} (U:OwnI B w v xs) (h:∀g,g<w.heap.size→v.ownBlock=some g→w2.heap[g]?=w.heap[g]?):OwnI B w2 v xs:=by
 refine⟨U.1, ?_⟩
 rcases U.2 with hn | ⟨g,cap,cur,hv,hb2,hg,rest⟩
 · exact .inl hn
 · refine .inr ⟨g,cap,cur,hv,hb2, ?_,rest⟩
   rw [←hg]
   exact h g (Array.getElem?_eq_some_iff.1 hg).1 (by rw [hv];rfl)
theorem ownR_block {B:Nat} {w w2:World} {v:Value} {xs:List Value} (U:OwnR B w v xs) (h:∀g,g<w.heap.size→v.ownBlock=some g→w2.heap[g]?=w.heap[g]?):OwnR B w2 v xs:=by
 refine⟨U.1, ?_⟩
 rcases U.2 with hn | ⟨g,cap,cur,hv,hb2,hg,rest⟩
 · exact .inl hn
 · refine .inr ⟨g,cap,cur,hv,hb2, ?_,rest⟩
   rw [←hg]
   exact h g (Array.getElem?_eq_some_iff.1 hg).1 (by rw [hv];rfl)
theorem ivs_block {w w2:World} {g o n:Nat} {X:Nat→Nat×Nat} (U:Ivs w (some ⟨g,o,none⟩) n X) (hs:w.heap.size≤w2.heap.size) (h:w2.heap[g]?=w.heap[g]?):Ivs w2 (some ⟨g,o,none⟩) n X:=fun i hi=>by
 obtain⟨b',o',e,l,a0,a1,r⟩:=U i hi
 cases e
 exact⟨g,o,rfl,Nat.lt_of_lt_of_le l hs,(World.cell?_of_block (w:=w) h).trans a0,(World.cell?_of_block (w:=w) h).trans a1,r⟩
theorem ivs_lt {w:World} {g o n:Nat} {X:Nat→Nat×Nat} (U:Ivs w (some ⟨g,o,none⟩) n X) (hn:0<n):g<w.heap.size:=by
 obtain⟨b',o',e,l, -⟩:=U 0 hn
 cases e
 exact l
structure SeS (w0:World) (n b db:Nat) (oV uV:Value) (X:Nat→Nat×Nat) (L:Nat→List (Nat×Nat)) (k:Nat) (gr rc:Nat→Nat) (w:World) (vo:Nat→Value) (vv:Value):Prop where
 bl:Below w0.heap.size w0 w
 pl:WithPl w b
 c2:w.cell? ⟨b,2,none⟩=some oV
 c3:w.cell? ⟨b,3,none⟩=some uV
 c4:w.cell? ⟨b,4,none⟩=some vv
 c5:w.cell? ⟨b,5,none⟩=some (.slice (some ⟨db,0,none⟩) n n)
 f4:w.frozen? ⟨b,4,none⟩=false
 b0:w0.heap.size≤b
 d0:w0.heap.size≤db
 dl:db<w.heap.size
 bd:b≠db
 own:∀i,i<n→OwnI w0.heap.size w (vo i) (L i)
 cel:∀i,i<n→w.cell? ⟨db,i*2,none⟩=some (vo i)
 fz:∀i,i<n→w.frozen? ⟨db,i*2,none⟩=false
 ap:∀i j,i<n→j<n→i≠j→Ap (vo i) (vo j)
 ob:∀i,i<n→(vo i).ownBlock≠some b∧(vo i).ownBlock≠some db
 hv:OwnR w0.heap.size w vv ((List.range (k+1)).map fun i=>.slice (some ⟨gr i,0,none⟩) 1 (rc i))
 vb:vv.ownBlock≠some b∧vv.ownBlock≠some db
 row:∀i,i≤k→Ivs w (some ⟨gr i,0,none⟩) 1 (fun _=>X i)
 rb:∀i,i≤k→gr i≠b∧gr i≠db∧vv.ownBlock≠some (gr i)∧∀j,j<n→(vo j).ownBlock≠some (gr i)
variable {w0:World} {n b db:Nat} {oV uV:Value} {X:Nat→Nat×Nat} {L:Nat→List (Nat×Nat)} {k:Nat} {gr rc:Nat→Nat} {w:World} {vo:Nat→Value} {vv:Value}
theorem SeS.keep {W:World} (h:SeS w0 n b db oV uV X L k gr rc w vo vv) (hb:Below w.heap.size w W):SeS w0 n b db oV uV X L k gr rc W vo vv where
 bl:=later h.bl hb
 pl:=h.pl.keep hb
 c2:=keepsC hb h.c2 h.pl.2
 c3:=keepsC hb h.c3 h.pl.2
 c4:=keepsC hb h.c4 h.pl.2
 c5:=keepsC hb h.c5 h.pl.2
 f4:=keepsF hb h.f4 h.pl.2
 b0:=h.b0
 d0:=h.d0
 dl:=Nat.lt_of_lt_of_le h.dl hb.size
 bd:=h.bd
 own:=fun i hi=>(h.own i hi).keep hb
 cel:=fun i hi=>keepsC hb (h.cel i hi) h.dl
 fz:=fun i hi=>keepsF hb (h.fz i hi) h.dl
 ap:=h.ap
 ob:=h.ob
 hv:=h.hv.keep hb
 vb:=h.vb
 row:=fun i hi=>(h.row i hi).keep hb
 rb:=h.rb
theorem SeS.push (h:SeS w0 n b db oV uV X L k gr rc w vo vv) {j:Nat} (hj:j<n) {p:Nat×Nat} {v':Value} {O:Obj} {wp:World} (U:OwnI w0.heap.size wp v' (L j++[p])) (G:(w.alloc O).grownBy wp (vo j).ownBlock) (g:Gw (w.heap.size+1) (vo j) v') :
   SeS w0 n b db oV uV X (updT L j (L j++[p])) k gr rc (wp.setCell ⟨db,j*2,none⟩ v') (updT vo j v') vv:=by
 have K:Below w.heap.size w (w.alloc O):=Below.alloc (Below.refl _ _) (Nat.le_refl _) _
 have zs:w.heap.size≤(wp.setCell ⟨db,j*2,none⟩ v').heap.size:=by rw [World.size_setCell];exact Nat.le_trans K.size G.size
 have blk:∀c,c<w.heap.size→(vo j).ownBlock≠some c→wp.heap[c]?=w.heap[c]?:=fun c hc hne=>(G.block c (Nat.lt_of_lt_of_le hc K.size) (fun e=>hne e.symm)).trans (K.block c hc)
 have blk2:∀c,c<w.heap.size→(vo j).ownBlock≠some c→c≠db→(wp.setCell ⟨db,j*2,none⟩ v').heap[c]?=w.heap[c]?:=fun c hc hne hd=>(Below.heap_setCell _ _ _ _ hd).trans (blk c hc hne)
 have oj:=h.ob j hj
 have vlt:=fun c e=>own_at (h.own j hj) c e
 have v'n:∀c,c<w.heap.size→(vo j).ownBlock≠some c→v'.ownBlock≠some c:=by
   intro c hc hne e
   rcases g with ⟨q, -⟩ | q
   · rw [q] at e;exact hne e
   · rw [q] at e
     cases e
     omega
 have blt:=h.pl.2
 have cb:∀{o:Nat} {v:Value},w.cell? ⟨b,o,none⟩=some v→(wp.setCell ⟨db,j*2,none⟩ v').cell? ⟨b,o,none⟩=some v:=fun {o v} hc=>(World.cell?_of_block (w:=w) (blk2 b blt oj.1 h.bd)).trans hc
 have cd:∀{o:Nat} {v:Value},w.cell? ⟨db,o,none⟩=some v→wp.cell? ⟨db,o,none⟩=some v:=fun {o v} hc=>(World.cell?_of_block (w:=w) (blk db h.dl oj.2)).trans hc
 refine⟨?_,⟨cb h.pl.1,Nat.lt_of_lt_of_le h.pl.2 zs⟩,cb h.c2,cb h.c3,cb h.c4,cb h.c5, ?_,h.b0,h.d0,Nat.lt_of_lt_of_le h.dl zs,h.bd, ?_, ?_, ?_, ?_, ?_, ?_,h.vb, ?_, ?_⟩
 · have t:Below w0.heap.size w0 wp:=Below.grown (later h.bl K) G (by have:=h.bl.size;have:=K.size;omega) (fun c e=>(vlt c e).1)
   exact Below.setCell t h.d0 _
 · exact (World.frozen?_of_block (w:=w) (blk2 b blt oj.1 h.bd)).trans h.f4
 · intro i hi
   by_cases e:i=j
   · subst e
     rw [updT_same,updT_same]
     exact own_block U fun c _ hv=>Below.heap_setCell _ _ _ _ (show c≠db from fun q=>v'n db h.dl oj.2 (q ▸ hv))
   · rw [updT_other _ _ e,updT_other _ _ e]
     refine own_block (h.own i hi) fun c hc hv=>blk2 c hc ?_ (fun q=>(h.ob i hi).2 (by rw [←q];exact hv))
     intro q
     rcases h.ap i j hi hj e with a | a | a
     · rw [hv] at a;cases a
     · rw [q] at a;cases a
     · exact a (hv.trans q.symm)
 · intro i hi
   by_cases e:i=j
   · subst e
     rw [updT_same]
     exact World.cell?_setCell_same _ _ _ (cd (h.cel i hi))
   · rw [updT_other _ _ e]
     rw [World.cell?_setCell_other _ _ _ _ (by intro q;injection q with _ q2;omega)]
     exact cd (h.cel i hi)
 · intro i hi
   rw [World.frozen?_setCell]
   exact (World.frozen?_of_block (w:=w) (blk db h.dl oj.2)).trans (h.fz i hi)
 · intro i i2 hi hi2 ne
   by_cases e:i=j
   · subst e
     rw [updT_same,updT_other _ _ (fun q=>ne q.symm)]
     exact (Ap.grown (h.ap i2 i hi2 hi (fun q=>ne q.symm)) (h.own i2 hi2) (Nat.le_succ _) g).symm
   · by_cases e2:i2=j
     · subst e2
       rw [updT_same,updT_other _ _ e]
       exact Ap.grown (h.ap i i2 hi hi2 ne) (h.own i hi) (Nat.le_succ _) g
     · rw [updT_other _ _ e,updT_other _ _ e2]
       exact h.ap i i2 hi hi2 ne
 · intro i hi
   by_cases e:i=j
   · subst e
     rw [updT_same]
     exact⟨v'n b blt oj.1,v'n db h.dl oj.2⟩
   · rw [updT_other _ _ e]
     exact h.ob i hi
 · refine ownR_block h.hv fun c hc hv=>blk2 c hc ?_ (fun q=>h.vb.2 (by rw [←q];exact hv))
   intro q
   rcases own_apart (h.own j hj) h.hv with a | a
   · rw [q] at a;cases a
   · exact a (q.trans hv.symm)
 · intro i hi
   have r:=h.rb i hi
   exact ivs_block (h.row i hi) zs (blk2 _ (ivs_lt (h.row i hi) (by omega)) (r.2.2.2 j hj) r.2.1)
 · intro i hi
   have r:=h.rb i hi
   refine⟨r.1,r.2.1,r.2.2.1,fun t ht=>?_⟩
   by_cases e:t=j
   · subst e
     rw [updT_same]
     exact v'n _ (ivs_lt (h.row i hi) (by omega)) (r.2.2.2 t ht)
   · rw [updT_other _ _ e]
     exact r.2.2.2 t ht
theorem run_pushAR {B:Nat} {wr:World} (ty:TypeId) (v:Value) (vs:List Value) (A:Option Addr) (l c:Nat) (hown:OwnR B wr v vs) (hl:vs.length≤2000000) (hB:B≤wr.heap.size) :
   ∃v' w',(Builtin.append_ #[29,29] ty #[v,.slice (some ⟨wr.heap.size,0,none⟩) 1 1]).run Tryz.prog (wr.alloc (.cells #[.slice A l c] 26))=.ok v' w'∧OwnR B w' v' (vs++[.slice A l c])∧(wr.alloc (.cells #[.slice A l c] 26)).grownBy w' v.ownBlock∧Gw (wr.heap.size+1) v v':=by
 obtain⟨i0,hi,hz0,hz1,hz2⟩:=info_parts Tryz.infoRow
 have hal:Below wr.heap.size wr (wr.alloc (.cells #[.slice A l c] 26)):=Below.alloc (Below.refl _ _) (Nat.le_refl _) _
 have hown2:OwnR B (wr.alloc (.cells #[.slice A l c] 26)) v vs:=hown.keep hal
 have hz:(wr.alloc (.cells #[.slice A l c] 26)).heap.size=wr.heap.size+1:=by simp
 have hn:∀(j:Nat) (u:Value),([.slice A l c]:List Value)[j]?=some u→(wr.alloc (.cells #[.slice A l c] 26)).cell? ((⟨wr.heap.size,0,none⟩:Addr).add j)=some u:=by
   intro j u hj
   match j,hj with
   | 0,hj=>simp at hj;subst hj;simp [Addr.add]
 have h1:∀u∈([.slice A l c]:List Value),u.oneCell'=true:=by
   intro u hu
   simp at hu
   rw [hu]
   rfl
 obtain⟨v',w',hr,a1,a2, -⟩:=run_append_own (P:=Tryz.prog) (wr.alloc (.cells #[.slice A l c] 26)) B 29 ty 26 i0 (.slice none 0 0) 1 24 Tryz.underlying29 hi hz0 hz1 hz2 rfl (by decide) v vs.length vs hown2 ⟨wr.heap.size,0,none⟩ 1 1 [.slice A l c] rfl hn h1 (by unfold maxLen;omega) (by omega) (by simp;omega)
 refine⟨v',w',hr, ?_,a2, ?_⟩
 · unfold OwnR
   rw [List.length_append]
   exact a1
 · clear a1 a2
   rcases hown2.2 with ⟨rfl,hx⟩ | ⟨g,cap,cur,rfl, -,hg,hnc, -,hcs,htake⟩
   · have hr2:=run_append_nil (P:=Tryz.prog) (wr.alloc (.cells #[.slice A l c] 26)) 29 ty 26 i0 (.slice none 0 0) Tryz.underlying29 hi hz0 ⟨wr.heap.size,0,none⟩ 1 1 [.slice A l c] (by rw [hz1];rfl) hn (by omega) (by omega) (by rw [hz2];omega)
     rw [hr,hz] at hr2
     injection hr2 with e1 e2
     rw [e1]
     exact Or.inr rfl
   · by_cases hroom:vs.length+1≤cap
     · have hr2:=run_append_room (P:=Tryz.prog) (wr.alloc (.cells #[.slice A l c] 26)) 29 ty 26 i0 Tryz.underlying29 hi g vs.length cap cur hg ⟨wr.heap.size,0,none⟩ 1 1 [.slice A l c] (by rw [hz1];rfl) hn h1 hroom (by rw [hz1,hcs];show vs.length*1+1≤cap*1;omega)
       rw [hr] at hr2
       injection hr2 with e1 e2
       rw [e1]
       exact Or.inl ⟨rfl,by simp [Value.ownBlock]⟩
     · have holds:∀(j:Nat) (u:Value),vs[j]?=some u→(wr.alloc (.cells #[.slice A l c] 26)).cell? ((⟨g,0,none⟩:Addr).add j)=some u:=World.ownsRow.cells hown2 (g:=g) rfl
       have hr2:=run_append_grow (P:=Tryz.prog) (wr.alloc (.cells #[.slice A l c] 26)) 29 ty 26 i0 (.slice none 0 0) Tryz.underlying29 hi hz0 ⟨g,0,none⟩ vs.length cap vs (by rw [hz1];omega) holds ⟨wr.heap.size,0,none⟩ 1 1 [.slice A l c] (by rw [hz1];rfl) hn (by omega) (by omega) (growslice_fits (by omega) (by rw [hz2];omega))
       rw [hr,hz] at hr2
       injection hr2 with e1 e2
       rw [e1]
       exact Or.inr rfl
theorem wp_pushA {B:Nat} {wr:World} {o:Oper} {a:Act} {K:Act→World→Prop} {Q:Exit→Act→World→Prop} (s x:Operand)
   (ho:o.op=.call { callee:=.builtin .append,args:=#[s,x],argTypes:=#[26,26] }) (v:Value) (xs:List (Nat×Nat)) (p q:Nat) (hs:a.eval s=v) (hx:a.eval x=.slice (some ⟨wr.heap.size,0,none⟩) 1 1)
   (hown:OwnI B wr v xs) (hl:xs.length≤2000000) (hB:B≤wr.heap.size)
   (h:∀v' w',OwnI B w' v' (xs++[(p,q)])→(wr.alloc (.cells #[.float .f64 p,.float .f64 q] 43)).grownBy w' v.ownBlock→Gw (wr.heap.size+1) v v'→K (a.put o.dst v') w'):o.wp Tryz.prog a (wr.alloc (.cells #[.float .f64 p,.float .f64 q] 43)) K Q:=by
 obtain⟨v',w',hr,h1,h2,h3⟩:=run_pushA o.type v xs p q hown hl hB
 unfold Oper.wp execOp
 simp only [ho,resolve,invoke,builtin,Sem.run_bind,Sem.run_pure,Result.andThen_ok,List.map_toArray,List.map_cons,List.map_nil,hs,hx,hr]
 exact h v' w' h1 h2 h3
theorem wp_pushAR {B:Nat} {wr:World} {o:Oper} {a:Act} {K:Act→World→Prop} {Q:Exit→Act→World→Prop} (s x:Operand)
   (ho:o.op=.call { callee:=.builtin .append,args:=#[s,x],argTypes:=#[29,29] }) (v:Value) (xs:List Value) (A:Option Addr) (l c:Nat) (hs:a.eval s=v) (hx:a.eval x=.slice (some ⟨wr.heap.size,0,none⟩) 1 1)
   (hown:OwnR B wr v xs) (hl:xs.length≤2000000) (hB:B≤wr.heap.size)
   (h:∀v' w',OwnR B w' v' (xs++[.slice A l c])→(wr.alloc (.cells #[.slice A l c] 26)).grownBy w' v.ownBlock→Gw (wr.heap.size+1) v v'→K (a.put o.dst v') w'):o.wp Tryz.prog a (wr.alloc (.cells #[.slice A l c] 26)) K Q:=by
 obtain⟨v',w',hr,h1,h2,h3⟩:=run_pushAR o.type v xs A l c hown hl hB
 unfold Oper.wp execOp
 simp only [ho,resolve,invoke,builtin,Sem.run_bind,Sem.run_pure,Result.andThen_ok,List.map_toArray,List.map_cons,List.map_nil,hs,hx,hr]
 exact h v' w' h1 h2 h3
variable {w0:World} {n b db:Nat} {oV uV:Value} {X:Nat→Nat×Nat} {L:Nat→List (Nat×Nat)} {k:Nat} {gr rc:Nat→Nat} {w:World} {vo:Nat→Value} {vv:Value}
def rowsT (gr rc:Nat→Nat) (k:Nat):List Value:=(List.range (k+1)).map fun i=>.slice (some ⟨gr i,0,none⟩) 1 (rc i)
theorem rowsT_push (gr rc:Nat→Nat) (k g c:Nat):rowsT (updT gr (k+1) g) (updT rc (k+1) c) (k+1)=rowsT gr rc k++[.slice (some ⟨g,0,none⟩) 1 c]:=by
 unfold rowsT
 rw [List.range_succ,List.map_append,List.map_singleton,updT_same,updT_same]
 congr 1
 refine List.map_congr_left fun i hi=>?_
 have:i<k+1:=List.mem_range.1 hi
 rw [updT_other _ _ (by omega),updT_other _ _ (by omega)]
theorem SeS.pushV (h:SeS w0 n b db oV uV X L k gr rc w vo vv) {g c:Nat} (I:Ivs w (some ⟨g,0,none⟩) 1 (fun _=>X (k+1))) (gb:g≠b∧g≠db∧vv.ownBlock≠some g∧∀j,j<n→(vo j).ownBlock≠some g)
   {v':Value} {O:Obj} {wp:World} (U:OwnR w0.heap.size wp v' (rowsT gr rc k++[.slice (some ⟨g,0,none⟩) 1 c])) (G:(w.alloc O).grownBy wp vv.ownBlock) (q:Gw (w.heap.size+1) vv v') :
   SeS w0 n b db oV uV X L (k+1) (updT gr (k+1) g) (updT rc (k+1) c) (wp.setCell ⟨b,4,none⟩ v') vo v':=by
 have K:Below w.heap.size w (w.alloc O):=Below.alloc (Below.refl _ _) (Nat.le_refl _) _
 have zs:w.heap.size≤(wp.setCell ⟨b,4,none⟩ v').heap.size:=by rw [World.size_setCell];exact Nat.le_trans K.size G.size
 have blk:∀c,c<w.heap.size→vv.ownBlock≠some c→wp.heap[c]?=w.heap[c]?:=fun c hc hne=>(G.block c (Nat.lt_of_lt_of_le hc K.size) (fun e=>hne e.symm)).trans (K.block c hc)
 have blk2:∀c,c<w.heap.size→vv.ownBlock≠some c→c≠b→(wp.setCell ⟨b,4,none⟩ v').heap[c]?=w.heap[c]?:=fun c hc hne hd=>(Below.heap_setCell _ _ _ _ hd).trans (blk c hc hne)
 have vlt:∀c,vv.ownBlock=some c→w0.heap.size≤c∧c<w.heap.size:=fun c e=>World.ownsRow.lt h.hv c e
 have v'n:∀c,c<w.heap.size→vv.ownBlock≠some c→v'.ownBlock≠some c:=by
   intro c hc hne e
   rcases q with ⟨t, -⟩ | t
   · rw [t] at e;exact hne e
   · rw [t] at e
     cases e
     omega
 have blt:=h.pl.2
 have cb:∀{o:Nat} {v:Value},o≠4→w.cell? ⟨b,o,none⟩=some v→(wp.setCell ⟨b,4,none⟩ v').cell? ⟨b,o,none⟩=some v:=fun {o v} ho hc=>by
   rw [World.cell?_setCell_other _ _ _ _ (by intro t;injection t with _ t2;omega)]
   exact (World.cell?_of_block (w:=w) (blk b blt h.vb.1)).trans hc
 have cd:∀{o:Nat} {v:Value},w.cell? ⟨db,o,none⟩=some v→(wp.setCell ⟨b,4,none⟩ v').cell? ⟨db,o,none⟩=some v:=fun {o v} hc=>(World.cell?_of_block (w:=w) (blk2 db h.dl h.vb.2 (fun t=>h.bd t.symm))).trans hc
 have own_v:∀i,i<n→∀c,(vo i).ownBlock=some c→vv.ownBlock≠some c:=by
   intro i hi c hc e
   rcases own_apart (h.own i hi) h.hv with a | a
   · rw [hc] at a;cases a
   · exact a (hc.trans e.symm)
 refine⟨?_,⟨cb (by omega) h.pl.1,Nat.lt_of_lt_of_le h.pl.2 zs⟩,cb (by omega) h.c2,cb (by omega) h.c3, ?_,cb (by omega) h.c5, ?_,h.b0,h.d0,Nat.lt_of_lt_of_le h.dl zs,h.bd, ?_, ?_, ?_,h.ap,h.ob, ?_, ?_, ?_, ?_⟩
 · have t:Below w0.heap.size w0 wp:=Below.grown (later h.bl K) G (by have:=h.bl.size;have:=K.size;omega) (fun c e=>(vlt c e).1)
   exact Below.setCell t h.b0 _
 · exact World.cell?_setCell_same _ _ _ ((World.cell?_of_block (w:=w) (blk b blt h.vb.1)).trans h.c4)
 · rw [World.frozen?_setCell]
   exact (World.frozen?_of_block (w:=w) (blk b blt h.vb.1)).trans h.f4
 · intro i hi
   exact own_block (h.own i hi) fun c hc hv=>blk2 c hc (own_v i hi c hv) (fun t=>(h.ob i hi).1 (t ▸ hv))
 · exact fun i hi=>cd (h.cel i hi)
 · intro i hi
   rw [World.frozen?_setCell]
   exact (World.frozen?_of_block (w:=w) (blk db h.dl h.vb.2)).trans (h.fz i hi)
 · show OwnR _ _ _ (rowsT (updT gr (k+1) g) (updT rc (k+1) c) (k+1))
   rw [rowsT_push]
   exact ownR_block U fun c _ hv=>Below.heap_setCell _ _ _ _ (show c≠b from fun t=>v'n b blt h.vb.1 (t ▸ hv))
 · exact⟨v'n b blt h.vb.1,v'n db h.dl h.vb.2⟩
 · intro i hi
   by_cases e:i=k+1
   · subst e
     rw [updT_same]
     exact ivs_block I zs (blk2 _ (ivs_lt I (by omega)) gb.2.2.1 gb.1)
   · rw [updT_other _ _ e]
     have hi':i≤k:=by omega
     have r:=h.rb i hi'
     exact ivs_block (h.row i hi') zs (blk2 _ (ivs_lt (h.row i hi') (by omega)) r.2.2.1 r.1)
 · intro i hi
   by_cases e:i=k+1
   · subst e
     rw [updT_same]
     exact⟨gb.1,gb.2.1,v'n _ (ivs_lt I (by omega)) gb.2.2.1,gb.2.2.2⟩
   · rw [updT_other _ _ e]
     have hi':i≤k:=by omega
     have r:=h.rb i hi'
     exact⟨r.1,r.2.1,v'n _ (ivs_lt (h.row i hi') (by omega)) r.2.2.1,r.2.2.2⟩
theorem SeS.db_at (h:SeS w0 n b db oV uV X L k gr rc w vo vv) {j:Nat} (hj:j<n) {O:Obj} {wp:World} (G:(w.alloc O).grownBy wp (vo j).ownBlock):wp.cell? ⟨db,j*2,none⟩=some (vo j)∧wp.frozen? ⟨db,j*2,none⟩=false:=by
 have K:Below w.heap.size w (w.alloc O):=Below.alloc (Below.refl _ _) (Nat.le_refl _) _
 have e:wp.heap[db]?=w.heap[db]?:=(G.block db (Nat.lt_of_lt_of_le h.dl K.size) (fun e=>(h.ob j hj).2 e.symm)).trans (K.block db h.dl)
 exact⟨(World.cell?_of_block (w:=w) e).trans (h.cel j hj),(World.frozen?_of_block (w:=w) e).trans (h.fz j hj)⟩
theorem SeS.b_at (h:SeS w0 n b db oV uV X L k gr rc w vo vv) {O:Obj} {wp:World} (G:(w.alloc O).grownBy wp vv.ownBlock):wp.cell? ⟨b,4,none⟩=some vv∧wp.frozen? ⟨b,4,none⟩=false:=by
 have K:Below w.heap.size w (w.alloc O):=Below.alloc (Below.refl _ _) (Nat.le_refl _) _
 have e:wp.heap[b]?=w.heap[b]?:=(G.block b (Nat.lt_of_lt_of_le h.pl.2 K.size) (fun e=>h.vb.1 e.symm)).trans (K.block b h.pl.2)
 exact⟨(World.cell?_of_block (w:=w) e).trans h.c4,(World.frozen?_of_block (w:=w) e).trans h.f4⟩
theorem ownR_form {B:Nat} {w:World} {v:Value} {vs:List Value} (h:OwnR B w v vs):∃A C,v=.slice A vs.length C:=by
 rcases h.2 with ⟨rfl,hn⟩ | ⟨g,cap,cur,rfl, -⟩
 · rw [hn]
   exact⟨none,0,rfl⟩
 · exact⟨_,_,rfl⟩
end Go.Proofs.YtgfppdboogldlaaGreat
