/- Columns, and rows of noughts: what the program makes. The program's product of two matrices. The program's Mul; two matrices of the same intervals are the same to the reference. The reference's product of two matrices. The laws' run without slopes. TapeEvals: the law's walk. Tapes that may be, and what a tape's Eval, Grad refuse. Slopes: each closure that an operation's rule is. Slopes: what answers the closures. slices.Clone of a slice of intervals. -/
import Derived.Test.YtnnfafilgiajoaaGreatZ39
import Derived.Test.YtnnfafilgiajoaaGreatZ41
import Derived.Deep.AppendLies
import Derived.Deep.RegionLaw
import Derived.Test.YtnnfafilgiajoaaGreatZ18
import Derived.Test.YtnnfafilgiajoaaGreatZ32
import Derived.Test.YtnnfafilgiajoaaGreatZ29
import Derived.Lib.SliceRun
namespace Go.Proofs.YtnnfafilgiajoaaGreat
open Go.ChangeShapes Go.WideShapes Go.ChangeAt Go.RowKit
theorem Img.far {w:World} {g N c k:Nat} {xs:Nat→Nat×Nat} (h:Img w g N xs) (hne:c≠g) (v:Value):Img (w.setCell ⟨c,k,none⟩ v) g N xs:=by
 refine⟨by simp only [World.size_setCell];exact h.1,fun i hi=>?_⟩
 obtain⟨a,b,d,e⟩:=h.2 i hi
 have hne':g≠c:=fun e=>hne e.symm
 exact⟨by simp [World.cell?_setCell_far, *],by simp [World.cell?_setCell_far, *],by go_simp,by go_simp⟩
theorem noneQ_wide:bndB noneQ=false:=by decide
theorem vals_some {O:Nat→Opw} {X:Nat→Nat×Nat} {n:Nat} {vars:Int} (hr:∀i,i<n→opB (O i) (i:Int) vars=true) (hl:∀i,i<n→W2 ((O i).lo,(O i).hi)) (hX:∀i:Nat,(i:Int)<vars→W2 (X i)∧hsB (X i).1 (X i).2=true):∀k,k≤n→(∀j,j<k→errI O X j=0)→∀p∈vsL O X k,Some2 p.1 p.2:=by
 intro k
 induction k with
 | zero=>intro _ _ p hp;cases hp
 | succ i ih =>
   intro hi he p hp
   have ih':=ih (by omega) (fun j hj=>he j (by omega))
   have w':=vsL_W2 hr hl (fun j hj=>(hX j hj).1) i (by omega)
   rw [vsL_step] at hp
   rcases List.mem_append.1 hp with h | h
   · exact ih' p h
   · have e:p=valI O X i:=by simpa using h
     rw [e]
     obtain⟨-,g1,g2,g3,g4⟩:=opB_says (hr i (by omega))
     have at_:∀j:Nat,j<i→W2 (vAt O X i j)∧Some2 (vAt O X i j).1 (vAt O X i j).2:=fun j hj=>by
       have lj:j<(vsL O X i).length:=by rw [vsL_len];exact hj
       have:vAt O X i j=(vsL O X i)[j]:=by unfold vAt;simp [lj]
       rw [this]
       exact⟨w' _ (List.getElem_mem lj),ih' _ (List.getElem_mem lj)⟩
     have zs:W2 zz∧Some2 zz.1 zz.2:=⟨zz_W2,hs_iff.1 (by decide)⟩
     have ha:W2 (argA (O i) (vAt O X i))∧Some2 (argA (O i) (vAt O X i)).1 (argA (O i) (vAt O X i)).2:=by
       unfold argA
       split
       · rename_i c
         exact at_ _ (by have:=g1 c;omega)
       · exact zs
     have hb:W2 (argB (O i) (vAt O X i))∧Some2 (argB (O i) (vAt O X i)).1 (argB (O i) (vAt O X i)).2:=by
       unfold argB
       split
       · rename_i c
         exact at_ _ (by have:=g2 c;omega)
       · exact zs
     have sh:Shp (valI O X i):=evalQ_shp g4 (fun e=>(hX _ (by have:=g3 e;omega)).2) ha.1 hb.1 ha.2 hb.2
     have e0:=he i (by omega)
     rcases sh with q | S
     · exfalso
       unfold errI errQ at e0
       have q':evalQ (O i) (argA (O i) (vAt O X i)) (argB (O i) (vAt O X i)) X=noneQ:=q
       rw [q',noneQ_wide] at e0
       split at e0 <;> simp at e0
     · exact S
set_option maxHeartbeats 1000000 in
theorem eval_bad (v:Int) (A:Option Addr) (n C:Nat) (D:Option Addr) (m E:Nat) (xs:Value) (e:Int) (he:e=50∨e=1) (w:World) (c1:∀W,Below w.heap.size w W→Calls Tryz.prog 29 #[tapeV v A n C D m E,xs] W fun e' w'=>e'=.returned (.int .i64 e)∧Below W.heap.size W w') :
   Calls Tryz.prog 12 #[tapeV v A n C D m E,xs] w fun e' w'=>e'=.returned (.tuple #[.slice none 0 0,.int .i64 e])∧Below w.heap.size w w':=by
 unfold tapeV at *
 rcases he with rfl | rfl
 all_goals
   have T:=hasT_new w v A n C D m E
   have HB:Below w.heap.size w (w.alloc (.cells #[.int .i64 v,.slice A n C,.slice D m E] 25)):=by go_grown
   go_enter Tryz.func12,Tryz.ntmps12
   go_upto_region 1 with fail
   generalize (w.alloc (.cells #[.int .i64 v,.slice A n C,.slice D m E] 25))=V1 at *
   obtain⟨t0,t1,t2,tl⟩:=id T
   go_wp2_with (go_at_call 29;refine (c1 _ HB).mono ?_;rintro _ VV ⟨rfl,hb1⟩;replace HB:=later HB hb1)
   refine bodyPost_ret (v:=.tuple #[.slice none 0 0,.int .i64 _]) (by simp [results,Tryz.results12,go_sem]) rfl ⟨rfl,HB⟩
theorem right_all {v:Int} {n:Nat} {X:Nat→Opw} {m:Nat} {Y:Nat→Int} (h:rightT v n X m Y=true):(0≤v∧v≤64∧n≤4000∧m≤400)∧(∀i,i<n→opB (X i) (i:Int) v=true)∧(∀k,k<m→0≤Y k∧Y k<(n:Int)):=by
 unfold rightT sizesB opsB outsB at h
 simp only [Bool.and_eq_true] at h
 obtain⟨⟨h1,h2⟩,h3⟩:=h
 rw [all_upto2] at h2 h3
 exact⟨of_decide_eq_true h1,h2,fun k hk=>of_decide_eq_true (h3 k hk)⟩
theorem ref_say (v:Int) (A:Option Addr) (n C:Nat) (D:Option Addr) (m E:Nat) (X:Nat→Opw) (Y:Nat→Int) (hr:rightT v n X m Y=true) (AX:Option Addr) (mx CX:Nat) (XX:Nat→Nat×Nat) (hmx:mx≤9223372036854775807) (w:World) (VX:Ops w A n X) (VY:Ins w D m Y) (VI:Ivs w AX mx XX) :
   Calls Tryz.prog 29 #[tapeV v A n C D m E,.slice AX mx CX] w fun e w'=>e=.returned (.int .i64 (if (mx:Int)=v∧allB mx XX=true then 0 else 1))∧Below w.heap.size w w':=by
 obtain⟨h1,h2,h3⟩:=right_all hr
 have cR:∀W,Below w.heap.size w W→Calls Tryz.prog 40 #[tapeV v A n C D m E] W fun e' w'=>e'=.returned (.int .i64 0)∧Below W.heap.size W w':=fun W hW=>by
   have:=right_t v A n C D m E X Y (by omega) (by omega) W (VX.keep hW) (VY.keep hW)
   rw [hr] at this
   exact this
 by_cases c:(mx:Int)=v
 · have:=ref_all v A n C D m E AX mx CX XX hmx (by simp [c]) w VI cR
   simp only [c,true_and]
   exact this
 · have:=ref_len v A n C D m E AX mx CX (by simpa using c) w cR
   rw [if_neg (fun q=>c q.1)]
   exact this
structure Bex (x:Nat) (w W:World):Prop where
 size:w.heap.size≤W.heap.size
 block:∀b,b<w.heap.size→b≠x→W.heap[b]?=w.heap[b]?
theorem Bex.set {x:Nat} {w W:World} (h:Bex x w W) (o:Nat) (v:Value):Bex x w (W.setCell ⟨x,o,none⟩ v):=⟨by rw [World.size_setCell];exact h.size,fun b hb hne=>by rw [Below.heap_setCell _ _ _ _ hne];exact h.block b hb hne⟩
theorem Bex.cell {x:Nat} {w W:World} (h:Bex x w W) {b o:Nat} {v:Value} (hc:w.cell? ⟨b,o,none⟩=some v) (hl:b<w.heap.size) (hne:b≠x):W.cell? ⟨b,o,none⟩=some v:=(World.cell?_of_block (w:=w) (h.block b hl hne)).trans hc
theorem Bex.frozen {x:Nat} {w W:World} (h:Bex x w W) {b o:Nat} (hc:w.frozen? ⟨b,o,none⟩=false) (hl:b<w.heap.size) (hne:b≠x):W.frozen? ⟨b,o,none⟩=false:=by
 unfold World.frozen? at *
 simp only [h.block b hl hne]
 exact hc
theorem Has2.ex {x:Nat} {w W:World} {b:Nat} {u v:Value} (h:Has2 w b u v) (k:Bex x w W) (hne:b≠x):Has2 W b u v:=⟨k.cell h.1 h.2.2.2.2 hne,k.cell h.2.1 h.2.2.2.2 hne,k.frozen h.2.2.1 h.2.2.2.2 hne,k.frozen h.2.2.2.1 h.2.2.2.2 hne,Nat.lt_of_lt_of_le h.2.2.2.2 k.size⟩
theorem Has2.far1 {w:World} {b c o:Nat} {x y:Value} (h:Has2 w b x y) (hne:c≠b) (v:Value):Has2 (w.setCell ⟨c,o,none⟩ v) b x y:=by
 have k:Bex c w (w.setCell ⟨c,o,none⟩ v):=Bex.set ⟨Nat.le_refl _,fun _ _ _=>rfl⟩ o v
 exact h.ex k (fun e=>hne e.symm)
theorem ivCells_cells {w:World} {b o n:Nat} {X:Nat→Nat×Nat} (V:Ivs w (some ⟨b,o,none⟩) n X):∀(j:Nat) (u:Value),(ivCells ((List.range n).map X))[j]?=some u→w.cell? ((⟨b,o,none⟩:Addr).add j)=some u:=by
 intro j u hj
 have hlen:j<n*2:=by
   have:=(List.getElem?_eq_some_iff.1 hj).1
   rw [ivCells_len,List.length_map,List.length_range] at this
   exact this
 obtain⟨i,hi⟩:∃i,i=j/2:=⟨_,rfl⟩
 have hin:i<n:=by omega
 have hget:((List.range n).map X)[i]?=some (X i):=by simp [hin]
 obtain⟨e0,e1⟩:=ivCells_at _ i _ hget
 obtain⟨b',o',e,l,c0,c1, -⟩:=V i hin
 cases e
 have hadd:(⟨b,o,none⟩:Addr).add j=⟨b,o+j,none⟩:=by unfold Addr.add;split <;> simp_all
 rw [hadd]
 rcases Nat.mod_two_eq_zero_or_one j with c | c
 · have ej:j=i*2:=by omega
   rw [ej] at hj ⊢
   rw [e0] at hj
   cases hj
   exact c0
 · have ej:j=i*2+1:=by omega
   rw [ej] at hj ⊢
   rw [e1] at hj
   cases hj
   rw [←Nat.add_assoc]
   exact c1
theorem ivCells_one (xs:List (Nat×Nat)):∀u∈ivCells xs,u.oneCell'=true:=by
 induction xs with
 | nil=>intro u hu;cases hu
 | cons p t ih =>
   intro u hu
   have e:ivCells (p :: t)=.float .f64 p.1 :: .float .f64 p.2 :: ivCells t:=rfl
   rw [e] at hu
   simp only [List.mem_cons] at hu
   rcases hu with rfl | rfl | h
   · rfl
   · rfl
   · exact ih u h
set_option maxHeartbeats 1000000 in
theorem clone_own (b o n C:Nat) (X:Nat→Nat×Nat) (hn:n≤64) (w:World) (V:Ivs w (some ⟨b,o,none⟩) n X) :
   Calls Tryz.prog 45 #[.slice (some ⟨b,o,none⟩) n C] w fun e w'=>(∃v,e=.returned v∧OwnI w.heap.size w' v ((List.range n).map X))∧Below w.heap.size w w':=by
 have hx:=ivs_words V
 have hown:=ownI_empty w
 have hb0:Below w.heap.size w (w.alloc (.cells #[] 40)):=by go_grown
 have hc:=ivCells_cells (V.keep hb0)
 have h1:=ivCells_one ((List.range n).map X)
 have hl:(ivCells ((List.range n).map X)).length=n*2:=by rw [ivCells_len,List.length_map,List.length_range]
 obtain⟨i0,hi,hz0,hz1,hz2⟩:=info_parts Tryz.infoIval
 replace hc:Hid _:=hc
 replace h1:Hid _:=h1
 replace hx:Hid _:=hx
 replace hl:Hid _:=hl
 replace hown:Hid _:=hown
 replace hi:Hid _:=hi
 replace hz0:Hid _:=hz0
 replace hz1:Hid _:=hz1
 replace hz2:Hid _:=hz2
 have q46:∀(w:World) (a:Option Addr) (n c n' c':Nat),(binOp .eql 26 (.slice a n c) (.slice none n' c')).run Tryz.prog w=.ok (.bool a.isNone) w:=fun w a n c n' c'=>Go.Lib.run_eql_slice_nil w _ _ a n c n' c' Tryz.underlying26
 clear V
 go_enter Tryz.func45,Tryz.ntmps45
 go_wp2_with
  (at_builtin
   refine wpList_append_own _ (by rfl) _ _ 26 (by rfl) w.heap.size 40 i0 (.agg #[.float .f64 0,.float .f64 0]) 2 16 Tryz.underlying26 hi.out hz0.out hz1.out hz2.out rfl (by decide) _ 0 [] (by rfl) hown.out ⟨b,o,none⟩ n C (ivCells ((List.range n).map X)) (by rfl) hl.out hc.out h1.out (by unfold maxLen;omega) (by omega) (by go_size) ?_
   intro v' w' o1 o2 _)
 have own:OwnI w.heap.size w' v' ((List.range n).map X):=by
   unfold OwnI
   rw [List.length_map,List.length_range]
   rw [Nat.zero_add,List.nil_append] at o1
   exact o1
 have HB:Below w.heap.size w w':=(hb0.grown o2 (by go_size) (fun k hk=>(World.ownsRow.lt hown.out k hk).1))
 go_ret
 exact⟨⟨v',rfl,own⟩,HB⟩
theorem clone0_w (b o n C:Nat) (X:Nat→Nat×Nat) (hn:n≤64) (h0:0<n) (w:World) (V:Ivs w (some ⟨b,o,none⟩) n X) :
   Calls Tryz.prog 45 #[.slice (some ⟨b,o,none⟩) n C] w fun e w'=>(∃g C',e=.returned (.slice (some ⟨g,0,none⟩) n C')∧Img w' g n X)∧Below w.heap.size w w':=by
 refine (clone_own b o n C X hn w V).mono ?_
 rintro _ w' ⟨⟨v',rfl,own⟩,HB⟩
 have h1:w'.ownsRow w.heap.size 40 2 v' ((List.range n).map X).length (ivCells ((List.range n).map X)):=own
 have hlen:((List.range n).map X).length=n:=by rw [List.length_map,List.length_range]
 rw [hlen] at h1
 rcases id h1.2 with ⟨-,hz⟩ | ⟨g,cap,cur,rfl, -,hg, -⟩
 · omega
 · refine⟨⟨g,cap,rfl,(Array.getElem?_eq_some_iff.1 hg).1,fun i hi=>?_⟩,HB⟩
   obtain⟨A,C',hv,U⟩:=ownI_ivs own (fun p hp=>by
     obtain⟨i,hi,rfl⟩:=List.mem_map.1 hp
     exact ivs_words V i (List.mem_range.1 hi))
   rw [hlen] at hv U
   cases hv
   obtain⟨b',o',e, -,c0,c1, -⟩:=U i hi
   cases e
   rw [Nat.zero_add] at c0 c1
   have hgi:((List.range n).map X).getD i (0,0)=X i:=by simp [hi]
   simp only [hgi] at c0 c1
   exact⟨c0,c1,World.ownsRow.frozenAt h1 _,World.ownsRow.frozenAt h1 _⟩
end Go.Proofs.YtnnfafilgiajoaaGreat
