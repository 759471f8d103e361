/- slices.Clone of a slice of intervals. -/
import Derived.Test.YtgfppdboogldlaaGreatZs27
import Derived.Lib.SliceRun
import Derived.Test.YtgfppdboogldlaaGreatZs22
import Derived.Test.YtgfppdboogldlaaGreatZs17
namespace Go.Proofs.YtgfppdboogldlaaGreat
open Go.ChangeShapes Go.WideShapes Go.ChangeAt Go.RowKit
theorem ivCells_cells {w:World} {b o n:Nat} {X:Nat→Nat×Nat} (V:Ivs w (some ⟨b,o,none⟩) n X):∀(j:Nat) (u:Value),(ivCells ((List.range n).map X))[j]?=some u→w.cell? ((⟨b,o,none⟩:Addr).add j)=some u:=by
 intro j u hj
 have hlen:j<n*2:=by
   have:=(List.getElem?_eq_some_iff.1 hj).1
   rw [ivCells_len,List.length_map,List.length_range] at this
   exact this
 obtain⟨i,hi⟩:∃i,i=j/2:=⟨_,rfl⟩
 have hin:i<n:=by omega
 have hget:((List.range n).map X)[i]?=some (X i):=by simp [hin]
 obtain⟨e0,e1⟩:=ivCells_at _ i _ hget
 obtain⟨b',o',e,l,c0,c1, -⟩:=V i hin
 cases e
 have hadd:(⟨b,o,none⟩:Addr).add j=⟨b,o+j,none⟩:=by unfold Addr.add;split <;> simp_all
 rw [hadd]
 rcases Nat.mod_two_eq_zero_or_one j with c | c
 · have ej:j=i*2:=by omega
   rw [ej] at hj ⊢
   rw [e0] at hj
   cases hj
   exact c0
 · have ej:j=i*2+1:=by omega
   rw [ej] at hj ⊢
   rw [e1] at hj
   cases hj
   rw [←Nat.add_assoc]
   exact c1
theorem ivCells_one (xs:List (Nat×Nat)):∀u∈ivCells xs,u.oneCell'=true:=by
 induction xs with
 | nil=>intro u hu;cases hu
 | cons p t ih =>
   intro u hu
   have e:ivCells (p :: t)=.float .f64 p.1 :: .float .f64 p.2 :: ivCells t:=rfl
   rw [e] at hu
   simp only [List.mem_cons] at hu
   rcases hu with rfl | rfl | h
   · rfl
   · rfl
   · exact ih u h
set_option maxHeartbeats 1000000 in
theorem clone_own (b o n C:Nat) (X:Nat→Nat×Nat) (hn:n≤64) (w:World) (V:Ivs w (some ⟨b,o,none⟩) n X) :
   Calls Tryz.prog 21 #[.slice (some ⟨b,o,none⟩) n C] w fun e w'=>(∃v,e=.returned v∧OwnI w.heap.size w' v ((List.range n).map X))∧Below w.heap.size w w':=by
 have hx:=ivs_words V
 have hown:=ownI_empty w
 have hb0:Below w.heap.size w (w.alloc (.cells #[] 43)):=by go_grown
 have hc:=ivCells_cells (V.keep hb0)
 have h1:=ivCells_one ((List.range n).map X)
 have hl:(ivCells ((List.range n).map X)).length=n*2:=by rw [ivCells_len,List.length_map,List.length_range]
 obtain⟨i0,hi,hz0,hz1,hz2⟩:=info_parts Tryz.infoIval
 replace hc:Hid _:=hc
 replace h1:Hid _:=h1
 replace hx:Hid _:=hx
 replace hl:Hid _:=hl
 replace hown:Hid _:=hown
 replace hi:Hid _:=hi
 replace hz0:Hid _:=hz0
 replace hz1:Hid _:=hz1
 replace hz2:Hid _:=hz2
 have q46:∀(w:World) (a:Option Addr) (n c n' c':Nat),(binOp .eql 26 (.slice a n c) (.slice none n' c')).run Tryz.prog w=.ok (.bool a.isNone) w:=fun w a n c n' c'=>Go.Lib.run_eql_slice_nil w _ _ a n c n' c' Tryz.underlying26
 clear V
 go_enter Tryz.func21,Tryz.ntmps21
 go_wp2_with
  (at_builtin
   refine wpList_append_own _ (by rfl) _ _ 26 (by rfl) w.heap.size 43 i0 (.agg #[.float .f64 0,.float .f64 0]) 2 16 Tryz.underlying26 hi.out hz0.out hz1.out hz2.out rfl (by decide) _ 0 [] (by rfl) hown.out ⟨b,o,none⟩ n C (ivCells ((List.range n).map X)) (by rfl) hl.out hc.out h1.out (by unfold maxLen;omega) (by omega) (by go_size) ?_
   intro v' w' o1 o2 _)
 have own:OwnI w.heap.size w' v' ((List.range n).map X):=by
   unfold OwnI
   rw [List.length_map,List.length_range]
   rw [Nat.zero_add,List.nil_append] at o1
   exact o1
 have HB:Below w.heap.size w w':=(hb0.grown o2 (by go_size) (fun k hk=>(World.ownsRow.lt hown.out k hk).1))
 go_ret
 exact⟨⟨v',rfl,own⟩,HB⟩
theorem clone0_w (b o n C:Nat) (X:Nat→Nat×Nat) (hn:n≤64) (h0:0<n) (w:World) (V:Ivs w (some ⟨b,o,none⟩) n X) :
   Calls Tryz.prog 21 #[.slice (some ⟨b,o,none⟩) n C] w fun e w'=>(∃g C',e=.returned (.slice (some ⟨g,0,none⟩) n C')∧Img w' g n X)∧Below w.heap.size w w':=by
 refine (clone_own b o n C X hn w V).mono ?_
 rintro _ w' ⟨⟨v',rfl,own⟩,HB⟩
 have h1:w'.ownsRow w.heap.size 43 2 v' ((List.range n).map X).length (ivCells ((List.range n).map X)):=own
 have hlen:((List.range n).map X).length=n:=by rw [List.length_map,List.length_range]
 rw [hlen] at h1
 rcases id h1.2 with ⟨-,hz⟩ | ⟨g,cap,cur,rfl, -,hg, -⟩
 · omega
 · refine⟨⟨g,cap,rfl,(Array.getElem?_eq_some_iff.1 hg).1,fun i hi=>?_⟩,HB⟩
   obtain⟨A,C',hv,U⟩:=ownI_ivs own (fun p hp=>by
     obtain⟨i,hi,rfl⟩:=List.mem_map.1 hp
     exact ivs_words V i (List.mem_range.1 hi))
   rw [hlen] at hv U
   cases hv
   obtain⟨b',o',e, -,c0,c1, -⟩:=U i hi
   cases e
   rw [Nat.zero_add] at c0 c1
   have hgi:((List.range n).map X).getD i (0,0)=X i:=by simp [hi]
   simp only [hgi] at c0 c1
   exact⟨c0,c1,World.ownsRow.frozenAt h1 _,World.ownsRow.frozenAt h1 _⟩
end Go.Proofs.YtgfppdboogldlaaGreat
