/- The laws' run without slopes. -/
import Derived.Test.YtnchhfhoaepjnaaGreatQ52
import Derived.Deep.AppendLies
import Derived.Deep.RegionLaw
namespace Go.Proofs.YtnchhfhoaepjnaaGreat
open Go.ChangeShapes Go.WideShapes Go.ChangeAt Go.RowKit
theorem noneQ_wide:bndB noneQ=false:=by decide
theorem vals_some {O:Nat→Opw} {X:Nat→Nat×Nat} {n:Nat} {vars:Int} (hr:∀i,i<n→opB (O i) (i:Int) vars=true) (hl:∀i,i<n→W2 ((O i).lo,(O i).hi)) (hX:∀i:Nat,(i:Int)<vars→W2 (X i)∧hsB (X i).1 (X i).2=true):∀k,k≤n→(∀j,j<k→errI O X j=0)→∀p∈vsL O X k,Some2 p.1 p.2:=by
 intro k
 induction k with
 | zero=>intro _ _ p hp;cases hp
 | succ i ih =>
   intro hi he p hp
   have ih':=ih (by omega) (fun j hj=>he j (by omega))
   have w':=vsL_W2 hr hl (fun j hj=>(hX j hj).1) i (by omega)
   rw [vsL_step] at hp
   rcases List.mem_append.1 hp with h | h
   · exact ih' p h
   · have e:p=valI O X i:=by simpa using h
     rw [e]
     obtain⟨-,g1,g2,g3,g4⟩:=opB_says (hr i (by omega))
     have at_:∀j:Nat,j<i→W2 (vAt O X i j)∧Some2 (vAt O X i j).1 (vAt O X i j).2:=fun j hj=>by
       have lj:j<(vsL O X i).length:=by rw [vsL_len];exact hj
       have:vAt O X i j=(vsL O X i)[j]:=by unfold vAt;simp [lj]
       rw [this]
       exact⟨w' _ (List.getElem_mem lj),ih' _ (List.getElem_mem lj)⟩
     have zs:W2 zz∧Some2 zz.1 zz.2:=⟨zz_W2,hs_iff.1 (by decide)⟩
     have ha:W2 (argA (O i) (vAt O X i))∧Some2 (argA (O i) (vAt O X i)).1 (argA (O i) (vAt O X i)).2:=by
       unfold argA
       split
       · rename_i c
         exact at_ _ (by have:=g1 c;omega)
       · exact zs
     have hb:W2 (argB (O i) (vAt O X i))∧Some2 (argB (O i) (vAt O X i)).1 (argB (O i) (vAt O X i)).2:=by
       unfold argB
       split
       · rename_i c
         exact at_ _ (by have:=g2 c;omega)
       · exact zs
     have sh:Shp (valI O X i):=evalQ_shp g4 (fun e=>(hX _ (by have:=g3 e;omega)).2) ha.1 hb.1 ha.2 hb.2
     have e0:=he i (by omega)
     rcases sh with q | S
     · exfalso
       unfold errI errQ at e0
       have q':evalQ (O i) (argA (O i) (vAt O X i)) (argB (O i) (vAt O X i)) X=noneQ:=q
       rw [q',noneQ_wide] at e0
       split at e0 <;> simp at e0
     · exact S
theorem val_facts {O:Nat→Opw} {X:Nat→Nat×Nat} {n:Nat} {vars:Int} (hr:∀i,i<n→opB (O i) (i:Int) vars=true) (hl:∀i,i<n→W2 ((O i).lo,(O i).hi)) (hX:∀i:Nat,(i:Int)<vars→W2 (X i)∧hsB (X i).1 (X i).2=true) (i:Nat) (hi:i<n) (he:∀j,j<i→errI O X j=0) :
   W2 (valI O X i)∧Shp (valI O X i)∧nanB (argA (O i) (vAt O X i)).1=false:=by
 have sm:=vals_some hr hl hX i (by omega) he
 have w':=vsL_W2 hr hl (fun j hj=>(hX j hj).1) i (by omega)
 obtain⟨-,g1,g2,g3,g4⟩:=opB_says (hr i hi)
 have at_:∀j:Nat,j<i→W2 (vAt O X i j)∧Some2 (vAt O X i j).1 (vAt O X i j).2:=fun j hj=>by
   have lj:j<(vsL O X i).length:=by rw [vsL_len];exact hj
   have:vAt O X i j=(vsL O X i)[j]:=by unfold vAt;simp [lj]
   rw [this]
   exact⟨w' _ (List.getElem_mem lj),sm _ (List.getElem_mem lj)⟩
 have zs:W2 zz∧Some2 zz.1 zz.2:=⟨zz_W2,hs_iff.1 (by decide)⟩
 have ha:W2 (argA (O i) (vAt O X i))∧Some2 (argA (O i) (vAt O X i)).1 (argA (O i) (vAt O X i)).2:=by
   unfold argA
   split
   · rename_i c
     exact at_ _ (by have:=g1 c;omega)
   · exact zs
 have hb:W2 (argB (O i) (vAt O X i))∧Some2 (argB (O i) (vAt O X i)).1 (argB (O i) (vAt O X i)).2:=by
   unfold argB
   split
   · rename_i c
     exact at_ _ (by have:=g2 c;omega)
   · exact zs
 exact⟨evalQ_W2 (fun _=>hl i hi) (fun e=>(hX _ (by have:=g3 e;omega)).1) ha.1 hb.1,evalQ_shp g4 (fun e=>(hX _ (by have:=g3 e;omega)).2) ha.1 hb.1 ha.2 hb.2,ha.2.nl⟩
theorem wpList_pushI2 {B:Nat} {w0 wr:World} {ops:Array Oper} {rest:List Oper} {o:Oper} {a:Act} {Q:Exit→Act→World→Prop} (hgd:o.guard=none) (s x:Operand)
   (ho:o.op=.call { callee:=.builtin .append,args:=#[s,x],argTypes:=#[26,26] }) (v:Value) (xs:List (Nat×Nat)) (p q:Nat) (hs:a.eval s=v) (hx:a.eval x=.slice (some ⟨wr.heap.size,0,none⟩) 1 1)
   (hown:OwnI B wr v xs) (hl:xs.length≤2000000) (hB:B≤wr.heap.size) (hbel:Below B w0 wr)
   (h:∀v' w',OwnI B w' v' (xs++[(p,q)])→Below B w0 w'→B≤w'.heap.size→(∀u vs,OwnR B wr u vs→OwnR B w' u vs)→wpList Tryz.prog ops Q rest (a.put o.dst v') w'):wpList Tryz.prog ops Q (o :: rest) a (wr.alloc (.cells #[.float .f64 p,.float .f64 q] 46)):=by
 obtain⟨i0,hi,hz0,hz1,hz2⟩:=info_parts Tryz.infoIval
 have hal:Below wr.heap.size wr (wr.alloc (.cells #[.float .f64 p,.float .f64 q] 46)):=(Below.refl _ _).alloc (Nat.le_refl _) _
 refine wpList_append_own _ hgd s x 26 ho B 46 i0 (.agg #[.float .f64 0,.float .f64 0]) 2 16 Tryz.underlying26 hi hz0 hz1 hz2 rfl (by decide) v xs.length (ivCells xs) hs (OwnI.keep hown hal) ⟨wr.heap.size,0,none⟩ 1 1 [.float .f64 p,.float .f64 q] hx rfl ?_ ?_ (by unfold maxLen;omega) (by omega) (by simp;omega) ?_
 · intro j u hj
   match j,hj with
   | 0,hj=>simp at hj;subst hj;simp [Addr.add]
   | 1,hj=>simp at hj;subst hj;simp [Addr.add]
 · intro u hu
   simp at hu
   rcases hu with rfl | rfl <;> rfl
 · intro v' w' h1 h2 _
   refine h v' w' ?_ ((hbel.alloc hB _).grown h2 (by simp;omega) ?_) (by have:=h2.size;simp at this;omega) fun u vs hu=>?_
   · unfold OwnI
     rw [List.length_append]
     have e:ivCells (xs++[(p,q)])=ivCells xs++[.float .f64 p,.float .f64 q]:=by simp [ivCells]
     rw [e]
     exact h1
   · intro k hk
     exact (World.ownsRow.lt hown k hk).1
   · have ap:=own_apart (OwnI.keep hown hal) (hu.keep hal)
     refine World.ownsRow.kept (hu.keep hal) h2 ?_
     rcases hu.2 with ⟨rfl, -⟩ | ⟨g,cap,cur,rfl, -⟩
     · exact .inl rfl
     · refine .inr fun c=>?_
       rcases ap with e | e
       · rw [e] at c;cases c
       · exact e c.symm
theorem step_pushI {B g0:Nat} {w:World} {ops:Array Oper} {o:Oper} {a:Act} {K:Act→World→Prop} {Q:Exit→Act→World→Prop} {E:Prop} (hgd:o.guard=none) (s x:Operand)
   (ho:o.op=.call { callee:=.builtin .append,args:=#[s,x],argTypes:=#[26,26] }) (v:Value) (xs:List (Nat×Nat)) (p q:Nat) (hs:a.eval s=v) (hx:a.eval x=.slice (some ⟨g0,0,none⟩) 1 1)
   (hc0:w.cell? ⟨g0,0,none⟩=some (.float .f64 p)) (hc1:w.cell? ⟨g0,1,none⟩=some (.float .f64 q)) (hown:OwnI B w v xs) (hl:xs.length≤2000000) (hB:B≤w.heap.size)
   (h:∀qa c w',OwnI B w' (.slice qa (xs.length+1) c) (xs++[(p,q)])→Below B w w'→w.heap.size≤w'.heap.size→(∀u vs,OwnR B w u vs→OwnR B w' u vs)→(∀b k,b<w.heap.size→v.ownBlock≠some b→w'.cell? ⟨b,k,none⟩=w.cell? ⟨b,k,none⟩)→K (a.put o.dst (.slice qa (xs.length+1) c)) w') :
   if Region.wanted o (yielded ops a.tmps)=true then Oper.wp Tryz.prog o a w K Q else E:=by
 obtain⟨i0,hi,hz0,hz1,hz2⟩:=info_parts Tryz.infoIval
 refine step_append_lies w hgd s x 26 ho B 46 i0 (.agg #[.float .f64 0,.float .f64 0]) 2 16 Tryz.underlying26 hi hz0 hz1 hz2 rfl (by decide) v xs.length _ hs hown ⟨g0,0,none⟩ 1 1 [.float .f64 p,.float .f64 q] hx rfl ?_ ?_ (by omega) (by unfold maxLen;omega) (by omega) hB w.heap.size rfl ?_
 · intro j u hj
   match j,hj with
   | 0,hj=>simp at hj;subst hj;simpa [Addr.add] using hc0
   | 1,hj=>simp at hj;subst hj;simpa [Addr.add] using hc1
 · intro u hu
   simp at hu
   rcases hu with rfl | rfl <;> rfl
 · intro g cap w' h1 h2 _ _
   have lt:∀k,v.ownBlock=some k→B≤k:=fun k hk=>(World.ownsRow.lt hown k hk).1
   refine h _ _ w' ?_ ((Below.refl B w).grown h2 hB lt) h2.size (fun u vs hu=>?_) (fun b k hb hne=>World.cell?_of_block (w:=w) (h2.block b hb (fun e=>hne e.symm)))
   · unfold OwnI
     rw [List.length_append]
     have e:ivCells (xs++[(p,q)])=ivCells xs++[.float .f64 p,.float .f64 q]:=by simp [ivCells]
     rw [e]
     exact h1
   · have ap:=own_apart hown hu
     refine World.ownsRow.kept hu h2 ?_
     rcases hu.2 with ⟨rfl, -⟩ | ⟨g,cap,cur,rfl, -⟩
     · exact .inl rfl
     · refine .inr fun c=>?_
       rcases ap with e | e
       · rw [e] at c;cases c
       · exact e c.symm
theorem step_pushR {B g0:Nat} {w:World} {ops:Array Oper} {o:Oper} {a:Act} {K:Act→World→Prop} {Q:Exit→Act→World→Prop} {E:Prop} (hgd:o.guard=none) (s x:Operand)
   (ho:o.op=.call { callee:=.builtin .append,args:=#[s,x],argTypes:=#[31,31] }) (v:Value) (vs:List Value) (A:Option Addr) (n c:Nat) (hs:a.eval s=v) (hx:a.eval x=.slice (some ⟨g0,0,none⟩) 1 1)
   (hc0:w.cell? ⟨g0,0,none⟩=some (.slice A n c)) (hown:OwnR B w v vs) (hl:vs.length≤2000000) (hB:B≤w.heap.size)
   (h:∀qa c' w',OwnR B w' (.slice qa (vs.length+1) c') (vs++[.slice A n c])→Below B w w'→w.heap.size≤w'.heap.size→(∀u xs,OwnI B w u xs→OwnI B w' u xs)→K (a.put o.dst (.slice qa (vs.length+1) c')) w') :
   if Region.wanted o (yielded ops a.tmps)=true then Oper.wp Tryz.prog o a w K Q else E:=by
 obtain⟨i0,hi,hz0,hz1,hz2⟩:=info_parts Tryz.infoRow
 refine step_append_lies w hgd s x 31 ho B 26 i0 (.slice none 0 0) 1 24 Tryz.underlying31 hi hz0 hz1 hz2 rfl (by decide) v vs.length _ hs hown ⟨g0,0,none⟩ 1 1 [.slice A n c] hx rfl ?_ ?_ (by omega) (by unfold maxLen;omega) (by omega) hB w.heap.size rfl ?_
 · intro j u hj
   match j,hj with
   | 0,hj=>simp at hj;subst hj;simpa [Addr.add] using hc0
 · intro u hu
   simp at hu
   rw [hu]
   rfl
 · intro g cap w' h1 h2 _ _
   have lt:∀k,v.ownBlock=some k→B≤k:=fun k hk=>(World.ownsRow.lt hown k hk).1
   refine h _ _ w' ?_ ((Below.refl B w).grown h2 hB lt) h2.size (fun u xs hu=>World.ownsRow.kept hu h2 (own_apart hu hown))
   unfold OwnR
   rw [List.length_append]
   exact h1
theorem ownR_cells {B:Nat} {w:World} {v:Value} {k:Nat} (h:OwnR B w v (List.replicate k (.slice none 0 0))):∃A C,v=.slice A k C∧∀j,j<k→∃b,A=some ⟨b,0,none⟩∧b<w.heap.size∧w.cell? ⟨b,j,none⟩=some (.slice none 0 0):=by
 have h':w.ownsRow B 26 1 v (List.replicate k (Value.slice none 0 0)).length (List.replicate k (.slice none 0 0)):=h
 rw [List.length_replicate] at h'
 rcases h'.2 with ⟨rfl,hn⟩ | ⟨g,cap,cur,rfl, -⟩
 · rw [hn]
   exact⟨none,0,rfl,fun j hj=>by omega⟩
 · refine⟨_,cap,rfl,fun j hj=>?_⟩
   have hl:=(World.ownsRow.lt h' g rfl).2
   refine⟨g,rfl,hl, ?_⟩
   rw [World.ownsRow.cellAt h' j (by omega)]
   simp [hj]
theorem ownBlock_lt {B:Nat} {w:World} {v:Value} {xs:List (Nat×Nat)} (h:OwnI B w v xs) {b:Nat} (hb:w.heap.size≤b):v.ownBlock≠some b:=fun e=>by
 have:=(World.ownsRow.lt h b e).2
 omega
def outsL (O:Nat→Opw) (X:Nat→Nat×Nat) (n:Nat) (Y:Nat→Int) (r:Nat):List (Nat×Nat):=(List.range r).map fun i=>vAt O X n (Y i).toNat
theorem outsL_step (O:Nat→Opw) (X:Nat→Nat×Nat) (n:Nat) (Y:Nat→Int) (r:Nat):outsL O X n Y (r+1)=outsL O X n Y r++[((vAt O X n (Y r).toNat).1,(vAt O X n (Y r).toNat).2)]:=by
 unfold outsL
 rw [List.range_succ,List.map_append]
 rfl
theorem outsL_len (O:Nat→Opw) (X:Nat→Nat×Nat) (n:Nat) (Y:Nat→Int) (r:Nat):(outsL O X n Y r).length=r:=by simp [outsL]
theorem ownI_nil (B:Nat) (w:World):OwnI B w (.slice none 0 0) []:=⟨rfl,.inl ⟨rfl,rfl⟩⟩
theorem ownR_nil (B:Nat) (w:World):OwnR B w (.slice none 0 0) []:=⟨rfl,.inl ⟨rfl,rfl⟩⟩
set_option maxHeartbeats 1000000 in
theorem run_bad (v:Int) (A:Option Addr) (n C:Nat) (D:Option Addr) (m E:Nat) (xs:Value) (w:World) (c1:∀W,Below w.heap.size w W→Calls Tryz.prog 18 #[tapeV v A n C D m E] W fun e' w'=>e'=.returned (.bool false)∧Below W.heap.size W w') :
   Calls Tryz.prog 7 #[tapeV v A n C D m E,xs,.bool false] w fun e w'=>e=.returned (.tuple #[.slice none 0 0,.slice none 0 0,.int .i64 50])∧Below w.heap.size w w':=by
 unfold tapeV at *
 have T:=hasT_new w v A n C D m E
 have HB:Below w.heap.size w (w.alloc (.cells #[.int .i64 v,.slice A n C,.slice D m E] 25)):=by go_grown
 go_enter Tryz.func7,Tryz.ntmps7
 go_upto_region 1 with fail
 generalize (w.alloc (.cells #[.int .i64 v,.slice A n C,.slice D m E] 25))=V1 at *
 obtain⟨t0,t1,t2,tl⟩:=id T
 go_wp2_with (go_at_call 18;refine (c1 _ HB).mono ?_;rintro _ VV ⟨rfl,hb1⟩;replace HB:=later HB hb1)
 refine bodyPost_ret (v:=.tuple #[.slice none 0 0,.slice none 0 0,.int .i64 50]) (by simp [results,Tryz.results7,go_sem]) rfl ⟨rfl,HB⟩
set_option maxHeartbeats 1000000 in
theorem run_vars (v:Int) (A:Option Addr) (n C:Nat) (D:Option Addr) (m E:Nat) (xs:Value) (w:World) (c1:∀W,Below w.heap.size w W→Calls Tryz.prog 18 #[tapeV v A n C D m E] W fun e' w'=>e'=.returned (.bool true)∧Below W.heap.size W w') (c2:∀W,Below w.heap.size w W→Calls Tryz.prog 19 #[tapeV v A n C D m E,xs] W fun e' w'=>e'=.returned (.bool false)∧Below W.heap.size W w') :
   Calls Tryz.prog 7 #[tapeV v A n C D m E,xs,.bool false] w fun e w'=>e=.returned (.tuple #[.slice none 0 0,.slice none 0 0,.int .i64 1])∧Below w.heap.size w w':=by
 unfold tapeV at *
 have T:=hasT_new w v A n C D m E
 have HB:Below w.heap.size w (w.alloc (.cells #[.int .i64 v,.slice A n C,.slice D m E] 25)):=by go_grown
 go_enter Tryz.func7,Tryz.ntmps7
 go_upto_region 1 with fail
 generalize (w.alloc (.cells #[.int .i64 v,.slice A n C,.slice D m E] 25))=V1 at *
 obtain⟨t0,t1,t2,tl⟩:=id T
 go_wp2_with (first
   | (go_at_call 18;refine (c1 _ HB).mono ?_;rintro _ VV ⟨rfl,hb1⟩;replace HB:=later HB hb1;replace T:=T.keep hb1;clear t0 t1 t2 tl;obtain⟨t0,t1,t2,tl⟩:=id T)
   | (go_at_call 19;refine (c2 _ HB).mono ?_;rintro _ VV ⟨rfl,hb1⟩;replace HB:=later HB hb1))
 refine bodyPost_ret (v:=.tuple #[.slice none 0 0,.slice none 0 0,.int .i64 1]) (by simp [results,Tryz.results7,go_sem]) rfl ⟨rfl,HB⟩
set_option maxHeartbeats 8000000 in
set_option maxRecDepth 4000 in
theorem run_t (A:Option Addr) (n C:Nat) (D:Option Addr) (m E:Nat) (O:Nat→Opw) (Y:Nat→Int) (AX:Option Addr) (mx CX:Nat) (X:Nat→Nat×Nat) (hn:n≤4000) (hm:m≤400) (hr:∀i,i<n→opB (O i) (i:Int) (mx:Int)=true) (hY:∀i,i<m→0≤Y i∧Y i<(n:Int)) (hX:∀i,i<mx→hsB (X i).1 (X i).2=true) (w:World) (VO:Ops w A n O) (VY:Ins w D m Y) (VX:Ivs w AX mx X)
   (c1:∀W,Below w.heap.size w W→Calls Tryz.prog 18 #[tapeV (mx:Int) A n C D m E] W fun e w'=>e=.returned (.bool true)∧Below W.heap.size W w') (c2:∀W,Below w.heap.size w W→Calls Tryz.prog 19 #[tapeV (mx:Int) A n C D m E,.slice AX mx CX] W fun e w'=>e=.returned (.bool true)∧Below W.heap.size W w') :
   Calls Tryz.prog 7 #[tapeV (mx:Int) A n C D m E,.slice AX mx CX,.bool false] w fun e w' =>
     ((∃A' C' sl,e=.returned (.tuple #[.slice A' m C',sl,.int .i64 0])∧Ivs w' A' m (fun i=>vAt O X n (Y i).toNat)∧∀j,j<n→errI O X j=0) ∨
      (∃k,k<n∧(∀j,j<k→errI O X j=0)∧errI O X k≠0∧e=.returned (.tuple #[.slice none 0 0,.slice none 0 0,.int .i64 (errI O X k)])))∧Below w.heap.size w w':=by
 have HR:Hid (∀i,i<n→opB (O i) (i:Int) (mx:Int)=true):=hr
 have HY:Hid (∀i,i<m→0≤Y i∧Y i<(n:Int)):=hY
 have hlw:∀i,i<n→W2 ((O i).lo,(O i).hi):=fun i hi=>by obtain⟨b,o,e,l,c0,c1,c2,c3,c4,c5,r⟩:=VO i hi;exact r
 have HW:Hid (∀i,i≤n→∀p∈vsL O X i,W2 p):=vsL_W2 hr hlw (fun i hi=>ivs_words VX i (by omega))
 have HF:Hid (∀i,i<n→(∀j,j<i→errI O X j=0)→W2 (valI O X i)∧Shp (valI O X i)∧nanB (argA (O i) (vAt O X i)).1=false):=fun i hi he=>val_facts hr hlw (fun i hi=>⟨ivs_words VX i (by omega),hX i (by omega)⟩) i hi he
 have HL:Hid (∀i,(vsL O X i).length=i):=vsL_len O X
 clear hr hY hlw hX
 unfold tapeV at c1 c2 ⊢
 have T:=hasT_new w (mx:Int) A n C D m E
 have HB:Below w.heap.size w (w.alloc (.cells #[.int .i64 (mx:Int),.slice A n C,.slice D m E] 25)):=by go_grown
 go_enter Tryz.func7,Tryz.ntmps7
 go_upto_region 1 with fail
 generalize (w.alloc (.cells #[.int .i64 (mx:Int),.slice A n C,.slice D m E] 25))=V1 at *
 obtain⟨t0,t1,t2,tl⟩:=id T
 go_wp2_with (first
   | (go_at_call 18;refine (c1 _ HB).mono ?_;rintro _ VV ⟨rfl,hb1⟩;replace HB:=later HB hb1;replace T:=T.keep hb1;clear t0 t1 t2 tl hb1;obtain⟨t0,t1,t2,tl⟩:=id T)
   | (go_at_call 19;refine (c2 _ HB).mono ?_;rintro _ V2 ⟨rfl,hb1⟩;replace HB:=later HB hb1;replace T:=T.keep hb1;clear t0 t1 t2 tl hb1;obtain⟨t0,t1,t2,tl⟩:=id T))
 clear t0 t1 t2 tl c1 c2
 go_loopg [9,11,32] n (fun G s9 s11 s32 wx=>Below V2.heap.size V2 wx∧∃k:Nat,k+G=n∧s32=.int .i64 (k:Int)∧OwnI V2.heap.size wx s9 (vsL O X k)∧OwnR V2.heap.size wx s11 (List.replicate k (.slice none 0 0))∧Hid (∀j,j<k→errI O X j=0))
 case atStart=>exact⟨Below.refl _ _,0,by omega,rfl,ownI_nil _ _,ownR_nil _ _,fun j hj=>absurd hj (by omega)⟩
 case round =>
   obtain⟨HV,k,hk,rfl,hown,hrow,hall⟩:=hrel
   have T2:=T.keep HV
   have HB2:=later HB HV
   by_cases ck:k=n
   · subst ck
     obtain⟨A7,C7,rfl,U⟩:=ownI_ivs hown (fun p hp=>HW k (by omega) p hp)
     obtain⟨A8,C8,rfl,UR⟩:=ownR_cells hrow
     rw [HL k] at U ⊢
     have HO:Hid (∀r,outsL O X k Y (r+1)=outsL O X k Y r++[((vAt O X k (Y r).toNat).1,(vAt O X k (Y r).toNat).2)]):=outsL_step O X k Y
     have HOL:Hid (∀r,(outsL O X k Y r).length=r):=outsL_len O X k Y
     have HOW:Hid (∀r,r≤m→∀p∈outsL O X k Y r,W2 p):=fun r hr p hp=>by
       obtain⟨i,hi,rfl⟩:=List.mem_map.1 hp
       have hi':=List.mem_range.1 hi
       exact ivs_words U (Y i).toNat (by have:=HY i (by omega);omega)
     clear hown hrow T HB HV HW HF HR VO VX
     generalize wr=W0 at *
     obtain⟨t0,t1,t2,tl⟩:=id T2
     go_wp2_with fail
     clear t0 t1 t2 tl
     go_loopg [10,12,92] m (fun G s10 s12 s92 wx=>Below W0.heap.size W0 wx∧∃r:Nat,r+G=m∧s92=.int .i64 (r:Int)∧OwnI W0.heap.size wx s10 (outsL O X k Y r)∧OwnR W0.heap.size wx s12 (List.replicate r (.slice none 0 0)))
     case atStart=>exact⟨Below.refl _ _,0,by omega,rfl,ownI_nil _ _,ownR_nil _ _⟩
     case round =>
       obtain⟨HV,r,hrm,rfl,hown,hrow⟩:=hrel
       have HB:=later HB2 HV
       obtain⟨A9,C9,rfl,U9⟩:=ownI_ivs hown (fun p hp=>HOW r (by omega) p hp)
       rw [HOL r] at U9 ⊢
       by_cases cr:r=m
       · subst cr
         go_wp2_with fail
         refine bodyPost_ret (v:=.tuple #[.slice A9 r C9,_,.int .i64 0]) (by simp [results,Tryz.results7,go_sem];rfl) rfl ⟨Or.inl ⟨A9,C9,_,rfl, ?_,hall⟩,HB⟩
         intro i hi
         have ei:(outsL O X k Y r).getD i (0,0)=vAt O X k (Y i).toNat:=by unfold outsL;simp [List.getD,hi]
         have e:=U9 i hi
         dsimp only at e
         rw [ei] at e
         exact e
       · have hlt:(r:Int)<(m:Int):=by omega
         obtain⟨b',o',hA,hb',y0⟩:=(VY.keep HB) r (by omega)
         obtain⟨j,hj⟩:∃j:Nat,Y r=(j:Int):=⟨(Y r).toNat,by have:=HY r (by omega);omega⟩
         have hjk:j<k:=by have:=HY r (by omega);omega
         obtain⟨xb,xo,hB7,hxb,x0,x1, -⟩:=(U.keep HV) j hjk
         obtain⟨db,hD8,hdb,d0⟩:=UR j hjk
         replace d0:=keepsC HV d0 hdb
         obtain⟨A10,C10,rfl, -⟩:=ownR_cells hrow
         have hst:Hid (outsL O X k Y (r+1)=outsL O X k Y r++[((vAt O X k j).1,(vAt O X k j).2)]):=by
           have:=HO r
           rw [hj] at this
           exact this
         rw [hj] at y0
         have ev:(fun i=>(vsL O X k).getD i (0,0)) j=vAt O X k j:=rfl
         rw [ev] at x0 x1
         replace hj:Hid (Y r=(j:Int)):=hj
         have hlen:Hid ((outsL O X k Y r).length≤2000000):=by show _≤_;rw [HOL r];omega
         have hlr:Hid ((List.replicate r (Value.slice none 0 0)).length≤2000000):=by show _≤_;rw [List.length_replicate];omega
         have hjk2:(j:Int)<(k:Int):=by omega
         clear ev U UR U9 VY
         generalize vAt O X k j=p at *
         subst hA
         subst hB7
         subst hD8
         have hown2:OwnI W0.heap.size wr (.slice A9 r C9) (outsL O X k Y r):=by
           have:=hown
           rw [HOL r] at this
           exact this
         clear hown
         go_wp2_with fail
         have hS0:=HV.size
         have hdb2:db<wr.heap.size:=Nat.lt_of_lt_of_le hdb hS0
         go_region_law
           (first
             | (refine step_pushI (by rfl) _ _ (by rfl) _ (outsL O X k Y r) p.1 p.2 (by rfl) (by rfl) (by go_simp) (by go_simp) (OwnI.keep hown2 (by go_grown)) hlen (by go_size) ?_
                intro qa c w8 hown' hB' hS' hkR hcell
                have hrow':=hkR _ _ (OwnR.keep hrow (by go_grown))
                have d1:w8.cell? ⟨db,j,none⟩=some (.slice none 0 0):=(hB'.cell (p:=⟨db,j,none⟩) hdb).trans (by go_simp)
                have HV8:Below W0.heap.size W0 w8:=(later HV (by go_grown)).trans hB'
                have hz:=fun (b:Nat) (h1:wr.heap.size≤b) h2=>hcell b 0 h2 (ownBlock_lt hown2 h1)
                have hS8:=HV8.size)
             | (refine step_pushR (by rfl) _ _ (by rfl) _ (List.replicate r (.slice none 0 0)) none 0 0 (by rfl) (by rfl) (by first | (go_simp;done) | exact (hz _ (by omega) (by go_size)).trans (by go_simp)) (by first | exact hrow' | exact OwnR.keep hrow' (by go_grown)) hlr (by first | exact hS8 | go_size) ?_
                intro qa2 c2 w9 hrow2 hB2 hS2 hkI))
         all_goals
           go_wp2_with fail
           (go_roundg (m-r-1)
            case measure=>omega
            case rel =>
              have hI:=hkI _ _ (OwnI.keep hown' (by go_grown))
              rw [List.length_replicate] at hrow2
              exact⟨(by first | exact HV8.trans hB2 | exact (below_alloc HV8 _).trans hB2),r+1,by omega,by go_num,by rw [hst];exact hI,by rw [List.replicate_succ'];exact hrow2⟩)
   · have hlt:(k:Int)<(n:Int):=by omega
     obtain⟨A7,C7,rfl,U⟩:=ownI_ivs hown (fun p hp=>HW k (by omega) p hp)
     rw [HL k] at U hown ⊢
     obtain⟨b,o,hA,hb,x0,x1,x2,x3,x4,x5,l0,l1⟩:=(VO.keep HB2) k (by omega)
     obtain⟨wv,sv,na⟩:=HF k (by omega) hall
     have cv:∀W,Below wr.heap.size wr W→Calls Tryz.prog 20 #[(O k).val,.slice A7 k C7,.slice AX mx CX] W fun e w'=>e=.returned (.tuple #[.agg #[.float .f64 (valI O X k).1,.float .f64 (valI O X k).2],.bool (!outQ (O k) (argA (O k) (vAt O X k)) (argB (O k) (vAt O X k)))])∧Below W.heap.size W w' :=
       fun W hW=>rvalue_w A7 C7 (fun j=>(vsL O X k).getD j (0,0)) AX mx CX X (HR k (by omega)) W (U.keep hW) ((VX.keep HB2).keep hW) na
     have cb:=fun w=>cRBnd wv sv w
     have hE:errI O X k=if outQ (O k) (argA (O k) (vAt O X k)) (argB (O k) (vAt O X k)) then 51 else if bndB (valI O X k) then 0 else 5:=rfl
     have hst:Hid (vsL O X (k+1)=vsL O X k++[((valI O X k).1,(valI O X k).2)]):=vsL_step O X k
     have hlen:(vsL O X k).length≤2000000:=by rw [HL k];omega
     replace hlen:Hid ((vsL O X k).length≤2000000):=hlen
     unfold Opw.val at cv
     generalize outQ (O k) (argA (O k) (vAt O X k)) (argB (O k) (vAt O X k))=t at *
     replace hE:Hid (errI O X k=if t then 51 else if bndB (valI O X k) then 0 else 5):=hE
     clear wv sv na l0 l1
     generalize valI O X k=p at *
     generalize bndB p=u at *
     subst hA
     go_upto_region 11 with (go_at_call 20;refine (cv _ (by go_grown)).mono ?_;rintro _ w5 ⟨rfl,hb5⟩;replace hown:=OwnI.keep (OwnI.keep hown (by go_grown)) hb5;replace hrow:=OwnR.keep (OwnR.keep hrow (by go_grown)) hb5;replace HV:=later (below_alloc HV _) hb5)
     have Z:Has2 (w5.alloc (.cells #[.float .f64 p.1,.float .f64 p.2] 46)) w5.heap.size (.float .f64 p.1) (.float .f64 p.2):=has2_new _ _ _ _
     have hb6:Below w5.heap.size w5 (w5.alloc (.cells #[.float .f64 p.1,.float .f64 p.2] 46)):=by go_grown
     replace hown:=OwnI.keep hown hb6
     replace hrow:=OwnR.keep hrow hb6
     replace HV:=later HV hb6
     clear hb6 hb5 cv x0 x1 x2 x3 x4 x5 HB2 T2
     have HB2:=later HB HV
     generalize w5.alloc (.cells #[.float .f64 p.1,.float .f64 p.2] 46)=w6 at *
     generalize w5.heap.size=z at *
     obtain⟨y0,y1,y2,y3,y4⟩:=id Z
     cases t
     · cases u
       · have he:Hid (errI O X k=5):=hE
         go_wp2_with (go_at_call 21;refine (cb _).mono ?_;rintro _ w7 ⟨rfl,hb7⟩;replace HB2:=later HB2 hb7)
         refine bodyPost_ret (v:=.tuple #[.slice none 0 0,.slice none 0 0,.int .i64 5]) (by simp [results,Tryz.results7,go_sem]) rfl ⟨Or.inr ⟨k,by omega,hall,by rw [show errI O X k=5 from he];decide,by rw [show errI O X k=5 from he]⟩,HB2⟩
       · have he:Hid (errI O X k=0):=hE
         go_wp2_with (go_at_call 21;refine (cb _).mono ?_;rintro _ w7 ⟨rfl,hb7⟩;replace HB2:=later HB2 hb7;replace HV:=later HV hb7;replace hown:=OwnI.keep hown hb7;replace hrow:=OwnR.keep hrow hb7;replace Z:=Z.keep hb7;clear hb7 y0 y1 y2 y3 y4;obtain⟨y0,y1,y2,y3,y4⟩:=id Z)
         have hS:=HV.size
         have hlr:Hid ((List.replicate k (Value.slice none 0 0)).length≤2000000):=by show _≤_;rw [List.length_replicate];omega
         go_loopg [17,18] 0 (fun G s17 s18 wx=>wx=w7∧s17=.slice none 0 0∧s18=.int .i64 0)
         case atStart=>exact⟨rfl,rfl,rfl⟩
         case round =>
           obtain⟨rfl,rfl,rfl⟩:=hrel
           go_wp2_with (first
             | (at_builtin;refine wpList_pushI2 (by rfl) _ _ (by rfl) _ (vsL O X k) p.1 p.2 (by rfl) (by rfl) hown hlen hS HV ?_;intro v' w8 hown' hB' hS' hkeep)
             | (at_builtin;refine wpList_pushR (by rfl) _ _ (by rfl) _ (List.replicate k (.slice none 0 0)) none 0 0 (by rfl) (by rfl) (hkeep _ _ hrow) hlr hS' hB' ?_;intro v2 w9 hrow' hB2' hS2' hkeep2))
           go_roundg (n-k-1)
           case measure=>omega
           case rel=>exact⟨hB2',k+1,by omega,by go_num,by rw [hst];exact hkeep2 _ _ hown',by rw [List.replicate_succ'];exact hrow',fun j hj=>by rcases Nat.lt_or_ge j k with h | h;exact hall j h;rw [show j=k by omega];exact he⟩
     · have he:Hid (errI O X k=51):=hE
       go_wp2_with fail
       refine bodyPost_ret (v:=.tuple #[.slice none 0 0,.slice none 0 0,.int .i64 51]) (by simp [results,Tryz.results7,go_sem]) rfl ⟨Or.inr ⟨k,by omega,hall,by rw [show errI O X k=51 from he];decide,by rw [show errI O X k=51 from he]⟩,HB2⟩
end Go.Proofs.YtnchhfhoaepjnaaGreat
