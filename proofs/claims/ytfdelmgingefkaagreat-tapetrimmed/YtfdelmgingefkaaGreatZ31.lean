/- A region that draws its order and makes memory of its own beside quiet operations (x := f(y); x, y := f(z), g(z)): walked once. Middles and widths: the program's and the reference's are the same; IvalSizes' walk. The greater the intervals are, the greater are sums and products: plain facts, end by end. The reference's Div: the exact quotient, rounded; the walk of the statement UlpQuotients. -/
import Derived.Test.YtfdelmgingefkaaGreatZ19
import Derived.Test.YtfdelmgingefkaaGreatZ29
import Derived.Test.YtfdelmgingefkaaGreatZ27
namespace Go.Proofs.YtfdelmgingefkaaGreat
open Go.ChangeShapes Go.WideShapes Go.ChangeAt Go.RowKit
section
variable {P:Program} {ops hd:Array Oper}
def Beh (W:World):World→Prop:=fun w'=>∃n:Behind W,w'=n.W
theorem beh_of {W w':World} (h:Below W.heap.size W w'):Beh W w':=⟨⟨w',h⟩,rfl⟩
theorem Beh.below {W w':World} (h:Beh W w'):Below W.heap.size W w':=by
 obtain⟨⟨V,hb⟩,rfl⟩:=h
 exact hb
theorem pin {md:Region.Mode} {C:World→Prop} {A:Act} (s:Nat):∀(f:Nat) (lh:Array Bool) (a:Act),wpAnyQ P md hd C (fun a'=>a'=A) f lh a→(∀j o,hd[j]?=some o→lh.getD j true=false→o.dst≠some s)→A.tmps[s]?=a.tmps[s]?
 | 0,_,_,h,_=>by rw [h.2]
 | f+1,lh,a,h,hn=>by
   by_cases hr:Region.ready md hd lh=[]
   · rw [h.1 hr]
   · obtain⟨i,hi⟩:=List.exists_mem_of_ne_nil _ hr
     obtain⟨hl,o,ho, -⟩:=mem_ready.1 hi
     obtain⟨v, -,hK⟩:=yieldsIn_of_qOp ho (h.2 i hi)
     have e:=pin s f _ _ hK (fun j oj hj hlj=>by
       by_cases hij:i=j
       · subst hij
         have:oj=o:=Option.some.inj (hj.symm.trans ho)
         subst this
         exact hn i oj hj hl
       · rw [Go.getD_set_ne true hij] at hlj
         exact hn j oj hj hlj)
     rw [e]
     have hd':=hn i o ho hl
     cases hdst:o.dst with
     | none=>rfl
     | some d =>
       rw [hdst] at hd'
       have:d≠s:=fun e=>hd' (by rw [e])
       simp [Act.put,Array.getElem?_setIfInBounds_ne this]
def distB (l:List Oper):Bool:=(List.range l.length).all fun i=>(List.range l.length).all fun j=>i==j || match l[i]?,l[j]? with
 | some x,some y=>(match x.dst with | some d=>y.dst != some d | none=>true)
 | _,_=>true
theorem dist_of {l:List Oper} (h:distB l=true) {i j:Nat} {x y:Oper} (hi:l[i]?=some x) (hj:l[j]?=some y) (hne:i≠j) {d:Nat} (hd:x.dst=some d):y.dst≠some d:=by
 have li:i<l.length:=(List.getElem?_eq_some_iff.1 hi).1
 have lj:j<l.length:=(List.getElem?_eq_some_iff.1 hj).1
 have h1:=List.all_eq_true.1 h i (List.mem_range.2 li)
 have h2:=List.all_eq_true.1 h1 j (List.mem_range.2 lj)
 simp only [hi,hj,hd,Bool.or_eq_true,beq_iff_eq,hne,false_or,bne_iff_ne] at h2
 exact h2
theorem put_pinned {md:Region.Mode} {C C':World→Prop} {A:Act} {l:List Oper} (hD:distB l=true) {i:Nat} {o:Oper} (ho:l.toArray[i]?=some o) {f f':Nat} {lh:Array Bool} (hs:i<lh.size) {a:Act} {v v':Value}
   (h:wpAnyQ P md l.toArray C (fun a'=>a'=A) f (lh.setIfInBounds i true) (a.put o.dst v)) (h':wpAnyQ P md l.toArray C' (fun a'=>a'=A) f' (lh.setIfInBounds i true) (a.put o.dst v')):a.put o.dst v=a.put o.dst v':=by
 cases hd:o.dst with
 | none=>rfl
 | some d =>
   rw [hd] at h h'
   have hn:∀j oj,l.toArray[j]?=some oj→(lh.setIfInBounds i true).getD j true=false→oj.dst≠some d:=fun j oj hj hlj=>by
     by_cases hij:i=j
     · subst hij
       simp [hs] at hlj
     · exact dist_of hD (by simpa using ho) (by simpa using hj) hij hd
   have e:=(pin d f _ _ h hn).symm.trans (pin d f' _ _ h' hn)
   by_cases hb:d<a.tmps.size
   · simp [Act.put,hb] at e
     rw [e]
   · simp [Act.put,Array.setIfInBounds,hb]
def putL (dst:Nat→Option Nat):List (Nat×Nat)→Act→Act
 | [],a=>a
 | (m,b) :: tk,a=>(putL dst tk a).put (dst m) (.pointer (some ⟨b,0,none⟩))
theorem putL_put {dst:Nat→Option Nat} {x:Option Nat} {v:Value} (h:∀m d,dst m=some d→x≠some d):∀(tk:List (Nat×Nat)) (a:Act),putL dst tk (a.put x v)=(putL dst tk a).put x v
 | [],_=>rfl
 | (m,b) :: tk,a=>by
   unfold putL
   rw [putL_put h tk a]
   rw [Act.put_comm _ _ _ (fun d hd e=>h m d e hd)]
theorem exec_putL {dst:Nat→Option Nat} {o:Oper} (hs:∀cs b,o.op≠.select cs b) (h:∀m d,dst m=some d→d ∉ o.looksAt ops):∀(tk:List (Nat×Nat)) (a:Act),execOp (putL dst tk a).eval o=execOp a.eval o∧Region.wanted o (yielded ops (putL dst tk a).tmps)=Region.wanted o (yielded ops a.tmps)
 | [],_=>⟨rfl,rfl⟩
 | (m,b) :: tk,a=>by
   unfold putL
   rw [execOp_put (ops:=ops) o hs _ (dst m) _ (h m),wanted_put o _ (dst m) _ (h m)]
   exact exec_putL hs h tk a
def reachB (l:List Oper) (n:Nat):Nat→Nat→Nat→Bool
 | 0,_,_=>false
 | f+1,j,i=>Region.waitsFor .any l.toArray j i || (List.range n).any fun m=>Region.waitsFor .any l.toArray j m&&reachB l n f m i
def allocsB (l:List Oper) (n k:Nat):Bool :=
 Region.lexB .any (l.take n).toArray&&decide (n+k<l.length)&&lowB l n&&distB (l.take n)&&Region.noSelect l.toArray
 && ((List.range k).all fun m=>match l[n+m]? with | some o=>o.after.isEmpty&&o.guard.isNone&&((List.range n).all fun j=>match l[j]? with | some oj=>o.apart l.toArray oj | none=>true) | none=>false)
 && ((List.range l.length).all fun j=>decide (j<n+k) || (List.range (n+k)).all fun i=>reachB l n 6 j i)
 && Region.seqB .any l.toArray (l.length-(n+k)) (n+k) (List.replicate (n+k) true++List.replicate (l.length-(n+k)) false).toArray
theorem reach_listed {l:List Oper} {n:Nat} {listed:Array Bool} (cl:∀j oj,l.toArray[j]?=some oj→listed.getD j false=true→∀e∈oj.after,Region.binds .any e=true→listed.getD e.on false=true) (hsz:listed.size=l.length) :
   ∀(f j i:Nat) (o:Oper),l.toArray[j]?=some o→(∀e∈o.after,Region.binds .any e=true→listed.getD e.on false=true)→reachB l n f j i=true→listed.getD i false=true
 | 0,_,_,_,_,_,h=>by simp [reachB] at h
 | f+1,j,i,o,ho,hw,h=>by
   simp only [reachB,Bool.or_eq_true] at h
   have dir:∀i,Region.waitsFor .any l.toArray j i=true→listed.getD i false=true:=fun i hi=>by
     obtain⟨oj,hoj,e,he,hb,hei⟩:=Region.waitsFor_spec hi
     have:oj=o:=Option.some.inj (hoj.symm.trans ho)
     subst this
     rw [←hei]
     exact hw e he hb
   rcases h with h | h
   · exact dir i h
   · obtain⟨m, -,hm⟩:=List.any_eq_true.1 h
     simp only [Bool.and_eq_true] at hm
     have lm:=dir m hm.1
     have ml:m<l.length:=by
       rcases Nat.lt_or_ge m listed.size with c | c
       · omega
       · simp [Array.getElem?_eq_none c] at lm
     have om:l.toArray[m]?=some (l[m]'ml):=by simp [ml]
     exact reach_listed cl hsz f m i _ om (cl m _ om lm) hm.2
theorem all_listed {n:Nat} (H:Heads .any ops hd n) {lh:Array Bool} (hsz:lh.size=n) (hr:Region.ready .any hd lh=[]):∀j,j<n→lh.getD j true=true:=fun j=>by
 induction j using Nat.strongRecOn with
 | _ j ih =>
   intro hj
   cases hl:lh.getD j true with
   | true=>rfl
   | false =>
     have hn:=H.lt
     have:j∈Region.ready .any hd lh:=by
       rw [mem_ready]
       refine⟨hl,ops[j]'(by omega),by rw [H.same j hj];simp,fun e he hb=>?_⟩
       have lw:=H.low j (ops[j]'(by omega)) hj (by simp) e he hb
       rw [getD_any (l:=lh) (by omega) false true]
       exact ih e.on lw (by omega)
     rw [hr] at this
     cases this
structure LInv (l:List Oper) (n k:Nat) (lh listed:Array Bool) (rem:List Nat):Prop where
 s1:listed.size=l.length
 s2:lh.size=n
 same:∀j,j<n→lh.getD j true=listed.getD j true
 al:∀m,m<k→(listed.getD (n+m) true=false↔m∈rem)
 nd:rem.Nodup
 lo:∀m∈rem,m<k
 tail:∀j,n+k≤j→j<l.length→listed.getD j true=false
 cl:∀j oj,l.toArray[j]?=some oj→listed.getD j false=true→∀e∈oj.after,Region.binds .any e=true→listed.getD e.on false=true
theorem listed_cl {l:List Oper} {listed:Array Bool} (cl:∀j oj,l.toArray[j]?=some oj→listed.getD j false=true→∀e∈oj.after,Region.binds .any e=true→listed.getD e.on false=true) {i:Nat} (hi:i∈Region.ready .any l.toArray listed) :
   ∀j oj,l.toArray[j]?=some oj→(listed.setIfInBounds i true).getD j false=true→∀e∈oj.after,Region.binds .any e=true→(listed.setIfInBounds i true).getD e.on false=true:=fun j oj hj hl e he hb=>by
 obtain⟨_,oi,hoi,hall⟩:=mem_ready.1 hi
 by_cases hij:i=j
 · subst hij
   have:oj=oi:=Option.some.inj (hj.symm.trans hoi)
   subst this
   exact getD_set_true (hall e he hb)
 · rw [Go.getD_set_ne false hij] at hl
   exact getD_set_true (cl j oj hj hl e he hb)
theorem region_allocs {id:Nat} {Q:Exit→Act→World→Prop} {a:Act} {w:World} {l:List Oper} (n k:Nat) (obj:Nat→Obj) (Z:Nat→Nat→World→Prop) (A:Act) (hm:P.follows .mixedOrders=true) (hB:allocsB l n k=true)
   (hal:∀m,m<k→∀o,l[n+m]?=some o→∀(a:Act) (w:World),(execOp a.eval o).run P w=.ok (.value (.pointer (some ⟨w.heap.size,0,none⟩))) (w.alloc (obj m)))
   (hZ:∀m,m<k→∀w1:World,Z m w1.heap.size (w1.alloc (obj m))) (hK:∀m b (w1 w2:World),Z m b w1→b<w1.heap.size→Below w1.heap.size w1 w2→Z m b w2)
   (h:∀W,Below w.heap.size w W→wpQuiet P (l.take n).toArray (Beh W) (fun a'=>a'=A) (l.take n) a)
   (hT:∀(tk:List (Nat×Nat)) (W:World),(tk.map (·.1)).Perm (List.range k)→(tk.map (·.2)).Nodup→(∀m b,(m,b)∈tk→Z m b W∧w.heap.size≤b∧b<W.heap.size)→Below w.heap.size w W →
     wpList P l.toArray Q (l.drop (n+k)) (putL (fun m=>(l[n+m]?).bind (·.dst)) tk A) W):(Code.region id l.toArray true).wp P Q a w:=by
 simp only [allocsB,Bool.and_eq_true,decide_eq_true_eq] at hB
 obtain⟨⟨⟨⟨⟨⟨⟨hlex,hn⟩,hlow⟩,hdist⟩,hsel⟩,hall⟩,hwait⟩,hseq⟩:=hB
 have H:=heads_of (l:=l) (n:=n) (by omega) hlow
 have nosel:=Region.noSelect_spec hsel
 simp only [Region.lexB,Bool.and_eq_true] at hlex
 have hl:(l.take n).length=n:=by simp;omega
 have mk:∀m,m<k→∃o,l[n+m]?=some o∧o.after=#[]∧o.guard=none∧∀j oj,j<n→l[j]?=some oj→o.apart l.toArray oj=true:=fun m hmk=>by
   have h1:=List.all_eq_true.1 hall m (List.mem_range.2 hmk)
   have h0:l[n+m]?=some (l[n+m]'(by omega)):=by simp
   rw [h0] at h1
   simp only [Bool.and_eq_true,Array.isEmpty_iff,Option.isNone_iff_eq_none] at h1
   refine⟨_,h0,h1.1.1,h1.1.2,fun j oj hj hoj=>?_⟩
   have h2:=List.all_eq_true.1 h1.2 j (List.mem_range.2 hj)
   rw [hoj] at h2
   exact h2
 have apart:∀j oj,j<n→l[j]?=some oj→∀m d,((l[n+m]?).bind (·.dst))=some d→m<k→d ∉ oj.looksAt l.toArray∧oj.dst≠some d:=fun j oj hj hoj m d hd hmk=>by
   obtain⟨o,ho, -, -,ha⟩:=mk m hmk
   rw [ho] at hd
   obtain⟨h1,h2, -⟩:=Oper.apart_spec (ha j oj hj hoj)
   exact⟨h1 d hd,h2 d hd⟩
 have late:∀(listed:Array Bool) (i:Nat),i<n+k→listed.getD i true=false→listed.size=l.length→(∀j oj,l.toArray[j]?=some oj→listed.getD j false=true→∀e∈oj.after,Region.binds .any e=true→listed.getD e.on false=true)→∀j∈Region.ready .any l.toArray listed,j<n+k:=fun listed i hi hli hsz cl j hj=>by
   rcases Nat.lt_or_ge j (n+k) with c | c
   · exact c
   · exfalso
     obtain⟨-,o,ho,hw⟩:=mem_ready.1 hj
     have hjl:j<l.length:=by have:=(Array.getElem?_eq_some_iff.1 ho).1;simpa using this
     have h1:=List.all_eq_true.1 hwait j (List.mem_range.2 hjl)
     simp only [Bool.or_eq_true,decide_eq_true_eq] at h1
     rcases h1 with h1 | h1
     · omega
     · have h3:=reach_listed cl hsz 6 j i o ho hw (List.all_eq_true.1 h1 i (List.mem_range.2 hi))
       rw [getD_both hli] at h3
       cases h3
 let dst:Nat→Option Nat:=fun m=>(l[n+m]?).bind (·.dst)
 have main:∀(F f:Nat) (rem:List Nat) (tk:List (Nat×Nat)) (lh listed:Array Bool) (a:Act) (w':World),F=f+rem.length→LInv l n k lh listed rem→(tk.map (·.1)++rem).Perm (List.range k)→(tk.map (·.2)).Nodup→(∀m b,(m,b)∈tk→Z m b w'∧w.heap.size≤b∧b<w'.heap.size) →
     Below w.heap.size w w'→(∀W,Below w.heap.size w W→wpAnyQ P .any (l.take n).toArray (Beh W) (fun a'=>a'=A) f lh a)→wpAny P .any l.toArray Q (F+(l.length-(n+k))) listed (putL dst tk a) w':=by
   have fin:∀(f:Nat) (tk:List (Nat×Nat)) (lh listed:Array Bool) (a:Act) (w':World),LInv l n k lh listed []→(tk.map (·.1)).Perm (List.range k)→(tk.map (·.2)).Nodup→(∀m b,(m,b)∈tk→Z m b w'∧w.heap.size≤b∧b<w'.heap.size) →
     Below w.heap.size w w'→Region.ready .any (l.take n).toArray lh=[]→a=A→wpAny P .any l.toArray Q (f+(l.length-(n+k))) listed (putL dst tk a) w':=fun f tk lh listed a w' inv hp hnd hz hb hr ha=>by
     subst ha
     have full:=all_listed H inv.s2 hr
     have e:listed=(List.replicate (n+k) true++List.replicate (l.length-(n+k)) false).toArray:=by
       refine Array.ext (by simp [inv.s1];omega) fun i h1 h2=>?_
       have hi:i<l.length:=by rw [inv.s1] at h1;exact h1
       rcases Nat.lt_or_ge i n with c | c
       · have t:=(inv.same i c).symm.trans (full i c)
         simp [h1] at t
         simp [t,show i<n+k by omega]
       · rcases Nat.lt_or_ge i (n+k) with c2 | c2
         · have t:¬listed.getD (n+(i-n)) true=false:=fun hf=>by
             have:=(inv.al (i-n) (by omega)).1 hf
             cases this
           rw [show n+(i-n)=i by omega] at t
           simp [h1] at t
           simp [t,c2]
         · have t:=inv.tail i c2 hi
           simp [h1] at t
           rw [t]
           simp only [List.getElem_toArray]
           rw [List.getElem_append_right (by simpa using c2)]
           simp
     have s:=wpAny_of_seq (P:=P) (md:=.any) (Q':=Q) (l.drop (n+k)) (n+k) listed (putL dst tk a) w' (fun j=>by simp [List.getElem?_drop]) (by rw [e,List.length_drop];exact hseq) (hT tk w' hp hnd hz hb)
     rw [List.length_drop] at s
     exact any_more' s f
   have made:∀(F f:Nat) (rem:List Nat) (tk:List (Nat×Nat)) (lh listed:Array Bool) (a:Act) (w':World) (m:Nat),m<k→m∈rem→LInv l n k lh listed rem→(tk.map (·.1)++rem).Perm (List.range k)→(tk.map (·.2)).Nodup→(∀m b,(m,b)∈tk→Z m b w'∧w.heap.size≤b∧b<w'.heap.size) →
       Below w.heap.size w w' →
       (∀(tk':List (Nat×Nat)) (w'':World),LInv l n k lh (listed.setIfInBounds (n+m) true) (rem.erase m)→(tk'.map (·.1)++rem.erase m).Perm (List.range k)→(tk'.map (·.2)).Nodup→(∀m b,(m,b)∈tk'→Z m b w''∧w.heap.size≤b∧b<w''.heap.size)→Below w.heap.size w w'' →
         wpAny P .any l.toArray Q F (listed.setIfInBounds (n+m) true) (putL dst tk' a) w'') →
       wpOp P l.toArray Q (n+m) (wpAny P .any l.toArray Q F (listed.setIfInBounds (n+m) true)) (putL dst tk a) w':=fun F f rem tk lh listed a w' m hmk hmr inv hp hnd hz hb go=>by
     obtain⟨o,ho,haf,hg, -⟩:=mk m hmk
     have ho':l.toArray[n+m]?=some o:=by simpa using ho
     unfold wpOp
     simp only [ho']
     have hw:Region.wanted o (yielded l.toArray (putL dst tk a).tmps)=true:=by unfold Region.wanted;rw [hg]
     rw [if_pos hw]
     refine .inl ?_
     unfold Oper.wp
     rw [hal m hmk o ho]
     simp only [Oper.upon]
     have hd:o.dst=dst m:=by show o.dst=(l[n+m]?).bind (·.dst);rw [ho];rfl
     rw [hd]
     refine go ((m,w'.heap.size) :: tk) _ ⟨by simp [inv.s1],inv.s2,fun j hj=>by rw [Go.getD_set_ne true (by omega)];exact inv.same j hj,fun m' hm'=>?_,inv.nd.erase m,fun m' hm'=>inv.lo m' (List.mem_of_mem_erase hm'),fun j hj hjl=>by rw [Go.getD_set_ne true (by omega)];exact inv.tail j hj hjl,listed_cl inv.cl (mem_ready.2 ⟨(inv.al m hmk).2 hmr,o,ho',fun e he=>by rw [haf] at he;simp at he⟩)⟩ ?_ ?_ ?_ ?_
     · by_cases hmm:m=m'
       · subst hmm
         have:n+m<listed.size:=by rw [inv.s1];omega
         simp [this,inv.nd.mem_erase_iff]
       · rw [Go.getD_set_ne true (by omega),inv.al m' hm',inv.nd.mem_erase_iff]
         exact⟨fun h=>⟨fun e=>hmm e.symm,h⟩,fun h=>h.2⟩
     · simp only [List.map_cons,List.cons_append]
       refine List.Perm.trans ?_ hp
       refine List.Perm.symm ?_
       refine List.Perm.trans (List.Perm.append_left _ (List.perm_cons_erase hmr)) ?_
       exact List.perm_middle
     · simp only [List.map_cons,List.nodup_cons]
       refine⟨fun hmem=>?_,hnd⟩
       obtain⟨⟨m1,b1⟩,h1,h2⟩:=List.mem_map.1 hmem
       have:=(hz m1 b1 h1).2.2
       simp only at h2
       omega
     · intro m1 b1 h1
       have gr:Below w'.heap.size w' (w'.alloc (obj m)):=(Below.refl _ _).alloc (Nat.le_refl _) _
       rcases List.mem_cons.1 h1 with h1 | h1
       · cases h1
         exact⟨hZ m hmk w',hb.size,by simp⟩
       · obtain⟨z1,z2,z3⟩:=hz m1 b1 h1
         exact⟨hK _ _ _ _ z1 z3 gr,z2,Nat.lt_of_lt_of_le z3 gr.size⟩
     · exact hb.alloc hb.size _
   intro F
   induction F with
   | zero =>
     intro f rem tk lh listed a w' hF inv hp hnd hz hb hR
     have f0:f=0:=by omega
     have r0:rem=[]:=List.length_eq_zero_iff.1 (by omega)
     subst f0 r0
     have:=hR w' hb
     exact fin 0 tk lh listed a w' inv (by simpa using hp) hnd hz hb this.1 this.2
   | succ F ih =>
     intro f rem tk lh listed a w' hF inv hp hnd hz hb hR
     by_cases hr:Region.ready .any (l.take n).toArray lh=[]∧rem=[]
     · obtain⟨hr,r0⟩:=hr
       subst r0
       have ha:a=A:=by
         have:=hR w' hb
         cases f with
         | zero=>exact this.2
         | succ f=>exact this.1 hr
       exact fin (F+1) tk lh listed a w' inv (by simpa using hp) hnd hz hb hr ha
     · -- something is left of the first ones
       have hup:∀j,j<n→(j∈Region.ready .any (l.take n).toArray lh↔j∈Region.ready .any l.toArray listed):=fun j hj=>by
         rw [mem_ready,mem_ready,inv.same j hj,H.same j hj]
         have key:∀o,l.toArray[j]?=some o→∀e∈o.after,Region.binds .any e=true→lh.getD e.on false=listed.getD e.on false:=fun o ho e he hb=>by
           have hlo:=H.low j o hj ho e he hb
           rw [getD_any (l:=lh) (by rw [inv.s2];omega) false true,getD_any (l:=listed) (by rw [inv.s1];omega) false true]
           exact inv.same e.on (by omega)
         refine and_congr_right fun _=>⟨fun ⟨o,ho,h⟩=>⟨o,ho,fun e he hb=>?_⟩,fun ⟨o,ho,h⟩=>⟨o,ho,fun e he hb=>?_⟩⟩
         · rw [←key o ho e he hb];exact h e he hb
         · rw [key o ho e he hb];exact h e he hb
       obtain⟨i0,hi0,hl0⟩:∃i,i∈Region.ready .any l.toArray listed∧i<n+k:=by
         by_cases h1:Region.ready .any (l.take n).toArray lh=[]
         · have h2:rem≠[]:=fun h2=>hr ⟨h1,h2⟩
           obtain⟨m,hm'⟩:=List.exists_mem_of_ne_nil _ h2
           have hmk:=inv.lo m hm'
           obtain⟨o,ho,haf, -, -⟩:=mk m hmk
           refine⟨n+m, ?_,by omega⟩
           rw [mem_ready]
           exact⟨(inv.al m hmk).2 hm',o,by simpa using ho,fun e he=>by rw [haf] at he;simp at he⟩
         · obtain⟨i,hi⟩:=List.exists_mem_of_ne_nil _ h1
           have hin:i<n:=by
             obtain⟨_,o,ho,_⟩:=mem_ready.1 hi
             have:=(Array.getElem?_eq_some_iff.1 ho).1
             rw [H.size] at this
             exact this
           exact⟨i,(hup i hin).1 hi,by omega⟩
       rw [show F+1+(l.length-(n+k))=(F+(l.length-(n+k)))+1 by omega]
       refine⟨fun h0=>(by rw [h0] at hi0;cases hi0),fun j hj=>?_⟩
       have hjk:=late listed i0 hl0 (mem_ready.1 hi0).1 inv.s1 inv.cl j hj
       rcases Nat.lt_or_ge j n with hjn | hjn
       · -- one of the first
         have hj':=(hup j hjn).2 hj
         have ho:l.toArray[j]?=some (l.toArray[j]'(by simp;omega)):=by simp
         generalize hoo:l.toArray[j]'(by simp;omega)=o at ho
         have hoh:(l.take n).toArray[j]?=some o:=by rw [H.same j hjn];exact ho
         have hol:l[j]?=some o:=by simpa using ho
         cases f with
         | zero =>
           have:=(hR w' hb).1
           rw [this] at hj'
           cases hj'
         | succ f =>
           have q:=(hR w' hb).2 j hj'
           obtain⟨v,hy,hKv⟩:=yieldsIn_of_qOp hoh q
           have hy2:YieldsIn P l.toArray (Beh w') o v (putL dst tk a):=by
             have hlk:∀m d,(m<k→dst m=some d→d ∉ o.looksAt l.toArray∧o.dst≠some d):=fun m d hmk hd=>apart j o hjn hol m d hd hmk
             have hy1:YieldsIn P l.toArray (Beh w') o v a:=by
               unfold YieldsIn at hy ⊢
               rw [head_wanted H hjn ho] at hy
               exact hy
             have e:=exec_putL (ops:=l.toArray) (dst:=fun m=>if m<k then dst m else none) (o:=o) (fun cs b=>nosel j o cs b ho) (fun m d hd=>by
               by_cases hmk:m<k
               · rw [if_pos hmk] at hd;exact (hlk m d hmk hd).1
               · rw [if_neg hmk] at hd;cases hd) tk a
             have ep:putL (fun m=>if m<k then dst m else none) tk a=putL dst tk a:=by
               have hin:∀m b,(m,b)∈tk→m<k:=fun m b hmb=>by
                 have:m∈List.range k:=hp.mem_iff.1 (List.mem_append_left _ (List.mem_map.2 ⟨(m,b),hmb,rfl⟩))
                 exact List.mem_range.1 this
               clear e hy hy1 hKv q hz hnd hp
               induction tk with
               | nil=>rfl
               | cons x tk ihx =>
                 obtain⟨m,b⟩:=x
                 unfold putL
                 rw [ihx (fun m b hmb=>hin m b (List.mem_cons_of_mem _ hmb)),if_pos (hin m b (List.mem_cons_self ..))]
             rw [ep] at e
             exact hy1.of_same e.1 e.2
           have hdst:putL dst tk (a.put o.dst v)=(putL dst tk a).put o.dst v:=by
             have hin:∀m b,(m,b)∈tk→m<k:=fun m b hmb=>by
               have:m∈List.range k:=hp.mem_iff.1 (List.mem_append_left _ (List.mem_map.2 ⟨(m,b),hmb,rfl⟩))
               exact List.mem_range.1 this
             clear hy hy2 hKv q hz hnd hp
             induction tk with
             | nil=>rfl
             | cons x tk ihx =>
               obtain⟨m,b⟩:=x
               unfold putL
               rw [ihx (fun m b hmb=>hin m b (List.mem_cons_of_mem _ hmb))]
               exact Act.put_comm _ _ _ (fun d hd e=>(apart j o hjn hol m d e (hin m b (List.mem_cons_self ..))).2 hd)
           refine wpOp_of_qOp (C:=Beh w') (K:=fun a'=>a'=(putL dst tk a).put o.dst v) (beh_of (Below.refl _ _)) (fun a' w'' hw'' ha'=>?_) (hy2.qOp ho rfl)
           subst ha'
           rw [←hdst]
           have hbw:=hw''.below
           refine ih f rem tk (lh.setIfInBounds j true) (listed.setIfInBounds j true) (a.put o.dst v) w'' (by omega) ⟨by simp [inv.s1],by simp [inv.s2],fun i hi=>?_,fun m hmk=>by rw [Go.getD_set_ne true (by omega)];exact inv.al m hmk,inv.nd,inv.lo,fun i hi hil=>by rw [Go.getD_set_ne true (by omega)];exact inv.tail i hi hil,listed_cl inv.cl hj⟩ hp hnd (fun m b hmb=>?_) (later hb hbw) (fun W hW=>?_)
           · by_cases hij:j=i
             · subst hij
               have h1:j<lh.size:=by rw [inv.s2];omega
               have h2:j<listed.size:=by rw [inv.s1];omega
               simp [h1,h2]
             · rw [Go.getD_set_ne true hij,Go.getD_set_ne true hij]
               exact inv.same i hi
           · obtain⟨z1,z2,z3⟩:=hz m b hmb
             exact⟨hK _ _ _ _ z1 z3 hbw,z2,Nat.lt_of_lt_of_le z3 hbw.size⟩
           · obtain⟨v', -,hKv'⟩:=yieldsIn_of_qOp hoh ((hR W hW).2 j hj')
             rw [put_pinned (md:=.any) hdist hoh (by rw [inv.s2];omega) hKv hKv']
             exact hKv'
       · -- one that makes memory
         have hmk:j-n<k:=by omega
         have ej:n+(j-n)=j:=by omega
         have hmr:j-n∈rem:=by
           have:=(mem_ready.1 hj).1
           rw [←ej] at this
           exact (inv.al _ hmk).1 this
         have go:=made (F+(l.length-(n+k))) f rem tk lh listed a w' (j-n) hmk hmr inv hp hnd hz hb (fun tk' w'' inv' hp' hnd' hz' hb'=>by
           have e:F=f+(rem.erase (j-n)).length:=by
             have:=List.length_erase_of_mem hmr
             have:rem.length≠0:=fun h0=>by rw [List.length_eq_zero_iff.1 h0] at hmr;cases hmr
             omega
           exact ih f (rem.erase (j-n)) tk' lh _ a w'' e inv' hp' hnd' hz' hb' hR)
         rw [ej] at go
         exact go
 refine wp_region_any hm ?_
 have R:∀W,Below w.heap.size w W→wpAnyQ P .any (l.take n).toArray (Beh W) (fun a'=>a'=A) n (Array.replicate n false) a:=fun W hW=>by
   have q:=wpAnyQ_lex (P:=P) (C:=Beh W) (md:=.any) hlex.1 (l.take n) 0 (Array.replicate (l.take n).toArray.size false) a (by simp) (by simpa using hlex.2) (h W hW)
   rw [hl] at q
   have:(l.take n).toArray.size=n:=by simpa using hl
   rw [this] at q
   exact q
 have t:=main (n+k) n (List.range k) [] (Array.replicate n false) (Array.replicate l.length false) a w.drew (by simp) ⟨by simp,by simp,fun j hj=>by simp [hj,show j<l.length by omega],fun m hmk=>by simp [hmk,show n+m<l.length by omega],List.nodup_range,fun m hm'=>List.mem_range.1 hm',fun j hj hjl=>by simp [hjl],fun j oj _ hl=>(by rw [getD_replicate_false] at hl;cases hl)⟩ (by simp) (by simp) (fun m b hmb=>by cases hmb) (Below.refl _ _).drew R
 have e:n+k+(l.length-(n+k))=l.toArray.size:=by simp;omega
 rw [e] at t
 have e2:l.length=l.toArray.size:=by simp
 rw [e2] at t
 exact t
end
theorem alloc_ival (d:Option Tmp) (ty:TypeId) (p:String) (a:Act) (w:World):(execOp a.eval { dst:=d,op:=.alloc 24,type:=ty,pos:=p,after:=#[],guard:=none }).run Tryz.prog w=.ok (.value (.pointer (some ⟨w.heap.size,0,none⟩))) (w.alloc (.cells #[.float .f64 0,.float .f64 0] 24)):=by
 simp [execOp,go_sem]
theorem tail_alloc1 {id:Nat} {Q:Exit→Act→World→Prop} {a:Act} {w:World} {l:List Oper} {d:Tmp} {ty:TypeId} {p:String} {A:Act} (n:Nat) (hm:Tryz.prog.follows .mixedOrders=true) (hB:allocsB l n 1=true) (ho:l[n]?=some { dst:=some d,op:=.alloc 24,type:=ty,pos:=p,after:=#[],guard:=none })
   (h:∀W,Below w.heap.size w W→wpQuiet Tryz.prog (l.take n).toArray (fun w'=>∃n:Behind W,w'=n.W) (fun a'=>a'=A) (l.take n) a)
   (hT:∀b W,w.heap.size≤b→Has2 W b (.float .f64 0) (.float .f64 0)→Below w.heap.size w W→wpList Tryz.prog l.toArray Q (l.drop (n+1)) (A.put (some d) (.pointer (some ⟨b,0,none⟩))) W):(Code.region id l.toArray true).wp Tryz.prog Q a w:=by
 refine region_allocs n 1 (fun _=>.cells #[.float .f64 0,.float .f64 0] 24) (fun _ b w'=>Has2 w' b (.float .f64 0) (.float .f64 0)) A hm hB (fun m hm1 o hom a w=>?_) (fun m _ w1=>has2_new w1 _ _ _) (fun m b w1 w2 z _ hb=>z.keep hb) h (fun tk W hp hnd hz hb=>?_)
 · obtain rfl:m=0:=by omega
   rw [Nat.add_zero,ho] at hom
   cases hom
   exact alloc_ival _ _ _ a w
 · have:tk.length=1:=by have:=hp.length_eq;simpa using this
   match tk,this with
   | [(m,b)],_ =>
     have:m=0:=by
       have:=hp.mem_iff.1 (List.mem_cons_self ..)
       simpa using this
     subst this
     obtain⟨z1,z2,z3⟩:=hz 0 b (List.mem_cons_self ..)
     have e:=hT b W z2 z1 hb
     simp only [putL,Nat.add_zero,ho,Option.bind_some]
     exact e
theorem tail_alloc2 {id:Nat} {Q:Exit→Act→World→Prop} {a:Act} {w:World} {l:List Oper} {d d2:Tmp} {ty ty2:TypeId} {p p2:String} {A:Act} (n:Nat) (hm:Tryz.prog.follows .mixedOrders=true) (hB:allocsB l n 2=true) (ho:l[n]?=some { dst:=some d,op:=.alloc 24,type:=ty,pos:=p,after:=#[],guard:=none })
   (ho2:l[n+1]?=some { dst:=some d2,op:=.alloc 24,type:=ty2,pos:=p2,after:=#[],guard:=none }) (hne:d≠d2)
   (h:∀W,Below w.heap.size w W→wpQuiet Tryz.prog (l.take n).toArray (fun w'=>∃n:Behind W,w'=n.W) (fun a'=>a'=A) (l.take n) a)
   (hT:∀b c W,w.heap.size≤b→w.heap.size≤c→b≠c→Has2 W b (.float .f64 0) (.float .f64 0)→Has2 W c (.float .f64 0) (.float .f64 0)→Below w.heap.size w W→wpList Tryz.prog l.toArray Q (l.drop (n+2)) ((A.put (some d) (.pointer (some ⟨b,0,none⟩))).put (some d2) (.pointer (some ⟨c,0,none⟩))) W):(Code.region id l.toArray true).wp Tryz.prog Q a w:=by
 refine region_allocs n 2 (fun _=>.cells #[.float .f64 0,.float .f64 0] 24) (fun _ b w'=>Has2 w' b (.float .f64 0) (.float .f64 0)) A hm hB (fun m hm1 o hom a w=>?_) (fun m _ w1=>has2_new w1 _ _ _) (fun m b w1 w2 z _ hb=>z.keep hb) h (fun tk W hp hnd hz hb=>?_)
 · have:m=0∨m=1:=by omega
   rcases this with rfl | rfl
   · rw [Nat.add_zero,ho] at hom
     cases hom
     exact alloc_ival _ _ _ a w
   · rw [ho2] at hom
     cases hom
     exact alloc_ival _ _ _ a w
 · have:tk.length=2:=by have:=hp.length_eq;simpa using this
   match tk,this with
   | [(m,b),(k,c)],_ =>
     obtain⟨z1,z2,z3⟩:=hz m b (List.mem_cons_self ..)
     obtain⟨y1,y2,y3⟩:=hz k c (List.mem_cons_of_mem _ (List.mem_cons_self ..))
     have hbc:b≠c:=by
       simp only [List.map_cons,List.map_nil,List.nodup_cons,List.mem_singleton] at hnd
       exact hnd.1
     have hmk:m=0∧k=1∨m=1∧k=0:=by
       have m1:m<2:=List.mem_range.1 (hp.mem_iff.1 (List.mem_cons_self ..))
       have m2:k<2:=List.mem_range.1 (hp.mem_iff.1 (List.mem_cons_of_mem _ (List.mem_cons_self ..)))
       have m3:m≠k:=by
         have:=hp.nodup_iff.2 List.nodup_range
         simp only [List.map_cons,List.map_nil,List.nodup_cons,List.mem_singleton] at this
         exact this.1
       omega
     rcases hmk with ⟨rfl,rfl⟩ | ⟨rfl,rfl⟩
     · have e:=hT b c W z2 y2 hbc z1 y1 hb
       simp only [putL,Nat.add_zero,ho,ho2,Option.bind_some]
       rw [Act.put_comm _ _ _ (fun x hx e=>by cases hx;cases e;exact hne rfl)] at e
       exact e
     · have e:=hT c b W y2 z2 (fun h=>hbc h.symm) y1 z1 hb
       simp only [putL,Nat.add_zero,ho,ho2,Option.bind_some]
       exact e
def HasI (w:World) (b:Nat) (x:Value):Prop:=w.cell? ⟨b,0,none⟩=some x∧b<w.heap.size
theorem HasI.keep {W0 w2:World} {b:Nat} {x:Value} (h:HasI W0 b x) (hb:Below W0.heap.size W0 w2):HasI w2 b x:=⟨(hb.cell h.2).trans h.1,Nat.lt_of_lt_of_le h.2 hb.size⟩
theorem HasI.far {w:World} {b c:Nat} {x:Value} (h:HasI w b x) (hne:c≠b) (u v:Value):HasI ((w.setCell ⟨c,0,none⟩ u).setCell ⟨c,1,none⟩ v) b x:=by
 obtain⟨h0,hl⟩:=h
 have hne':b≠c:=fun e=>hne e.symm
 constructor
 · simp [World.cell?_setCell_far, *]
 · simp only [World.size_setCell];exact hl
theorem Has2.lt {w:World} {b:Nat} {x y:Value} (h:Has2 w b x y):b<w.heap.size:=h.2.2.2.2
theorem Has2.far2 {w:World} {b c:Nat} {x y:Value} (h:Has2 w b x y) (hne:c≠b) (u v:Value):Has2 ((w.setCell ⟨c,0,none⟩ u).setCell ⟨c,1,none⟩ v) b x y:=h.far hne u v
theorem Has3.lt {w:World} {b:Nat} {x y z:Value} (h:Has3 w b x y z):b<w.heap.size:=h.2.2.2.2.2.2
theorem Has3.far2 {w:World} {b c:Nat} {x y z:Value} (h:Has3 w b x y z) (hne:c≠b) (u v:Value):Has3 ((w.setCell ⟨c,0,none⟩ u).setCell ⟨c,1,none⟩ v) b x y z:=by
 obtain⟨h0,h1,h2,f0,f1,f2,hl⟩:=h
 have hne':b≠c:=fun e=>hne e.symm
 refine⟨by simp [World.cell?_setCell_far, *],by simp [World.cell?_setCell_far, *],by simp [World.cell?_setCell_far, *],by go_simp,by go_simp,by go_simp, ?_⟩
 simp only [World.size_setCell];exact hl
def halfF (a:Nat):Nat:=divF a 4611686018427387904 0
theorem half_div {a:Nat} (fa:finB a=true):divR a 4611686018427387904 0=some (halfF a):=divR_fin 0 fa (by decide) (by decide)
theorem half_low {a:Nat} (ha:a<18446744073709551616) (fa:finB a=true) (k:key a≤0):key a≤key (divF a 4611686018427387904 (-1)):=by
 obtain⟨u,hu⟩:∃u:Nat,u=1074:=⟨_,rfl⟩
 obtain⟨u3,hu3⟩:∃u:Nat,u=1075:=⟨_,rfl⟩
 have r3:2^u3=2*2^u:=by rw [show u3=u+1 by omega,Nat.pow_succ,Nat.mul_comm]
 have i3:((2^u3:Nat):Int)=2*((2^u:Nat):Int):=by rw [r3];simp
 have ov:=one_val hu
 have e:=div_exact hu3 ha (b:=4607182418800017408) (by omega) ha fa (by decide) fa (by decide) (by rw [ov,i3,Int.mul_comm 2 (V (key a)),Int.mul_assoc]) (-1)
 have m:V (key 4607182418800017408)≤V (key 4611686018427387904):=V_mono_le (by decide)
 have n:=V_npos k
 clear hu hu3 r3 i3 ov
 rw [←e]
 refine div_le ha (by omega) ha (by omega) fa (by decide) fa (by decide) (by decide) (by decide) ?_
 exact Int.mul_le_mul_of_nonpos_left n m
theorem half_up {a:Nat} (ha:a<18446744073709551616) (fa:finB a=true):key (divF a 4611686018427387904 1)=- key (divF (negB a) 4611686018427387904 (-1)):=by
 have m:=div_mirror (a:=a) (b:=4611686018427387904) (by omega) fa (by decide) (by decide)
 have f:=div_flip (a:=negB a) (b:=4611686018427387904) (negB_lt ha) (by omega) (by rw [finB_negB ha];exact fa) (by decide) (by decide)
 rw [negB_negB ha] at f
 rw [m,f]
theorem half_key {a:Nat} (ha:a<18446744073709551616) (fa:finB a=true):(0≤key a→0≤key (halfF a)∧key (halfF a)≤key a)∧(key a≤0→key a≤key (halfF a)∧key (halfF a)≤0):=by
 have s:=div_sides (a:=a) (b:=4611686018427387904) ha (by omega) fa (by decide) (by decide)
 have u:=half_up ha fa
 have s1:=s.1.le
 have s2:=s.2.1.le
 have kn:=key_negB ha
 have fn:finB (negB a)=true:=by rw [finB_negB ha];exact fa
 unfold halfF
 refine⟨fun k=>⟨?_, ?_⟩,fun k=>⟨?_, ?_⟩⟩
 · have:=div_nonneg (a:=a) (b:=4611686018427387904) ha (by omega) fa (by decide) k (by decide)
   exact Int.le_trans this s1
 · have:=half_low (negB_lt ha) fn (by omega)
   omega
 · have:=half_low ha fa k
   exact Int.le_trans this s1
 · have:=div_nonneg (a:=negB a) (b:=4611686018427387904) (negB_lt ha) (by omega) fn (by decide) (by omega) (by decide)
   omega
theorem half_facts {a:Nat} (ha:a<18446744073709551616) (fa:finB a=true):nanB (halfF a)=false∧halfF a<18446744073709551616∧finB (halfF a)=true:=by
 have f:=divF_facts (a:=a) (b:=4611686018427387904) 0 (by decide)
 have k:=half_key ha fa
 have g:=fin_key ha fa
 have hd:divF a 4611686018427387904 0=halfF a:=rfl
 rw [hd] at f
 refine⟨f.1,f.2.2, ?_⟩
 cases h:finB (halfF a)
 · have:=(key_inf f.2.2 f.1).1 h
   rcases Int.le_total 0 (key a) with c | c
   · have:=k.1 c;omega
   · have:=k.2 c;omega
 · rfl
def midLo (lo:Nat):Nat:=maxW lo 18442240474082181119
def midHi (hi:Nat):Nat:=minW hi 9218868437227405311
def midM (lo hi:Nat):Nat:=addF (halfF (midLo lo)) (halfF (midHi hi)) 0
def midP (lo hi:Nat):Nat:=if hsB lo hi then (if key (midM lo hi)<key (midLo lo) then midLo lo else if key (midHi hi)<key (midM lo hi) then midHi hi else midM lo hi) else 0
theorem midM_facts (lo hi:Nat):nanB (midM lo hi)=false∧midM lo hi≠9223372036854775808∧midM lo hi<18446744073709551616:=by
 unfold midM
 exact addF_facts _ _ 0
theorem midM_is {lo hi:Nat} (f1:finB (halfF (midLo lo))=true) (f2:finB (halfF (midHi hi))=true):addR (halfF (midLo lo)) (halfF (midHi hi)) 0=some (midM lo hi):=by
 unfold midM
 exact addR_fin 0 f1 f2
theorem mid_ends {lo hi:Nat} (hl:lo<18446744073709551616) (hh:hi<18446744073709551616) (S:Some2 lo hi):(midLo lo=if eqB lo (infI (-1)) then 18442240474082181119 else lo)∧(midHi hi=if eqB hi (infI 1) then 9218868437227405311 else hi)∧finB (midLo lo)=true∧finB (midHi hi)=true∧midLo lo<18446744073709551616∧midHi hi<18446744073709551616∧midLo lo≠9223372036854775808∧midHi hi≠9223372036854775808∧key (midLo lo)≤key (midHi hi):=by
 have ei:eqB lo (infI (-1))=decide (key lo=-9218868437227405312):=by unfold eqB;rw [S.nl,nan_inf,key_down];rfl
 have ej:eqB hi (infI 1)=decide (key hi=9218868437227405312):=by unfold eqB;rw [S.nh,nan_inf,key_up];rfl
 have k1:key 18442240474082181119=-9218868437227405311:=by decide
 have k2:key 9218868437227405311=9218868437227405311:=by decide
 have g1:=nanB_key hl S.nl
 have g2:=nanB_key hh S.nh
 have sl:=S.lt
 have sg:=S.gt
 have sle:=S.le
 have F:∀{x:Nat},x<18446744073709551616→nanB x=false→key x≠9218868437227405312→key x≠-9218868437227405312→finB x=true:=fun {x} hx nx n1 n2=>by
   cases h:finB x
   · rcases (key_inf hx nx).1 h with c | c
     · exact absurd c n1
     · exact absurd c n2
   · rfl
 unfold midLo midHi
 rw [maxW_is S.zl (by omega),minW_is S.zh (by omega),ei,ej,k1,k2]
 by_cases c1:key lo < -9218868437227405311
 · have q:key lo=-9218868437227405312:=by omega
   rw [if_pos c1,decide_eq_true q,if_pos rfl]
   by_cases c2:9218868437227405311<key hi
   · have q2:key hi=9218868437227405312:=by omega
     rw [if_pos c2,decide_eq_true q2,if_pos rfl]
     exact⟨rfl,rfl,by decide,by decide,by omega,by omega,by omega,by omega,by rw [k1,k2];omega⟩
   · have q2:¬key hi=9218868437227405312:=by omega
     rw [if_neg c2,decide_eq_false q2,if_neg (by simp)]
     exact⟨rfl,rfl,by decide,F hh S.nh q2 (by omega),by omega,hh,by omega,S.zh,by rw [k1];omega⟩
 · have q:¬key lo=-9218868437227405312:=by omega
   rw [if_neg c1,decide_eq_false q,if_neg (by simp)]
   by_cases c2:9218868437227405311<key hi
   · have q2:key hi=9218868437227405312:=by omega
     rw [if_pos c2,decide_eq_true q2,if_pos rfl]
     exact⟨rfl,rfl,F hl S.nl (by omega) q,by decide,hl,by omega,S.zl,by omega,by rw [k2];omega⟩
   · have q2:¬key hi=9218868437227405312:=by omega
     rw [if_neg c2,decide_eq_false q2,if_neg (by simp)]
     exact⟨rfl,rfl,F hl S.nl (by omega) q,F hh S.nh q2 (by omega),hl,hh,S.zl,S.zh,sle⟩
set_option maxHeartbeats 1000000 in
theorem mid_core (lo hi l h p q m x r:Nat) (b:Bool)
   (c0:∀b' W,W.cell? ⟨b',0,none⟩=some (.float .f64 lo)→W.cell? ⟨b',1,none⟩=some (.float .f64 hi)→Calls Tryz.prog 105 #[.slice (some ⟨b',0,none⟩) 1 1] W fun e w'=>e=.returned (.bool (!b))∧Below W.heap.size W w')
   (m1:b=true→∀ts t w,(Builtin.max_ ts t #[.float .f64 lo,.float .f64 18442240474082181119]).run Tryz.prog w=.ok (.float .f64 l) w)
   (m2:b=true→∀ts t w,(Builtin.min_ ts t #[.float .f64 hi,.float .f64 9218868437227405311]).run Tryz.prog w=.ok (.float .f64 h) w)
   (c1:b=true→∀w,Calls Tryz.prog 197 #[.float .f64 l,.float .f64 4611686018427387904,.int .i64 0] w fun e w'=>e=.returned (.float .f64 p)∧Below w.heap.size w w')
   (c2:b=true→∀w,Calls Tryz.prog 197 #[.float .f64 h,.float .f64 4611686018427387904,.int .i64 0] w fun e w'=>e=.returned (.float .f64 q)∧Below w.heap.size w w')
   (c3:b=true→∀w,Calls Tryz.prog 123 #[.float .f64 p,.float .f64 q,.int .i64 0] w fun e w'=>e=.returned (.float .f64 m)∧Below w.heap.size w w')
   (m3:b=true→∀ts t w,(Builtin.max_ ts t #[.float .f64 m,.float .f64 l]).run Tryz.prog w=.ok (.float .f64 x) w)
   (m4:b=true→∀ts t w,(Builtin.min_ ts t #[.float .f64 x,.float .f64 h]).run Tryz.prog w=.ok (.float .f64 r) w) (w:World) :
   Calls Tryz.prog 150 #[.agg #[.float .f64 lo,.float .f64 hi]] w fun e w'=>e=.returned (.float .f64 (if b then r else 0))∧Below w.heap.size w w':=by
 cases b
 · clear m1 m2 m3 m4 c1 c2 c3
   simp only [Bool.not_false,Bool.false_eq_true,if_false] at c0 ⊢
   go_enter Tryz.func150,Tryz.ntmps150
   go_wp2_with (go_at_call 105;refine (c0 (w.heap.size+1) _ (by go_simp) (by go_simp)).mono ?_;rintro _ w1 ⟨rfl,hb1⟩)
   go_ret
   exact⟨rfl,later (by go_grown) hb1⟩
 · replace m1:=m1 rfl
   replace m2:=m2 rfl
   replace m3:=m3 rfl
   replace m4:=m4 rfl
   replace c1:=c1 rfl
   replace c2:=c2 rfl
   replace c3:=c3 rfl
   simp only [Bool.not_true,if_true] at c0 ⊢
   go_enter Tryz.func150,Tryz.ntmps150
   go_upto_region 3 with
    (go_at_call 105;refine (c0 (w.heap.size+1) _ (by go_simp) (by go_simp)).mono ?_;rintro _ w1 ⟨rfl,hb1⟩
     have X:Has2 w1 w.heap.size (.float .f64 lo) (.float .f64 hi):=Has2.keep ⟨by go_simp,by go_simp,by go_simp,by go_simp,by go_size⟩ hb1
     have HB:Below w.heap.size w w1:=later (by go_grown) hb1)
   clear hb1 c0
   have kx0:=fun n:Behind w1=>n.cell X.1 X.2.2.2.2
   have kx1:=fun n:Behind w1=>n.cell X.2.1 X.2.2.2.2
   refine region_behind (by kernel_rfl) (by kernel_rfl) ?_
   repeat (go_big_quiet_step (fail))
   refine wpQuiet_nil ?_
   rintro _ ⟨n,rfl⟩
   obtain⟨W,hb1⟩:=n
   dsimp only
   clear kx0 kx1
   replace HB:=later HB hb1
   clear hb1
   go_wp2_with (first
     | (go_at_call_of 197 (Value.float .f64 l);refine (c1 _).mono ?_;rintro _ w2 ⟨rfl,hb1⟩;replace HB:=later HB hb1;clear hb1)
     | (go_at_call 197;refine (c2 _).mono ?_;rintro _ w2 ⟨rfl,hb1⟩;replace HB:=later HB hb1;clear hb1)
     | (go_at_call 123;refine (c3 _).mono ?_;rintro _ w2 ⟨rfl,hb1⟩;replace HB:=later HB hb1;clear hb1))
   go_ret
   exact⟨rfl,HB⟩
theorem Mid_w (lo hi:Nat) (hl:lo<18446744073709551616) (hh:hi<18446744073709551616) (w:World):Calls Tryz.prog 150 #[.agg #[.float .f64 lo,.float .f64 hi]] w fun e w'=>e=.returned (.float .f64 (midP lo hi))∧Below w.heap.size w w':=by
 have c0:=fun b W c0 c1=>someEmpty1_w b lo hi hl hh W c0 c1
 have E:=fun h=>mid_ends hl hh (hs_iff.1 h)
 have P:=fun h=>half_facts (E h).2.2.2.2.1 (E h).2.2.1
 have Q:=fun h=>half_facts (E h).2.2.2.2.2.1 (E h).2.2.2.1
 have N:=fun h=>fin_not_nan (E h).2.2.1
 have O:=fun h=>fin_not_nan (E h).2.2.2.1
 have M:=midM_facts lo hi
 have X:hsB lo hi=true→minW (maxW (midM lo hi) (midLo lo)) (midHi hi)=(if key (midM lo hi)<key (midLo lo) then midLo lo else if key (midHi hi)<key (midM lo hi) then midHi hi else midM lo hi):=fun h=>by
   have k:=(E h).2.2.2.2.2.2.2.2
   rw [maxW_is M.2.1 (E h).2.2.2.2.2.2.1]
   by_cases c:key (midM lo hi)<key (midLo lo)
   · rw [if_pos c,if_pos c,minW_is (E h).2.2.2.2.2.2.1 (E h).2.2.2.2.2.2.2.1,if_neg (by omega)]
   · rw [if_neg c,if_neg c,minW_is M.2.1 (E h).2.2.2.2.2.2.2.1]
 have q:=mid_core lo hi (midLo lo) (midHi hi) (halfF (midLo lo)) (halfF (midHi hi)) (midM lo hi) (maxW (midM lo hi) (midLo lo)) (minW (maxW (midM lo hi) (midLo lo)) (midHi hi)) (hsB lo hi) c0
   (fun h ts t w=>max_f hl (by omega) (hs_nan h).1 (by decide) _ ts t w) (fun h ts t w=>min_f hh (by omega) (hs_nan h).2 (by decide) _ ts t w)
   (fun h=>told_calls (half_div (E h).2.2.1) (fun w=>div_w _ _ 0 (E h).2.2.2.2.1 (by omega) w)) (fun h=>told_calls (half_div (E h).2.2.2.1) (fun w=>div_w _ _ 0 (E h).2.2.2.2.2.1 (by omega) w))
   (fun h=>told_calls (midM_is (P h).2.2 (Q h).2.2) (fun w=>add_w _ _ 0 (P h).2.1 (Q h).2.1 w))
   (fun h ts t w=>max_f M.2.2 (E h).2.2.2.2.1 M.1 (N h) _ ts t w)
   (fun h ts t w=>min_f (by rw [maxW_is M.2.1 (E h).2.2.2.2.2.2.1];split;exact (E h).2.2.2.2.1;exact M.2.2) (E h).2.2.2.2.2.1 (by rw [maxW_is M.2.1 (E h).2.2.2.2.2.2.1];split;exact N h;exact M.1) (O h) _ ts t w) w
 unfold midP
 cases h:hsB lo hi
 · rw [h,if_neg (by simp)] at q
   rw [if_neg (by simp)]
   exact q
 · rw [h,if_pos rfl] at q
   rw [if_pos rfl,←X h]
   exact q
structure In (xl xh ul uh:Nat):Prop where
 S:Some2 xl xh
 T:Some2 ul uh
 kl:key ul≤key xl
 kh:key xh≤key uh
 a1:xl<18446744073709551616
 a2:xh<18446744073709551616
 b1:ul<18446744073709551616
 b2:uh<18446744073709551616
def Gr (p q:Nat×Nat):Prop:=(p=(infI 1,infI (-1))∧(q=(infI 1,infI (-1))∨Some2 q.1 q.2))∨(Some2 p.1 p.2∧Some2 q.1 q.2∧key q.1≤key p.1∧key p.2≤key q.2)
theorem empty_some:hsB (infI 1) (infI (-1))=false:=by decide
theorem gr_empty:Gr (infI 1,infI (-1)) (infI 1,infI (-1)):=Or.inl ⟨rfl,Or.inl rfl⟩
theorem gr_some {p q:Nat×Nat} (S:Some2 p.1 p.2) (T:Some2 q.1 q.2) (k1:key q.1≤key p.1) (k2:key p.2≤key q.2):Gr p q:=Or.inr ⟨S,T,k1,k2⟩
theorem In.refl {xl xh:Nat} (h1:xl<18446744073709551616) (h2:xh<18446744073709551616) (S:Some2 xl xh):In xl xh xl xh:=⟨S,S,Int.le_refl _,Int.le_refl _,h1,h2,h1,h2⟩
theorem addR_bot {a b r:Nat} {d:Int} (ha:a<18446744073709551616) (na:nanB a=false) (k:key a=-9218868437227405312) (h:addR a b d=some r):r=a:=by
 have fa:=(key_inf ha na).2 (Or.inr k)
 unfold addR at h
 rw [fa] at h
 split at h
 · cases h
 · simp only [Bool.false_and,Bool.false_eq_true,if_false] at h
   split at h
   · cases h
   · exact (Option.some.inj h).symm
theorem addR_bot2 {a b r:Nat} {d:Int} (ha:a<18446744073709551616) (hb:b<18446744073709551616) (na:nanB a=false) (nb:nanB b=false) (k:key b=-9218868437227405312) (h:addR a b d=some r):key r=-9218868437227405312:=by
 have fb:=(key_inf hb nb).2 (Or.inr k)
 have zb:isZ b=false:=isZ_pos hb (by omega)
 have sb:=sign_key hb zb
 unfold addR at h
 rw [fb,na,nb] at h
 simp only [Bool.or_self,Bool.and_false,Bool.false_eq_true,if_false,Bool.not_false,Bool.and_true] at h
 cases fa:finB a
 · rw [fa] at h
   have za:isZ a=false:=by
     cases z:isZ a
     · rfl
     · have:=(key_zero ha).1 z
       rcases (key_inf ha na).1 fa with c | c <;> omega
   have sa:=sign_key ha za
   simp only [Bool.not_false,Bool.true_and,Bool.false_eq_true,if_false] at h
   split at h
   · cases h
   · rename_i hc
     have e:=(Option.some.inj h).symm
     rw [e]
     rcases (key_inf ha na).1 fa with c | c
     · rw [sa,sb,decide_eq_false (by omega),decide_eq_true (by omega)] at hc
       exact absurd rfl hc
     · exact c
 · rw [fa] at h
   simp only [Bool.not_true,Bool.false_and,Bool.false_eq_true,if_false,if_true] at h
   rw [←Option.some.inj h]
   exact k
theorem addR_word {a b r:Nat} {d:Int} (ha:a<18446744073709551616) (hb:b<18446744073709551616) (h:addR a b d=some r):r<18446744073709551616∧nanB r=false:=by
 have f:=addF_facts a b d
 unfold addR at h
 generalize addF a b d=q at *
 split at h
 · cases h
 · rename_i hn
   have na:nanB a=false:=by cases z:nanB a <;> simp_all
   have nb:nanB b=false:=by cases z:nanB b <;> simp_all
   split at h
   · rw [←Option.some.inj h];exact⟨f.2.2,f.1⟩
   · split at h
     · cases h
     · rw [←Option.some.inj h]
       split
       · exact⟨hb,nb⟩
       · exact⟨ha,na⟩
theorem add_low {p q c d l m:Nat} (hp:p<18446744073709551616) (hq:q<18446744073709551616) (hc:c<18446744073709551616) (hd:d<18446744073709551616) (np:nanB p=false) (nq:nanB q=false) (nc:nanB c=false) (nd:nanB d=false)
   (kc:key c<9218868437227405312) (kd:key d<9218868437227405312) (h1:key p≤key c) (h2:key q≤key d) (e:addR c d (-1)=some l) (e':addR p q (-1)=some m):key m≤key l:=by
 have wl:=addR_word hc hd e
 have hl:=(key_range wl.1 wl.2).1
 have rc:=key_range hc nc
 have rd:=key_range hd nd
 have rp:=key_range hp np
 have rq:=key_range hq nq
 cases fc:finB c
 · have kc':key p=-9218868437227405312:=by rcases (key_inf hc nc).1 fc with z | z <;> omega
   rw [addR_bot hp np kc' e',kc']
   exact hl
 · cases fd:finB d
   · have kd':key q=-9218868437227405312:=by rcases (key_inf hd nd).1 fd with z | z <;> omega
     rw [addR_bot2 hp hq np nq kd' e']
     exact hl
   · obtain⟨r,t,g1,g2,g⟩:=addR_low hp hq hc hd np nq fc fd h1 h2
     rw [e'] at g1
     rw [e] at g2
     have g1:=Option.some.inj g1
     have g2:=Option.some.inj g2
     rw [g1,g2]
     exact g.le
theorem add_high {p q c d l m:Nat} (hp:p<18446744073709551616) (hq:q<18446744073709551616) (hc:c<18446744073709551616) (hd:d<18446744073709551616) (np:nanB p=false) (nq:nanB q=false) (nc:nanB c=false) (nd:nanB d=false)
   (kc:-9218868437227405312<key c) (kd:-9218868437227405312<key d) (h1:key c≤key p) (h2:key d≤key q) (e:addR c d 1=some l) (e':addR p q 1=some m):key l≤key m:=by
 have m1:=addR_mirror (negB_lt hc) (negB_lt hd)
 have m2:=addR_mirror (negB_lt hp) (negB_lt hq)
 rw [negB_negB hc,negB_negB hd,e] at m1
 rw [negB_negB hp,negB_negB hq,e'] at m2
 rcases m1 with ⟨-,z⟩ | ⟨x,y,g1,g2,lx,ly,k⟩
 · cases z
 · rcases m2 with ⟨-,z⟩ | ⟨x2,y2,g3,g4,lx2,ly2,k2⟩
   · cases z
   · have g2:=Option.some.inj g2
     have g4:=Option.some.inj g4
     rw [←g2] at k
     rw [←g4] at k2
     have kx:=add_low (negB_lt hp) (negB_lt hq) (negB_lt hc) (negB_lt hd) (by rw [nanB_negB hp];exact np) (by rw [nanB_negB hq];exact nq) (by rw [nanB_negB hc];exact nc) (by rw [nanB_negB hd];exact nd)
       (by rw [key_negB hc];omega) (by rw [key_negB hd];omega) (by rw [key_negB hp,key_negB hc];omega) (by rw [key_negB hq,key_negB hd];omega) g1 g3
     omega
theorem add_gr {xl xh ul uh yl yh vl vh:Nat} (X:In xl xh ul uh) (Y:In yl yh vl vh):Gr (addP xl xh yl yh) (addP ul uh vl vh):=by
 obtain⟨l,u,e1,e2,A, -, -⟩:=add_some X.a1 X.a2 Y.a1 Y.a2 X.S Y.S
 obtain⟨l',u',e1',e2',A', -, -⟩:=add_some X.b1 X.b2 Y.b1 Y.b2 X.T Y.T
 have p1:addP xl xh yl yh=(l,u):=by unfold addP;rw [hs_iff.2 X.S,hs_iff.2 Y.S,e1,e2];rfl
 have p2:addP ul uh vl vh=(l',u'):=by unfold addP;rw [hs_iff.2 X.T,hs_iff.2 Y.T,e1',e2'];rfl
 rw [p1,p2]
 exact gr_some A A' (add_low X.b1 Y.b1 X.a1 Y.a1 X.T.nl Y.T.nl X.S.nl Y.S.nl X.S.lt Y.S.lt X.kl Y.kl e1 e1') (add_high X.b2 Y.b2 X.a2 Y.a2 X.T.nh Y.T.nh X.S.nh Y.S.nh X.S.gt Y.S.gt X.kh Y.kh e2 e2')
theorem neg_in {xl xh ul uh:Nat} (X:In xl xh ul uh):In (negP (xl,xh)).1 (negP (xl,xh)).2 (negP (ul,uh)).1 (negP (ul,uh)).2:=by
 have e1:negP (xl,xh)=mirrorP (xl,xh):=by unfold negP;rw [if_pos (hs_iff.2 X.S)]
 have e2:negP (ul,uh)=mirrorP (ul,uh):=by unfold negP;rw [if_pos (hs_iff.2 X.T)]
 obtain⟨S,k1,k2,l1,l2⟩:=mirror_some X.a1 X.a2 X.S
 obtain⟨T,k3,k4,l3,l4⟩:=mirror_some X.b1 X.b2 X.T
 have h1:=X.kl
 have h2:=X.kh
 rw [e1,e2]
 exact⟨S,T,by omega,by omega,l1,l2,l3,l4⟩
end Go.Proofs.YtfdelmgingefkaaGreat
