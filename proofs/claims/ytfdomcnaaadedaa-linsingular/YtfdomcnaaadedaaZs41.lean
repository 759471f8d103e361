/- A regular matrix has no two rows that are the same; up to three rows its determinant is not 0. LinSingular's parts: rows that are copied; the square; what a regular matrix's determinant is. -/
import Derived.Test.YtfdomcnaaadedaaZs40
import Derived.Test.YtfdomcnaaadedaaZs28
import Derived.Test.YtfdomcnaaadedaaZs34
import Derived.Deep.AppendLies
namespace Go.Proofs.Ytfdomcnaaadedaa
open Go.ChangeShapes Go.WideShapes Go.ChangeAt Go.RowKit
def RegG (n:Nat) (a:Nat→Nat→Rat):Prop:=∀u:Nat→Rat,(∀r,r<n→sumQ (fun c=>a r c*u c) n=0)→∀c,c<n→u c=0
theorem RegQ.g {n:Nat} {X:Nat→Nat→Nat} (h:RegQ n X):RegG n (fun r c=>vq (key (X r c))):=h
theorem same_rows {n:Nat} {a:Nat→Nat→Rat} {i j:Nat} (hi:i<n) (hj:j<n) (hij:i≠j) (e:∀c,c<n→a i c=a j c):¬RegG n a:=by
 intro h
 obtain⟨v,⟨k,hk,kv⟩,hv⟩:=fewer (m:=n-1) (n:=n) (by omega) (fun r c=>a (skipN j r) c)
 refine kv (h v (fun r hr=>?_) k hk)
 have other:∀r,r<n→r≠j→sumQ (fun c=>a r c*v c) n=0:=fun r hr rj=>by
   rcases Nat.lt_or_ge r j with c | c
   · have:=hv r (by omega)
     unfold skipN at this
     rw [if_pos c] at this
     exact this
   · have:=hv (r-1) (by omega)
     unfold skipN at this
     rw [if_neg (by omega),show r-1+1=r by omega] at this
     exact this
 by_cases c:r=j
 · subst c
   rw [←other i hi hij]
   exact sumQ_congr fun c hc=>by rw [e c hc]
 · exact other r hr c
theorem mul_zero_of {x y:Rat} (h:x≠0) (k:x*y=0):y=0:=by
 have i:=Rat.mul_inv_cancel x h
 have:y=(x*y)*x⁻¹:=by grind
 rw [this,k]
 grind
theorem rank_one {n:Nat} {a:Nat→Nat→Rat} (hn:2≤n) (e:∀r,r<n→∀s,s<n→∀c,c<n→∀d,d<n→a r c*a s d=a r d*a s c):¬RegG n a:=by
 intro h
 by_cases z:∃r,r<n∧∃c,c<n∧a r c≠0
 · obtain⟨r,hr,c,hc,ne⟩:=z
   obtain⟨v,⟨k,hk,kv⟩,hv⟩:=fewer (m:=1) (n:=n) (by omega) (fun _ c=>a r c)
   refine kv (h v (fun s hs=>?_) k hk)
   refine mul_zero_of ne ?_
   rw [←sumQ_mul,sumQ_congr (g:=fun d=>a s c*(a r d*v d)) (fun d hd=>?_),sumQ_mul,hv 0 (by omega)]
   · grind
   · have:=e r hr s hs c hc d hd
     rw [show a r c*(a s d*v d)=a r c*a s d*v d by grind,this]
     grind
 · have one:=h (fun _=>1) (fun r hr=>?_) 0 (by omega)
   · exact absurd one (by decide)
   · rw [sumQ_congr (g:=fun _=>0) (fun c hc=>?_),sumQ_zero]
     have:a r c=0:=Classical.byContradiction fun q=>z ⟨r,hr,c,hc,q⟩
     rw [this]
     grind
theorem sumQ_2 (f:Nat→Rat):sumQ f 2=f 0+f 1:=by show 0+f 0+f 1=_;grind
theorem sumQ_3 (f:Nat→Rat):sumQ f 3=f 0+f 1+f 2:=by show 0+f 0+f 1+f 2=_;grind
def det2Q (a:Nat→Nat→Rat):Rat:=a 0 0*a 1 1-a 0 1*a 1 0
def det3Q (a:Nat→Nat→Rat):Rat:=a 0 0*(a 1 1*a 2 2-a 1 2*a 2 1)-a 0 1*(a 1 0*a 2 2-a 1 2*a 2 0)+a 0 2*(a 1 0*a 2 1-a 1 1*a 2 0)
theorem reg_1 {a:Nat→Nat→Rat} (h:RegG 1 a):a 0 0≠0:=by
 intro z
 have one:=h (fun _=>1) (fun r hr=>?_) 0 (by omega)
 · exact absurd one (by decide)
 · obtain rfl:r=0:=by omega
   show 0+a 0 0*1=0
   rw [z]
   grind
theorem reg_2 {a:Nat→Nat→Rat} (h:RegG 2 a):det2Q a≠0:=by
 intro z
 unfold det2Q at z
 have two:∀r,r<2→r=0∨r=1:=by omega
 have h1:=h (fun c=>if c=0 then a 1 1 else -(a 1 0)) (fun r hr=>by
   rw [sumQ_2]
   rcases two r hr with rfl | rfl <;> simp <;> grind)
 have h2:=h (fun c=>if c=0 then -(a 0 1) else a 0 0) (fun r hr=>by
   rw [sumQ_2]
   rcases two r hr with rfl | rfl <;> simp <;> grind)
 have e1:a 1 1=0:=h1 0 (by omega)
 have e2:-(a 1 0)=0:=h1 1 (by omega)
 have e3:-(a 0 1)=0:=h2 0 (by omega)
 have e4:a 0 0=0:=h2 1 (by omega)
 refine rank_one (n:=2) (by omega) (fun r hr s hs c hc d hd=>?_) h
 have z:∀r,r<2→∀c,c<2→a r c=0:=fun r hr c hc=>by
   rcases two r hr with rfl | rfl <;> rcases two c hc with rfl | rfl <;> grind
 rw [z r hr c hc,z r hr d hd]
 grind
theorem reg_3 {a:Nat→Nat→Rat} (h:RegG 3 a):det3Q a≠0:=by
 intro z
 unfold det3Q at z
 have tri:∀r,r<3→r=0∨r=1∨r=2:=by omega
 have k0:=h (fun c=>if c=0 then a 1 1*a 2 2-a 1 2*a 2 1 else if c=1 then a 1 2*a 2 0-a 1 0*a 2 2 else a 1 0*a 2 1-a 1 1*a 2 0) (fun r hr=>by
   rw [sumQ_3]
   rcases tri r hr with rfl | rfl | rfl <;> simp <;> grind)
 have k1:=h (fun c=>if c=0 then a 2 1*a 0 2-a 2 2*a 0 1 else if c=1 then a 2 2*a 0 0-a 2 0*a 0 2 else a 2 0*a 0 1-a 2 1*a 0 0) (fun r hr=>by
   rw [sumQ_3]
   rcases tri r hr with rfl | rfl | rfl <;> simp <;> grind)
 have k2:=h (fun c=>if c=0 then a 0 1*a 1 2-a 0 2*a 1 1 else if c=1 then a 0 2*a 1 0-a 0 0*a 1 2 else a 0 0*a 1 1-a 0 1*a 1 0) (fun r hr=>by
   rw [sumQ_3]
   rcases tri r hr with rfl | rfl | rfl <;> simp <;> grind)
 have a0:a 1 1*a 2 2-a 1 2*a 2 1=0:=k0 0 (by omega)
 have a1:a 1 2*a 2 0-a 1 0*a 2 2=0:=k0 1 (by omega)
 have a2:a 1 0*a 2 1-a 1 1*a 2 0=0:=k0 2 (by omega)
 have b0:a 2 1*a 0 2-a 2 2*a 0 1=0:=k1 0 (by omega)
 have b1:a 2 2*a 0 0-a 2 0*a 0 2=0:=k1 1 (by omega)
 have b2:a 2 0*a 0 1-a 2 1*a 0 0=0:=k1 2 (by omega)
 have c0:a 0 1*a 1 2-a 0 2*a 1 1=0:=k2 0 (by omega)
 have c1:a 0 2*a 1 0-a 0 0*a 1 2=0:=k2 1 (by omega)
 have c2:a 0 0*a 1 1-a 0 1*a 1 0=0:=k2 2 (by omega)
 clear k0 k1 k2
 refine rank_one (n:=3) (by omega) (fun r hr s hs c hc d hd=>?_) h
 clear h
 rcases tri r hr with rfl | rfl | rfl <;> rcases tri s hs with rfl | rfl | rfl <;> rcases tri c hc with rfl | rfl | rfl <;> rcases tri d hd with rfl | rfl | rfl <;> first | rfl | grind
def OwnFq (B:Nat) (w:World) (v:Value) (xs:List Nat):Prop:=w.ownsRow B 48 1 v xs.length (xs.map fun z=>Value.float .f64 z)
def OwnTq (B:Nat) (w:World) (v:Value) (vs:List Value):Prop:=w.ownsRow B 24 1 v vs.length vs
theorem OwnFq.keep {B:Nat} {w w2:World} {v:Value} {xs:List Nat} (h:OwnFq B w v xs) (hb:Below w.heap.size w w2):OwnFq B w2 v xs:=owns_keep h hb
theorem OwnTq.keep {B:Nat} {w w2:World} {v:Value} {vs:List Value} (h:OwnTq B w v vs) (hb:Below w.heap.size w w2):OwnTq B w2 v vs:=owns_keep h hb
theorem OwnFq.base {B B':Nat} {w:World} {v:Value} {xs:List Nat} (h:OwnFq B w v xs) (hb:B'≤B):OwnFq B' w v xs:=by
 refine⟨h.1, ?_⟩
 rcases h.2 with hn | ⟨g,cap,cur,hv,hb2,rest⟩
 · exact .inl hn
 · exact .inr ⟨g,cap,cur,hv,Nat.le_trans hb hb2,rest⟩
theorem OwnTq.form {B:Nat} {w:World} {v:Value} {vs:List Value} (h:OwnTq B w v vs):∃A C,v=.slice A vs.length C:=by
 rcases h.2 with ⟨rfl,hn⟩ | ⟨g,cap,cur,rfl, -⟩
 · exact⟨none,0,by rw [hn]⟩
 · exact⟨_,_,rfl⟩
theorem ownFq_apart {B:Nat} {w:World} {u v:Value} {xs:List Nat} {vs:List Value} (h:OwnFq B w u xs) (k:OwnTq B w v vs):u.ownBlock=none∨u.ownBlock≠v.ownBlock:=by
 rcases h.2 with ⟨rfl, -⟩ | ⟨g,cap,cur,rfl, -,hg, -⟩
 · exact .inl rfl
 · right
   rcases k.2 with ⟨rfl, -⟩ | ⟨g',cap',cur',rfl, -,hg', -⟩
   · intro e
     cases e
   · intro e
     have e':g=g':=Option.some.inj e
     subst e'
     rw [hg] at hg'
     simp at hg'
theorem ownFq_empty (w:World):OwnFq w.heap.size (w.alloc (.cells #[] 48)) (.slice (some ⟨w.heap.size,0,none⟩) 0 0) []:=World.ownsRow_made w #[] 0 (Nat.le_refl _) (Nat.zero_le _) rfl
theorem ownTq_nil (B:Nat) (w:World):OwnTq B w (.slice none 0 0) []:=⟨rfl,.inl ⟨rfl,rfl⟩⟩
theorem wpList_copyq {B:Nat} {wr:World} {ops:Array Oper} {rest:List Oper} {o:Oper} {a:Act} {Q:Exit→Act→World→Prop} (hgd:o.guard=none) (s x:Operand)
   (ho:o.op=.call { callee:=.builtin .append,args:=#[s,x],argTypes:=#[24,24] }) (v:Value) (rb ro m C:Nat) (Y:Nat→Nat) (hs:a.eval s=v) (hx:a.eval x=.slice (some ⟨rb,ro,none⟩) m C)
   (hown:OwnFq B wr v []) (VY:Fls wr (some ⟨rb,ro,none⟩) m Y) (m0:0<m) (hl:m≤1000) (hB:B≤wr.heap.size)
   (h:∀g C' w',OwnFq B w' (.slice (some ⟨g,0,none⟩) m C') ((List.range m).map Y)→Below B wr w'→wr.heap.size≤w'.heap.size→wpList Try.prog ops Q rest (a.put o.dst (.slice (some ⟨g,0,none⟩) m C')) w'):wpList Try.prog ops Q (o :: rest) a wr:=by
 obtain⟨i0,hi,hz0,hz1,hz2⟩:=info_parts Try.infoFlt
 have hown':wr.ownsRow B 48 1 v 0 []:=hown
 refine wpList_append_lies wr hgd s x 24 ho B 48 i0 (.float .f64 0) 1 8 Try.underlying24 hi hz0 hz1 hz2 rfl (by decide) v 0 [] hs hown' ⟨rb,ro,none⟩ m C ((List.range m).map fun c=>Value.float .f64 (Y c)) hx (by simp) ?_ ?_ m0 (by unfold maxLen;omega) (by omega) hB wr.heap.size rfl ?_
 · intro j u hj
   have hjm:j<m:=by
     have:=(List.getElem?_eq_some_iff.1 hj).1
     simpa using this
   obtain⟨b,o,e,hb,c0, -⟩:=VY j hjm
   cases e
   rw [show (⟨rb,ro,none⟩:Addr).add j=⟨rb,ro+j,none⟩ by simp [Addr.add],c0]
   simp [hjm] at hj
   rw [←hj]
 · intro u hu
   simp only [List.mem_map] at hu
   obtain⟨c, -,rfl⟩:=hu
   rfl
 · intro g cap w' h1 h2 _ _
   have lt:∀k,v.ownBlock=some k→B≤k:=fun k hk=>(World.ownsRow.lt hown k hk).1
   simp only [Nat.zero_add,List.nil_append] at h1 ⊢
   refine h g cap w' ?_ ((Below.refl B wr).grown h2 hB lt) h2.size
   unfold OwnFq
   rw [List.length_map,List.length_range,List.map_map]
   exact h1
theorem wpList_pushTq {B:Nat} {w0 wr:World} {ops:Array Oper} {rest:List Oper} {o:Oper} {a:Act} {Q:Exit→Act→World→Prop} (hgd:o.guard=none) (s x:Operand)
   (ho:o.op=.call { callee:=.builtin .append,args:=#[s,x],argTypes:=#[22,22] }) (v:Value) (vs:List Value) (A:Option Addr) (n c:Nat) (hs:a.eval s=v) (hx:a.eval x=.slice (some ⟨wr.heap.size,0,none⟩) 1 1)
   (hown:OwnTq B wr v vs) (hl:vs.length≤200000) (hB:B≤wr.heap.size) (hbel:Below B w0 wr)
   (h:∀v' w',OwnTq B w' v' (vs++[.slice A n c])→Below B w0 w'→B≤w'.heap.size→(∀u T,OwnFq B wr u T→OwnFq B w' u T)→wpList Try.prog ops Q rest (a.put o.dst v') w'):wpList Try.prog ops Q (o :: rest) a (wr.alloc (.cells #[.slice A n c] 24)):=by
 obtain⟨i0,hi,hz0,hz1,hz2⟩:=info_parts Try.infoFrow
 have hal:Below wr.heap.size wr (wr.alloc (.cells #[.slice A n c] 24)):=(Below.refl _ _).alloc (Nat.le_refl _) _
 refine wpList_append_own _ hgd s x 22 ho B 24 i0 (.slice none 0 0) 1 24 Try.underlying22 hi hz0 hz1 hz2 rfl (by decide) v vs.length vs hs (hown.keep hal) ⟨wr.heap.size,0,none⟩ 1 1 [.slice A n c] hx rfl ?_ ?_ (by unfold maxLen;omega) (by omega) (by simp;omega) ?_
 · intro j u hj
   match j,hj with
   | 0,hj=>simp at hj;subst hj;simp [Addr.add]
 · intro u hu
   simp at hu
   rw [hu]
   rfl
 · intro v' w' h1 h2 _
   have lt:∀k,v.ownBlock=some k→B≤k:=fun k hk=>(World.ownsRow.lt hown k hk).1
   have sz:=h2.size
   simp only [World.size_alloc] at sz
   refine h v' w' ?_ ((hbel.alloc hB _).grown h2 (by simp;omega) lt) (by omega) fun u T hu=>?_
   · unfold OwnTq
     rw [List.length_append]
     exact h1
   · exact World.ownsRow.kept (hu.keep hal) h2 (ownFq_apart (hu.keep hal) (hown.keep hal))
def RowsT (B:Nat) (w:World) (n k:Nat) (Y:Nat→Nat→Nat) (vs:List Value):Prop:=vs.length=k∧∀r,r<k→∃g C,vs[r]?=some (.slice (some ⟨g,0,none⟩) n C)∧OwnFq B w (.slice (some ⟨g,0,none⟩) n C) ((List.range n).map (Y r))
theorem RowsT.keep {B:Nat} {w w2:World} {n k:Nat} {Y:Nat→Nat→Nat} {vs:List Value} (h:RowsT B w n k Y vs) (hb:Below w.heap.size w w2):RowsT B w2 n k Y vs:=by
 refine⟨h.1,fun r hr=>?_⟩
 obtain⟨g,C,h1,h2⟩:=h.2 r hr
 exact⟨g,C,h1,h2.keep hb⟩
theorem RowsT.push {B:Nat} {w w2:World} {n k:Nat} {Y:Nat→Nat→Nat} {vs:List Value} (h:RowsT B w n k Y vs) (hw:∀u T,OwnFq B w u T→OwnFq B w2 u T) {g C:Nat} (hn:OwnFq B w (.slice (some ⟨g,0,none⟩) n C) ((List.range n).map (Y k))):RowsT B w2 n (k+1) Y (vs++[.slice (some ⟨g,0,none⟩) n C]):=by
 have e:=h.1
 refine⟨by rw [List.length_append,e];rfl,fun r hr=>?_⟩
 by_cases c:r<k
 · obtain⟨g',C',h1,h2⟩:=h.2 r c
   exact⟨g',C',by rw [List.getElem?_append_left (by omega)];exact h1,hw _ _ h2⟩
 · obtain rfl:r=k:=by omega
   exact⟨g,C,by rw [List.getElem?_append_right (by omega),e,Nat.sub_self];rfl,hw _ _ hn⟩
theorem rowsT_rfs {B:Nat} {w:World} {n:Nat} {u:Value} {vs:List Value} {Y:Nat→Nat→Nat} (own:OwnTq B w u vs) (rows:RowsT B w n n Y vs) (n1:1≤n) (hn:n≤1000) (hY:∀r,r<n→∀c,c<n→Y r c<18446744073709551616):∃A C RA RC,u=.slice A n C∧Rfs w A n RA (fun _=>n) RC Y:=by
 have hv:=rows.1
 have sk:∀r,∃p:Nat×Nat,r<n→vs[r]?=some (.slice (some ⟨p.1,0,none⟩) n p.2)∧OwnFq B w (.slice (some ⟨p.1,0,none⟩) n p.2) ((List.range n).map (Y r)):=fun r=>by
   by_cases hr:r<n
   · obtain⟨g,C,h⟩:=rows.2 r hr
     exact⟨(g,C),fun _=>h⟩
   · exact⟨(0,0),fun h=>absurd h hr⟩
 obtain⟨f,hf⟩:=Classical.skolem.1 sk
 rcases own.2 with ⟨rfl,hl⟩ | ⟨g,cap,cur,rfl, -⟩
 · omega
 · refine⟨_,cap,fun r=>some ⟨(f r).1,0,none⟩,fun r=>(f r).2,by rw [hv],fun r hr=>?_⟩
   obtain⟨h1,h2⟩:=hf r hr
   have hl:=(World.ownsRow.lt own g rfl).2
   refine⟨g,0,rfl,hl, ?_,by show n≤_;omega,fun c hc=>?_⟩
   · have:=World.ownsRow.cellAt own r (by omega)
     rw [Nat.zero_add,this]
     exact h1
   · have hc':c<n:=hc
     have h3:w.ownsRow B 48 1 (.slice (some ⟨(f r).1,0,none⟩) n (f r).2) n (((List.range n).map (Y r)).map fun z=>Value.float .f64 z):=by
       have h4:=h2
       unfold OwnFq at h4
       rw [List.length_map,List.length_range] at h4
       exact h4
     have hl2:=(World.ownsRow.lt h3 (f r).1 rfl).2
     have:=World.ownsRow.cellAt h3 c (by omega)
     refine⟨(f r).1,0,rfl,hl2, ?_,hY r hr c hc'⟩
     rw [Nat.zero_add,this]
     simp [hc']
theorem vq_zero_of {k:Int} (h:V k=0):vq k=0:=by
 unfold vq
 rw [h]
 grind
theorem det_reg {n:Nat} {X:Nat→Nat→Nat} (n1:1≤n) (n3:n≤3) (hX:RegQ n X):detZ n (fun r c=>V (key (X r c)))≠0:=by
 have G:=hX.g
 clear hX
 intro z
 have n123:n=1∨n=2∨n=3:=by omega
 rcases n123 with rfl | rfl | rfl
 · have e:detZ 1 (fun r c=>V (key (X r c)))=V (key (X 0 0)):=by simp [detZ,detS]
   rw [e] at z
   exact reg_1 G (vq_zero_of z)
 · have e:detZ 2 (fun r c=>V (key (X r c)))=V (key (X 0 0))*V (key (X 1 1))-V (key (X 0 1))*V (key (X 1 0)):=by
     simp [detZ,detS,skipN]
     omega
   rw [e] at z
   refine reg_2 G ?_
   unfold det2Q vq
   dsimp only
   generalize V (key (X 0 0))=a at *
   generalize V (key (X 0 1))=b at *
   generalize V (key (X 1 0))=c at *
   generalize V (key (X 1 1))=d at *
   have q:((a:Rat)*d-b*c)=0:=by
     rw [←Rat.intCast_mul,←Rat.intCast_mul,←Rat.intCast_sub,z]
     rfl
   have:(a:Rat)*iuQ*(d*iuQ)-b*iuQ*(c*iuQ)=(a*d-b*c)*(iuQ*iuQ):=by grind
   rw [this,q]
   grind
 · have e:detZ 3 (fun r c=>V (key (X r c)))=V (key (X 0 0))*(V (key (X 1 1))*V (key (X 2 2))-V (key (X 1 2))*V (key (X 2 1)))-V (key (X 0 1))*(V (key (X 1 0))*V (key (X 2 2))-V (key (X 1 2))*V (key (X 2 0)))+V (key (X 0 2))*(V (key (X 1 0))*V (key (X 2 1))-V (key (X 1 1))*V (key (X 2 0))):=by
     simp [detZ,detS,skipN]
     grind
   rw [e] at z
   refine reg_3 G ?_
   clear G
   clear e
   unfold det3Q vq
   dsimp only
   generalize V (key (X 0 0))=a at *
   generalize V (key (X 0 1))=b at *
   generalize V (key (X 0 2))=c at *
   generalize V (key (X 1 0))=d at *
   generalize V (key (X 1 1))=e at *
   generalize V (key (X 1 2))=f at *
   generalize V (key (X 2 0))=g at *
   generalize V (key (X 2 1))=h at *
   generalize V (key (X 2 2))=i at *
   have q:((a:Rat)*(e*i-f*h)-b*(d*i-f*g)+c*(d*h-e*g))=0:=by
     have:(((a*(e*i-f*h)-b*(d*i-f*g)+c*(d*h-e*g):Int)):Rat)=0:=by rw [z];rfl
     rw [←this]
     simp only [Rat.intCast_mul,Rat.intCast_sub,Rat.intCast_add]
   have:(a:Rat)*iuQ*(e*iuQ*(i*iuQ)-f*iuQ*(h*iuQ))-b*iuQ*(d*iuQ*(i*iuQ)-f*iuQ*(g*iuQ))+c*iuQ*(d*iuQ*(h*iuQ)-e*iuQ*(g*iuQ))=((a:Rat)*(e*i-f*h)-b*(d*i-f*g)+c*(d*h-e*g))*(iuQ*iuQ*iuQ):=by grind
   rw [this,q]
   grind
end Go.Proofs.Ytfdomcnaaadedaa
