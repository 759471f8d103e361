/- Trimming, the plain facts: what is needed, where it stands, and that what is trimmed stays. A tape's slopes as functions of words; what a trimmed tape tells. Slopes: slopeRule of any operation that may be. -/
import Derived.Test.YtfdelmgingefkaaGreatZ49
import Derived.Test.YtfdelmgingefkaaGreatZ46
import Derived.Test.YtfdelmgingefkaaGreatZ43
namespace Go.Proofs.YtfdelmgingefkaaGreat
theorem opB_ab {o:Opw} {i v:Int} (h:opB o i v=true):(arI o.k≠0→0≤o.a∧o.a<i)∧(arI o.k=2→0≤o.b∧o.b<i)∧(o.k=1→hsB o.lo o.hi=true):=by
 have ar:=ar_le o.k
 refine⟨fun h1=>?_,fun h1=>?_,fun h1=>?_⟩
 · exact opB_at h (j:=0) (by unfold Opw.ar;omega)
 · exact opB_at h (j:=1) (by unfold Opw.ar;omega)
 · unfold opB at h
   simp only [Bool.and_eq_true] at h
   have:=h.2
   unfold restB at this
   rw [if_pos h1] at this
   exact this
theorem movO_upd {o:Opw} {j i:Nat} {v z:Int} (pl:Nat→Int) (h:opB o (j:Int) v=true) (hj:j≤i):movO (updI pl i z) o=movO pl o:=by
 obtain⟨h1,h2, -⟩:=opB_ab h
 unfold movO updI
 congr 1
 · by_cases c:arI o.k=0
   · rw [if_pos c,if_pos c]
   · rw [if_neg c,if_neg c,if_neg (by have:=h1 c;omega)]
 · by_cases c:arI o.k=2
   · rw [if_pos c,if_pos c,if_neg (by have:=h2 c;omega)]
   · rw [if_neg c,if_neg c]
theorem eqB_word {a b:Nat} (ha:mz a=false) (hb:mz b=false) (h:eqB a b=true):a=b:=by
 unfold eqB key mz at *
 simp only [Bool.and_eq_true,decide_eq_true_eq,decide_eq_false_iff_not] at *
 obtain⟨-,h⟩:=h
 split at h <;> split at h <;> omega
theorem movO_eq {pl pl':Nat→Int} {o p:Opw} {i j v v':Int} (ho:opB o i v=true) (hp:opB p j v'=true) (h:eqO (movO pl o) (movO pl' p)=true):movO pl o=movO pl' p:=by
 obtain⟨-, -,l1⟩:=opB_ab ho
 obtain⟨-, -,l2⟩:=opB_ab hp
 have hs:∀{lo hi:Nat},hsB lo hi=true→mz lo=false∧mz hi=false:=fun {lo hi} h=>by
   unfold hsB at h
   simp only [Bool.and_eq_true,Bool.not_eq_true'] at h
   exact⟨h.1.2,h.2⟩
 unfold eqO at h
 simp only [Bool.and_eq_true,beq_iff_eq] at h
 obtain⟨e1,e2,e3,e4,e5,e6⟩:=h
 have ek:o.k=p.k:=e1
 have q5:(movO pl o).lo=(movO pl' p).lo:=by
   apply eqB_word _ _ e5
   · unfold movO;dsimp only;split
     · exact (hs (l1 (by assumption))).1
     · rfl
   · unfold movO;dsimp only;split
     · exact (hs (l2 (by assumption))).1
     · rfl
 have q6:(movO pl o).hi=(movO pl' p).hi:=by
   apply eqB_word _ _ e6
   · unfold movO;dsimp only;split
     · exact (hs (l1 (by assumption))).2
     · rfl
   · unfold movO;dsimp only;split
     · exact (hs (l2 (by assumption))).2
     · rfl
 generalize movO pl o=x at *
 generalize movO pl' p=y at *
 cases x;cases y
 simp only at *
 subst e1 e2 e3 e4 q5 q6
 rfl
structure TrimI (X:Nat→Opw) (nd:Nat→Bool) (i:Nat):Prop where
 place:∀j,j<i→nd j=true→0≤(trimS X nd i).2 j∧(trimS X nd i).2 j<((trimS X nd i).1.length:Int)
 same:∀j,j<i→nd j=true→(trimS X nd i).1[((trimS X nd i).2 j).toNat]?=some (movO (trimS X nd i).2 (X j))
 of:∀(q:Nat) (o:Opw),(trimS X nd i).1[q]?=some o→∃j,j<i∧nd j=true∧(trimS X nd i).2 j=(q:Int)∧o=movO (trimS X nd i).2 (X j)
 low:∀(q:Nat) (o:Opw),(trimS X nd i).1[q]?=some o→(arI o.k≠0→0≤o.a∧o.a<(q:Int))∧(arI o.k=2→0≤o.b∧o.b<(q:Int))
 once:∀(q r:Nat) (o p:Opw),q<r→(trimS X nd i).1[q]?=some o→(trimS X nd i).1[r]?=some p→eqO p o=false
def Closed (X:Nat→Opw) (n:Nat) (nd:Nat→Bool):Prop:=∀i,i<n→nd i=true→(arI (X i).k≠0→nd (X i).a.toNat=true)∧(arI (X i).k=2→nd (X i).b.toNat=true)
theorem trim_inv {X:Nat→Opw} {nd:Nat→Bool} {n:Nat} {v:Int} (hr:∀i,i<n→opB (X i) (i:Int) v=true) (hc:Closed X n nd):∀i,i≤n→TrimI X nd i:=by
 intro i
 induction i with
 | zero =>
   intro _
   refine⟨fun j hj=>by omega,fun j hj=>by omega,fun q o h=>?_,fun q o h=>?_,fun q r o p _ h=>?_⟩
   all_goals simp [trimS] at h
 | succ i ih =>
   intro hi
   have I:=ih (by omega)
   have hri:=hr i (by omega)
   cases hn:nd i with
   | false =>
     have e:=trimS_no (X:=X) hn
     have ne:∀j,j<i+1→nd j=true→j<i:=fun j hj h=>by
       rcases Nat.lt_or_ge j i with c | c
       · exact c
       · rw [show j=i by omega,hn] at h;cases h
     refine⟨?_, ?_, ?_, ?_, ?_⟩ <;> rw [e]
     · exact fun j hj h=>I.place j (ne j hj h) h
     · exact fun j hj h=>I.same j (ne j hj h) h
     · intro q o h
       obtain⟨j,h1,h2⟩:=I.of q o h
       exact⟨j,by omega,h2⟩
     · exact I.low
     · exact I.once
   | true =>
     obtain⟨g1,g2, -⟩:=opB_ab hri
     obtain⟨k1,k2⟩:=hc i (by omega) hn
     cases hf:(trimS X nd i).1.findIdx? (eqO (movO (trimS X nd i).2 (X i))) with
     | some q =>
       have e:=trimS_old hn hf
       obtain⟨hq,hqe, -⟩:=List.findIdx?_eq_some_iff_getElem.1 hf
       have hget:(trimS X nd i).1[q]?=some ((trimS X nd i).1[q]):=List.getElem?_eq_getElem hq
       obtain⟨j0,a1,a2,a3,a4⟩:=I.of q _ hget
       have heq:movO (trimS X nd i).2 (X i)=(trimS X nd i).1[q]:=by
         rw [a4] at hqe ⊢
         exact movO_eq hri (hr j0 (by omega)) hqe
       have mv:∀j,j≤i→movO (updI (trimS X nd i).2 i (q:Int)) (X j)=movO (trimS X nd i).2 (X j):=fun j hj=>movO_upd _ (hr j (by omega)) hj
       have ui:∀j,j<i→updI (trimS X nd i).2 i (q:Int) j=(trimS X nd i).2 j:=fun j hj=>by unfold updI;rw [if_neg (by omega)]
       have uq:updI (trimS X nd i).2 i (q:Int) i=(q:Int):=by unfold updI;rw [if_pos rfl]
       refine⟨?_, ?_, ?_, ?_, ?_⟩ <;> rw [e] <;> dsimp only
       · intro j hj h
         rcases Nat.lt_or_ge j i with c | c
         · rw [ui j c];exact I.place j c h
         · rw [show j=i by omega,uq];omega
       · intro j hj h
         rcases Nat.lt_or_ge j i with c | c
         · rw [ui j c,mv j (by omega)];exact I.same j c h
         · rw [show j=i by omega,uq,mv i (by omega),heq];exact hget
       · intro r o h
         obtain⟨j,h1,h2,h3,h4⟩:=I.of r o h
         exact⟨j,by omega,h2,by rw [ui j h1];exact h3,by rw [mv j (by omega)];exact h4⟩
       · exact I.low
       · exact I.once
     | none =>
       have e:=trimS_new hn hf
       have hno:=List.findIdx?_eq_none_iff.1 hf
       have mv:∀j,j≤i→movO (updI (trimS X nd i).2 i ((trimS X nd i).1.length:Int)) (X j)=movO (trimS X nd i).2 (X j):=fun j hj=>movO_upd _ (hr j (by omega)) hj
       have ui:∀j,j<i→updI (trimS X nd i).2 i ((trimS X nd i).1.length:Int) j=(trimS X nd i).2 j:=fun j hj=>by unfold updI;rw [if_neg (by omega)]
       have uq:updI (trimS X nd i).2 i ((trimS X nd i).1.length:Int) i=((trimS X nd i).1.length:Int):=by unfold updI;rw [if_pos rfl]
       have old:∀(q:Nat) (o:Opw),((trimS X nd i).1++[movO (trimS X nd i).2 (X i)])[q]?=some o→(q<(trimS X nd i).1.length∧(trimS X nd i).1[q]?=some o)∨(q=(trimS X nd i).1.length∧o=movO (trimS X nd i).2 (X i)):=by
         intro q o h
         rcases Nat.lt_trichotomy q (trimS X nd i).1.length with c | c | c
         · rw [List.getElem?_append_left c] at h
           exact .inl ⟨c,h⟩
         · subst c
           rw [List.getElem?_append_right (Nat.le_refl _)] at h
           simp at h
           exact .inr ⟨rfl,h.symm⟩
         · rw [List.getElem?_append_right (by omega)] at h
           rw [List.getElem?_eq_none (by simp;omega)] at h
           cases h
       refine⟨?_, ?_, ?_, ?_, ?_⟩ <;> rw [e] <;> dsimp only
       · intro j hj h
         rw [List.length_append]
         rcases Nat.lt_or_ge j i with c | c
         · rw [ui j c];have:=I.place j c h;simp;omega
         · rw [show j=i by omega,uq];simp;omega
       · intro j hj h
         rcases Nat.lt_or_ge j i with c | c
         · have:=I.place j c h
           rw [ui j c,mv j (by omega),List.getElem?_append_left (by omega)];exact I.same j c h
         · rw [show j=i by omega,uq,mv i (by omega)]
           simp
       · intro r o h
         rcases old r o h with ⟨-,h⟩ | ⟨rfl,rfl⟩
         · obtain⟨j,h1,h2,h3,h4⟩:=I.of r o h
           exact⟨j,by omega,h2,by rw [ui j h1];exact h3,by rw [mv j (by omega)];exact h4⟩
         · exact⟨i,by omega,hn,uq,(mv i (by omega)).symm⟩
       · intro q o h
         rcases old q o h with ⟨-,h⟩ | ⟨rfl,rfl⟩
         · exact I.low q o h
         · constructor
           · intro c
             have c':arI (X i).k≠0:=c
             have b:=g1 c'
             have:=I.place (X i).a.toNat (by omega) (k1 c')
             have ea:(movO (trimS X nd i).2 (X i)).a=(trimS X nd i).2 (X i).a.toNat:=by unfold movO;dsimp only;rw [if_neg c']
             rw [ea]
             exact this
           · intro c
             have c':arI (X i).k=2:=c
             have b:=g2 c'
             have:=I.place (X i).b.toNat (by omega) (k2 c')
             have ea:(movO (trimS X nd i).2 (X i)).b=(trimS X nd i).2 (X i).b.toNat:=by unfold movO;dsimp only;rw [if_pos c']
             rw [ea]
             exact this
       · intro q r o p hqr h1 h2
         rcases old r p h2 with ⟨c,h2⟩ | ⟨rfl,rfl⟩
         · rcases old q o h1 with ⟨-,h1⟩ | ⟨rfl, -⟩
           · exact I.once q r o p hqr h1 h2
           · omega
         · rcases old q o h1 with ⟨-,h1⟩ | ⟨rfl, -⟩
           · have hm:=List.mem_of_getElem? h1
             have:=hno o hm
             cases hh:eqO (movO (trimS X nd i).2 (X i)) o
             · rfl
             · exact absurd hh (by simpa using this)
           · omega
theorem setN_mono {s:Nat→Bool} {j i:Nat} (h:s i=true):setN s j i=true:=by unfold setN;split <;> simp [h]
theorem setN_at (s:Nat→Bool) (j:Nat):setN s j j=true:=by unfold setN;simp
theorem setN_or {s:Nat→Bool} {j i:Nat} (h:setN s j i=true):i=j∨s i=true:=by
 unfold setN at h
 split at h
 · exact .inl (by assumption)
 · exact .inr h
theorem opN_mono {o:Opw} {s:Nat→Bool} {i:Nat} (h:s i=true):∀j,opN o s j i=true
 | 0=>h
 | j+1=>setN_mono (opN_mono h j)
theorem opN_at {o:Opw} {s:Nat→Bool} {t:Nat}:∀{j},t<j→opN o s j (o.at t).toNat=true
 | j+1,h=>by
   rcases Nat.lt_or_ge t j with c | c
   · exact setN_mono (opN_at c)
   · rw [show t=j by omega];exact setN_at _ _
theorem opN_or {o:Opw} {s:Nat→Bool} {i:Nat}:∀{j},opN o s j i=true→s i=true∨∃t,t<j∧i=(o.at t).toNat
 | 0,h=>.inl h
 | j+1,h=>by
   rcases setN_or h with c | c
   · exact .inr ⟨j,by omega,c⟩
   · rcases opN_or c with c | ⟨t,h1,h2⟩
     · exact .inl c
     · exact .inr ⟨t,by omega,h2⟩
theorem outN_at {Y:Nat→Int} {t:Nat}:∀{k},t<k→outN Y k (Y t).toNat=true
 | k+1,h=>by
   rcases Nat.lt_or_ge t k with c | c
   · exact setN_mono (outN_at c)
   · rw [show t=k by omega];exact setN_at _ _
theorem outN_or {Y:Nat→Int} {i:Nat}:∀{k},outN Y k i=true→∃t,t<k∧i=(Y t).toNat
 | 0,h=>by cases h
 | k+1,h=>by
   rcases setN_or h with c | c
   · exact⟨k,by omega,c⟩
   · obtain⟨t,h1,h2⟩:=outN_or c
     exact⟨t,by omega,h2⟩
theorem backN_mono {X:Nat→Opw} {n:Nat} {s:Nat→Bool} {i:Nat} (h:s i=true):∀d,backN X n s d i=true
 | 0=>h
 | d+1=>by
   unfold backN
   split
   · exact opN_mono (backN_mono h d) _
   · exact backN_mono h d
theorem backN_more {X:Nat→Opw} {n:Nat} {s:Nat→Bool} {i d:Nat} (h:backN X n s d i=true):∀e,backN X n s (d+e) i=true
 | 0=>h
 | e+1=>by
   show backN X n s (d+e+1) i=true
   unfold backN
   split
   · exact opN_mono (backN_more h e) _
   · exact backN_more h e
theorem backN_same {X:Nat→Opw} {n:Nat} {s:Nat→Bool} (hx:∀i,i<n→∀j,j<(X i).ar→0≤(X i).at j∧(X i).at j<(i:Int)) {i:Nat}:∀{d},n-1-d≤i→d<n→∀{e},d+e≤n→backN X n s (d+e) i=true→backN X n s d i=true
 | d,h1,hd,0,h2,h=>h
 | d,h1,hd,e+1,h2,h=>by
   have h':backN X n s (d+e+1) i=true:=h
   unfold backN at h'
   split at h'
   · rcases opN_or h' with c | ⟨t,t1,t2⟩
     · exact backN_same hx h1 hd (by omega) c
     · have:=hx (n-1-(d+e)) (by omega) t t1
       omega
   · exact backN_same hx h1 hd (by omega) h'
theorem backN_or {X:Nat→Opw} {n:Nat} {s:Nat→Bool} {i:Nat}:∀{d},d≤n→backN X n s d i=true→s i=true∨∃e t,e<d∧backN X n s e (n-1-e)=true∧t<(X (n-1-e)).ar∧i=((X (n-1-e)).at t).toNat
 | 0,_,h=>.inl h
 | d+1,hd,h=>by
   have h':=h
   unfold backN at h'
   split at h'
   · rename_i c
     rcases opN_or h' with c1 | ⟨t,t1,t2⟩
     · rcases backN_or (by omega) c1 with c2 | ⟨e,t,h1,h2⟩
       · exact .inl c2
       · exact .inr ⟨e,t,by omega,h2⟩
     · exact .inr ⟨d,t,by omega,c,t1,t2⟩
   · rcases backN_or (by omega) h' with c2 | ⟨e,t,h1,h2⟩
     · exact .inl c2
     · exact .inr ⟨e,t,by omega,h2⟩
theorem need_closed {X:Nat→Opw} {n:Nat} {Y:Nat→Int} {m:Nat} (hx:∀i,i<n→∀j,j<(X i).ar→0≤(X i).at j∧(X i).at j<(i:Int)) {i j:Nat} (hi:i<n) (h:needF X n Y m i=true) (hj:j<(X i).ar):needF X n Y m ((X i).at j).toNat=true:=by
 unfold needF at *
 obtain⟨d,rfl⟩:∃d,i=n-1-d:=⟨n-1-i,by omega⟩
 by_cases hd:d<n
 · have h1:backN X n (outN Y m) d (n-1-d)=true:=backN_same hx (d:=d) (Nat.le_refl _) hd (e:=n-d) (by omega) (by rw [show d+(n-d)=n by omega];exact h)
   have h2:backN X n (outN Y m) (d+1) ((X (n-1-d)).at j).toNat=true:=by
     unfold backN
     rw [if_pos h1]
     exact opN_at hj
   have:=backN_more h2 (n-d-1)
   rw [show d+1+(n-d-1)=n by omega] at this
   exact this
 · exfalso
   have e0:n-1-d=0:=by omega
   rw [e0] at hi hj
   have:=hx 0 hi j hj
   omega
theorem need_out {X:Nat→Opw} {n:Nat} {Y:Nat→Int} {m t:Nat} (ht:t<m):needF X n Y m (Y t).toNat=true:=backN_mono (outN_at ht) n
theorem need_or {X:Nat→Opw} {n:Nat} {Y:Nat→Int} {m i:Nat} (h:needF X n Y m i=true):(∃t,t<m∧i=(Y t).toNat)∨∃j t,j<n∧needF X n Y m j=true∧t<(X j).ar∧i=((X j).at t).toNat:=by
 rcases backN_or (Nat.le_refl n) h with c | ⟨e,t,h1,h2,h3,h4⟩
 · exact .inl (outN_or c)
 · refine .inr ⟨n-1-e,t,by omega, ?_,h3,h4⟩
   have:=backN_more h2 (n-e)
   rw [show e+(n-e)=n by omega] at this
   exact this
def atL (S:List Opw):Nat→Opw:=fun q=>S.getD q ⟨0,0,0,0,0,0⟩
theorem atL_some {S:List Opw} {q:Nat} {o:Opw} (h:S[q]?=some o):atL S q=o:=by unfold atL;rw [List.getD_eq_getElem?_getD,h];rfl
theorem atL_get {S:List Opw} {q:Nat} (h:q<S.length):S[q]?=some (atL S q):=by
 unfold atL;rw [List.getD_eq_getElem?_getD,List.getElem?_eq_getElem h];rfl
theorem opB_mov {o:Opw} {i v q:Int} {pl:Nat→Int} (h:opB o i v=true) (ha:arI o.k≠0→0≤(movO pl o).a∧(movO pl o).a<q) (hb:arI o.k=2→0≤(movO pl o).b∧(movO pl o).b<q):opB (movO pl o) q v=true:=by
 unfold opB at *
 simp only [Bool.and_eq_true] at *
 obtain⟨⟨h1,h2⟩,h3⟩:=h
 have ar:=ar_le o.k
 have hk:(movO pl o).k=o.k:=rfl
 refine⟨⟨h1, ?_⟩, ?_⟩
 · unfold opdB
   rw [all_upto2]
   intro j hj
   unfold Opw.ar at hj
   rw [hk] at hj
   unfold oneOf Opw.at
   apply decide_eq_true
   by_cases c:j=0
   · rw [if_pos c];exact ha (by omega)
   · rw [if_neg c];exact hb (by omega)
 · have e:restB (movO pl o) v=restB o v:=by
     unfold restB
     rw [hk]
     by_cases c1:o.k=1
     · rw [if_pos c1,if_pos c1];unfold movO;dsimp only;rw [if_pos c1,if_pos c1]
     · rw [if_neg c1,if_neg c1]
       by_cases c2:o.k=2
       · rw [if_pos c2,if_pos c2];unfold movO;dsimp only;rw [if_pos (.inl c2)]
       · rw [if_neg c2,if_neg c2]
         by_cases c3:o.k=8
         · rw [if_pos c3,if_pos c3];unfold movO;dsimp only;rw [if_pos (.inr c3)]
         · rw [if_neg c3,if_neg c3]
   rw [e];exact h3
theorem opB_lows {o:Opw} {i v:Int} (h:opB o i v=true):∀j,j<o.ar→0≤o.at j∧o.at j<i:=fun _ hj=>opB_at h hj
structure Trimmed2 (X:Nat→Opw) (n:Nat) (v:Int) (Y:Nat→Int) (m:Nat) (S:List Opw) (pl:Nat→Int) (nd:Nat→Bool):Prop where
 len:S.length≤n
 right:∀q,q<S.length→opB (atL S q) (q:Int) v=true
 outs:∀k,k<m→nd (Y k).toNat=true∧0≤pl (Y k).toNat∧pl (Y k).toNat<(S.length:Int)
 place:∀j,j<n→nd j=true→0≤pl j∧pl j<(S.length:Int)∧atL S (pl j).toNat=movO pl (X j)
 of:∀q,q<S.length→∃j,j<n∧nd j=true∧pl j=(q:Int)
 need:∀q,q<S.length→needF (atL S) S.length (fun k=>pl (Y k).toNat) m q=true
 again:∀i,i≤S.length→(trimS (atL S) (needF (atL S) S.length (fun k=>pl (Y k).toNat) m) i).1=S.take i∧∀q,q<i→(trimS (atL S) (needF (atL S) S.length (fun k=>pl (Y k).toNat) m) i).2 q=(q:Int)
 closed:Closed X n nd
theorem mov_bare {pl pl':Nat→Int} {o:Opw} (ha:arI o.k≠0→pl' (movO pl o).a.toNat=(movO pl o).a) (hb:arI o.k=2→pl' (movO pl o).b.toNat=(movO pl o).b):movO pl' (movO pl o)=movO pl o:=by
 have e:∀x:Opw,x=⟨x.k,x.a,x.b,x.n,x.lo,x.hi⟩:=fun x=>rfl
 rw [e (movO pl' (movO pl o)),e (movO pl o)]
 congr 1
 · show (if arI o.k=0 then 0 else pl' (movO pl o).a.toNat)=_
   by_cases c:arI o.k=0
   · rw [if_pos c];unfold movO;dsimp only;rw [if_pos c]
   · rw [if_neg c];exact ha c
 · show (if arI o.k=2 then pl' (movO pl o).b.toNat else 0)=_
   by_cases c:arI o.k=2
   · rw [if_pos c];exact hb c
   · rw [if_neg c];unfold movO;dsimp only;rw [if_neg c]
 · show (if o.k=2∨o.k=8 then (if o.k=2∨o.k=8 then o.n else 0) else 0)=(if o.k=2∨o.k=8 then o.n else 0)
   split <;> rfl
 · show (if o.k=1 then (if o.k=1 then o.lo else 0) else 0)=(if o.k=1 then o.lo else 0)
   split <;> rfl
 · show (if o.k=1 then (if o.k=1 then o.hi else 0) else 0)=(if o.k=1 then o.hi else 0)
   split <;> rfl
theorem trimS_len {X:Nat→Opw} {nd:Nat→Bool}:∀i,(trimS X nd i).1.length≤i
 | 0=>by simp [trimS]
 | i+1=>by
   have:=trimS_len (X:=X) (nd:=nd) i
   unfold trimS
   split
   · split
     · dsimp only;omega
     · dsimp only;rw [List.length_append];simp;omega
   · omega
theorem at_cases {o:Opw} {t:Nat} (ht:t<o.ar):(arI o.k≠0∧o.at t=o.a)∨(arI o.k=2∧o.at t=o.b):=by
 have ar:=ar_le o.k
 unfold Opw.ar at ht
 unfold Opw.at
 by_cases c:t=0
 · rw [if_pos c];exact .inl ⟨by omega,rfl⟩
 · rw [if_neg c];exact .inr ⟨by omega,rfl⟩
theorem trim_whole {X:Nat→Opw} {n:Nat} {v:Int} {Y:Nat→Int} {m:Nat} (hr:∀i,i<n→opB (X i) (i:Int) v=true) (hY:∀k,k<m→0≤Y k∧Y k<(n:Int)) :
   Trimmed2 X n v Y m (trimS X (needF X n Y m) n).1 (trimS X (needF X n Y m) n).2 (needF X n Y m):=by
 have hx:∀i,i<n→∀j,j<(X i).ar→0≤(X i).at j∧(X i).at j<(i:Int):=fun i hi=>opB_lows (hr i hi)
 have hc:Closed X n (needF X n Y m):=fun i hi h=>by
   have ar:=ar_le (X i).k
   refine⟨fun c=>?_,fun c=>?_⟩
   · exact need_closed hx hi h (j:=0) (by unfold Opw.ar;omega)
   · exact need_closed hx hi h (j:=1) (by unfold Opw.ar;omega)
 have I:=trim_inv hr hc n (Nat.le_refl _)
 have hl:=trimS_len (X:=X) (nd:=needF X n Y m) n
 have hout:∀k,k<m→needF X n Y m (Y k).toNat=true:=fun k hk=>need_out hk
 have hor:=fun i h=>need_or (X:=X) (n:=n) (Y:=Y) (m:=m) (i:=i) h
 generalize needF X n Y m=nd at *
 have pl3:∀j,j<n→nd j=true→0≤(trimS X nd n).2 j∧(trimS X nd n).2 j<((trimS X nd n).1.length:Int)∧atL (trimS X nd n).1 ((trimS X nd n).2 j).toNat=movO (trimS X nd n).2 (X j):=fun j hj h=>by
   obtain⟨h1,h2⟩:=I.place j hj h
   exact⟨h1,h2,atL_some (I.same j hj h)⟩
 have iof:∀q,q<(trimS X nd n).1.length→∃j,j<n∧nd j=true∧(trimS X nd n).2 j=(q:Int)∧atL (trimS X nd n).1 q=movO (trimS X nd n).2 (X j):=fun q hq=>by
   obtain⟨j,h1,h2,h3,h4⟩:=I.of q _ (atL_get hq)
   exact⟨j,h1,h2,h3,h4⟩
 have low:=fun q hq=>I.low q _ (atL_get (S:=(trimS X nd n).1) hq)
 have once:=fun q r (hqr:q<r) (hr2:r<(trimS X nd n).1.length)=>I.once q r _ _ hqr (atL_get (by omega)) (atL_get hr2)
 have hright:∀q,q<(trimS X nd n).1.length→opB (atL (trimS X nd n).1 q) (q:Int) v=true:=fun q hq=>by
   obtain⟨j,h1,h2,h3,h4⟩:=iof q hq
   obtain⟨l1,l2⟩:=low q hq
   rw [h4] at l1 l2 ⊢
   exact opB_mov (hr j h1) l1 l2
 clear I
 generalize (trimS X nd n).1=S at *
 generalize (trimS X nd n).2=pl at *
 have hx2:∀i,i<S.length→∀j,j<(atL S i).ar→0≤(atL S i).at j∧(atL S i).at j<(i:Int):=fun i hi=>opB_lows (hright i hi)
 have hneed:∀q,q<S.length→needF (atL S) S.length (fun k=>pl (Y k).toNat) m q=true:=by
   have key:∀d j,j<n→n-j≤d→nd j=true→needF (atL S) S.length (fun k=>pl (Y k).toNat) m (pl j).toNat=true:=by
     intro d
     induction d with
     | zero=>intro j hj h;omega
     | succ d ih =>
       intro j hj hd h
       rcases hor j h with ⟨t,ht,e⟩ | ⟨i,t,hi,hni,ht,e⟩
       · rw [e]
         exact need_out (Y:=fun k=>pl (Y k).toNat) ht
       · have b:=hx i hi t ht
         have h1:=ih i hi (by omega) hni
         obtain⟨p1,p2,p3⟩:=pl3 i hi hni
         have hk:(atL S (pl i).toNat).ar=(X i).ar:=by rw [p3];rfl
         have h2:=need_closed hx2 (i:=(pl i).toNat) (j:=t) (by omega) h1 (by rw [hk];exact ht)
         have e2:(atL S (pl i).toNat).at t=pl ((X i).at t).toNat:=by
           rw [p3]
           unfold Opw.at
           rcases at_cases ht with ⟨c1,c2⟩ | ⟨c1,c2⟩
           · by_cases c:t=0
             · rw [if_pos c,if_pos c];unfold movO;dsimp only;rw [if_neg c1]
             · have ar:=ar_le (X i).k
               have:arI (X i).k=2:=by unfold Opw.ar at ht;omega
               rw [if_neg c,if_neg c];unfold movO;dsimp only;rw [if_pos this]
           · by_cases c:t=0
             · rw [if_pos c,if_pos c];unfold movO;dsimp only;rw [if_neg (by omega)]
             · rw [if_neg c,if_neg c];unfold movO;dsimp only;rw [if_pos c1]
         rw [e2,←e] at h2
         exact h2
   intro q hq
   obtain⟨j,h1,h2,h3, -⟩:=iof q hq
   have:=key (n-j) j h1 (Nat.le_refl _) h2
   rw [h3] at this
   exact this
 refine⟨hl,hright,fun k hk=>⟨hout k hk, ?_⟩,pl3,fun q hq=>?_,hneed, ?_,hc⟩
 · have:=hY k hk
   obtain⟨h1,h2, -⟩:=pl3 (Y k).toNat (by omega) (hout k hk)
   exact⟨h1,h2⟩
 · obtain⟨j,h1,h2,h3, -⟩:=iof q hq
   exact⟨j,h1,h2,h3⟩
 · generalize needF (atL S) S.length (fun k=>pl (Y k).toNat) m=nd2 at *
   intro i
   induction i with
   | zero=>intro _;exact⟨by simp [trimS],fun q hq=>by omega⟩
   | succ i ih =>
     intro hi
     obtain⟨e1,e2⟩:=ih (by omega)
     obtain⟨j,h1,h2,h3,h4⟩:=iof i (by omega)
     obtain⟨l1,l2⟩:=low i (by omega)
     have emv:movO (trimS (atL S) nd2 i).2 (atL S i)=atL S i:=by
       rw [h4] at l1 l2 ⊢
       refine mov_bare (fun c=>?_) (fun c=>?_)
       · have:=l1 c
         rw [e2 _ (by omega)];omega
       · have:=l2 c
         rw [e2 _ (by omega)];omega
     have hf:(trimS (atL S) nd2 i).1.findIdx? (eqO (movO (trimS (atL S) nd2 i).2 (atL S i)))=none:=by
       rw [emv,e1,List.findIdx?_eq_none_iff]
       intro x hx'
       obtain⟨q,hq,rfl⟩:=List.getElem_of_mem hx'
       rw [List.length_take] at hq
       have:=once q i (by omega) (by omega)
       have e3:(S.take i)[q]=atL S q:=by
         have:=atL_get (S:=S) (q:=q) (by omega)
         rw [List.getElem?_eq_getElem (by omega)] at this
         rw [List.getElem_take]
         exact Option.some.inj this
       rw [e3]
       exact this
     have e:=trimS_new (hneed i (by omega)) hf
     have hlen:(trimS (atL S) nd2 i).1.length=i:=by rw [e1,List.length_take];omega
     rw [e]
     dsimp only
     refine⟨?_,fun q hq=>?_⟩
     · rw [emv,e1,List.take_add_one,atL_get (by omega)];rfl
     · unfold updI
       by_cases c:q=i
       · rw [if_pos c,hlen,c]
       · rw [if_neg c];exact e2 q (by omega)
end Go.Proofs.YtfdelmgingefkaaGreat
namespace Go.Proofs.YtfdelmgingefkaaGreat
open Go.ChangeShapes Go.WideShapes Go.ChangeAt Go.RowKit
def slQ (o:Opw) (v a b:Nat×Nat) (da db:Nat→Nat×Nat) (j:Nat):Nat×Nat :=
 if o.k=1 then ptQ 0 else if o.k=2 then (if (j:Int)=o.n then ptQ 4607182418800017408 else ptQ 0) else if o.k=3 then addQ (da j) (db j) else if o.k=4 then subQ (da j) (db j) else if o.k=5 then addQ (mulQ (da j) b) (mulQ a (db j)) else if o.k=6 then divQ (subQ (da j) (mulQ v (db j))) b else if o.k=7 then negQ (da j)
 else if o.k=8 then (if o.n=0 then ptQ 0 else mulQ (mulQ (ptQ (floatOfInt .f64 o.n)) (powQ a (o.n-1))) (da j)) else if o.k=9 then divQ (da j) (mulQ (ptQ 4611686018427387904) v) else if o.k=10 then mulQ v (da j) else if o.k=11 then divQ (da j) a else if o.k=12 then mulQ (cosQ a) (da j) else if o.k=13 then negQ (mulQ (sinQ a) (da j)) else divQ (da j) (addQ (ptQ 4607182418800017408) (sqrQ a))
def zrow:Nat→Nat×Nat:=fun _=>zz
def rowA (o:Opw) (D:Nat→Nat→Nat×Nat):Nat→Nat×Nat:=if 1≤arI o.k then D o.a.toNat else zrow
def rowB (o:Opw) (D:Nat→Nat→Nat×Nat):Nat→Nat×Nat:=if arI o.k=2 then D o.b.toNat else zrow
def dsL (O:Nat→Opw) (X:Nat→Nat×Nat):Nat→List (Nat→Nat×Nat)
 | 0=>[]
 | i+1=>dsL O X i++[slQ (O i) (valI O X i) (argA (O i) (vAt O X i)) (argB (O i) (vAt O X i)) (rowA (O i) (fun j=>(dsL O X i).getD j zrow)) (rowB (O i) (fun j=>(dsL O X i).getD j zrow))]
def dAt (O:Nat→Opw) (X:Nat→Nat×Nat) (i:Nat):Nat→Nat→Nat×Nat:=fun j=>(dsL O X i).getD j zrow
def rowI (O:Nat→Opw) (X:Nat→Nat×Nat) (i:Nat):Nat→Nat×Nat:=slQ (O i) (valI O X i) (argA (O i) (vAt O X i)) (argB (O i) (vAt O X i)) (rowA (O i) (dAt O X i)) (rowB (O i) (dAt O X i))
def errD (k:Int) (v:Nat×Nat) (vars:Nat) (r:Nat→Nat×Nat):Int:=if 0<vars∧k=9∧hasB v.1 v.2 0=true then 51 else if (List.range vars).all (fun j=>bndB (r j)) then 0 else 5
def errS (O:Nat→Opw) (X:Nat→Nat×Nat) (vars i:Nat):Int:=errD (O i).k (valI O X i) vars (rowI O X i)
def errG (O:Nat→Opw) (X:Nat→Nat×Nat) (vars i:Nat):Int:=if errI O X i=0 then errS O X vars i else errI O X i
theorem dsL_step (O:Nat→Opw) (X:Nat→Nat×Nat) (i:Nat):dsL O X (i+1)=dsL O X i++[rowI O X i]:=rfl
theorem dsL_len (O:Nat→Opw) (X:Nat→Nat×Nat) (i:Nat):(dsL O X i).length=i:=by
 induction i with
 | zero=>rfl
 | succ i ih=>rw [dsL_step,List.length_append,ih];rfl
theorem vAt_val (O:Nat→Opw) (X:Nat→Nat×Nat) {j:Nat}:∀{i},j<i→vAt O X i j=valI O X j
 | i+1,h=>by
   unfold vAt
   rw [vsL_step,List.getD_eq_getElem?_getD]
   rcases Nat.lt_or_ge j i with c | c
   · rw [List.getElem?_append_left (by rw [vsL_len];exact c),←List.getD_eq_getElem?_getD]
     exact vAt_val O X c
   · have e:j=i:=by omega
     subst e
     rw [List.getElem?_append_right (by rw [vsL_len];omega),vsL_len]
     simp
theorem dAt_row (O:Nat→Opw) (X:Nat→Nat×Nat) {j:Nat}:∀{i},j<i→dAt O X i j=rowI O X j
 | i+1,h=>by
   unfold dAt
   rw [dsL_step,List.getD_eq_getElem?_getD]
   rcases Nat.lt_or_ge j i with c | c
   · rw [List.getElem?_append_left (by rw [dsL_len];exact c),←List.getD_eq_getElem?_getD]
     exact dAt_row O X c
   · have e:j=i:=by omega
     subst e
     rw [List.getElem?_append_right (by rw [dsL_len];omega),dsL_len]
     simp
theorem evalQ_mov (pl:Nat→Int) (o:Opw) (a b:Nat×Nat) (X:Nat→Nat×Nat):evalQ (movO pl o) a b X=evalQ o a b X:=by
 unfold evalQ movO
 dsimp only
 by_cases c1:o.k=1
 · simp only [if_pos c1]
 · by_cases c2:o.k=2
   · simp only [if_neg c1,if_pos c2,if_pos (Or.inl c2:o.k=2∨o.k=8)]
   · by_cases c8:o.k=8
     · simp only [if_neg c1,if_neg c2,if_pos c8,if_pos (Or.inr c8:o.k=2∨o.k=8)]
     · simp only [if_neg c1,if_neg c2,if_neg c8]
theorem outQ_mov (pl:Nat→Int) (o:Opw) (a b:Nat×Nat):outQ (movO pl o) a b=outQ o a b:=by
 unfold outQ movO
 dsimp only
 by_cases c8:o.k=8
 · simp only [if_pos c8,if_pos (Or.inr c8:o.k=2∨o.k=8)]
 · simp only [if_neg c8]
theorem slQ_mov (pl:Nat→Int) (o:Opw) (v a b:Nat×Nat) (da db:Nat→Nat×Nat):slQ (movO pl o) v a b da db=slQ o v a b da db:=by
 funext j
 unfold slQ movO
 dsimp only
 by_cases c2:o.k=2
 · simp only [if_pos c2,if_pos (Or.inl c2:o.k=2∨o.k=8)]
 · by_cases c8:o.k=8
   · simp only [if_neg c2,if_pos c8,if_pos (Or.inr c8:o.k=2∨o.k=8)]
   · simp only [if_neg c2,if_neg c8]
theorem errQ_mov (pl:Nat→Int) (o:Opw) (a b:Nat×Nat) (X:Nat→Nat×Nat):errQ (movO pl o) a b X=errQ o a b X:=by unfold errQ;rw [outQ_mov,evalQ_mov]
theorem trim_tells {X:Nat→Opw} {n:Nat} {v:Int} {Y:Nat→Int} {m:Nat} {S:List Opw} {pl:Nat→Int} {nd:Nat→Bool} (T:Trimmed2 X n v Y m S pl nd) (hr:∀i,i<n→opB (X i) (i:Int) v=true) (x:Nat→Nat×Nat) :
   ∀d i,i<d→i<n→nd i=true→valI (atL S) x (pl i).toNat=valI X x i∧rowI (atL S) x (pl i).toNat=rowI X x i∧errI (atL S) x (pl i).toNat=errI X x i:=by
 intro d
 induction d with
 | zero=>intro i h;omega
 | succ d ih =>
   intro i hd hi hn
   obtain⟨p1,p2,p3⟩:=T.place i hi hn
   obtain⟨k1,k2⟩:=T.closed i hi hn
   obtain⟨g1,g2, -⟩:=opB_ab (hr i hi)
   obtain⟨s1,s2, -⟩:=opB_ab (T.right (pl i).toNat (by omega))
   rw [p3] at s1 s2
   have ar:=ar_le (X i).k
   have hk:(movO pl (X i)).k=(X i).k:=rfl
   have ea:arI (X i).k≠0→(movO pl (X i)).a=pl (X i).a.toNat:=fun c=>by unfold movO;dsimp only;rw [if_neg c]
   have eb:arI (X i).k=2→(movO pl (X i)).b=pl (X i).b.toNat:=fun c=>by unfold movO;dsimp only;rw [if_pos c]
   have IA:arI (X i).k≠0→vAt (atL S) x (pl i).toNat (movO pl (X i)).a.toNat=vAt X x i (X i).a.toNat∧dAt (atL S) x (pl i).toNat (movO pl (X i)).a.toNat=dAt X x i (X i).a.toNat:=fun c=>by
     have b:=g1 c
     have l:=s1 c
     obtain⟨q1,q2, -⟩:=ih (X i).a.toNat (by omega) (by omega) (k1 c)
     rw [vAt_val _ _ (by omega),vAt_val X x (i:=i) (by omega),dAt_row _ _ (by omega),dAt_row X x (i:=i) (by omega),ea c]
     exact⟨q1,q2⟩
   have IB:arI (X i).k=2→vAt (atL S) x (pl i).toNat (movO pl (X i)).b.toNat=vAt X x i (X i).b.toNat∧dAt (atL S) x (pl i).toNat (movO pl (X i)).b.toNat=dAt X x i (X i).b.toNat:=fun c=>by
     have b:=g2 c
     have l:=s2 c
     obtain⟨q1,q2, -⟩:=ih (X i).b.toNat (by omega) (by omega) (k2 c)
     rw [vAt_val _ _ (by omega),vAt_val X x (i:=i) (by omega),dAt_row _ _ (by omega),dAt_row X x (i:=i) (by omega),eb c]
     exact⟨q1,q2⟩
   have A1:argA (atL S (pl i).toNat) (vAt (atL S) x (pl i).toNat)=argA (X i) (vAt X x i):=by
     rw [p3];unfold argA;rw [hk]
     by_cases c:1≤arI (X i).k
     · rw [if_pos c,if_pos c];exact (IA (by omega)).1
     · rw [if_neg c,if_neg c]
   have B1:argB (atL S (pl i).toNat) (vAt (atL S) x (pl i).toNat)=argB (X i) (vAt X x i):=by
     rw [p3];unfold argB;rw [hk]
     by_cases c:arI (X i).k=2
     · rw [if_pos c,if_pos c];exact (IB c).1
     · rw [if_neg c,if_neg c]
   have A2:rowA (atL S (pl i).toNat) (dAt (atL S) x (pl i).toNat)=rowA (X i) (dAt X x i):=by
     rw [p3];unfold rowA;rw [hk]
     by_cases c:1≤arI (X i).k
     · rw [if_pos c,if_pos c];exact (IA (by omega)).2
     · rw [if_neg c,if_neg c]
   have B2:rowB (atL S (pl i).toNat) (dAt (atL S) x (pl i).toNat)=rowB (X i) (dAt X x i):=by
     rw [p3];unfold rowB;rw [hk]
     by_cases c:arI (X i).k=2
     · rw [if_pos c,if_pos c];exact (IB c).2
     · rw [if_neg c,if_neg c]
   have V:valI (atL S) x (pl i).toNat=valI X x i:=by unfold valI;rw [A1,B1,p3,evalQ_mov]
   refine⟨V, ?_, ?_⟩
   · unfold rowI;rw [V,A1,B1,A2,B2,p3,slQ_mov]
   · unfold errI;rw [A1,B1,p3,errQ_mov]
theorem trim_errs {X:Nat→Opw} {n:Nat} {v:Int} {Y:Nat→Int} {m:Nat} {S:List Opw} {pl:Nat→Int} {nd:Nat→Bool} (T:Trimmed2 X n v Y m S pl nd) (hr:∀i,i<n→opB (X i) (i:Int) v=true) (x:Nat→Nat×Nat) (vars:Nat) {i:Nat} (hi:i<n) (hn:nd i=true) :
   errG (atL S) x vars (pl i).toNat=errG X x vars i:=by
 obtain⟨h1,h2,h3⟩:=trim_tells T hr x (i+1) i (by omega) hi hn
 obtain⟨p1,p2,p3⟩:=T.place i hi hn
 unfold errG errS
 rw [h1,h2,h3,p3]
 rfl
theorem trim_free {X:Nat→Opw} {n:Nat} {v:Int} {Y:Nat→Int} {m:Nat} {S:List Opw} {pl:Nat→Int} {nd:Nat→Bool} (T:Trimmed2 X n v Y m S pl nd) (hr:∀i,i<n→opB (X i) (i:Int) v=true) (x:Nat→Nat×Nat) (vars:Nat) (h:∀i,i<n→errG X x vars i=0):∀q,q<S.length→errG (atL S) x vars q=0:=by
 intro q hq
 obtain⟨j,h1,h2,h3⟩:=T.of q hq
 have:=trim_errs T hr x vars h1 h2
 rw [h3,h j h1] at this
 exact this
theorem errQ_three (o:Opw) (a b:Nat×Nat) (X:Nat→Nat×Nat):errQ o a b X=0∨errQ o a b X=51∨errQ o a b X=5:=by
 unfold errQ;split
 · exact .inr (.inl rfl)
 · split
   · exact .inl rfl
   · exact .inr (.inr rfl)
theorem errD_three (k:Int) (v:Nat×Nat) (vars:Nat) (r:Nat→Nat×Nat):errD k v vars r=0∨errD k v vars r=51∨errD k v vars r=5:=by
 unfold errD;split
 · exact .inr (.inl rfl)
 · split
   · exact .inl rfl
   · exact .inr (.inr rfl)
theorem errG_three (O:Nat→Opw) (X:Nat→Nat×Nat) (vars i:Nat):errG O X vars i=0∨errG O X vars i=51∨errG O X vars i=5:=by
 unfold errG;split
 · exact errD_three _ _ _ _
 · exact errQ_three _ _ _ _
theorem cRows {o:Opw} {i:Nat} (A:Option Addr) (C m:Nat) (RA:Nat→Option Addr) (RC:Nat→Nat) (R:Nat→Nat→Nat×Nat) (h1:1≤arI o.k→0≤o.a∧o.a<(i:Int)) (h2:arI o.k=2→0≤o.b∧o.b<(i:Int)) (w:World) (x:Nat) (hoff:∀r,r<i→Off (RA r) m x) (U:Rws w A i RA (fun _=>m) RC R) :
   ∃Da na Ca Db nb Cb,(1≤arI o.k→na=m∧Off Da na x∧Ivs w Da na (rowA o R))∧(arI o.k=2→nb=m∧Off Db nb x∧Ivs w Db nb (rowB o R))∧∀W,Below w.heap.size w W→Calls Tryz.prog 180 #[o.val,.slice A i C] W fun e w'=>e=.returned (.tuple #[.slice Da na Ca,.slice Db nb Cb])∧Below W.heap.size W w':=by
 obtain⟨k,oa,ob,n,lo,hi⟩:=o
 simp only at h1 h2
 have ar:=ar_le k
 have ca:=fun w=>arity_w k w
 unfold rowA rowB
 simp only
 have hh:arI k=0∨arI k=1∨arI k=2:=by omega
 rcases hh with e | e | e
 · rw [e] at ca
   exact⟨none,0,0,none,0,0,fun c=>by omega,fun c=>by omega,fun W _=>ar_0 k oa ob n (lo,hi) _ ca W⟩
 · obtain⟨a0,a1⟩:=h1 (by omega)
   obtain⟨j,rfl⟩:∃j:Nat,oa=(j:Int):=⟨oa.toNat,by omega⟩
   obtain⟨xb,xo,rfl,hl,x0, -,V⟩:=U j (by omega)
   rw [e] at ca
   refine⟨RA j,m,RC j,none,0,0,fun c=>⟨rfl,hoff j (by omega), ?_⟩,fun c=>by omega,fun W hW=>ar_1 k ob n j i C xb xo (lo,hi) _ (RA j) m (RC j) rfl (by omega) ca W (Nat.lt_of_lt_of_le hl hW.size) (keepsC hW x0 hl)⟩
   rw [if_pos (by omega)]
   exact V
 · obtain⟨a0,a1⟩:=h1 (by omega)
   obtain⟨b0,b1⟩:=h2 e
   obtain⟨j,rfl⟩:∃j:Nat,oa=(j:Int):=⟨oa.toNat,by omega⟩
   obtain⟨t,rfl⟩:∃t:Nat,ob=(t:Int):=⟨ob.toNat,by omega⟩
   obtain⟨xb,xo,hB,hl,x0, -,V⟩:=U j (by omega)
   obtain⟨yb,yo,hB2,hl2,y0, -,V2⟩:=U t (by omega)
   rw [hB] at hB2 ⊢
   cases hB2
   rw [e] at ca
   refine⟨RA j,m,RC j,RA t,m,RC t,fun c=>⟨rfl,hoff j (by omega), ?_⟩,fun c=>⟨rfl,hoff t (by omega), ?_⟩,fun W hW=>ar_2 k n j t i C xb xo (lo,hi) _ _ (RA j) (RA t) m (RC j) m (RC t) rfl rfl (by omega) (by omega) ca W (Nat.lt_of_lt_of_le hl hW.size) (keepsC hW x0 hl) (keepsC hW y0 hl)⟩
   · rw [if_pos (by omega)]
     exact V
   · rw [if_pos e]
     exact V2
theorem sinQ_W2 {a:Nat×Nat} (h:W2 a):W2 (sinQ a):=waveQ_W2 h 0
theorem cosQ_W2 {a:Nat×Nat} (h:W2 a):W2 (cosQ a):=waveQ_W2 h 1
theorem Rule.congr {x:Nat} {w:World} {fv:Value} {m:Nat} {G H:Nat→Nat×Nat} (h:Rule x w fv m G) (e:∀j,G j=H j):Rule x w fv m H:=by
 have:G=H:=funext e
 rw [←this]
 exact h
set_option maxHeartbeats 1000000 in
theorem sr_any {o:Opw} {i:Nat} {vars:Int} (h:opB o (i:Int) vars=true) (v:Nat×Nat) (hv:W2 v) (B:Option Addr) (D:Nat) (V:Nat→Nat×Nat) (A:Option Addr) (C m:Nat) (RA:Nat→Option Addr) (RC:Nat→Nat) (R:Nat→Nat→Nat×Nat) (w:World) (x:Nat) (hx:x<w.heap.size) (hoff:∀r,r<i→Off (RA r) m x) (UV:Ivs w B i V) (U:Rws w A i RA (fun _=>m) RC R) :
   Calls Tryz.prog 136 #[o.val,.agg #[.float .f64 v.1,.float .f64 v.2],.slice B i D,.slice A i C] w fun e w'=>(∃fv,e=.returned fv∧Rule x w' fv m (slQ o v (argA o V) (argB o V) (rowA o R) (rowB o R)))∧Below w.heap.size w w':=by
 obtain⟨hk,g1,g2,g3,g4⟩:=opB_says h
 obtain⟨wa,wb⟩:=args_W2 g1 g2 UV
 have cA:=fun W (hW:Below w.heap.size w W)=>cOps B D V g1 g2 W (UV.keep hW)
 obtain⟨Da,na,Ca,Db,nb,Cb,r1,r2,cB⟩:=cRows A C m RA RC R g1 g2 w x hoff U
 have hn:o.k=8→-64≤o.n∧o.n≤64:=fun e=>by
   unfold opB at h
   simp only [Bool.and_eq_true] at h
   have:=h.2
   unfold restB at this
   rw [if_neg (by omega),if_neg (by omega),if_pos e] at this
   exact of_decide_eq_true this
 generalize argA o V=a at *
 generalize argB o V=b at *
 generalize rowA o R=da at *
 generalize rowB o R=db at *
 obtain⟨k,oa,ob,n,lo,hi⟩:=o
 unfold Opw.val at *
 simp only at *
 have hh:k=1∨k=2∨k=3∨k=4∨k=5∨k=6∨k=7∨k=8∨k=9∨k=10∨k=11∨k=12∨k=13∨k=14:=by omega
 have z0:=fun w=>cPoint (a:=0) (by omega) w
 have z1:=fun w=>cPoint (a:=4607182418800017408) (by omega) w
 have z2:=fun w=>cPoint (a:=4611686018427387904) (by omega) w
 have p0:W2 (ptQ 0):=ptQ_W2 (by omega)
 have p1:W2 (ptQ 4607182418800017408):=ptQ_W2 (by omega)
 have p2:W2 (ptQ 4611686018427387904):=ptQ_W2 (by omega)
 rcases hh with rfl | rfl | rfl | rfl | rfl | rfl | rfl | rfl | rfl | rfl | rfl | rfl | rfl | rfl
 · exact sr_1 x oa ob n (lo,hi) v a b _ _ Da Db na Ca nb Cb m _ z0 w hx cA cB
 · exact sr_2 x oa ob n (lo,hi) v a b _ _ Da Db na Ca nb Cb m _ _ z0 z1 w hx cA cB
 · obtain⟨rfl,fa,ua⟩:=r1 (by decide)
   obtain⟨hnb,fb,ub⟩:=r2 (by decide)
   have xa:=ivs_words ua
   have xb:=ivs_words ub
   exact sr_3 x oa ob n (lo,hi) v a b _ _ Da Db na Ca nb Cb na da db _ (by omega) (by omega) (fun j hj w=>cAdd (xa j (by omega)) (xb j (by omega)) w) w hx fa ua fb ub cA cB
 · obtain⟨rfl,fa,ua⟩:=r1 (by decide)
   obtain⟨hnb,fb,ub⟩:=r2 (by decide)
   have xa:=ivs_words ua
   have xb:=ivs_words ub
   exact sr_4 x oa ob n (lo,hi) v a b _ _ Da Db na Ca nb Cb na da db _ (by omega) (by omega) (fun j hj w=>cSub (xa j (by omega)) (xb j (by omega)) w) w hx fa ua fb ub cA cB
 · obtain⟨rfl,fa,ua⟩:=r1 (by decide)
   obtain⟨hnb,fb,ub⟩:=r2 (by decide)
   have xa:=ivs_words ua
   have xb:=ivs_words ub
   exact sr_5 x oa ob n (lo,hi) v a b _ _ Da Db na Ca nb Cb na da db _ _ _ (by omega) (by omega) (fun j hj w=>cMul (xa j (by omega)) wb w) (fun j hj w=>cMul wa (xb j (by omega)) w) (fun j hj w=>cAdd (mulQ_W2 (xa j (by omega)) wb) (mulQ_W2 wa (xb j (by omega))) w) w hx fa ua fb ub cA cB
 · obtain⟨rfl,fa,ua⟩:=r1 (by decide)
   obtain⟨hnb,fb,ub⟩:=r2 (by decide)
   have xa:=ivs_words ua
   have xb:=ivs_words ub
   exact sr_6 x oa ob n (lo,hi) v a b _ _ Da Db na Ca nb Cb na da db _ _ _ (by omega) (by omega) (fun j hj w=>cMul hv (xb j (by omega)) w) (fun j hj w=>cSub (xa j (by omega)) (mulQ_W2 hv (xb j (by omega))) w) (fun j hj w=>cDiv (subQ_W2 (xa j (by omega)) (mulQ_W2 hv (xb j (by omega)))) wb w) w hx fa ua fb ub cA cB
 · obtain⟨rfl,fa,ua⟩:=r1 (by decide)
   have xa:=ivs_words ua
   exact sr_7 x oa ob n (lo,hi) v a b _ _ Da Db na Ca nb Cb na da _ (by omega) (fun j hj w=>cNeg (xa j (by omega)) w) w hx fa ua cA cB
 · obtain⟨rfl,fa,ua⟩:=r1 (by decide)
   have xa:=ivs_words ua
   obtain⟨n1,n2⟩:=hn rfl
   by_cases c:n=0
   · subst c
     exact sr_8 x oa ob 0 (lo,hi) v a b _ _ Da Db na Ca nb Cb na _ w hx (fun W hW=>pr_zero x a Da na Ca _ z0 W) cA cB
   · have c2:=fun w=>cPow wa (n-1) w
     have pf:W2 (ptQ (floatOfInt .f64 n)):=ptQ_W2 (foi_lt n)
     have e:∀j,slQ ⟨8,oa,ob,n,lo,hi⟩ v a b da db j=mulQ (mulQ (ptQ (floatOfInt .f64 n)) (powQ a (n-1))) (da j):=fun j=>by
       show (if n=0 then _ else _)=_
       rw [if_neg c]
     refine (sr_8 x oa ob n (lo,hi) v a b _ _ Da Db na Ca nb Cb na _ w hx (fun W hW=>pr_some x a n c (by omega) (by omega) Da na Ca da _ _ _ _ (fun w=>cPoint (foi_lt n) w) c2 (fun w=>cMul pf (powQ_W2 wa _) w) (fun j hj w=>cMul (mulQ_W2 pf (powQ_W2 wa _)) (xa j hj) w) W (Nat.lt_of_lt_of_le hx hW.size) fa (ua.keep hW)) cA cB).mono ?_
     rintro _ w' ⟨⟨fv,rfl,hR⟩,hb⟩
     exact⟨⟨fv,rfl,hR.congr fun j=>(e j).symm⟩,hb⟩
 · obtain⟨rfl,fa,ua⟩:=r1 (by decide)
   have xa:=ivs_words ua
   exact sr_9 x oa ob n (lo,hi) v a b _ _ Da Db na Ca nb Cb da _ _ _ z2 (fun w=>cMul p2 hv w) (fun j hj w=>cDiv (xa j hj) (mulQ_W2 p2 hv) w) w hx fa ua cA cB
 · obtain⟨rfl,fa,ua⟩:=r1 (by decide)
   have xa:=ivs_words ua
   exact sr_10 x oa ob n (lo,hi) v a b _ _ Da Db na Ca nb Cb da _ (fun j hj w=>cMul hv (xa j hj) w) w hx fa ua cA cB
 · obtain⟨rfl,fa,ua⟩:=r1 (by decide)
   have xa:=ivs_words ua
   exact sr_11 x oa ob n (lo,hi) v a b _ _ Da Db na Ca nb Cb da _ (fun j hj w=>cDiv (xa j hj) wa w) w hx fa ua cA cB
 · obtain⟨rfl,fa,ua⟩:=r1 (by decide)
   have xa:=ivs_words ua
   exact sr_12 x oa ob n (lo,hi) v a b _ _ Da Db na Ca nb Cb da _ _ (fun w=>cCos wa w) (fun j hj w=>cMul (cosQ_W2 wa) (xa j hj) w) w hx fa ua cA cB
 · obtain⟨rfl,fa,ua⟩:=r1 (by decide)
   have xa:=ivs_words ua
   exact sr_13 x oa ob n (lo,hi) v a b _ _ Da Db na Ca nb Cb da _ _ _ (fun w=>cSin wa w) (fun j hj w=>cMul (sinQ_W2 wa) (xa j hj) w) (fun j hj w=>cNeg (mulQ_W2 (sinQ_W2 wa) (xa j hj)) w) w hx fa ua cA cB
 · obtain⟨rfl,fa,ua⟩:=r1 (by decide)
   have xa:=ivs_words ua
   exact sr_14 x oa ob n (lo,hi) v a b _ _ Da Db na Ca nb Cb da _ _ _ _ z1 (fun w=>cSqr wa w) (fun w=>cAdd p1 (sqrQ_W2 wa) w) (fun j hj w=>cDiv (xa j hj) (addQ_W2 p1 (sqrQ_W2 wa)) w) w hx fa ua cA cB
theorem slQ_W2 {o:Opw} {v a b:Nat×Nat} {da db:Nat→Nat×Nat} (hv:W2 v) (ha:W2 a) (hb:W2 b) {j:Nat} (h1:1≤arI o.k→W2 (da j)) (h2:arI o.k=2→W2 (db j)) (hk:1≤o.k∧o.k≤14):W2 (slQ o v a b da db j):=by
 obtain⟨k,oa,ob,n,lo,hi⟩:=o
 simp only at *
 have hh:k=1∨k=2∨k=3∨k=4∨k=5∨k=6∨k=7∨k=8∨k=9∨k=10∨k=11∨k=12∨k=13∨k=14:=by omega
 have p0:W2 (ptQ 0):=ptQ_W2 (by omega)
 have p1:W2 (ptQ 4607182418800017408):=ptQ_W2 (by omega)
 have p2:W2 (ptQ 4611686018427387904):=ptQ_W2 (by omega)
 rcases hh with rfl | rfl | rfl | rfl | rfl | rfl | rfl | rfl | rfl | rfl | rfl | rfl | rfl | rfl
 · exact p0
 · show W2 (if (j:Int)=n then ptQ 4607182418800017408 else ptQ 0)
   by_cases c:(j:Int)=n
   · rw [if_pos c];exact p1
   · rw [if_neg c];exact p0
 · exact addQ_W2 (h1 (by decide)) (h2 (by decide))
 · exact subQ_W2 (h1 (by decide)) (h2 (by decide))
 · exact addQ_W2 (mulQ_W2 (h1 (by decide)) hb) (mulQ_W2 ha (h2 (by decide)))
 · exact divQ_W2 (subQ_W2 (h1 (by decide)) (mulQ_W2 hv (h2 (by decide)))) hb
 · exact negQ_W2 (h1 (by decide))
 · show W2 (if n=0 then ptQ 0 else mulQ (mulQ (ptQ (floatOfInt .f64 n)) (powQ a (n-1))) (da j))
   by_cases c:n=0
   · rw [if_pos c];exact p0
   · rw [if_neg c];exact mulQ_W2 (mulQ_W2 (ptQ_W2 (foi_lt n)) (powQ_W2 ha _)) (h1 (by decide))
 · exact divQ_W2 (h1 (by decide)) (mulQ_W2 p2 hv)
 · exact mulQ_W2 hv (h1 (by decide))
 · exact divQ_W2 (h1 (by decide)) ha
 · exact mulQ_W2 (cosQ_W2 ha) (h1 (by decide))
 · exact negQ_W2 (mulQ_W2 (sinQ_W2 ha) (h1 (by decide)))
 · exact divQ_W2 (h1 (by decide)) (addQ_W2 p1 (sqrQ_W2 ha))
end Go.Proofs.YtfdelmgingefkaaGreat
