/- taylor: the next coefficient of a variable, and of a product, in a series on its way. -/
import Derived.Test.YtgfppdboogldlaaGreatZs31
import Derived.Test.YtgfppdboogldlaaGreatZs32
namespace Go.Proofs.YtgfppdboogldlaaGreat
open Go.ChangeShapes Go.WideShapes Go.ChangeAt Go.RowKit
def sumT (f:Nat→Nat×Nat):Nat→Nat×Nat
 | 0=>wholeQ 0
 | n+1=>addQ (sumT f n) (f n)
theorem sumT_W2 {f:Nat→Nat×Nat}:∀{n:Nat},(∀i,i<n→W2 (f i))→W2 (sumT f n)
 | 0,_=>wholeQ_W2 0
 | n+1,h=>addQ_W2 (sumT_W2 (n:=n) fun i hi=>h i (by omega)) (h n (by omega))
def cofL (V:Nat→Nat→Nat×Nat) (k:Nat):Nat→List (Nat×Nat):=fun i=>(List.range k).map (V i)
theorem cofL_len (V:Nat→Nat→Nat×Nat) (k i:Nat):(cofL V k i).length=k:=by simp [cofL]
theorem cofL_push (V:Nat→Nat→Nat×Nat) (k i:Nat):cofL V k i++[V i k]=cofL V (k+1) i:=by
 unfold cofL
 rw [List.range_succ,List.map_append,List.map_singleton]
theorem cofL_at (V:Nat→Nat→Nat×Nat) {k i t:Nat} (h:t<k):(cofL V k i).getD t (0,0)=V i t:=by simp [cofL,List.getD,h]
theorem cofL_mem {V:Nat→Nat→Nat×Nat} {k i:Nat} (h:∀t,t<k→W2 (V i t)):∀p∈cofL V k i,p.1<18446744073709551616∧p.2<18446744073709551616:=by
 intro p hp
 obtain⟨t,ht,rfl⟩:=List.mem_map.1 hp
 exact h t (List.mem_range.1 ht)
theorem LLt_cof (V:Nat→Nat→Nat×Nat) (k j i:Nat):LLt (cofL V k) (fun i=>V i k) j i=if i<j then cofL V (k+1) i else cofL V k i:=by
 unfold LLt
 rw [cofL_push]
def SqOp (Z:Nat→Opw) (X:Nat→Nat×Nat) (V:Nat→Nat→Nat×Nat) (k j:Nat):Prop :=
 ((Z j).k=2∧(Z j).n=0∧V j k=X k)∨((Z j).k=5∧∃a c:Nat,a<j∧c<j∧(Z j).a=(a:Int)∧(Z j).b=(c:Int)∧V j k=sumT (fun i=>mulQ (V a i) (V c (k-i))) (k+1))
variable {w0:World} {n b db:Nat} {oV uV:Value} {X:Nat→Nat×Nat} {k:Nat} {gr rc:Nat→Nat} {w:World} {vo:Nat→Value} {vv:Value}
theorem SeS.own_ivs {V:Nat→Nat→Nat×Nat} {j:Nat} (S:SeS w0 n b db oV uV X (LLt (cofL V k) (fun i=>V i k) j) k gr rc w vo vv) {a:Nat} (ha:a<j) (hj:j<n) (hV:∀t,t≤k→W2 (V a t)):∃A C,vo a=.slice A (k+1) C∧Ivs w A (k+1) (V a):=by
 have U:=S.own a (by omega)
 rw [LLt_cof,if_pos ha] at U
 obtain⟨A,C,hv,I⟩:=ownI_ivs U (cofL_mem fun t ht=>hV t (by omega))
 rw [cofL_len] at hv I
 refine⟨A,C,hv,fun i hi=>?_⟩
 have:=I i hi
 dsimp only at this
 rw [cofL_at V hi] at this
 exact this
theorem SeS.row_at {L:Nat→List (Nat×Nat)} (S:SeS w0 n b db oV uV X L k gr rc w vo vv):∃vb VC,vv=.slice (some ⟨vb,0,none⟩) (k+1) VC∧vb<w.heap.size∧w.cell? ⟨vb,k,none⟩=some (.slice (some ⟨gr k,0,none⟩) 1 (rc k)):=by
 have h:=S.hv
 have hl:((List.range (k+1)).map fun i=>Value.slice (some ⟨gr i,0,none⟩) 1 (rc i)).length=k+1:=by simp
 rcases h.2 with ⟨-,hn⟩ | ⟨g,cap,cur,hvv, -,hg, -⟩
 · rw [hl] at hn;omega
 · rw [hl] at hvv
   refine⟨g,cap,hvv,(Array.getElem?_eq_some_iff.1 hg).1, ?_⟩
   have h':w.ownsRow w0.heap.size 26 1 (.slice (some ⟨g,0,none⟩) (k+1) cap) (k+1) ((List.range (k+1)).map fun i=>Value.slice (some ⟨gr i,0,none⟩) 1 (rc i)):=by
     have t:=h
     unfold OwnR at t
     rw [hl,hvv] at t
     exact t
   rw [World.ownsRow.cellAt h' k (by omega)]
   simp
set_option maxHeartbeats 2000000 in
theorem tnexts_w (Z:Nat→Opw) (V:Nat→Nat→Nat×Nat) (ab ao aC ob oo oC:Nat) (hk:k≤1000) {j:Nat} (hj:j<n) (hZ:SqOp Z X V k j) (hV:∀i t,t≤k→W2 (V i t)) (he:endB (V j k)=false)
   (W:World) (vo:Nat→Value) (gr rc:Nat→Nat) (vv:Value) (S:SeS w0 n b db (.slice (some ⟨ab,ao,none⟩) n aC) (.slice (some ⟨ob,oo,none⟩) 1 oC) X (LLt (cofL V k) (fun i=>V i k) j) k gr rc W vo vv) :
   Calls Tryz.prog 62 #[.pointer (some ⟨b,0,none⟩),.int .i64 (k:Int),(Z j).val,.pointer (some ⟨db,j*2,none⟩)] W fun e w'=>e=.returned (.tuple #[.agg #[.float .f64 (V j k).1,.float .f64 (V j k).2],.int .i64 0])∧Below W.heap.size W w':=by
 have Uj:=S.own j hj
 obtain⟨D,Cv,hD⟩:=Uj.form
 have ct:=S.cel j hj
 rw [hD] at ct
 have hP:=hV j k (Nat.le_refl _)
 generalize hln:(LLt (cofL V k) (fun i=>V i k) j j).length=nv at *
 clear Uj hD hln
 unfold Opw.val
 rcases hZ with ⟨z1,z2,z3⟩ | ⟨z1,a,c,ha,hc,z2,z3,z4⟩
 · rw [z1,z2]
   obtain⟨vb,VC,hvv,lv,cr⟩:=S.row_at
   have c4:=S.c4
   rw [hvv] at c4
   have R:=S.row k (Nat.le_refl _)
   refine tnext_w 2 (Z j).a (Z j).b 0 (Z j).lo (Z j).hi k b 0 0 nv 0 0 Cv db (j*2) none none D (V j k) hP he W S.pl S.dl ct (fun W1 _=>topnd_var _ _ _ _ _ _ W1) (fun W1=>tout_core 2 _ _ _ _ (by decide) _ _ _ _ _ _ _ _ _ _ _ _ W1 (fun W2=>tnoval_w 2 _ _ _ (Or.inl rfl) _ _ _ _ _ _ _ _ _ W2)) (fun W1 hW1=>?_)
   rw [z3]
   have:=tcoef_var (Z j).a (Z j).b (Z j).lo (Z j).hi 0 k b vb 0 (k+1) VC 1 (rc k) 0 0 0 0 db (j*2) (some ⟨gr k,0,none⟩) none none (fun _=>X k) (by omega) (by omega) W1 (Nat.lt_of_lt_of_le S.pl.2 hW1.size) (Nat.lt_of_lt_of_le lv hW1.size) (keepsC hW1 c4 S.pl.2) (by rw [Nat.zero_add];exact keepsC hW1 cr lv) (R.keep hW1)
   exact this
 · rw [z1,z2,z3]
   obtain⟨A,CA,hA,IA⟩:=S.own_ivs ha hj (fun t ht=>hV a t ht)
   obtain⟨B,CB,hB,IB⟩:=S.own_ivs hc hj (fun t ht=>hV c t ht)
   have ca:=S.cel a (by omega)
   have cb:=S.cel c (by omega)
   rw [hA] at ca
   rw [hB] at cb
   refine tnext_w 5 a c (Z j).n (Z j).lo (Z j).hi k b (k+1) (k+1) nv CA CB Cv db (j*2) A B D (V j k) hP he W S.pl S.dl ct (fun W1 hW1=>?_) (fun W1=>tout_core 5 _ _ _ _ (by decide) _ _ _ _ _ _ _ _ _ _ _ _ W1 (fun W2=>tnoval_w 5 _ _ _ (Or.inr rfl) _ _ _ _ _ _ _ _ _ W2)) (fun W1 hW1=>?_)
   · exact topnd_mul a c (Z j).n (Z j).lo (Z j).hi b db 0 n n _ _ (by omega) (by omega) W1 (Nat.lt_of_lt_of_le S.pl.2 hW1.size) (Nat.lt_of_lt_of_le S.dl hW1.size) (keepsC hW1 S.c5 S.pl.2) (by rw [Nat.zero_add];exact keepsC hW1 ca S.dl) (by rw [Nat.zero_add];exact keepsC hW1 cb S.dl)
   · refine tcoef_mul a c (Z j).n (Z j).lo (Z j).hi k b (k+1) (k+1) CA CB db (j*2) A B (V j k) W1 (fun W2 hW2=>?_)
     have hW:=later hW1 hW2
     rw [z4]
     exact tproduct_w (k+1) (k+1) CA CB A B (V a) (V c) (sumT fun i=>mulQ (V a i) (V c (k-i))) (fun i=>mulQ (V a i) (V c (k-i))) k b hk (by omega) (by omega) W2 (S.pl.keep hW) (IA.keep hW) (IB.keep hW) (fun W=>cPoint (foi_lt 0) W)
       (fun i hi W=>cAdd (sumT_W2 fun t ht=>mulQ_W2 (hV a t (by omega)) (hV c _ (by omega))) (mulQ_W2 (hV a i hi) (hV c _ (by omega))) W) (fun i hi W=>cMul (hV a i hi) (hV c _ (by omega)) W)
end Go.Proofs.YtgfppdboogldlaaGreat
