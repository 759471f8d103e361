/- The reference's products, amounts and even powers of intervals answer as the program's; IvalProducts' walk. Middles and widths: the program's and the reference's are the same; IvalSizes' walk. The greater the intervals are, the greater are sums and products: plain facts, end by end. -/
import Derived.Test.YtgfppdboogldlaaGreatZs19
import Derived.Test.YtgfppdboogldlaaGreatZs16
import Derived.Test.YtgfppdboogldlaaGreatZs17
namespace Go.Proofs.YtgfppdboogldlaaGreat
open Go.ChangeShapes Go.WideShapes Go.ChangeAt Go.RowKit
def mulP (xl xh yl yh:Nat):Nat×Nat:=if hsB xl xh&&hsB yl yh then rmulP xl xh yl yh else (infI 1,infI (-1))
theorem mul_both {xl xh yl yh:Nat} (h1:xl<18446744073709551616) (h2:xh<18446744073709551616) (h3:yl<18446744073709551616) (h4:yh<18446744073709551616) (S:Some2 xl xh) (T:Some2 yl yh) :
   (∀w,Calls Tryz.prog 149 #[.agg #[.float .f64 xl,.float .f64 xh],.agg #[.float .f64 yl,.float .f64 yh]] w fun e w'=>e=.returned (.agg #[.float .f64 (rmulP xl xh yl yh).1,.float .f64 (rmulP xl xh yl yh).2])∧Below w.heap.size w w')∧(rmulP xl xh yl yh).1<18446744073709551616∧(rmulP xl xh yl yh).2<18446744073709551616:=by
 obtain⟨a,X⟩:=held_some h1 h2 S
 obtain⟨b,Y⟩:=held_some h3 h4 T
 obtain⟨m1,m2,c,Z,l1,l2,k1,k2⟩:=mul_ends X Y
 rw [rmul_is S.nl S.nh T.nl T.nh Z k1 k2]
 exact⟨c,l1,l2⟩
theorem mulP_lt {xl xh yl yh:Nat} (h1:xl<18446744073709551616) (h2:xh<18446744073709551616) (h3:yl<18446744073709551616) (h4:yh<18446744073709551616):(mulP xl xh yl yh).1<18446744073709551616∧(mulP xl xh yl yh).2<18446744073709551616:=by
 unfold mulP
 cases hs:hsB xl xh&&hsB yl yh
 · rw [if_neg (by simp)];exact⟨infI_lt 1,infI_lt (-1)⟩
 · rw [if_pos rfl]
   obtain⟨hx,hy⟩:=Bool.and_eq_true_iff.1 hs
   exact (mul_both h1 h2 h3 h4 (hs_iff.1 hx) (hs_iff.1 hy)).2
theorem Mul_w (xl xh yl yh:Nat) (h1:xl<18446744073709551616) (h2:xh<18446744073709551616) (h3:yl<18446744073709551616) (h4:yh<18446744073709551616) (w:World) :
   Calls Tryz.prog 149 #[.agg #[.float .f64 xl,.float .f64 xh],.agg #[.float .f64 yl,.float .f64 yh]] w fun e w'=>e=.returned (.agg #[.float .f64 (mulP xl xh yl yh).1,.float .f64 (mulP xl xh yl yh).2])∧Below w.heap.size w w':=by
 unfold mulP
 cases hs:hsB xl xh&&hsB yl yh
 · rw [if_neg (by simp)]
   exact mul_none xl xh yl yh h1 h2 h3 h4 hs w
 · rw [if_pos rfl]
   obtain⟨hx,hy⟩:=Bool.and_eq_true_iff.1 hs
   exact (mul_both h1 h2 h3 h4 (hs_iff.1 hx) (hs_iff.1 hy)).1 w
structure In (xl xh ul uh:Nat):Prop where
 S:Some2 xl xh
 T:Some2 ul uh
 kl:key ul≤key xl
 kh:key xh≤key uh
 a1:xl<18446744073709551616
 a2:xh<18446744073709551616
 b1:ul<18446744073709551616
 b2:uh<18446744073709551616
def Gr (p q:Nat×Nat):Prop:=(p=(infI 1,infI (-1))∧(q=(infI 1,infI (-1))∨Some2 q.1 q.2))∨(Some2 p.1 p.2∧Some2 q.1 q.2∧key q.1≤key p.1∧key p.2≤key q.2)
theorem empty_some:hsB (infI 1) (infI (-1))=false:=by decide
theorem gr_empty:Gr (infI 1,infI (-1)) (infI 1,infI (-1)):=Or.inl ⟨rfl,Or.inl rfl⟩
theorem gr_some {p q:Nat×Nat} (S:Some2 p.1 p.2) (T:Some2 q.1 q.2) (k1:key q.1≤key p.1) (k2:key p.2≤key q.2):Gr p q:=Or.inr ⟨S,T,k1,k2⟩
theorem In.refl {xl xh:Nat} (h1:xl<18446744073709551616) (h2:xh<18446744073709551616) (S:Some2 xl xh):In xl xh xl xh:=⟨S,S,Int.le_refl _,Int.le_refl _,h1,h2,h1,h2⟩
theorem addR_bot {a b r:Nat} {d:Int} (ha:a<18446744073709551616) (na:nanB a=false) (k:key a=-9218868437227405312) (h:addR a b d=some r):r=a:=by
 have fa:=(key_inf ha na).2 (Or.inr k)
 unfold addR at h
 rw [fa] at h
 split at h
 · cases h
 · simp only [Bool.false_and,Bool.false_eq_true,if_false] at h
   split at h
   · cases h
   · exact (Option.some.inj h).symm
theorem addR_bot2 {a b r:Nat} {d:Int} (ha:a<18446744073709551616) (hb:b<18446744073709551616) (na:nanB a=false) (nb:nanB b=false) (k:key b=-9218868437227405312) (h:addR a b d=some r):key r=-9218868437227405312:=by
 have fb:=(key_inf hb nb).2 (Or.inr k)
 have zb:isZ b=false:=isZ_pos hb (by omega)
 have sb:=sign_key hb zb
 unfold addR at h
 rw [fb,na,nb] at h
 simp only [Bool.or_self,Bool.and_false,Bool.false_eq_true,if_false,Bool.not_false,Bool.and_true] at h
 cases fa:finB a
 · rw [fa] at h
   have za:isZ a=false:=by
     cases z:isZ a
     · rfl
     · have:=(key_zero ha).1 z
       rcases (key_inf ha na).1 fa with c | c <;> omega
   have sa:=sign_key ha za
   simp only [Bool.not_false,Bool.true_and,Bool.false_eq_true,if_false] at h
   split at h
   · cases h
   · rename_i hc
     have e:=(Option.some.inj h).symm
     rw [e]
     rcases (key_inf ha na).1 fa with c | c
     · rw [sa,sb,decide_eq_false (by omega),decide_eq_true (by omega)] at hc
       exact absurd rfl hc
     · exact c
 · rw [fa] at h
   simp only [Bool.not_true,Bool.false_and,Bool.false_eq_true,if_false,if_true] at h
   rw [←Option.some.inj h]
   exact k
theorem addR_word {a b r:Nat} {d:Int} (ha:a<18446744073709551616) (hb:b<18446744073709551616) (h:addR a b d=some r):r<18446744073709551616∧nanB r=false:=by
 have f:=addF_facts a b d
 unfold addR at h
 generalize addF a b d=q at *
 split at h
 · cases h
 · rename_i hn
   have na:nanB a=false:=by cases z:nanB a <;> simp_all
   have nb:nanB b=false:=by cases z:nanB b <;> simp_all
   split at h
   · rw [←Option.some.inj h];exact⟨f.2.2,f.1⟩
   · split at h
     · cases h
     · rw [←Option.some.inj h]
       split
       · exact⟨hb,nb⟩
       · exact⟨ha,na⟩
theorem add_low {p q c d l m:Nat} (hp:p<18446744073709551616) (hq:q<18446744073709551616) (hc:c<18446744073709551616) (hd:d<18446744073709551616) (np:nanB p=false) (nq:nanB q=false) (nc:nanB c=false) (nd:nanB d=false)
   (kc:key c<9218868437227405312) (kd:key d<9218868437227405312) (h1:key p≤key c) (h2:key q≤key d) (e:addR c d (-1)=some l) (e':addR p q (-1)=some m):key m≤key l:=by
 have wl:=addR_word hc hd e
 have hl:=(key_range wl.1 wl.2).1
 have rc:=key_range hc nc
 have rd:=key_range hd nd
 have rp:=key_range hp np
 have rq:=key_range hq nq
 cases fc:finB c
 · have kc':key p=-9218868437227405312:=by rcases (key_inf hc nc).1 fc with z | z <;> omega
   rw [addR_bot hp np kc' e',kc']
   exact hl
 · cases fd:finB d
   · have kd':key q=-9218868437227405312:=by rcases (key_inf hd nd).1 fd with z | z <;> omega
     rw [addR_bot2 hp hq np nq kd' e']
     exact hl
   · obtain⟨r,t,g1,g2,g⟩:=addR_low hp hq hc hd np nq fc fd h1 h2
     rw [e'] at g1
     rw [e] at g2
     have g1:=Option.some.inj g1
     have g2:=Option.some.inj g2
     rw [g1,g2]
     exact g.le
theorem add_high {p q c d l m:Nat} (hp:p<18446744073709551616) (hq:q<18446744073709551616) (hc:c<18446744073709551616) (hd:d<18446744073709551616) (np:nanB p=false) (nq:nanB q=false) (nc:nanB c=false) (nd:nanB d=false)
   (kc:-9218868437227405312<key c) (kd:-9218868437227405312<key d) (h1:key c≤key p) (h2:key d≤key q) (e:addR c d 1=some l) (e':addR p q 1=some m):key l≤key m:=by
 have m1:=addR_mirror (negB_lt hc) (negB_lt hd)
 have m2:=addR_mirror (negB_lt hp) (negB_lt hq)
 rw [negB_negB hc,negB_negB hd,e] at m1
 rw [negB_negB hp,negB_negB hq,e'] at m2
 rcases m1 with ⟨-,z⟩ | ⟨x,y,g1,g2,lx,ly,k⟩
 · cases z
 · rcases m2 with ⟨-,z⟩ | ⟨x2,y2,g3,g4,lx2,ly2,k2⟩
   · cases z
   · have g2:=Option.some.inj g2
     have g4:=Option.some.inj g4
     rw [←g2] at k
     rw [←g4] at k2
     have kx:=add_low (negB_lt hp) (negB_lt hq) (negB_lt hc) (negB_lt hd) (by rw [nanB_negB hp];exact np) (by rw [nanB_negB hq];exact nq) (by rw [nanB_negB hc];exact nc) (by rw [nanB_negB hd];exact nd)
       (by rw [key_negB hc];omega) (by rw [key_negB hd];omega) (by rw [key_negB hp,key_negB hc];omega) (by rw [key_negB hq,key_negB hd];omega) g1 g3
     omega
theorem add_gr {xl xh ul uh yl yh vl vh:Nat} (X:In xl xh ul uh) (Y:In yl yh vl vh):Gr (addP xl xh yl yh) (addP ul uh vl vh):=by
 obtain⟨l,u,e1,e2,A, -, -⟩:=add_some X.a1 X.a2 Y.a1 Y.a2 X.S Y.S
 obtain⟨l',u',e1',e2',A', -, -⟩:=add_some X.b1 X.b2 Y.b1 Y.b2 X.T Y.T
 have p1:addP xl xh yl yh=(l,u):=by unfold addP;rw [hs_iff.2 X.S,hs_iff.2 Y.S,e1,e2];rfl
 have p2:addP ul uh vl vh=(l',u'):=by unfold addP;rw [hs_iff.2 X.T,hs_iff.2 Y.T,e1',e2'];rfl
 rw [p1,p2]
 exact gr_some A A' (add_low X.b1 Y.b1 X.a1 Y.a1 X.T.nl Y.T.nl X.S.nl Y.S.nl X.S.lt Y.S.lt X.kl Y.kl e1 e1') (add_high X.b2 Y.b2 X.a2 Y.a2 X.T.nh Y.T.nh X.S.nh Y.S.nh X.S.gt Y.S.gt X.kh Y.kh e2 e2')
theorem neg_in {xl xh ul uh:Nat} (X:In xl xh ul uh):In (negP (xl,xh)).1 (negP (xl,xh)).2 (negP (ul,uh)).1 (negP (ul,uh)).2:=by
 have e1:negP (xl,xh)=mirrorP (xl,xh):=by unfold negP;rw [if_pos (hs_iff.2 X.S)]
 have e2:negP (ul,uh)=mirrorP (ul,uh):=by unfold negP;rw [if_pos (hs_iff.2 X.T)]
 obtain⟨S,k1,k2,l1,l2⟩:=mirror_some X.a1 X.a2 X.S
 obtain⟨T,k3,k4,l3,l4⟩:=mirror_some X.b1 X.b2 X.T
 have h1:=X.kl
 have h2:=X.kh
 rw [e1,e2]
 exact⟨S,T,by omega,by omega,l1,l2,l3,l4⟩
theorem mul_keys {xl xh yl yh:Nat} (h1:xl<18446744073709551616) (h2:xh<18446744073709551616) (h3:yl<18446744073709551616) (h4:yh<18446744073709551616) (S:Some2 xl xh) (T:Some2 yl yh) :
   Some2 (mulP xl xh yl yh).1 (mulP xl xh yl yh).2∧key (mulP xl xh yl yh).1=lowK xl xh yl yh∧key (mulP xl xh yl yh).2=topK xl xh yl yh:=by
 obtain⟨a,X⟩:=held_some h1 h2 S
 obtain⟨b,Y⟩:=held_some h3 h4 T
 obtain⟨m1,m2, -,Z,l1,l2,k1,k2⟩:=mul_ends X Y
 have e:mulP xl xh yl yh=(m1,m2):=by unfold mulP;rw [hs_iff.2 S,hs_iff.2 T,←rmul_is S.nl S.nh T.nl T.nh Z k1 k2];rfl
 rw [e]
 exact⟨Z,k1,k2⟩
end Go.Proofs.YtgfppdboogldlaaGreat
