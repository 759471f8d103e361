/- The reference's determinant: its parts. The reference's determinant: the walk. -/
import Derived.Test.YtfdomcnaaadedaaZs26
import Derived.Test.YtfdomcnaaadedaaZs27
namespace Go.Proofs.Ytfdomcnaaadedaa
open Go.ChangeShapes Go.WideShapes Go.ChangeAt Go.RowKit
set_option maxHeartbeats 1000000 in
theorem minus_z {S T:Int} {K:Nat} {w:World} {x:Value} {z:Int} (h:NumZ S T K w x z) :
   Calls Try.prog 27 #[x] w fun r w'=>(∃v,r=.returned v∧NumZ S T K w' v (-z))∧Below w.heap.size w w':=by
 obtain⟨g,v,m,e,rfl,a2,hm,hS,hT,hz⟩:=h
 obtain⟨ao,l,ca,rfl,hl⟩:=a2.shape
 have X:Has3 (w.alloc (.cells #[.bool g,.slice ao l ca,.int .i64 e] 33)) w.heap.size (.bool g) (.slice ao l ca) (.int .i64 e):=⟨by go_simp,by go_simp,by go_simp,by go_simp,by go_simp,by go_simp,by go_size⟩
 have fin:∀w',BigIs w' (.slice ao l ca) m→NumZ S T K w' (.agg #[.bool (!g&&decide (0<l)),.slice ao l ca,.int .i64 e]) (-z):=fun w' hw=>by
   refine⟨_,_,m,e,rfl,hw,hm,hS,hT, ?_⟩
   rw [←hz]
   by_cases c:m=0
   · have:l=0:=hl.2 c
     subst c this
     simp [sgnd]
   · have:l≠0:=fun q=>c (hl.1 q)
     rw [decide_eq_true (show 0<l by omega)]
     cases g <;> simp [sgnd]
 have HB:Below w.heap.size w (w.alloc (.cells #[.bool g,.slice ao l ca,.int .i64 e] 33)):=by go_grown
 clear hl hm hS hT hz
 obtain⟨x0,x1,x2,x3,x4,x5,xl⟩:=id X
 cases g
 all_goals
   go_enter Try.func27,Try.ntmps27
   go_wp2_with fail
 · refine bodyPost_ret (v:=.agg #[.bool (decide (0<l)),.slice ao l ca,.int .i64 e]) (by simp [results,Try.results27,go_sem, *]) rfl ⟨⟨_,rfl,fin _ (a2.keep (by go_grown))⟩,by go_grown⟩
 · refine bodyPost_ret (v:=.agg #[.bool false,.slice ao l ca,.int .i64 e]) (by simp [results,Try.results27,go_sem, *]) rfl ⟨⟨_,rfl,fin _ (a2.keep (by go_grown))⟩,by go_grown⟩
def detS (d:Nat→Int):Nat→Int
 | 0=>0
 | j+1=>detS d j+(if j%2=1 then -(d j) else d j)
def detZ:Nat→(Nat→Nat→Int)→Int
 | 0,_=>1
 | n+1,v=>detS (fun j=>v 0 j*detZ n (fun r c=>v (r+1) (skipN j c))) (n+1)
def MatV (w:World) (A:Option Addr) (N:Nat) (v:Nat→Nat→Int):Prop:=∃RA RC Z,Nrs w A N RA (fun _=>N) RC Z∧∀r,r<N→∀c,c<N→NumZ (-1074) 971 53 w (Z r c).val (v r c)
theorem MatV.keep {w w2:World} {A:Option Addr} {N:Nat} {v:Nat→Nat→Int} (h:MatV w A N v) (hb:Below w.heap.size w w2):MatV w2 A N v:=by
 obtain⟨RA,RC,Z,H,k⟩:=h
 exact⟨RA,RC,Z,H.keep hb,fun r hr c hc=>(k r hr c hc).keep hb⟩
theorem cutL_get (Z:Nat→Nv) (j:Nat) (d:Nv):∀M c,c<(cutL Z j M).length→(cutL Z j M).getD c d=Z (skipN j c):=by
 intro M
 induction M with
 | zero=>intro c hc;exact absurd hc (by simp [cutL])
 | succ M ih =>
   intro c hc
   by_cases e:M=j
   · subst e
     rw [cutL_here] at hc ⊢
     exact ih c hc
   · rw [cutL_step Z e] at hc ⊢
     by_cases k:c<(cutL Z j M).length
     · rw [←ih c k]
       simp [List.getD,List.getElem?_append_left k]
     · rw [List.length_append,List.length_cons,List.length_nil] at hc
       have hl:=cutL_len Z j M
       have ec:c=(cutL Z j M).length:=by omega
       have:skipN j c=M:=by
         unfold skipN
         rw [hl] at ec
         split at ec <;> split <;> omega
       rw [this,ec]
       simp [List.getD]
theorem rows_mat {B:Nat} {w:World} {N:Nat} {u:Value} {vs:List Value} {v:Nat→Nat→Int} (own:OwnS B w u vs) (hv:vs.length=N) (rows:∀r,r<N→∃A C T,vs[r]?=some (.slice A N C)∧T.length=N∧OwnQ B w (.slice A N C) T∧∀c,c<N→NumZ (-1074) 971 53 w (T.getD c NvD).val (v r c)):∃A C,u=.slice A N C∧MatV w A N v:=by
 have sk:∀r,∃p:Option Addr×Nat×List Nv,r<N→vs[r]?=some (.slice p.1 N p.2.1)∧p.2.2.length=N∧OwnQ B w (.slice p.1 N p.2.1) p.2.2∧∀c,c<N→NumZ (-1074) 971 53 w (p.2.2.getD c NvD).val (v r c):=fun r=>by
   by_cases hr:r<N
   · obtain⟨A,C,T,h⟩:=rows r hr
     exact⟨(A,C,T),fun _=>h⟩
   · exact⟨(none,0,[]),fun h=>absurd h hr⟩
 obtain⟨f,hf⟩:=Classical.skolem.1 sk
 have own':w.ownsRow B 54 1 u vs.length vs:=own
 rcases own'.2 with ⟨rfl,hn⟩ | ⟨g,cap,cur,rfl, -⟩
 · have:N=0:=by rw [←hv,hn]
   subst this
   exact⟨none,0,rfl,fun _=>none,fun _=>0,fun _ _=>NvD,fun r hr=>by omega,fun r hr=>by omega⟩
 · refine⟨_,cap,by rw [hv],fun r=>(f r).1,fun r=>(f r).2.1,fun r c=>(f r).2.2.getD c NvD,fun r hr=>?_,fun r hr c hc=>(hf r hr).2.2.2 c hc⟩
   obtain⟨h1,h2,h3,h4⟩:=hf r hr
   have hl:=(World.ownsRow.lt own g rfl).2
   refine⟨g,0,rfl,hl, ?_, ?_⟩
   · have:=World.ownsRow.cellAt own r (by omega)
     rw [Nat.zero_add,this]
     exact h1
   · obtain⟨A',C',e,nu⟩:=ownQ_nus h3 NvD
     rw [h2] at nu
     cases e
     exact nu
theorem wo_mat {B:Nat} {w:World} {Z:Nat→Nat→Nv} {j N:Nat} {u:Value} {vs:List Value} {v:Nat→Nat→Int} (hj:j<N+1) (own:OwnS B w u vs) (rows:RowsQ B w Z j (N+1) (N+1) vs) (hz:∀r,r<N+1→∀c,c<N+1→NumZ (-1074) 971 53 w (Z r c).val (v r c)) :
   ∃A C,u=.slice A N C∧MatV w A N (fun r c=>v (r+1) (skipN j c)):=by
 have ll:∀r,(cutL (Z (r+1)) j (N+1)).length=N:=fun r=>by rw [cutL_len,if_pos hj];omega
 refine rows_mat own rows.1 fun r hr=>?_
 obtain⟨A,C,h1,h2⟩:=rows.2 r hr
 rw [ll] at h1 h2
 refine⟨A,C,_,h1,ll r,h2,fun c hc=>?_⟩
 rw [cutL_get (Z (r+1)) j NvD (N+1) c (by rw [ll];exact hc)]
 exact hz (r+1) (by omega) _ (by unfold skipN;split <;> omega)
theorem grewQ (w:World) (o:Obj):Below w.heap.size w (w.alloc o):=by go_grown
theorem grewDQ (w:World) (o:Obj):Below w.heap.size w (w.alloc o).drew:=by go_grown
theorem h3_newQ (w:World) (x y z:Value) (T:TypeId):Has3 (w.alloc (.cells #[x,y,z] T)) w.heap.size x y z:=⟨by go_simp,by go_simp,by go_simp,by go_simp,by go_simp,by go_simp,by go_size⟩
theorem h3_newDQ (w:World) (x y z:Value) (T:TypeId):Has3 (w.alloc (.cells #[x,y,z] T)).drew w.heap.size x y z:=⟨by go_simp,by go_simp,by go_simp,by go_simp,by go_simp,by go_simp,by go_size⟩
theorem boxedDQ (w:World):Boxed (w.alloc (.cells #[.bool false,.slice none 0 0,.int .i64 0] 33)).drew w.heap.size:=(Boxed.new w #[.bool false,.slice none 0 0,.int .i64 0]).keep ((Below.refl _ _).drew)
theorem Has3.c0q {w:World} {b:Nat} {x y z:Value} (h:Has3 w b x y z):w.cell? ⟨b,0,none⟩=some x:=h.1
theorem Has3.c1q {w:World} {b:Nat} {x y z:Value} (h:Has3 w b x y z):w.cell? ⟨b,1,none⟩=some y:=h.2.1
theorem Has3.c2q {w:World} {b:Nat} {x y z:Value} (h:Has3 w b x y z):w.cell? ⟨b,2,none⟩=some z:=h.2.2.1
theorem Has3.ltq {w:World} {b:Nat} {x y z:Value} (h:Has3 w b x y z):w.heap.size≠b:=Nat.ne_of_gt h.2.2.2.2.2.2
abbrev set3 (w:World) (b:Nat) (x y z:Value):World:=((w.setCell ⟨b,0,none⟩ x).setCell ⟨b,1,none⟩ y).setCell ⟨b,2,none⟩ z
theorem NumZ.put3 {S T:Int} {K:Nat} {w:World} {x:Value} {z:Int} (h:NumZ S T K w x z) {b:Nat} (hb:Boxed w b) (u0 u1 u2:Value):NumZ S T K (set3 w b u0 u1 u2) x z:=by
 obtain⟨g,v,m,e,h1,h2,h3⟩:=h
 exact⟨g,v,m,e,h1,((h2.put hb 0 _).put (hb.set _ 0 _) 1 _).put ((hb.set _ 0 _).set _ 1 _) 2 _,h3⟩
theorem Boxed.set3 {w:World} {b:Nat} (h:Boxed w b) (c:Nat) (x y z:Value):Boxed (set3 w c x y z) b:=((h.set c 0 x).set c 1 y).set c 2 z
theorem Has3.set3 {w:World} {b:Nat} {x y z:Value} (h:Has3 w b x y z) (x' y' z':Value):Has3 (set3 w b x' y' z') b x' y' z':=Has3.put h x' y' z'
theorem Has3.far4 {w:World} {b c:Nat} {x y z:Value} (h:Has3 w b x y z) (hne:c≠b) (x' y' z':Value):Has3 (Go.Proofs.Ytfdomcnaaadedaa.set3 w c x' y' z') b x y z:=Has3.far h hne x' y' z'
theorem below_set3 {B:Nat} {w0 w:World} (h:Below B w0 w) {b:Nat} (hb:B≤b) (x y z:Value):Below B w0 (set3 w b x y z):=((h.setCell (p:=⟨b,0,none⟩) hb _).setCell (p:=⟨b,1,none⟩) hb _).setCell (p:=⟨b,2,none⟩) hb _
structure DtS (w wx:World) (sm:Nv) (S T:Int) (L:Nat) (s:Int):Prop where
 r:Has3 wx w.heap.size (.bool false) (.slice none 0 0) (.int .i64 0)
 m:Has3 wx (w.heap.size+1) (.bool sm.g) (.slice sm.a sm.l sm.c) (.int .i64 sm.e)
 br:Boxed wx w.heap.size
 bm:Boxed wx (w.heap.size+1)
 n:NumZ S T L wx sm.val s
 hb:Below w.heap.size w wx
theorem DtS.keep {w wx w2:World} {sm:Nv} {S T:Int} {L:Nat} {s:Int} (h:DtS w wx sm S T L s) (hb:Below wx.heap.size wx w2):DtS w w2 sm S T L s:=⟨h.r.keep hb,h.m.keep hb,h.br.keep hb,h.bm.keep hb,h.n.keep hb,later h.hb hb⟩
theorem DtS.far {w wx:World} {sm:Nv} {S T:Int} {L:Nat} {s:Int} (h:DtS w wx sm S T L s) {b:Nat} (hl:w.heap.size+1<b) (hb:Boxed wx b) (x y z:Value):DtS w (set3 wx b x y z) sm S T L s:=⟨h.r.far4 (by omega) x y z,h.m.far4 (by omega) x y z,h.br.set3 b x y z,h.bm.set3 b x y z,h.n.put3 hb x y z,below_set3 h.hb (by omega) x y z⟩
theorem DtS.sum {w wx:World} {sm:Nv} {S T:Int} {L:Nat} {s:Int} (h:DtS w wx sm S T L s) (nw:Nv) {L':Nat} {s':Int} (hn:NumZ S T L' wx nw.val s'):DtS w (set3 wx (w.heap.size+1) (.bool nw.g) (.slice nw.a nw.l nw.c) (.int .i64 nw.e)) nw S T L' s':=⟨h.r.far4 (by omega) _ _ _,h.m.set3 _ _ _,h.br.set3 _ _ _ _,h.bm.set3 _ _ _ _,hn.put3 h.bm _ _ _,below_set3 h.hb (by omega) _ _ _⟩
theorem DtS.lt {w wx:World} {sm:Nv} {S T:Int} {L:Nat} {s:Int} (h:DtS w wx sm S T L s):w.heap.size+1<wx.heap.size:=h.m.2.2.2.2.2.2
structure DcS (w wx:World) (sm d:Nv) (db:Nat) (S T:Int) (L K:Nat) (s p:Int):Prop where
 t:DtS w wx sm S T L s
 x:Has3 wx db (.bool d.g) (.slice d.a d.l d.c) (.int .i64 d.e)
 b:Boxed wx db
 n:NumZ S T K wx d.val p
 lt:w.heap.size+1<db
theorem DcS.keep {w wx w2:World} {sm d:Nv} {db:Nat} {S T:Int} {L K:Nat} {s p:Int} (h:DcS w wx sm d db S T L K s p) (hb:Below wx.heap.size wx w2):DcS w w2 sm d db S T L K s p:=⟨h.t.keep hb,h.x.keep hb,h.b.keep hb,h.n.keep hb,h.lt⟩
theorem DcS.put {w wx:World} {sm d:Nv} {db:Nat} {S T:Int} {L K:Nat} {s p:Int} (h:DcS w wx sm d db S T L K s p) (nw:Nv) {p':Int} (hn:NumZ S T K wx nw.val p'):DcS w (set3 wx db (.bool nw.g) (.slice nw.a nw.l nw.c) (.int .i64 nw.e)) sm nw db S T L K s p':=⟨h.t.far h.lt h.b _ _ _,h.x.set3 _ _ _,h.b.set3 _ _ _ _,hn.put3 h.b _ _ _,h.lt⟩
def DetC (N K:Nat):Prop:=∀(A:Option Addr) (C:Nat) (v:Nat→Nat→Int) (w:World),MatV w A N v →
   Calls Try.prog 7 #[.slice A N C] w fun e w'=>(∃x,e=.returned x∧NumZ (-1074*(N:Int)) (971*(N:Int)) K w' x (detZ N v))∧Below w.heap.size w w'
set_option maxHeartbeats 1000000 in
theorem det_0:DetC 0 53:=fun A C v w _=>by
 have R:Has3 (w.alloc (.cells #[.bool false,.slice none 0 0,.int .i64 0] 33)) w.heap.size (.bool false) (.slice none 0 0) (.int .i64 0):=h3_newQ w _ _ _ _
 have B:=Boxed.new w #[.bool false,.slice none 0 0,.int .i64 0]
 have HB:Below w.heap.size w (w.alloc (.cells #[.bool false,.slice none 0 0,.int .i64 0] 33)):=by go_grown
 have ci:=fun W=>int_z W
 go_enter Try.func7,Try.ntmps7
 go_wp2_with (go_at_call 24;(with_reducible refine (ci _).mono ?_);rintro _ W1 ⟨⟨v4,rfl,N4⟩,hb1⟩;obtain⟨g4,a4,l4,k4,e4,rfl⟩:=N4.shape;replace R:=R.keep hb1;replace B:=B.keep hb1;replace HB:=later HB hb1;clear hb1;obtain⟨r0,r1,r2,r3,r4,r5,r6⟩:=id R)
 refine bodyPost_ret (v:=.agg #[.bool g4,.slice a4 l4 k4,.int .i64 e4]) (by simp [results,Try.results7,go_sem, *]) rfl ⟨⟨_,rfl,(N4.wide (by omega) (by omega)).put3 B _ _ _⟩,below_set3 HB (Nat.le_refl _) _ _ _⟩
set_option maxRecDepth 4000 in
set_option maxHeartbeats 16000000 in
theorem det_step (N K:Nat) (hN:N≤2) (hK:53≤K) (hK2:K≤20000) (ih:DetC N K):DetC (N+1) (K+K+(N+1)*(2045*(N+1)+1)):=fun A C v w M=>by
 have hdet:Hid (detZ (N+1) v=detS (fun j=>v 0 j*detZ N (fun r c=>v (r+1) (skipN j c))) (N+1)):=rfl
 generalize hn:N+1=n at *
 obtain⟨RA,RC,Z,H,hz⟩:=M
 obtain⟨S,hS⟩:∃S:Int,S=-1074*(n:Int):=⟨_,rfl⟩
 obtain⟨T,hT⟩:∃T:Int,T=971*(n:Int):=⟨_,rfl⟩
 rw [←hS,←hT]
 obtain⟨b,o,eA,hb,cr,nus⟩:=H 0 (by omega)
 obtain⟨rb,ro,eR⟩:∃rb ro,RA 0=some ⟨rb,ro,none⟩:=by
   obtain⟨rb,ro,e, -⟩:=nus 0 (show 0<n by omega)
   exact⟨rb,ro,e⟩
 rw [eR] at cr nus
 have cw:∀(j:Nat),j<n→∀W,Below w.heap.size w W→Calls Try.prog 26 #[.slice A n C,.int .i64 0,.int .i64 (j:Int)] W fun e w'=>(∃Aw Cw,e=.returned (.slice Aw N Cw)∧MatV w' Aw N (fun r c=>v (r+1) (skipN j c)))∧Below W.heap.size W w':=fun j hj W hW =>
   (without_w A n n C RA RC Z j (by omega) (by omega) (by omega) W (H.keep hW)).mono fun e w' ⟨u,vs,he,own,rows,hb1⟩=>by
     obtain⟨Aw,Cw,rfl,m⟩:=wo_mat (N:=N) (j:=j) (show j<N+1 by omega) own (by rw [hn];exact rows) (v:=v) (fun r hr c hc=>((hz r (by omega) c (by omega)).keep hW).keep hb1)
     exact⟨⟨Aw,Cw,he,m⟩,hb1⟩
 have HH:Hid _:=nus
 have hz2:Hid _:=hz
 have n0:((n:Int)==0)=false:=by rw [beq_eq_false_iff_ne];omega
 have n1:(0:Int)<(n:Int):=by omega
 have n3:n≤3:=by omega
 clear nus hz H eR
 have D1:DtS w ((w.alloc (.cells #[.bool false,.slice none 0 0,.int .i64 0] 33)).alloc (.cells #[.bool false,.slice none 0 0,.int .i64 0] 33)) ⟨false,none,0,0,0⟩ S T (K+K) 0:=by
   have sz:(w.alloc (.cells #[.bool false,.slice none 0 0,.int .i64 0] 33)).heap.size=w.heap.size+1:=by simp
   refine⟨(h3_newQ w _ _ _ _).keep (grewQ _ _),by rw [←sz];exact h3_newQ _ _ _ _ _,(Boxed.new w _).keep (grewQ _ _),by rw [←sz];exact Boxed.new _ _, ?_,by go_grown⟩
   exact⟨false,.slice none 0 0,0,0,rfl,big_nil _,Nat.two_pow_pos _,by omega,by omega,by simp [sgnd]⟩
 subst eA
 go_enter Try.func7,Try.ntmps7
 replace cr:=keepsC D1.hb cr hb
 rw [Nat.add_zero] at cr
 have hn2:Hid _:=hn
 clear hn
 go_upto_region 5 with fail
 clear cr
 generalize (w.alloc (.cells #[.bool false,.slice none 0 0,.int .i64 0] 33)).alloc (.cells #[.bool false,.slice none 0 0,.int .i64 0] 33)=V0 at *
 go_loopg [16] (n) (fun G s16 wx=>∃(j:Nat) (sm:Nv),s16=.int .i64 (j:Int)∧j≤n∧j+G=n∧DtS w wx sm S T (K+K+j*(2045*n+1)) (detS (fun j=>v 0 j*detZ N (fun r c=>v (r+1) (skipN j c))) j))
 case atStart=>exact⟨0,_,rfl,by omega,by omega,by rw [Nat.zero_mul,Nat.add_zero];exact D1⟩
 case round =>
   clear D1
   obtain⟨j,sm,rfl,hj,hG,D⟩:=hrel
   obtain⟨L,hL⟩:∃L:Nat,L=K+K+j*(2045*n+1):=⟨_,rfl⟩
   rw [←hL] at D
   by_cases c:j<n
   · have ci:(j:Int)<(n:Int):=by omega
     obtain⟨b',o',eA,hb',x0,x1,x2⟩:=Nus.keep HH.out D.hb j c
     cases eA
     have NZ:=(((hz2.out 0 (by omega) j c).keep D.hb).wide (Int.le_refl _) hK)
     replace cw:=cw j c
     generalize Z 0 j=z at *
     obtain⟨zg,za,zl,zc,ze⟩:=z
     dsimp only [Nv.val] at NZ x0 x1 x2
     obtain⟨dj,hdj⟩:∃dj:Int,dj=detZ N (fun r c=>v (r+1) (skipN j c)):=⟨_,rfl⟩
     have cd:∀W Aw Cw,MatV W Aw N (fun r c=>v (r+1) (skipN j c))→Calls Try.prog 7 #[.slice Aw N Cw] W fun e w'=>(∃x,e=.returned x∧NumZ (-1074*(N:Int)) (971*(N:Int)) K w' x dj)∧Below W.heap.size W w':=fun W Aw Cw m=>by rw [hdj];exact ih Aw Cw _ W m
     obtain⟨pr,hpr⟩:∃pr:Int,pr=v 0 j*dj:=⟨_,rfl⟩
     have cp:∀W y,NumZ (-1074) 971 K W (.agg #[.bool zg,.slice za zl zc,.int .i64 ze]) (v 0 j)→NumZ (-1074*(N:Int)) (971*(N:Int)) K W y dj→Calls Try.prog 25 #[.agg #[.bool zg,.slice za zl zc,.int .i64 ze],y] W fun e w'=>(∃x,e=.returned x∧NumZ S T (K+K) w' x pr)∧Below W.heap.size W w':=fun W y p q=>by
       have:=prod_z (by omega) (by omega) (by omega) (by omega) p q
       rw [show (-1074:Int)+-1074*(N:Int)=S by have:=hn2.out;omega,show (971:Int)+971*(N:Int)=T by have:=hn2.out;omega,←hpr] at this
       exact this
     have cm:∀W y,NumZ S T (K+K) W y pr→Calls Try.prog 27 #[y] W fun e w'=>(∃x,e=.returned x∧NumZ S T (K+K) w' x (-pr))∧Below W.heap.size W w':=fun W y p=>minus_z p
     have hE:Hid (detS (fun j=>v 0 j*detZ N (fun r c=>v (r+1) (skipN j c))) (j+1)=detS (fun j=>v 0 j*detZ N (fun r c=>v (r+1) (skipN j c))) j+(if j%2=1 then -pr else pr)):=by
       show _=_
       rw [hpr,hdj];rfl
     have cs:∀W x y a p,NumZ S T L W x a→NumZ S T (K+K) W y p→Calls Try.prog 28 #[x,y] W fun e w'=>(∃x,e=.returned x∧NumZ S T (L+(2045*n+1)) w' x (a+p))∧Below W.heap.size W w':=fun W x y a p h1 h2 =>
       sum_z (K:=L) (by have:=hn2.out;have:j*(2045*n+1)≤3*6136:=Nat.mul_le_mul (by omega) (by omega);omega) (by have:=hn2.out;omega) (by have:=hn2.out;omega) (by have:=hn2.out;omega) h1 (h2.wide (Int.le_refl _) (by omega))
     have hL2:Hid (L+(2045*n+1)=K+K+(j+1)*(2045*n+1)):=by show _=_;rw [hL,Nat.add_mul,Nat.one_mul];omega
     generalize hs0:detS (fun j=>v 0 j*detZ N (fun r c=>v (r+1) (skipN j c))) j=s0 at *
     clear hdj hpr hL hz2 ih hs0
     go_upto_region 7 with fail
     have Y:Has3 (wr.alloc (.cells #[.bool zg,.slice za zl zc,.int .i64 ze] 33)) wr.heap.size (.bool zg) (.slice za zl zc) (.int .i64 ze):=h3_newQ wr _ _ _ _
     have h3:=grewQ wr (.cells #[.bool zg,.slice za zl zc,.int .i64 ze] 33)
     replace D:=D.keep h3
     replace NZ:=NZ.keep h3
     clear h3 x0 x1 x2
     generalize wr.alloc (.cells #[.bool zg,.slice za zl zc,.int .i64 ze] 33)=V2 at *
     generalize wr.heap.size=yb at *
     have D0:=D
     have Y0:=Y
     have NZ0:=NZ
     have HD:Below V2.heap.size V2 V2.drew:=(Below.refl _ _).drew
     replace D:=D.keep HD
     replace Y:=Y.keep HD
     replace NZ:=NZ.keep HD
     clear HD
     go_cut [6] from 21 to 26 (fun s6 wx=>∃db d,s6=.pointer (some ⟨db,0,none⟩)∧DcS w wx sm d db S T L (K+K) s0 pr)
     case first =>
       go_region_held3 (fun w'=>w'.cell? ⟨yb,0,none⟩=some (.bool zg)∧w'.cell? ⟨yb,1,none⟩=some (.slice za zl zc)∧w'.cell? ⟨yb,2,none⟩=some (.int .i64 ze)) (first | with_reducible exact⟨Y.c0q,Y.c1q,Y.c2q⟩ | with_reducible exact⟨(Y.keep (grewQ _ _)).c0q,(Y.keep (grewQ _ _)).c1q,(Y.keep (grewQ _ _)).c2q⟩ | with_reducible exact⟨(Y.far4 nzy _ _ _).c0q,(Y.far4 nzy _ _ _).c1q,(Y.far4 nzy _ _ _).c2q⟩ | with_reducible exact⟨(Y0.keep (grewDQ _ _)).c0q,(Y0.keep (grewDQ _ _)).c1q,(Y0.keep (grewDQ _ _)).c2q⟩ | go_keep)
         (first
     | (go_at_call 26;(first | (with_reducible refine (cw _ D.hb).mono ?_) | (with_reducible refine (cw _ (later D0.hb (grewDQ V2 (.cells #[.bool false,.slice none 0 0,.int .i64 0] 33)))).mono ?_));rintro _ W3 ⟨⟨Aw,Cw,rfl,Mw⟩,hb1⟩;(first | (replace D:=D.keep hb1;replace Y:=Y.keep hb1;replace NZ:=NZ.keep hb1;(first | (replace Zb:=Zb.keep hb1;replace BZ:=BZ.keep hb1) | skip);clear hb1) | (have zt0:=trivial;have zle:=D0.lt;have nzy:=Y0.ltq;have hb2:=later (grewDQ V2 (.cells #[.bool false,.slice none 0 0,.int .i64 0] 33)) hb1;have BZ:=(boxedDQ V2).keep hb1;have Zb:=(h3_newDQ V2 (.bool false) (.slice none 0 0) (.int .i64 0) 33).keep hb1;replace D:=D0.keep hb2;replace Y:=Y0.keep hb2;replace NZ:=NZ0.keep hb2;clear hb1 hb2)))
     | (go_at_call 7;(first | (with_reducible refine (cd _ _ _ Mw).mono ?_) | (with_reducible refine (cd _ _ _ (Mw.keep (grewQ W3 (.cells #[.bool false,.slice none 0 0,.int .i64 0] 33)))).mono ?_));rintro _ W4 ⟨⟨v4,rfl,N4⟩,hb1⟩;obtain⟨g4,a4,l4,k4,e4,rfl⟩:=N4.shape;(first | (replace D:=D.keep hb1;replace Y:=Y.keep hb1;replace NZ:=NZ.keep hb1;(first | (replace Zb:=Zb.keep hb1;replace BZ:=BZ.keep hb1) | skip);clear hb1) | (have zt1:=trivial;have zle:=D.lt;have nzy:=Y.ltq;have hb2:=later (grewQ W3 (.cells #[.bool false,.slice none 0 0,.int .i64 0] 33)) hb1;have BZ:=(Boxed.new W3 #[.bool false,.slice none 0 0,.int .i64 0]).keep hb1;have Zb:=(h3_newQ W3 (.bool false) (.slice none 0 0) (.int .i64 0) 33).keep hb1;replace D:=D.keep hb2;replace Y:=Y.keep hb2;replace NZ:=NZ.keep hb2;clear hb1 hb2)))
     | (go_at_call 25;(first | (with_reducible refine (cp _ _ NZ N4).mono ?_) | (with_reducible refine (cp _ _ (NZ.keep (grewQ W4 (.cells #[.bool false,.slice none 0 0,.int .i64 0] 33))) (N4.keep (grewQ W4 (.cells #[.bool false,.slice none 0 0,.int .i64 0] 33)))).mono ?_));rintro _ W5 ⟨⟨v5,rfl,N5⟩,hb1⟩;obtain⟨g5,a5,l5,k5,e5,rfl⟩:=N5.shape;(first | (replace D:=D.keep hb1;replace Y:=Y.keep hb1;replace NZ:=NZ.keep hb1;(first | (replace Zb:=Zb.keep hb1;replace BZ:=BZ.keep hb1;obtain⟨t0,t1,t2,t3,t4,t5,t6⟩:=id Zb) | skip);clear hb1) | (have zt2:=trivial;have zle:=D.lt;have nzy:=Y.ltq;have hb2:=later (grewQ W4 (.cells #[.bool false,.slice none 0 0,.int .i64 0] 33)) hb1;have BZ:=(Boxed.new W4 #[.bool false,.slice none 0 0,.int .i64 0]).keep hb1;have Zb:=(h3_newQ W4 (.bool false) (.slice none 0 0) (.int .i64 0) 33).keep hb1;replace D:=D.keep hb2;replace Y:=Y.keep hb2;replace NZ:=NZ.keep hb2;clear hb1 hb2;obtain⟨t0,t1,t2,t3,t4,t5,t6⟩:=id Zb))))
       all_goals
         (first
           | (have qz:=zt0;clear qz zt0;have T6:DcS w (((W5.setCell ⟨V2.heap.size,0,none⟩ (.bool g5)).setCell ⟨V2.heap.size,1,none⟩ (.slice a5 l5 k5)).setCell ⟨V2.heap.size,2,none⟩ (.int .i64 e5)) sm ⟨g5,a5,l5,k5,e5⟩ V2.heap.size S T L (K+K) s0 pr:=⟨D.far zle BZ _ _ _,Has3.set3 Zb _ _ _,Boxed.set3 BZ _ _ _ _,NumZ.put3 N5 BZ _ _ _,zle⟩;clear Zb BZ t0 t1 t2 t3 t4 t5 t6 D Y NZ N5 zle nzy;generalize (((W5.setCell ⟨V2.heap.size,0,none⟩ (.bool g5)).setCell ⟨V2.heap.size,1,none⟩ (.slice a5 l5 k5)).setCell ⟨V2.heap.size,2,none⟩ (.int .i64 e5))=VF at *;generalize V2.heap.size=db at *)
           | (have qz:=zt1;clear qz zt1;have T6:DcS w (((W5.setCell ⟨W3.heap.size,0,none⟩ (.bool g5)).setCell ⟨W3.heap.size,1,none⟩ (.slice a5 l5 k5)).setCell ⟨W3.heap.size,2,none⟩ (.int .i64 e5)) sm ⟨g5,a5,l5,k5,e5⟩ W3.heap.size S T L (K+K) s0 pr:=⟨D.far zle BZ _ _ _,Has3.set3 Zb _ _ _,Boxed.set3 BZ _ _ _ _,NumZ.put3 N5 BZ _ _ _,zle⟩;clear Zb BZ t0 t1 t2 t3 t4 t5 t6 D Y NZ N5 zle nzy;generalize (((W5.setCell ⟨W3.heap.size,0,none⟩ (.bool g5)).setCell ⟨W3.heap.size,1,none⟩ (.slice a5 l5 k5)).setCell ⟨W3.heap.size,2,none⟩ (.int .i64 e5))=VF at *;generalize W3.heap.size=db at *)
           | (have qz:=zt2;clear qz zt2;have T6:DcS w (((W5.setCell ⟨W4.heap.size,0,none⟩ (.bool g5)).setCell ⟨W4.heap.size,1,none⟩ (.slice a5 l5 k5)).setCell ⟨W4.heap.size,2,none⟩ (.int .i64 e5)) sm ⟨g5,a5,l5,k5,e5⟩ W4.heap.size S T L (K+K) s0 pr:=⟨D.far zle BZ _ _ _,Has3.set3 Zb _ _ _,Boxed.set3 BZ _ _ _ _,NumZ.put3 N5 BZ _ _ _,zle⟩;clear Zb BZ t0 t1 t2 t3 t4 t5 t6 D Y NZ N5 zle nzy;generalize (((W5.setCell ⟨W4.heap.size,0,none⟩ (.bool g5)).setCell ⟨W4.heap.size,1,none⟩ (.slice a5 l5 k5)).setCell ⟨W4.heap.size,2,none⟩ (.int .i64 e5))=VF at *;generalize W4.heap.size=db at *)
           | (have hbF:=grewQ W5 (.cells #[.bool g5,.slice a5 l5 k5,.int .i64 e5] 33);have T6:DcS w (W5.alloc (.cells #[.bool g5,.slice a5 l5 k5,.int .i64 e5] 33)) sm ⟨g5,a5,l5,k5,e5⟩ W5.heap.size S T L (K+K) s0 pr:=⟨D.keep hbF,h3_newQ W5 _ _ _ _,Boxed.new W5 _,N5.keep hbF,D.lt⟩;clear hbF D Y NZ N5;generalize W5.alloc (.cells #[.bool g5,.slice a5 l5 k5,.int .i64 e5] 33)=VF at *;generalize W5.heap.size=db at *))
         go_wp2_with fail
         go_meet
         case rel=>exact⟨_,_,rfl,T6⟩
     case rest =>
       clear D Y NZ D0 Y0 NZ0 cw cd cp
       obtain⟨db,d,rfl,E⟩:=hcut
       obtain⟨dg,da,dl,dc,de⟩:=d
       obtain⟨sg,sa,sl,sc,se⟩:=sm
       have ne1:db≠w.heap.size+1:=by have:=E.lt;omega
       have nn:=E.t.n
       have nd:=E.n
       dsimp only [Nv.val] at nn nd
       obtain⟨m0,m1,m2,m3,m4,m5,m6⟩:=id E.t.m
       obtain⟨e0,e1,e2,e3,e4,e5,e6⟩:=id E.x
       dsimp only at m0 m1 m2 e0 e1 e2
       by_cases hp:j%2=1
       · have tm:Int.tmod (j:Int) 2=1:=by rw [Int.tmod_eq_emod_of_nonneg (by omega)];omega
         rw [if_pos hp] at hE
         clear hp
         go_upto_region 10 with (go_at_call 27;(with_reducible refine (cm _ _ nd).mono ?_);rintro _ W6 ⟨⟨v6,rfl,N6⟩,hb1⟩;obtain⟨g6,a6,l6,k6,q6,rfl⟩:=N6.shape;replace E:=E.keep hb1;clear hb1 nn nd m0 m1 m2 m3 m4 m5 m6 e0 e1 e2 e3 e4 e5 e6;obtain⟨e0,e1,e2,e3,e4,e5,e6⟩:=id E.x)
         have E2:DcS w (((W6.setCell ⟨db,0,none⟩ (.bool g6)).setCell ⟨db,1,none⟩ (.slice a6 l6 k6)).setCell ⟨db,2,none⟩ (.int .i64 q6)) ⟨sg,sa,sl,sc,se⟩ ⟨g6,a6,l6,k6,q6⟩ db S T L (K+K) s0 (-pr):=E.put ⟨g6,a6,l6,k6,q6⟩ N6
         clear E N6 e0 e1 e2 e3 e4 e5 e6
         generalize (((W6.setCell ⟨db,0,none⟩ (.bool g6)).setCell ⟨db,1,none⟩ (.slice a6 l6 k6)).setCell ⟨db,2,none⟩ (.int .i64 q6))=V6 at *
         have E:=E2
         clear E2
         have nn:=E.t.n
         have nd:=E.n
         dsimp only [Nv.val] at nn nd
         obtain⟨m0,m1,m2,m3,m4,m5,m6⟩:=id E.t.m
         obtain⟨e0,e1,e2,e3,e4,e5,e6⟩:=id E.x
         dsimp only at m0 m1 m2 e0 e1 e2
         go_wp2_with (go_at_call 28;(with_reducible refine (cs _ _ _ _ _ nn nd).mono ?_);rintro _ W7 ⟨⟨v7,rfl,N7⟩,hb1⟩;obtain⟨g7,a7,l7,k7,q7,rfl⟩:=N7.shape;replace E:=E.keep hb1;clear hb1 nn nd m0 m1 m2 m3 m4 m5 m6 e0 e1 e2 e3 e4 e5 e6;obtain⟨m0,m1,m2,m3,m4,m5,m6⟩:=id E.t.m)
         (go_roundg (n-j-1)
          case measure=>omega
          case rel=>exact⟨j+1,⟨g7,a7,l7,k7,q7⟩,by go_num,by omega,by omega,by rw [←hL2.out,hE.out];exact E.t.sum ⟨g7,a7,l7,k7,q7⟩ N7⟩)
       · have tm:Int.tmod (j:Int) 2=0:=by rw [Int.tmod_eq_emod_of_nonneg (by omega)];omega
         rw [if_neg hp] at hE
         clear hp
         go_wp2_with (go_at_call 28;(with_reducible refine (cs _ _ _ _ _ nn nd).mono ?_);rintro _ W7 ⟨⟨v7,rfl,N7⟩,hb1⟩;obtain⟨g7,a7,l7,k7,q7,rfl⟩:=N7.shape;replace E:=E.keep hb1;clear hb1 nn nd m0 m1 m2 m3 m4 m5 m6 e0 e1 e2 e3 e4 e5 e6;obtain⟨m0,m1,m2,m3,m4,m5,m6⟩:=id E.t.m)
         (go_roundg (n-j-1)
          case measure=>omega
          case rel=>exact⟨j+1,⟨g7,a7,l7,k7,q7⟩,by go_num,by omega,by omega,by rw [←hL2.out,hE.out];exact E.t.sum ⟨g7,a7,l7,k7,q7⟩ N7⟩)
   · have ci:¬(j:Int)<(n:Int):=by omega
     obtain rfl:j=n:=by omega
     obtain⟨sg,sa,sl,sc,se⟩:=sm
     obtain⟨m0,m1,m2,m3,m4,m5,m6⟩:=id D.m
     obtain⟨r0,r1,r2,r3,r4,r5,r6⟩:=id D.r
     dsimp only at m0 m1 m2
     have nn:=D.n
     dsimp only [Nv.val] at nn
     rw [hL,←hdet.out,hS,hT] at nn
     clear hdet cw HH hz2 hL ih
     go_wp2_with fail
     refine bodyPost_ret (v:=.agg #[.bool sg,.slice sa sl sc,.int .i64 se]) (by simp [results,Try.results7,go_sem, *]) rfl ⟨⟨_,rfl,nn.put3 D.br _ _ _⟩,below_set3 D.hb (Nat.le_refl _) _ _ _⟩
end Go.Proofs.Ytfdomcnaaadedaa
