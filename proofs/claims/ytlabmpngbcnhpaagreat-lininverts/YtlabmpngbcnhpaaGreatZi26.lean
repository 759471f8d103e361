/- The reference's determinant: its parts. The reference's matrix without any row and a column: the walk. -/
import Derived.Test.YtlabmpngbcnhpaaGreatZi24
import Derived.Test.YtlabmpngbcnhpaaGreatZi25
import Derived.Test.YtlabmpngbcnhpaaGreatZi18
namespace Go.Proofs.YtlabmpngbcnhpaaGreat
open Go.ChangeShapes Go.WideShapes Go.ChangeAt Go.RowKit
set_option maxHeartbeats 1000000 in
theorem minus_z {S T:Int} {K:Nat} {w:World} {x:Value} {z:Int} (h:NumZ S T K w x z) :
   Calls Tryz.prog 31 #[x] w fun r w'=>(∃v,r=.returned v∧NumZ S T K w' v (-z))∧Below w.heap.size w w':=by
 obtain⟨g,v,m,e,rfl,a2,hm,hS,hT,hz⟩:=h
 obtain⟨ao,l,ca,rfl,hl⟩:=a2.shape
 have X:Has3 (w.alloc (.cells #[.bool g,.slice ao l ca,.int .i64 e] 56)) w.heap.size (.bool g) (.slice ao l ca) (.int .i64 e):=⟨by go_simp,by go_simp,by go_simp,by go_simp,by go_simp,by go_simp,by go_size⟩
 have fin:∀w',BigIs w' (.slice ao l ca) m→NumZ S T K w' (.agg #[.bool (!g&&decide (0<l)),.slice ao l ca,.int .i64 e]) (-z):=fun w' hw=>by
   refine⟨_,_,m,e,rfl,hw,hm,hS,hT, ?_⟩
   rw [←hz]
   by_cases c:m=0
   · have:l=0:=hl.2 c
     subst c this
     simp [sgnd]
   · have:l≠0:=fun q=>c (hl.1 q)
     rw [decide_eq_true (show 0<l by omega)]
     cases g <;> simp [sgnd]
 have HB:Below w.heap.size w (w.alloc (.cells #[.bool g,.slice ao l ca,.int .i64 e] 56)):=by go_grown
 clear hl hm hS hT hz
 obtain⟨x0,x1,x2,x3,x4,x5,xl⟩:=id X
 cases g
 all_goals
   go_enter Tryz.func31,Tryz.ntmps31
   go_wp2_with fail
 · refine bodyPost_ret (v:=.agg #[.bool (decide (0<l)),.slice ao l ca,.int .i64 e]) (by simp [results,Tryz.results31,go_sem, *]) rfl ⟨⟨_,rfl,fin _ (a2.keep (by go_grown))⟩,by go_grown⟩
 · refine bodyPost_ret (v:=.agg #[.bool false,.slice ao l ca,.int .i64 e]) (by simp [results,Tryz.results31,go_sem, *]) rfl ⟨⟨_,rfl,fin _ (a2.keep (by go_grown))⟩,by go_grown⟩
def detS (d:Nat→Int):Nat→Int
 | 0=>0
 | j+1=>detS d j+(if j%2=1 then -(d j) else d j)
def detZ:Nat→(Nat→Nat→Int)→Int
 | 0,_=>1
 | n+1,v=>detS (fun j=>v 0 j*detZ n (fun r c=>v (r+1) (skipN j c))) (n+1)
def MatV (w:World) (A:Option Addr) (N:Nat) (v:Nat→Nat→Int):Prop:=∃RA RC Z,Nrs w A N RA (fun _=>N) RC Z∧∀r,r<N→∀c,c<N→NumZ (-1074) 971 53 w (Z r c).val (v r c)
theorem MatV.keep {w w2:World} {A:Option Addr} {N:Nat} {v:Nat→Nat→Int} (h:MatV w A N v) (hb:Below w.heap.size w w2):MatV w2 A N v:=by
 obtain⟨RA,RC,Z,H,k⟩:=h
 exact⟨RA,RC,Z,H.keep hb,fun r hr c hc=>(k r hr c hc).keep hb⟩
theorem cutL_get (Z:Nat→Nv) (j:Nat) (d:Nv):∀M c,c<(cutL Z j M).length→(cutL Z j M).getD c d=Z (skipN j c):=by
 intro M
 induction M with
 | zero=>intro c hc;exact absurd hc (by simp [cutL])
 | succ M ih =>
   intro c hc
   by_cases e:M=j
   · subst e
     rw [cutL_here] at hc ⊢
     exact ih c hc
   · rw [cutL_step Z e] at hc ⊢
     by_cases k:c<(cutL Z j M).length
     · rw [←ih c k]
       simp [List.getD,List.getElem?_append_left k]
     · rw [List.length_append,List.length_cons,List.length_nil] at hc
       have hl:=cutL_len Z j M
       have ec:c=(cutL Z j M).length:=by omega
       have:skipN j c=M:=by
         unfold skipN
         rw [hl] at ec
         split at ec <;> split <;> omega
       rw [this,ec]
       simp [List.getD]
theorem rows_mat {B:Nat} {w:World} {N:Nat} {u:Value} {vs:List Value} {v:Nat→Nat→Int} (own:OwnS B w u vs) (hv:vs.length=N) (rows:∀r,r<N→∃A C T,vs[r]?=some (.slice A N C)∧T.length=N∧OwnQ B w (.slice A N C) T∧∀c,c<N→NumZ (-1074) 971 53 w (T.getD c NvD).val (v r c)):∃A C,u=.slice A N C∧MatV w A N v:=by
 have sk:∀r,∃p:Option Addr×Nat×List Nv,r<N→vs[r]?=some (.slice p.1 N p.2.1)∧p.2.2.length=N∧OwnQ B w (.slice p.1 N p.2.1) p.2.2∧∀c,c<N→NumZ (-1074) 971 53 w (p.2.2.getD c NvD).val (v r c):=fun r=>by
   by_cases hr:r<N
   · obtain⟨A,C,T,h⟩:=rows r hr
     exact⟨(A,C,T),fun _=>h⟩
   · exact⟨(none,0,[]),fun h=>absurd h hr⟩
 obtain⟨f,hf⟩:=Classical.skolem.1 sk
 have own':w.ownsRow B 83 1 u vs.length vs:=own
 rcases own'.2 with ⟨rfl,hn⟩ | ⟨g,cap,cur,rfl, -⟩
 · have:N=0:=by rw [←hv,hn]
   subst this
   exact⟨none,0,rfl,fun _=>none,fun _=>0,fun _ _=>NvD,fun r hr=>by omega,fun r hr=>by omega⟩
 · refine⟨_,cap,by rw [hv],fun r=>(f r).1,fun r=>(f r).2.1,fun r c=>(f r).2.2.getD c NvD,fun r hr=>?_,fun r hr c hc=>(hf r hr).2.2.2 c hc⟩
   obtain⟨h1,h2,h3,h4⟩:=hf r hr
   have hl:=(World.ownsRow.lt own g rfl).2
   refine⟨g,0,rfl,hl, ?_, ?_⟩
   · have:=World.ownsRow.cellAt own r (by omega)
     rw [Nat.zero_add,this]
     exact h1
   · obtain⟨A',C',e,nu⟩:=ownQ_nus h3 NvD
     rw [h2] at nu
     cases e
     exact nu
theorem wo_mat {B:Nat} {w:World} {Z:Nat→Nat→Nv} {j N:Nat} {u:Value} {vs:List Value} {v:Nat→Nat→Int} (hj:j<N+1) (own:OwnS B w u vs) (rows:RowsQ B w Z j (N+1) (N+1) vs) (hz:∀r,r<N+1→∀c,c<N+1→NumZ (-1074) 971 53 w (Z r c).val (v r c)) :
   ∃A C,u=.slice A N C∧MatV w A N (fun r c=>v (r+1) (skipN j c)):=by
 have ll:∀r,(cutL (Z (r+1)) j (N+1)).length=N:=fun r=>by rw [cutL_len,if_pos hj];omega
 refine rows_mat own rows.1 fun r hr=>?_
 obtain⟨A,C,h1,h2⟩:=rows.2 r hr
 rw [ll] at h1 h2
 refine⟨A,C,_,h1,ll r,h2,fun c hc=>?_⟩
 rw [cutL_get (Z (r+1)) j NvD (N+1) c (by rw [ll];exact hc)]
 exact hz (r+1) (by omega) _ (by unfold skipN;split <;> omega)
theorem grewQ (w:World) (o:Obj):Below w.heap.size w (w.alloc o):=by go_grown
theorem grewDQ (w:World) (o:Obj):Below w.heap.size w (w.alloc o).drew:=by go_grown
theorem h3_newQ (w:World) (x y z:Value) (T:TypeId):Has3 (w.alloc (.cells #[x,y,z] T)) w.heap.size x y z:=⟨by go_simp,by go_simp,by go_simp,by go_simp,by go_simp,by go_simp,by go_size⟩
theorem h3_newDQ (w:World) (x y z:Value) (T:TypeId):Has3 (w.alloc (.cells #[x,y,z] T)).drew w.heap.size x y z:=⟨by go_simp,by go_simp,by go_simp,by go_simp,by go_simp,by go_simp,by go_size⟩
theorem boxedDQ (w:World):Boxed (w.alloc (.cells #[.bool false,.slice none 0 0,.int .i64 0] 56)).drew w.heap.size:=(Boxed.new w #[.bool false,.slice none 0 0,.int .i64 0]).keep ((Below.refl _ _).drew)
theorem Has3.c0q {w:World} {b:Nat} {x y z:Value} (h:Has3 w b x y z):w.cell? ⟨b,0,none⟩=some x:=h.1
theorem Has3.c1q {w:World} {b:Nat} {x y z:Value} (h:Has3 w b x y z):w.cell? ⟨b,1,none⟩=some y:=h.2.1
theorem Has3.c2q {w:World} {b:Nat} {x y z:Value} (h:Has3 w b x y z):w.cell? ⟨b,2,none⟩=some z:=h.2.2.1
theorem Has3.ltq {w:World} {b:Nat} {x y z:Value} (h:Has3 w b x y z):w.heap.size≠b:=Nat.ne_of_gt h.2.2.2.2.2.2
abbrev set3 (w:World) (b:Nat) (x y z:Value):World:=((w.setCell ⟨b,0,none⟩ x).setCell ⟨b,1,none⟩ y).setCell ⟨b,2,none⟩ z
theorem NumZ.put3 {S T:Int} {K:Nat} {w:World} {x:Value} {z:Int} (h:NumZ S T K w x z) {b:Nat} (hb:Boxed w b) (u0 u1 u2:Value):NumZ S T K (set3 w b u0 u1 u2) x z:=by
 obtain⟨g,v,m,e,h1,h2,h3⟩:=h
 exact⟨g,v,m,e,h1,((h2.put hb 0 _).put (hb.set _ 0 _) 1 _).put ((hb.set _ 0 _).set _ 1 _) 2 _,h3⟩
theorem Boxed.set3 {w:World} {b:Nat} (h:Boxed w b) (c:Nat) (x y z:Value):Boxed (set3 w c x y z) b:=((h.set c 0 x).set c 1 y).set c 2 z
theorem Has3.set3 {w:World} {b:Nat} {x y z:Value} (h:Has3 w b x y z) (x' y' z':Value):Has3 (set3 w b x' y' z') b x' y' z':=Has3.put h x' y' z'
theorem Has3.far4 {w:World} {b c:Nat} {x y z:Value} (h:Has3 w b x y z) (hne:c≠b) (x' y' z':Value):Has3 (Go.Proofs.YtlabmpngbcnhpaaGreat.set3 w c x' y' z') b x y z:=Has3.far h hne x' y' z'
theorem below_set3 {B:Nat} {w0 w:World} (h:Below B w0 w) {b:Nat} (hb:B≤b) (x y z:Value):Below B w0 (set3 w b x y z):=((h.setCell (p:=⟨b,0,none⟩) hb _).setCell (p:=⟨b,1,none⟩) hb _).setCell (p:=⟨b,2,none⟩) hb _
structure DtS (w wx:World) (sm:Nv) (S T:Int) (L:Nat) (s:Int):Prop where
 r:Has3 wx w.heap.size (.bool false) (.slice none 0 0) (.int .i64 0)
 m:Has3 wx (w.heap.size+1) (.bool sm.g) (.slice sm.a sm.l sm.c) (.int .i64 sm.e)
 br:Boxed wx w.heap.size
 bm:Boxed wx (w.heap.size+1)
 n:NumZ S T L wx sm.val s
 hb:Below w.heap.size w wx
theorem DtS.keep {w wx w2:World} {sm:Nv} {S T:Int} {L:Nat} {s:Int} (h:DtS w wx sm S T L s) (hb:Below wx.heap.size wx w2):DtS w w2 sm S T L s:=⟨h.r.keep hb,h.m.keep hb,h.br.keep hb,h.bm.keep hb,h.n.keep hb,later h.hb hb⟩
theorem DtS.far {w wx:World} {sm:Nv} {S T:Int} {L:Nat} {s:Int} (h:DtS w wx sm S T L s) {b:Nat} (hl:w.heap.size+1<b) (hb:Boxed wx b) (x y z:Value):DtS w (set3 wx b x y z) sm S T L s:=⟨h.r.far4 (by omega) x y z,h.m.far4 (by omega) x y z,h.br.set3 b x y z,h.bm.set3 b x y z,h.n.put3 hb x y z,below_set3 h.hb (by omega) x y z⟩
theorem DtS.sum {w wx:World} {sm:Nv} {S T:Int} {L:Nat} {s:Int} (h:DtS w wx sm S T L s) (nw:Nv) {L':Nat} {s':Int} (hn:NumZ S T L' wx nw.val s'):DtS w (set3 wx (w.heap.size+1) (.bool nw.g) (.slice nw.a nw.l nw.c) (.int .i64 nw.e)) nw S T L' s':=⟨h.r.far4 (by omega) _ _ _,h.m.set3 _ _ _,h.br.set3 _ _ _ _,h.bm.set3 _ _ _ _,hn.put3 h.bm _ _ _,below_set3 h.hb (by omega) _ _ _⟩
theorem DtS.lt {w wx:World} {sm:Nv} {S T:Int} {L:Nat} {s:Int} (h:DtS w wx sm S T L s):w.heap.size+1<wx.heap.size:=h.m.2.2.2.2.2.2
structure DcS (w wx:World) (sm d:Nv) (db:Nat) (S T:Int) (L K:Nat) (s p:Int):Prop where
 t:DtS w wx sm S T L s
 x:Has3 wx db (.bool d.g) (.slice d.a d.l d.c) (.int .i64 d.e)
 b:Boxed wx db
 n:NumZ S T K wx d.val p
 lt:w.heap.size+1<db
theorem DcS.keep {w wx w2:World} {sm d:Nv} {db:Nat} {S T:Int} {L K:Nat} {s p:Int} (h:DcS w wx sm d db S T L K s p) (hb:Below wx.heap.size wx w2):DcS w w2 sm d db S T L K s p:=⟨h.t.keep hb,h.x.keep hb,h.b.keep hb,h.n.keep hb,h.lt⟩
theorem DcS.put {w wx:World} {sm d:Nv} {db:Nat} {S T:Int} {L K:Nat} {s p:Int} (h:DcS w wx sm d db S T L K s p) (nw:Nv) {p':Int} (hn:NumZ S T K wx nw.val p'):DcS w (set3 wx db (.bool nw.g) (.slice nw.a nw.l nw.c) (.int .i64 nw.e)) sm nw db S T L K s p':=⟨h.t.far h.lt h.b _ _ _,h.x.set3 _ _ _,h.b.set3 _ _ _ _,hn.put3 h.b _ _ _,h.lt⟩
def RowsI (B:Nat) (w:World) (Z:Nat→Nat→Nv) (i0 j M k:Nat) (vs:List Value):Prop:=vs.length=(if i0<k then k-1 else k)∧∀r,r<vs.length→∃A C,vs[r]?=some (.slice A (cutL (Z (skipN i0 r)) j M).length C)∧OwnQ B w (.slice A (cutL (Z (skipN i0 r)) j M).length C) (cutL (Z (skipN i0 r)) j M)
theorem RowsI.keep {B:Nat} {w w2:World} {Z:Nat→Nat→Nv} {i0 j M k:Nat} {vs:List Value} (h:RowsI B w Z i0 j M k vs) (hb:Below w.heap.size w w2):RowsI B w2 Z i0 j M k vs:=by
 refine⟨h.1,fun r hr=>?_⟩
 obtain⟨A,C,h1,h2⟩:=h.2 r hr
 exact⟨A,C,h1,h2.keep hb⟩
theorem RowsI.skip {B:Nat} {w:World} {Z:Nat→Nat→Nv} {i0 j M k:Nat} {vs:List Value} (h:RowsI B w Z i0 j M k vs) (hk:k=i0):RowsI B w Z i0 j M (k+1) vs:=by
 refine⟨?_,h.2⟩
 have:=h.1
 rw [if_neg (by omega)] at this
 rw [if_pos (by omega)]
 omega
theorem RowsI.push {B:Nat} {w w2:World} {Z:Nat→Nat→Nv} {i0 j M k:Nat} {vs:List Value} (h:RowsI B w Z i0 j M k vs) (hk:¬k=i0) (hw:∀u T,OwnQ B w u T→OwnQ B w2 u T) {A:Option Addr} {C:Nat} (hn:OwnQ B w (.slice A (cutL (Z k) j M).length C) (cutL (Z k) j M)):RowsI B w2 Z i0 j M (k+1) (vs++[.slice A (cutL (Z k) j M).length C]):=by
 have hl:=h.1
 have es:skipN i0 vs.length=k:=by
   unfold skipN
   split at hl <;> split <;> omega
 refine⟨by rw [List.length_append,List.length_cons,List.length_nil];split at hl <;> split <;> omega,fun r hr=>?_⟩
 rw [List.length_append,List.length_cons,List.length_nil] at hr
 by_cases c:r<vs.length
 · obtain⟨A',C',h1,h2⟩:=h.2 r c
   exact⟨A',C',by rw [List.getElem?_append_left c];exact h1,hw _ _ h2⟩
 · obtain rfl:r=vs.length:=by omega
   rw [es]
   exact⟨A,C,by rw [List.getElem?_append_right (by omega),Nat.sub_self];rfl,hw _ _ hn⟩
def WoAnsI (w:World) (Z:Nat→Nat→Nv) (i0 j M N:Nat) (e:Ending) (w':World):Prop:=∃v vs,e=.returned v∧OwnS w.heap.size w' v vs∧RowsI w.heap.size w' Z i0 j M N vs∧Below w.heap.size w w'
set_option maxHeartbeats 4000000 in
theorem withoutI_w (A:Option Addr) (N M C:Nat) (RA:Nat→Option Addr) (RC:Nat→Nat) (Z:Nat→Nat→Nv) (i0 j:Nat) (hN:N≤1000) (hM:M≤1000) (hM0:0<M) (w:World) (H:Nrs w A N RA (fun _=>M) RC Z) :
   Calls Tryz.prog 30 #[.slice A N C,.int .i64 (i0:Int),.int .i64 (j:Int)] w fun e w'=>WoAnsI w Z i0 j M N e w':=by
 have HH:Hid _:=H
 have Ni:(N:Int)≤1000:=by omega
 have Mi:(M:Int)≤1000:=by omega
 have HB0:Below w.heap.size w (w.alloc (.cells #[] 83)):=by go_grown
 have own0:=ownS_empty w
 clear H
 go_enter Tryz.func30,Tryz.ntmps30
 go_upto_region 3 with fail
 generalize w.alloc (.cells #[] 83)=V0 at *
 go_loopg [7,16] N (fun G s7 s16 wx=>∃(k:Nat) (vs:List Value),s16=.int .i64 (k:Int)∧k≤N∧k+G=N∧OwnS w.heap.size wx s7 vs∧RowsI w.heap.size wx Z i0 j M k vs∧Below w.heap.size w wx)
 case atStart=>exact⟨0,[],rfl,by omega,by omega,own0,⟨by simp,fun r hr=>by simp at hr⟩,HB0⟩
 case round =>
   clear own0 HB0
   obtain⟨k,vs,rfl,hk,hG,own,rows,HB⟩:=hrel
   obtain⟨A7,C7,rfl⟩:=own.form
   by_cases c:k<N
   · have ci:(k:Int)<(N:Int):=by omega
     obtain⟨b,o,eA,hb,cr,nus⟩:=HH.out k c
     subst eA
     replace cr:=keepsC HB cr hb
     replace nus:=nus.keep HB
     by_cases k0:k=i0
     · have k0i:((k:Int)==(i0:Int))=true:=by rw [beq_iff_eq];omega
       have k1:Hid (k=i0):=k0
       clear HH nus k0
       go_wp2_with fail
       (go_roundg (N-k-1)
        case measure=>omega
        case rel=>exact⟨k+1,vs,by go_num,by omega,by omega,own,rows.skip k1.out,HB⟩)
     · have k0i:((k:Int)==(i0:Int))=false:=by rw [beq_eq_false_iff_ne];omega
       obtain⟨rb,ro,eR⟩:∃rb ro,RA k=some ⟨rb,ro,none⟩:=by
         obtain⟨rb,ro,e, -⟩:=nus 0 hM0
         exact⟨rb,ro,e⟩
       rw [eR] at cr nus
       clear eR
       go_upto_region 8 with fail
       have h2:Below wr.heap.size wr (wr.alloc (.cells #[] 56)):=by go_grown
       have q0:=ownQ_empty wr
       have nus2:Hid _:=nus
       clear nus cr HH
       generalize wr.alloc (.cells #[] 56)=V1 at *
       go_loopg [10,27] M (fun G s10 s27 wx=>∃i:Nat,s27=.int .i64 (i:Int)∧i≤M∧i+G=M∧OwnQ wr.heap.size wx s10 (cutL (Z k) j i)∧Below wr.heap.size wr wx)
       case atStart=>exact⟨0,rfl,by omega,by omega,q0,h2⟩
       case round =>
         clear q0 h2
         obtain⟨i,rfl,hi,hGi,q,HBi⟩:=hrel
         obtain⟨A10,C10,rfl⟩:=q.form
         by_cases c2:i<M
         · have c2i:(i:Int)<(M:Int):=by omega
           obtain⟨b',o',eA,hb',x0,x1,x2⟩:=Nus.keep nus2.out HBi i c2
           cases eA
           have cl:(cutL (Z k) j i).length≤1000:=by rw [cutL_len];split <;> omega
           clear nus2
           go_upto_region 10 with fail
           have h3:Below wr.heap.size wr (wr.alloc (.cells #[.bool (Z k i).g,.slice (Z k i).a (Z k i).l (Z k i).c,.int .i64 (Z k i).e] 56)):=by go_grown
           have Y:Has3 (wr.alloc (.cells #[.bool (Z k i).g,.slice (Z k i).a (Z k i).l (Z k i).c,.int .i64 (Z k i).e] 56)) wr.heap.size (.bool (Z k i).g) (.slice (Z k i).a (Z k i).l (Z k i).c) (.int .i64 (Z k i).e):=⟨by go_simp,by go_simp,by go_simp,by go_simp,by go_simp,by go_simp,by go_size⟩
           replace q:=q.keep h3
           replace HBi:=later HBi h3
           clear h3 x0 x1 x2
           generalize wr.alloc (.cells #[.bool (Z k i).g,.slice (Z k i).a (Z k i).l (Z k i).c,.int .i64 (Z k i).e] 56)=V2 at *
           by_cases e:i=j
           · have ne:((i:Int) != (j:Int))=false:=by rw [bne_eq_false_iff_eq];omega
             have ce:Hid (cutL (Z k) j (i+1)=cutL (Z k) j i):=by show _=_;rw [e];exact cutL_here _ _
             clear Y
             go_wp2_with fail
             (go_roundg (M-i-1)
              case measure=>omega
              case rel=>exact⟨i+1,by go_num,by omega,by omega,by rw [ce.out];exact q,HBi⟩)
           · have ne:((i:Int) != (j:Int))=true:=by rw [bne_iff_ne];omega
             have cs:=cutL_step (Z k) e
             obtain⟨y0,y1,y2,y3,y4,y5,y6⟩:=id Y
             go_wp2_with (at_builtin;refine wpList_pushQ (by rfl) _ _ (by rfl) _ (cutL (Z k) j i) (Z k i) (by rfl) (by rfl) q (by omega) HBi.size HBi ?_;intro v' w' own' HB2 _ _ _ _)
             rw [←cs] at own'
             (go_roundg (M-i-1)
              case measure=>omega
              case rel=>exact⟨i+1,by go_num,by omega,by omega,own',HB2⟩)
         · have c2i:¬(i:Int)<(M:Int):=by omega
           obtain rfl:i=M:=by omega
           have hvl:vs.length≤1000:=by have:=rows.1;split at this <;> omega
           replace own:=own.keep HBi
           replace rows:=rows.keep HBi
           have sz:=HB.size
           have q2:=q.base sz
           replace HB:=later HB HBi
           clear nus2
           go_wp2_with (at_builtin;refine wpList_pushS (by rfl) _ _ (by rfl) _ vs A10 (cutL (Z k) j i).length C10 (by rfl) (by rfl) own (by omega) HB.size HB ?_;intro v' w' own' HB2 _ _ kp _)
           (go_roundg (N-k-1)
            case measure=>omega
            case rel=>exact⟨k+1,_,by go_num,by omega,by omega,own',rows.push k0 kp q2,HB2⟩)
   · have ci:¬(k:Int)<(N:Int):=by omega
     obtain rfl:k=N:=by omega
     clear HH
     go_wp2_with fail
     go_ret
     exact⟨_,vs,rfl,own,rows,HB⟩
theorem wo_matI {B:Nat} {w:World} {Z:Nat→Nat→Nv} {i0 j N:Nat} {u:Value} {vs:List Value} {v:Nat→Nat→Int} (hi:i0<N+1) (hj:j<N+1) (own:OwnS B w u vs) (rows:RowsI B w Z i0 j (N+1) (N+1) vs) (hz:∀r,r<N+1→∀c,c<N+1→NumZ (-1074) 971 53 w (Z r c).val (v r c)) :
   ∃A C,u=.slice A N C∧MatV w A N (fun r c=>v (skipN i0 r) (skipN j c)):=by
 have ll:∀r,(cutL (Z r) j (N+1)).length=N:=fun r=>by rw [cutL_len,if_pos hj];omega
 have hv:vs.length=N:=by have:=rows.1;rw [if_pos hi] at this;omega
 refine rows_mat own hv fun r hr=>?_
 obtain⟨A,C,h1,h2⟩:=rows.2 r (by omega)
 rw [ll] at h1 h2
 refine⟨A,C,_,h1,ll _,h2,fun c hc=>?_⟩
 rw [cutL_get (Z (skipN i0 r)) j NvD (N+1) c (by rw [ll];exact hc)]
 exact hz _ (by unfold skipN;split <;> omega) _ (by unfold skipN;split <;> omega)
end Go.Proofs.YtlabmpngbcnhpaaGreat
