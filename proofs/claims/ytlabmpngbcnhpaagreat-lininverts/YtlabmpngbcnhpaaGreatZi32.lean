/- Gauss' and Jordan's way in floats ends, with rows of floats or none. nearlyInverse ends, with rows of floats or none. -/
import Derived.Test.YtlabmpngbcnhpaaGreatZi31
namespace Go.Proofs.YtlabmpngbcnhpaaGreat
open Go.ChangeShapes Go.WideShapes Go.ChangeAt Go.RowKit
def Half (w:World) (n:Nat) (v:Value):Prop:=v=.slice none 0 0∨∃c,v=.slice (some ⟨c,n,none⟩) n n∧Flo w c (n+n)
theorem Half.keep {w w2:World} {n:Nat} {v:Value} (h:Half w n v) (hb:Below w.heap.size w w2):Half w2 n v:=by
 rcases h with h | ⟨c,e,f⟩
 · exact Or.inl h
 · exact Or.inr ⟨c,e,f.keep hb⟩
theorem Half.wrt {w w2:World} {n:Nat} {v:Value} (h:Half w n v) {B g:Nat} (hW:Wrt B g w w2):Half w2 n v:=by
 rcases h with h | ⟨c,e,f⟩
 · exact Or.inl h
 · exact Or.inr ⟨c,e,hW.flo _ _ f⟩
theorem Half.other {w:World} {n:Nat} {v:Value} (h:Half w n v) {c:Nat} (k:Nat) (u:Value) (hne:∀d,Flo w d (n+n)→d≠c):Half (w.setCell ⟨c,k,none⟩ u) n v:=by
 rcases h with h | ⟨d,e,f⟩
 · exact Or.inl h
 · exact Or.inr ⟨d,e,f.other (hne d f) _ _⟩
structure Pick (w:World) (c n:Nat) (f:Nat→Value):Prop where
 out:Out w c n f
 half:∀i,i<n→Half w n (f i)
theorem Pick.keep {w w2:World} {c n:Nat} {f:Nat→Value} (h:Pick w c n f) (hb:Below w.heap.size w w2):Pick w2 c n f:=⟨h.out.keep hb,fun i hi=>(h.half i hi).keep hb⟩
theorem Pick.wrt {w w2:World} {c n:Nat} {f:Nat→Value} (h:Pick w c n f) {B g:Nat} (hW:Wrt B g w w2) (hne:c≠g):Pick w2 c n f:=⟨h.out.block (hW.rest c hne h.out.1) hW.below.size,fun i hi=>(h.half i hi).wrt hW⟩
theorem Out.noFlo {w:World} {c n m d:Nat} {f:Nat→Value} (h:Out w c n f) (hn:0<n) (hf:∀x,f 0≠.float .f64 x) (F:Flo w d m) (hm:0<m):d≠c:=by
 rintro rfl
 obtain⟨x,e, -⟩:=F.at 0 hm
 rw [(h.2 0 hn).1] at e
 exact hf x (Option.some.inj e)
theorem Half.not {w:World} {n:Nat} {v:Value} (h:Half w n v) (x:Nat):v≠.float .f64 x:=by
 rcases h with rfl | ⟨c,rfl, -⟩ <;> simp
theorem Pick.set {w:World} {c n:Nat} {f:Nat→Value} (h:Pick w c n f) (r:Nat) (v:Value) (hr:r<n) (hv:Half w n v):Pick (w.setCell ⟨c,r,none⟩ v) c n (fun i=>if i=r then v else f i):=by
 have ne:∀d,Flo w d (n+n)→d≠c:=fun d F=>h.out.noFlo (by omega) (fun x=>(h.half 0 (by omega)).not x) F (by omega)
 refine⟨h.out.set r v hr,fun i hi=>?_⟩
 by_cases e:i=r
 · simp only [e,if_true]
   exact hv.other _ _ ne
 · simp only [e,if_false]
   exact (h.half i hi).other _ _ ne
theorem Tab.swap {B:Nat} {w:World} {g n m:Nat} {h:Nat→Nat} (T:Tab B w g n m h) (i j:Nat) (hi:i<n) (hj:j<n) :
   Tab B ((w.setCell ⟨g,i,none⟩ (.slice (some ⟨h j,0,none⟩) m m)).setCell ⟨g,j,none⟩ (.slice (some ⟨h i,0,none⟩) m m)) g n m (fun r=>if r=j then h i else if r=i then h j else h r):=by
 refine⟨((T.out.set i _ hi).set j _ hj).congr fun r hr=>?_,fun r hr=>?_,fun r hr=>?_,fun r hr=>?_⟩
 · by_cases a:r=j
   · simp [a]
   · by_cases b:r=i
     · subst b;simp [a]
     · simp [a,b]
 · have q:∀s,s<n→Flo ((w.setCell ⟨g,i,none⟩ (.slice (some ⟨h j,0,none⟩) m m)).setCell ⟨g,j,none⟩ (.slice (some ⟨h i,0,none⟩) m m)) (h s) m:=fun s hs=>((T.row s hs).other (T.ne s hs) _ _).other (T.ne s hs) _ _
   split
   · exact q i hi
   · split
     · exact q j hj
     · exact q r hr
 · split
   · exact T.ne i hi
   · split
     · exact T.ne j hj
     · exact T.ne r hr
 · split
   · exact T.ge i hi
   · split
     · exact T.ge j hj
     · exact T.ge r hr
theorem Pick.other {w:World} {c n:Nat} {f:Nat→Value} (h:Pick w c n f) {g:Nat} (k:Nat) (v:Value) (hg:g≠c) (hne:∀d,Flo w d (n+n)→d≠g):Pick (w.setCell ⟨g,k,none⟩ v) c n f :=
 ⟨h.out.far hg _,fun i hi=>(h.half i hi).other _ _ hne⟩
theorem Tab.other {B:Nat} {w:World} {g n m:Nat} {h:Nat→Nat} (T:Tab B w g n m h) {c:Nat} (k:Nat) (v:Value) (hc:c≠g) (hne:∀r,r<n→h r≠c):Tab B (w.setCell ⟨c,k,none⟩ v) g n m h :=
 ⟨T.out.far hc _,fun r hr=>(T.row r hr).other (hne r hr) _ _,T.ne,T.ge⟩
set_option maxRecDepth 4000 in
set_option maxHeartbeats 8000000 in
theorem nearly_w (gb n b:Nat) (hb:Nat→Nat) (hn:n≤24) (w:World) (T:Tab b w gb n n hb) :
   Calls Tryz.prog 15 #[.slice (some ⟨gb,0,none⟩) n n] w fun e w'=>(e=.returned (.slice none 0 0)∨∃c f,e=.returned (.slice (some ⟨c,0,none⟩) n n)∧Pick w' c n f)∧Below w.heap.size w w':=by
 have cb:=beside_w gb n b hb hn w T
 clear T
 go_enter Tryz.func15,Tryz.ntmps15
 go_wp2_with (first
   | (go_at_call 43;refine cb.mono ?_;rintro _ w1 ⟨g,h0,rfl,G0,hg,HB⟩)
   | (at_make;refine wpList_makeRF (by rfl) _ _ (by rfl) n (by rfl) (by rfl) (by omega) ?_;intro w3 hO hb3 hS3))
 have hcg:g≠w1.heap.size:=by have:=G0.out.1;omega
 have hcw:w.heap.size≤w1.heap.size:=HB.size
 have HG:Hid (Tab w.heap.size w3 g n (n+n) h0):=G0.keep hb3
 have HP:Hid (Pick w3 w1.heap.size n (fun _=>.slice none 0 0)):=⟨hO,fun _ _=>Or.inl rfl⟩
 have HB3:=later HB hb3
 clear cb G0 hO hb3 HB hS3
 generalize w1.heap.size=c at *
 go_loopg [18] n (fun G s18 wx=>Below w.heap.size w wx∧∃(k:Nat) (h:Nat→Nat) (f:Nat→Value),k+G=n∧s18=.int .i64 (k:Int)∧Hid (Tab w.heap.size wx g n (n+n) h)∧Hid (Pick wx c n f))
 case atStart=>exact⟨HB3,0,h0,_,by omega,rfl,HG,HP⟩
 case round =>
   clear HB3 HG HP
   obtain⟨HB,k,h,f,hk,rfl,HG,HP⟩:=hrel
   by_cases ck:k=n
   · subst ck
     go_wp2_with fail
     go_ret
     exact⟨Or.inr ⟨c,f,rfl,HP⟩,HB⟩
   · have hlt:(k:Int)<(n:Int):=by omega
     have hle:(k:Int)≤(n:Int):=by omega
     have cg:=fun C=>greatest_w g k (n-k) (n+n) n C (fun r=>h (k+r)) (by omega) (by omega) (by omega) (by omega) wr (fun r hr=>⟨(HG.out.out.2 (k+r) (by omega)).1,HG.out.row (k+r) (by omega)⟩)
     go_upto_region 8 with (go_at_call 44;refine (cg _).mono ?_;rintro _ _ ⟨⟨p,q,rfl,hp,hq,hq2⟩,rfl⟩)
     clear cg
     rcases Int.lt_or_le q 0 with h0 | h0
     · go_wp2_with fail
       go_ret
       exact⟨Or.inl rfl,HB⟩
     · obtain⟨q,rfl⟩:∃z:Nat,q=(z:Int):=⟨q.toNat,by omega⟩
       clear hq
       have hqn:q<n:=by omega
       have hltp:(k:Int)+(p:Int)<(n:Int):=by omega
       have hp0:(0:Int)≤(k:Int)+(p:Int):=by omega
       have htp:((k:Int)+(p:Int)).toNat=k+p:=by omega
       obtain⟨o0,o1⟩:=HG.out.out.2 k (by omega)
       obtain⟨r0,r1⟩:=HG.out.out.2 (k+p) (by omega)
       have lg:=HG.out.out.1
       have HF:Hid (∀d,Flo wr d (n+n)→d≠g):=fun d F=>HG.out.out.noFlo (by omega) (fun x=>by simp) F (by omega)
       have HS:Hid (Tab w.heap.size (((wr.setCell ⟨g,k,none⟩ (.slice (some ⟨h (k+p),0,none⟩) (n+n) (n+n))).setCell ⟨g,k+p,none⟩ (.slice (some ⟨h k,0,none⟩) (n+n) (n+n))).drew) g n (n+n) (fun r=>if r=k+p then h k else if r=k then h (k+p) else h r)) :=
         (HG.out.swap k (k+p) (by omega) (by omega)).keep (Below.refl _ _).drew
       have HQ:Hid (Pick (((wr.setCell ⟨g,k,none⟩ (.slice (some ⟨h (k+p),0,none⟩) (n+n) (n+n))).setCell ⟨g,k+p,none⟩ (.slice (some ⟨h k,0,none⟩) (n+n) (n+n))).drew) c n f) :=
         ((HP.out.other _ _ hcg HF.out).other _ _ hcg (fun d F e=>by
           subst e
           exact (HG.out.out.set k (.slice (some ⟨h (k+p),0,none⟩) (n+n) (n+n)) (by omega)).noFlo (by omega) (fun x=>by split <;> simp) F (by omega) rfl)).keep (Below.refl _ _).drew
       have HB2:Below w.heap.size w (((wr.setCell ⟨g,k,none⟩ (.slice (some ⟨h (k+p),0,none⟩) (n+n) (n+n))).setCell ⟨g,k+p,none⟩ (.slice (some ⟨h k,0,none⟩) (n+n) (n+n))).drew):=((HB.setCell hg _).setCell hg _).drew
       obtain⟨u,s0⟩:∃u,(wr.setCell ⟨g,k,none⟩ (.slice (some ⟨h (k+p),0,none⟩) (n+n) (n+n))).cell? ⟨g,k+p,none⟩=some u:=⟨_,((HG.out.out.set k _ (by omega)).2 (k+p) (by omega)).1⟩
       go_upto_region 10 with fail
       go_region
       generalize ((wr.setCell ⟨g,k,none⟩ (.slice (some ⟨h (k+p),0,none⟩) (n+n) (n+n))).setCell ⟨g,k+p,none⟩ (.slice (some ⟨h k,0,none⟩) (n+n) (n+n))).drew=W2 at HS HQ HB2 ⊢
       generalize (fun r=>if r=k+p then h k else if r=k then h (k+p) else h r)=h2 at HS
       clear o0 o1 r0 r1 s0 HF lg HG HP HB hltp hp0 htp
       obtain⟨o0, -⟩:=HS.out.out.2 k (by omega)
       have lg:=HS.out.out.1
       have lx2:=(HS.out.row k (by omega)).lt
       obtain⟨x,x0, -,lx⟩:=(HS.out.row k (by omega)).at q (by omega)
       have ko:=fun m:Behind W2=>m.cell o0 lg
       have kx:=fun m:Behind W2=>m.cell x0 lx2
       have hltq:(q:Int)<(n:Int)+(n:Int):=by omega
       go_upto_region 11 with fail
       refine tail_behind 11 (by kernel_rfl) (by kernel_rfl) ?_
       simp only [List.take_succ_cons,List.take_zero,List.drop_succ_cons,List.drop_zero]
       repeat (go_big_quiet_step (fail))
       refine wpQuiet_nil ?_
       rintro _ ⟨m',rfl⟩
       obtain⟨W,hb1⟩:=m'
       dsimp only
       clear ko kx o0 x0 lg lx2
       replace HS:Hid (Tab w.heap.size W g n (n+n) h2):=HS.out.keep hb1
       replace HQ:Hid (Pick W c n f):=HQ.out.keep hb1
       replace HB2:=later HB2 hb1
       have cd:=divide_w (h2 k) (n+n) (n+n) x w.heap.size (by omega) (HS.out.ge k (by omega)) W (HS.out.row k (by omega))
       go_wp2_with (go_at_call 45;refine cd.mono ?_;rintro _ w4 ⟨rfl,hW4⟩)
       have n4:=HQ.out.out.noFlo (by omega) (fun x=>(HQ.out.half 0 (by omega)).not x) (HS.out.row k (by omega)) (by omega)
       replace HQ:Hid (Pick w4 c n f):=HQ.out.wrt hW4 (fun e=>n4 e.symm)
       replace HS:Hid (Tab w.heap.size w4 g n (n+n) h2):=HS.out.wrt hW4 (fun e=>HS.out.ne k (by omega) e.symm)
       replace HB2:=HB2.trans hW4.below
       clear cd hb1 hW4 n4
       go_loopg [63] n (fun G s63 wx=>Below w.heap.size w wx∧∃i:Nat,i+G=n∧s63=.int .i64 (i:Int)∧Hid (Tab w.heap.size wx g n (n+n) h2)∧Hid (Pick wx c n f))
       case atStart=>exact⟨HB2,0,by omega,rfl,HS,HQ⟩
       case round =>
         clear HB2 HS HQ
         obtain⟨HB,i,hi,rfl,HS,HQ⟩:=hrel
         by_cases ci:i=n
         · obtain⟨o0, -⟩:=HS.out.out.2 k (by omega)
           obtain⟨c0,c1⟩:=HQ.out.out.2 q hqn
           have hnn:¬(i:Int)<(n:Int):=by omega
           have hle2:(n:Int)≤(n:Int)+(n:Int):=by omega
           clear ci
           go_wp2_with fail
           have nf:∀r,r<n→h2 r≠c:=fun r hr=>HQ.out.out.noFlo (by omega) (fun x=>(HQ.out.half 0 (by omega)).not x) (HS.out.row r hr) (by omega)
           go_roundg (n-k-1)
           case measure=>omega
           case rel=>exact⟨HB.setCell hcw _,k+1,h2,_,by omega,by go_num,HS.out.other _ _ (fun e=>hcg e.symm) nf,HQ.out.set q _ hqn (Or.inr ⟨h2 k,rfl,HS.out.row k (by omega)⟩)⟩
         · have hlti:(i:Int)<(n:Int):=by omega
           obtain⟨o0, -⟩:=HS.out.out.2 k (by omega)
           obtain⟨i0, -⟩:=HS.out.out.2 i (by omega)
           have lg:=HS.out.out.1
           by_cases cik:i=k
           · have heq:(i:Int)=(k:Int):=by omega
             go_wp2_with fail
             go_roundg (n-i-1)
             case measure=>omega
             case rel=>exact⟨HB,i+1,by omega,by go_num,HS,HQ⟩
           · have hne:¬(i:Int)=(k:Int):=by omega
             have ly2:=(HS.out.row i (by omega)).lt
             obtain⟨y,y0, -,ly⟩:=(HS.out.row i (by omega)).at q (by omega)
             go_upto_region 16 with fail
             have ko:=fun m:Behind wr=>m.cell o0 lg
             have ky:=fun m:Behind wr=>m.cell y0 ly2
             refine tail_behind 9 (by kernel_rfl) (by kernel_rfl) ?_
             simp only [List.take_succ_cons,List.take_zero,List.drop_succ_cons,List.drop_zero]
             repeat (go_big_quiet_step (fail))
             refine wpQuiet_nil ?_
             rintro _ ⟨m',rfl⟩
             obtain⟨W,hb1⟩:=m'
             dsimp only
             clear ko ky o0 i0 y0 lg ly2
             replace HS:Hid (Tab w.heap.size W g n (n+n) h2):=HS.out.keep hb1
             replace HQ:Hid (Pick W c n f):=HQ.out.keep hb1
             replace HB:=later HB hb1
             have ct:=takeOff_w (h2 i) (h2 k) (n+n) (n+n) (n+n) y w.heap.size (by omega) (HS.out.ge i (by omega)) W (HS.out.row i (by omega)) (HS.out.row k (by omega))
             go_wp2_with (go_at_call 46;refine ct.mono ?_;rintro _ w5 ⟨rfl,hW5⟩)
             have n5:=HQ.out.out.noFlo (by omega) (fun x=>(HQ.out.half 0 (by omega)).not x) (HS.out.row i (by omega)) (by omega)
             go_roundg (n-i-1)
             case measure=>omega
             case rel=>exact⟨HB.trans hW5.below,i+1,by omega,by go_num,HS.out.wrt hW5 (fun e=>HS.out.ne i (by omega) e.symm),HQ.out.wrt hW5 (fun e=>n5 e.symm)⟩
end Go.Proofs.YtlabmpngbcnhpaaGreat
