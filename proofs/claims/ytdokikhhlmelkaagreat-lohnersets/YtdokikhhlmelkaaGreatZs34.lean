/- Columns, and rows of noughts: what the program makes. The program's product of two matrices. The program's Mul; two matrices of the same intervals are the same to the reference. The reference's product of two matrices. -/
import Derived.Test.YtdokikhhlmelkaaGreatZs33
namespace Go.Proofs.YtdokikhhlmelkaaGreat
open Go.ChangeShapes Go.WideShapes Go.ChangeAt Go.RowKit
def Out (w:World) (g n:Nat) (f:Nat→Value):Prop:=g<w.heap.size∧∀i,i<n→w.cell? ⟨g,i,none⟩=some (f i)∧w.frozen? ⟨g,i,none⟩=false
theorem Out.keep {w w2:World} {g n:Nat} {f:Nat→Value} (h:Out w g n f) (hb:Below w.heap.size w w2):Out w2 g n f :=
 ⟨Nat.lt_of_lt_of_le h.1 hb.size,fun i hi=>⟨keepsC hb (h.2 i hi).1 h.1,keepsF hb (h.2 i hi).2 h.1⟩⟩
theorem Out.congr {w:World} {g n:Nat} {f k:Nat→Value} (h:Out w g n f) (e:∀i,i<n→f i=k i):Out w g n k:=⟨h.1,fun i hi=>by rw [←e i hi];exact h.2 i hi⟩
theorem Out.set {w:World} {g n:Nat} {f:Nat→Value} (h:Out w g n f) (r:Nat) (v:Value) (hr:r<n):Out (w.setCell ⟨g,r,none⟩ v) g n (fun i=>if i=r then v else f i):=by
 refine⟨by simp only [World.size_setCell];exact h.1,fun i hi=>?_⟩
 obtain⟨a,b⟩:=h.2 i hi
 obtain⟨a',b'⟩:=h.2 r hr
 by_cases e:i=r
 · subst e
   simp only [if_true]
   exact⟨by go_simp,by go_simp⟩
 · simp only [e,if_false]
   have m:r≠i:=fun c=>e c.symm
   exact⟨by go_simp,by go_simp⟩
theorem Img.far {w:World} {g N c k:Nat} {xs:Nat→Nat×Nat} (h:Img w g N xs) (hne:c≠g) (v:Value):Img (w.setCell ⟨c,k,none⟩ v) g N xs:=by
 refine⟨by simp only [World.size_setCell];exact h.1,fun i hi=>?_⟩
 obtain⟨a,b,d,e⟩:=h.2 i hi
 have hne':g≠c:=fun e=>hne e.symm
 exact⟨by simp [World.cell?_setCell_far, *],by simp [World.cell?_setCell_far, *],by go_simp,by go_simp⟩
theorem Out.far {w:World} {g n c k:Nat} {f:Nat→Value} (h:Out w g n f) (hne:c≠g) (v:Value):Out (w.setCell ⟨c,k,none⟩ v) g n f:=by
 refine⟨by simp only [World.size_setCell];exact h.1,fun i hi=>?_⟩
 obtain⟨a,b⟩:=h.2 i hi
 have hne':g≠c:=fun e=>hne e.symm
 exact⟨by simp [World.cell?_setCell_far, *],by go_simp⟩
theorem Tryz.infoRow:(Tryz.prog.info? 24).map (fun i=>(i.zero,i.size,i.bytes))=some (some (.slice none 0 0),1,24):=by kernel_rfl
theorem wpList_makeR {w:World} {ops:Array Oper} {rest:List Oper} {o:Oper} {a:Act} {Q:Exit→Act→World→Prop} (hgd:o.guard=none) (l c:Operand)
   (ho:o.op=.makeSlice 45 l c) (n:Nat) (hl:a.eval l=.int .i64 (n:Int)) (hc:a.eval c=.int .i64 (n:Int)) (hn:n≤3000000)
   (h:∀w',Out w' w.heap.size n (fun _=>.slice none 0 0)→Below w.heap.size w w'→w.heap.size<w'.heap.size→wpList Tryz.prog ops Q rest (a.put o.dst (.slice (some ⟨w.heap.size,0,none⟩) n n)) w'):wpList Tryz.prog ops Q (o :: rest) a w:=by
 obtain⟨i0,hi,hz0,hz1,hz2⟩:=info_parts Tryz.infoRow
 refine wpList_make_full w hgd l c 45 ho w.heap.size 24 i0 (.slice none 0 0) 1 Tryz.underlying45 hi hz0 hz1 .i64 .i64 _ _ n hl hc rfl rfl (by rw [hz2];omega) (by unfold maxLen;omega) (Nat.le_refl _) ?_
 intro w' h1 h2
 have hlt:=(World.ownsRow.lt h1 _ rfl).2
 refine h w' ⟨hlt,fun i hi=>⟨?_,World.ownsRow.frozenAt h1 _⟩⟩ ⟨h2.os,h2.tape,h2.output,h2.size,fun k hk=>h2.block k hk (by simp)⟩ hlt
 have e1:(madeCells (Value.slice none 0 0).cells (n*1)).toList=List.replicate (n*1) (Value.slice none 0 0):=by
   refine List.eq_replicate_iff.2 ⟨by simp [madeCells],fun b hb=>?_⟩
   simp [madeCells,Value.cells] at hb
   obtain⟨x, -,hx⟩:=hb
   rw [←hx]
   have:x%1=0:=by omega
   simp [this]
 rw [World.ownsRow.cellAt h1 i (by omega),e1]
 simp [hi]
structure Grd (w:World) (g n m:Nat) (h:Nat→Nat) (F:Nat→Nat→Nat×Nat):Prop where
 out:Out w g n (fun r=>.slice (some ⟨h r,0,none⟩) m m)
 row:∀r,r<n→Img w (h r) m (F r)
 ne:∀r,r<n→h r≠g
 inj:∀r,r<n→∀s,s<n→r≠s→h r≠h s
set_option maxHeartbeats 2000000 in
theorem grid_w (n m:Nat) (hn:n≤24) (hm:m≤24) (w:World) :
   Calls Tryz.prog 53 #[.int .i64 (n:Int),.int .i64 (m:Int)] w fun e w'=>∃g h,e=.returned (.slice (some ⟨g,0,none⟩) n n)∧Grd w' g n m h (fun _ _=>(0,0))∧w.heap.size≤g∧(∀r,r<n→w.heap.size≤h r)∧Below w.heap.size w w':=by
 go_enter Tryz.func53,Tryz.ntmps53
 go_wp2_with (at_make;refine wpList_makeR (by rfl) _ _ (by rfl) n (by rfl) (by rfl) (by omega) ?_;intro w3 hO HB hS3)
 go_loopg [11] n (fun G s11 wx=>Below w.heap.size w wx∧∃(r:Nat) (h:Nat→Nat),r+G=n∧s11=.int .i64 (r:Int)∧Out wx w.heap.size n (fun i=>if i<r then .slice (some ⟨h i,0,none⟩) m m else .slice none 0 0) ∧
   Hid (∀i,i<r→Img wx (h i) m (fun _=>(0,0))∧w.heap.size<h i)∧Hid (∀i,i<r→∀j,j<r→i≠j→h i≠h j))
 case atStart=>exact⟨HB,0,fun _=>0,by omega,rfl,hO.congr fun i _=>by simp,fun i hi=>absurd hi (by omega),fun i hi=>absurd hi (by omega)⟩
 case round =>
   clear HB hO
   obtain⟨HB,r,h,hr,rfl,hO,hI,hJ⟩:=hrel
   by_cases cr:r=n
   · subst cr
     go_wp2_with fail
     go_ret
     exact⟨_,h,rfl,⟨hO.congr fun i hi=>by simp [hi],fun i hi=>(hI i hi).1,fun i hi=>by have:=(hI i hi).2;omega,hJ⟩,Nat.le_refl _,fun i hi=>by have:=(hI i hi).2;omega,HB⟩
   · have hlt:(r:Int)<(n:Int):=by omega
     have hg:w.heap.size<wr.heap.size:=hO.1
     go_wp2_with (at_make;refine wpList_makeI (by rfl) _ _ (by rfl) m (by rfl) (by rfl) (by omega) ?_;intro w4 hI4 hb4 hS4;replace HB:=later HB hb4;replace hO:=hO.keep hb4;obtain⟨o0,o1⟩:=id (hO.2 r (by omega)))
     go_roundg (n-r-1)
     case measure=>omega
     case rel =>
       have ne:w.heap.size≠wr.heap.size:=by omega
       refine⟨?_,r+1,fun i=>if i=r then wr.heap.size else h i,by omega,by go_num,(hO.set r _ (by omega)).congr fun i hi=>?_,fun i hi=>?_,fun i hi j hj hij=>?_⟩
       · repeat' (first | (with_reducible exact HB) | (with_reducible refine Below.setCell ?_ ?_ _) | go_size | omega)
       · by_cases e:i=r
         · subst e
           simp
         · simp only [e,if_false]
           by_cases q:i<r
           · simp [q,show i<r+1 by omega]
           · simp [q,show ¬i<r+1 by omega]
       · by_cases e:i=r
         · simp only [e,if_true]
           exact⟨hI4.far ne _,hg⟩
         · simp only [e,if_false]
           have q:=hI i (by omega)
           exact⟨(q.1.keep hb4).far (by have:=q.2;omega) _,q.2⟩
       · have f:∀k,k<r→h k<wr.heap.size:=fun k hk=>(hI k hk).1.1
         by_cases e:i=r
         · by_cases e':j=r
           · omega
           · simp only [e,e',if_true,if_false]
             have:=f j (by omega)
             omega
         · by_cases e':j=r
           · simp only [e,e',if_true,if_false]
             have:=f i (by omega)
             omega
           · simp only [e,e',if_false]
             exact hJ i (by omega) j (by omega) hij
theorem Grd.keep {w w2:World} {g n m:Nat} {h:Nat→Nat} {F:Nat→Nat→Nat×Nat} (G:Grd w g n m h F) (hb:Below w.heap.size w w2):Grd w2 g n m h F :=
 ⟨G.out.keep hb,fun r hr=>(G.row r hr).keep hb,G.ne,G.inj⟩
theorem Grd.congr {w:World} {g n m:Nat} {h:Nat→Nat} {F E:Nat→Nat→Nat×Nat} (G:Grd w g n m h F) (e:∀r,r<n→∀c,c<m→F r c=E r c):Grd w g n m h E :=
 ⟨G.out,fun r hr=>(G.row r hr).congr (e r hr),G.ne,G.inj⟩
theorem Grd.set {w:World} {g n m:Nat} {h:Nat→Nat} {F:Nat→Nat→Nat×Nat} (G:Grd w g n m h F) (i j p q:Nat) (hi:i<n) (hj:j<m) :
   Grd ((w.setCell ⟨h i,j*2,none⟩ (.float .f64 p)).setCell ⟨h i,j*2+1,none⟩ (.float .f64 q)) g n m h (fun r c=>if r=i∧c=j then (p,q) else F r c):=by
 refine⟨(G.out.far (G.ne i hi) _).far (G.ne i hi) _,fun r hr=>?_,G.ne,G.inj⟩
 by_cases e:r=i
 · subst e
   exact ((G.row r hr).set j p q hj).congr fun c _=>by simp
 · refine (((G.row r hr).far (G.inj i hi r hr (fun c=>e c.symm)) _).far (G.inj i hi r hr (fun c=>e c.symm)) _).congr fun c _=>?_
   simp [e]
theorem Grd.rws {w:World} {g n m:Nat} {h:Nat→Nat} {F:Nat→Nat→Nat×Nat} (G:Grd w g n m h F) (hm:m≤9223372036854775807) (hF:∀r,r<n→∀c,c<m→(F r c).1<18446744073709551616∧(F r c).2<18446744073709551616) :
   Rws w (some ⟨g,0,none⟩) n (fun r=>some ⟨h r,0,none⟩) (fun _=>m) (fun _=>m) F:=fun r hr =>
 ⟨g,0,rfl,G.out.1,by rw [Nat.zero_add];exact (G.out.2 r hr).1,hm,(G.row r hr).ivs (hF r hr)⟩
set_option maxHeartbeats 2000000 in
theorem rsameA_w (A B:Option Addr) (N C D:Nat) (RA SA:Nat→Option Addr) (RL RC SL SC:Nat→Nat) (X Y:Nat→Nat→Nat×Nat) (hN:N≤9223372036854775807) (hl:∀r,r<N→RL r=SL r) (hxy:∀r,r<N→∀c,c<RL r→X r c=Y r c) (w:World) (V:Rws w A N RA RL RC X) (U:Rws w B N SA SL SC Y) :
   Calls Tryz.prog 17 #[.slice A N C,.slice B N D] w fun e w'=>e=.returned (.bool true)∧Below w.heap.size w w':=by
 have HL:Hid (∀r,r<N→RL r=SL r):=hl
 have HX:Hid (∀r,r<N→∀c,c<RL r→X r c=Y r c):=hxy
 clear hl hxy
 go_enter Tryz.func17,Tryz.ntmps17
 go_wp2_with fail
 go_loopg [13] N (fun G s13 wx=>Below w.heap.size w wx∧∃i:Nat,i+G=N∧s13=.int .i64 (i:Int))
 case atStart=>exact⟨Below.refl _ _,0,by omega,rfl⟩
 case round =>
   obtain⟨HB,i,hi,rfl⟩:=hrel
   by_cases ci:i=N
   · subst ci
     go_wp2_with fail
     go_ret
     exact⟨rfl,HB⟩
   · have hlt:(i:Int)<(N:Int):=by omega
     obtain⟨b,o,hA,hb,x0,l0,I⟩:=(V.keep HB) i (by omega)
     obtain⟨b',o',hB,hb',y0,l1,J⟩:=(U.keep HB) i (by omega)
     have hle:=HL i (by omega)
     rw [←hle] at y0 J
     have c:∀n:Behind wr,Calls Tryz.prog 9 #[.slice (RA i) (RL i) (RC i),.slice (SA i) (RL i) (SC i)] n.W fun e w'=>e=.returned (.bool true)∧Below n.W.heap.size n.W w':=fun n=>rsameV_w (RA i) (SA i) (RL i) (RC i) (SC i) (X i) (Y i) l0 (HX i (by omega)) n.W (I.keep n.bel) (J.keep n.bel)
     clear hle
     subst hA hB
     go_upto_region 6 with fail
     have kx0:=fun n:Behind wr=>n.cell x0 hb
     have ky0:=fun n:Behind wr=>n.cell y0 hb'
     refine region_behind (by kernel_rfl) (by kernel_rfl) ?_
     repeat (go_big_quiet_step (first
       | (go_at_call 9;with_reducible refine Behind.call (c _))))
     refine wpQuiet_nil ?_
     rintro _ ⟨q,rfl⟩
     obtain⟨W,hb1⟩:=q
     dsimp only
     replace HB:=later HB hb1
     clear hb1 kx0 ky0
     go_wp2_with fail
     go_roundg (N-i-1)
     case measure=>omega
     case rel=>exact⟨HB,i+1,by omega,by go_num⟩
def OwnR (B:Nat) (w:World) (v:Value) (vs:List Value):Prop:=w.ownsRow B 24 1 v vs.length vs
theorem ownR_empty (w:World):OwnR w.heap.size (w.alloc (.cells #[] 24)) (.slice (some ⟨w.heap.size,0,none⟩) 0 0) []:=World.ownsRow_made w #[] 0 (Nat.le_refl _) (Nat.zero_le _) rfl
theorem OwnR.keep {B:Nat} {w w2:World} {v:Value} {vs:List Value} (h:OwnR B w v vs) (hb:Below w.heap.size w w2):OwnR B w2 v vs:=by
 refine⟨h.1, ?_⟩
 rcases h.2 with hn | ⟨g,cap,cur,hv,hb2,hg,rest⟩
 · exact .inl hn
 · have hlt:g<w.heap.size:=(Array.getElem?_eq_some_iff.1 hg).1
   refine .inr ⟨g,cap,cur,hv,hb2, ?_,rest⟩
   rw [←hg]
   exact hb.block g hlt
theorem OwnI.base {B B':Nat} {w:World} {v:Value} {xs:List (Nat×Nat)} (h:OwnI B w v xs) (hb:B'≤B):OwnI B' w v xs:=by
 refine⟨h.1, ?_⟩
 rcases h.2 with hn | ⟨g,cap,cur,hv,hb2,rest⟩
 · exact .inl hn
 · exact .inr ⟨g,cap,cur,hv,Nat.le_trans hb hb2,rest⟩
theorem own_apart {B:Nat} {w:World} {u v:Value} {xs:List (Nat×Nat)} {vs:List Value} (h:OwnI B w u xs) (k:OwnR B w v vs):u.ownBlock=none∨u.ownBlock≠v.ownBlock:=by
 rcases h.2 with ⟨rfl, -⟩ | ⟨g,cap,cur,rfl, -,hg, -⟩
 · exact .inl rfl
 · right
   rcases k.2 with ⟨rfl, -⟩ | ⟨g',cap',cur',rfl, -,hg', -⟩
   · intro e
     cases e
   · intro e
     have e':g=g':=Option.some.inj e
     subst e'
     rw [hg] at hg'
     simp at hg'
theorem wpList_pushR {B:Nat} {w0 wr:World} {ops:Array Oper} {rest:List Oper} {o:Oper} {a:Act} {Q:Exit→Act→World→Prop} (hgd:o.guard=none) (s x:Operand)
   (ho:o.op=.call { callee:=.builtin .append,args:=#[s,x],argTypes:=#[45,45] }) (v:Value) (vs:List Value) (A:Option Addr) (n c:Nat) (hs:a.eval s=v) (hx:a.eval x=.slice (some ⟨wr.heap.size,0,none⟩) 1 1)
   (hown:OwnR B wr v vs) (hl:vs.length≤2000000) (hB:B≤wr.heap.size) (hbel:Below B w0 wr)
   (h:∀v' w',OwnR B w' v' (vs++[.slice A n c])→Below B w0 w'→B≤w'.heap.size→(∀u xs,OwnI B wr u xs→OwnI B w' u xs)→wpList Tryz.prog ops Q rest (a.put o.dst v') w'):wpList Tryz.prog ops Q (o :: rest) a (wr.alloc (.cells #[.slice A n c] 24)):=by
 obtain⟨i0,hi,hz0,hz1,hz2⟩:=info_parts Tryz.infoRow
 have hal:Below wr.heap.size wr (wr.alloc (.cells #[.slice A n c] 24)):=(Below.refl _ _).alloc (Nat.le_refl _) _
 refine wpList_append_own _ hgd s x 45 ho B 24 i0 (.slice none 0 0) 1 24 Tryz.underlying45 hi hz0 hz1 hz2 rfl (by decide) v vs.length vs hs (hown.keep hal) ⟨wr.heap.size,0,none⟩ 1 1 [.slice A n c] hx rfl ?_ ?_ (by unfold maxLen;omega) (by omega) (by simp;omega) ?_
 · intro j u hj
   match j,hj with
   | 0,hj=>simp at hj;subst hj;simp [Addr.add]
 · intro u hu
   simp at hu
   rw [hu]
   rfl
 · intro v' w' h1 h2 _
   refine h v' w' ?_ ((hbel.alloc hB _).grown h2 (by simp;omega) ?_) (by have:=h2.size;simp at this;omega) fun u xs hu=>?_
   · unfold OwnR
     rw [List.length_append]
     exact h1
   · intro k hk
     exact (World.ownsRow.lt hown k hk).1
   · exact World.ownsRow.kept (hu.keep hal) h2 (own_apart (hu.keep hal) (hown.keep hal))
theorem OwnI.form {B:Nat} {w:World} {v:Value} {xs:List (Nat×Nat)} (h:OwnI B w v xs):∃A C,v=.slice A xs.length C:=by
 rcases h.2 with ⟨rfl,hn⟩ | ⟨g,cap,cur,rfl, -⟩
 · exact⟨none,0,by rw [hn]⟩
 · exact⟨_,_,rfl⟩
end Go.Proofs.YtdokikhhlmelkaaGreat
