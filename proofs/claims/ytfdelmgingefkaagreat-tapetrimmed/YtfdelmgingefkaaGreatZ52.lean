/- Columns, and rows of noughts: what the program makes. The program's product of two matrices. The program's Mul; two matrices of the same intervals are the same to the reference. The reference's product of two matrices. Rows of slopes beside values, both appended to: what is kept. Slopes: slices.Clone of a row; slopesAtOuts. Slopes: Grad. -/
import Derived.Test.YtfdelmgingefkaaGreatZ45
import Derived.Test.YtfdelmgingefkaaGreatZ50
import Derived.Deep.AppendLies
import Derived.Test.YtfdelmgingefkaaGreatZ36
import Derived.Lib.SliceRun
import Derived.Test.YtfdelmgingefkaaGreatZ51
namespace Go.Proofs.YtfdelmgingefkaaGreat
open Go.ChangeShapes Go.WideShapes Go.ChangeAt Go.RowKit
def Out (w:World) (g n:Nat) (f:Nat→Value):Prop:=g<w.heap.size∧∀i,i<n→w.cell? ⟨g,i,none⟩=some (f i)∧w.frozen? ⟨g,i,none⟩=false
theorem Out.keep {w w2:World} {g n:Nat} {f:Nat→Value} (h:Out w g n f) (hb:Below w.heap.size w w2):Out w2 g n f :=
 ⟨Nat.lt_of_lt_of_le h.1 hb.size,fun i hi=>⟨keepsC hb (h.2 i hi).1 h.1,keepsF hb (h.2 i hi).2 h.1⟩⟩
theorem Out.set {w:World} {g n:Nat} {f:Nat→Value} (h:Out w g n f) (r:Nat) (v:Value) (hr:r<n):Out (w.setCell ⟨g,r,none⟩ v) g n (fun i=>if i=r then v else f i):=by
 refine⟨by simp only [World.size_setCell];exact h.1,fun i hi=>?_⟩
 obtain⟨a,b⟩:=h.2 i hi
 obtain⟨a',b'⟩:=h.2 r hr
 by_cases e:i=r
 · subst e
   simp only [if_true]
   exact⟨by go_simp,by go_simp⟩
 · simp only [e,if_false]
   have m:r≠i:=fun c=>e c.symm
   exact⟨by go_simp,by go_simp⟩
theorem Tryz.infoRow:(Tryz.prog.info? 46).map (fun i=>(i.zero,i.size,i.bytes))=some (some (.slice none 0 0),1,24):=by kernel_rfl
theorem wpList_makeR {w:World} {ops:Array Oper} {rest:List Oper} {o:Oper} {a:Act} {Q:Exit→Act→World→Prop} (hgd:o.guard=none) (l c:Operand)
   (ho:o.op=.makeSlice 53 l c) (n:Nat) (hl:a.eval l=.int .i64 (n:Int)) (hc:a.eval c=.int .i64 (n:Int)) (hn:n≤3000000)
   (h:∀w',Out w' w.heap.size n (fun _=>.slice none 0 0)→Below w.heap.size w w'→w.heap.size<w'.heap.size→wpList Tryz.prog ops Q rest (a.put o.dst (.slice (some ⟨w.heap.size,0,none⟩) n n)) w'):wpList Tryz.prog ops Q (o :: rest) a w:=by
 obtain⟨i0,hi,hz0,hz1,hz2⟩:=info_parts Tryz.infoRow
 refine wpList_make_full w hgd l c 53 ho w.heap.size 46 i0 (.slice none 0 0) 1 Tryz.underlying53 hi hz0 hz1 .i64 .i64 _ _ n hl hc rfl rfl (by rw [hz2];omega) (by unfold maxLen;omega) (Nat.le_refl _) ?_
 intro w' h1 h2
 have hlt:=(World.ownsRow.lt h1 _ rfl).2
 refine h w' ⟨hlt,fun i hi=>⟨?_,World.ownsRow.frozenAt h1 _⟩⟩ ⟨h2.os,h2.tape,h2.output,h2.size,fun k hk=>h2.block k hk (by simp)⟩ hlt
 have e1:(madeCells (Value.slice none 0 0).cells (n*1)).toList=List.replicate (n*1) (Value.slice none 0 0):=by
   refine List.eq_replicate_iff.2 ⟨by simp [madeCells],fun b hb=>?_⟩
   simp [madeCells,Value.cells] at hb
   obtain⟨x, -,hx⟩:=hb
   rw [←hx]
   have:x%1=0:=by omega
   simp [this]
 rw [World.ownsRow.cellAt h1 i (by omega),e1]
 simp [hi]
set_option maxHeartbeats 2000000 in
theorem rsameA_w (A B:Option Addr) (N C D:Nat) (RA SA:Nat→Option Addr) (RL RC SL SC:Nat→Nat) (X Y:Nat→Nat→Nat×Nat) (hN:N≤9223372036854775807) (hl:∀r,r<N→RL r=SL r) (hxy:∀r,r<N→∀c,c<RL r→X r c=Y r c) (w:World) (V:Rws w A N RA RL RC X) (U:Rws w B N SA SL SC Y) :
   Calls Tryz.prog 32 #[.slice A N C,.slice B N D] w fun e w'=>e=.returned (.bool true)∧Below w.heap.size w w':=by
 have HL:Hid (∀r,r<N→RL r=SL r):=hl
 have HX:Hid (∀r,r<N→∀c,c<RL r→X r c=Y r c):=hxy
 clear hl hxy
 go_enter Tryz.func32,Tryz.ntmps32
 go_wp2_with fail
 go_loopg [13] N (fun G s13 wx=>Below w.heap.size w wx∧∃i:Nat,i+G=N∧s13=.int .i64 (i:Int))
 case atStart=>exact⟨Below.refl _ _,0,by omega,rfl⟩
 case round =>
   obtain⟨HB,i,hi,rfl⟩:=hrel
   by_cases ci:i=N
   · subst ci
     go_wp2_with fail
     go_ret
     exact⟨rfl,HB⟩
   · have hlt:(i:Int)<(N:Int):=by omega
     obtain⟨b,o,hA,hb,x0,l0,I⟩:=(V.keep HB) i (by omega)
     obtain⟨b',o',hB,hb',y0,l1,J⟩:=(U.keep HB) i (by omega)
     have hle:=HL i (by omega)
     rw [←hle] at y0 J
     have c:∀n:Behind wr,Calls Tryz.prog 31 #[.slice (RA i) (RL i) (RC i),.slice (SA i) (RL i) (SC i)] n.W fun e w'=>e=.returned (.bool true)∧Below n.W.heap.size n.W w':=fun n=>rsameV_w (RA i) (SA i) (RL i) (RC i) (SC i) (X i) (Y i) l0 (HX i (by omega)) n.W (I.keep n.bel) (J.keep n.bel)
     clear hle
     subst hA hB
     go_upto_region 6 with fail
     have kx0:=fun n:Behind wr=>n.cell x0 hb
     have ky0:=fun n:Behind wr=>n.cell y0 hb'
     refine region_behind (by kernel_rfl) (by kernel_rfl) ?_
     repeat (go_big_quiet_step (first
       | (go_at_call 31;with_reducible refine Behind.call (c _))))
     refine wpQuiet_nil ?_
     rintro _ ⟨q,rfl⟩
     obtain⟨W,hb1⟩:=q
     dsimp only
     replace HB:=later HB hb1
     clear hb1 kx0 ky0
     go_wp2_with fail
     go_roundg (N-i-1)
     case measure=>omega
     case rel=>exact⟨HB,i+1,by omega,by go_num⟩
def OwnR (B:Nat) (w:World) (v:Value) (vs:List Value):Prop:=w.ownsRow B 46 1 v vs.length vs
theorem OwnR.keep {B:Nat} {w w2:World} {v:Value} {vs:List Value} (h:OwnR B w v vs) (hb:Below w.heap.size w w2):OwnR B w2 v vs:=by
 refine⟨h.1, ?_⟩
 rcases h.2 with hn | ⟨g,cap,cur,hv,hb2,hg,rest⟩
 · exact .inl hn
 · have hlt:g<w.heap.size:=(Array.getElem?_eq_some_iff.1 hg).1
   refine .inr ⟨g,cap,cur,hv,hb2, ?_,rest⟩
   rw [←hg]
   exact hb.block g hlt
theorem own_apart {B:Nat} {w:World} {u v:Value} {xs:List (Nat×Nat)} {vs:List Value} (h:OwnI B w u xs) (k:OwnR B w v vs):u.ownBlock=none∨u.ownBlock≠v.ownBlock:=by
 rcases h.2 with ⟨rfl, -⟩ | ⟨g,cap,cur,rfl, -,hg, -⟩
 · exact .inl rfl
 · right
   rcases k.2 with ⟨rfl, -⟩ | ⟨g',cap',cur',rfl, -,hg', -⟩
   · intro e
     cases e
   · intro e
     have e':g=g':=Option.some.inj e
     subst e'
     rw [hg] at hg'
     simp at hg'
structure Grew (w w':World) (v v':Value):Prop where
 size:w.heap.size≤w'.heap.size
 block:∀b,b<w.heap.size→v.ownBlock≠some b→w'.heap[b]?=w.heap[b]?
 own:∀b,v'.ownBlock=some b→v.ownBlock=some b∨w.heap.size≤b
theorem wpList_pushI3 {B g0:Nat} {w:World} {ops:Array Oper} {rest:List Oper} {o:Oper} {a:Act} {Q:Exit→Act→World→Prop} (hgd:o.guard=none) (s x:Operand)
   (ho:o.op=.call { callee:=.builtin .append,args:=#[s,x],argTypes:=#[46,46] }) (v:Value) (xs:List (Nat×Nat)) (p q:Nat) (hs:a.eval s=v) (hx:a.eval x=.slice (some ⟨g0,0,none⟩) 1 1)
   (hc0:w.cell? ⟨g0,0,none⟩=some (.float .f64 p)) (hc1:w.cell? ⟨g0,1,none⟩=some (.float .f64 q)) (hown:OwnI B w v xs) (hl:xs.length≤2000000) (hB:B≤w.heap.size)
   (h:∀qa c w',OwnI B w' (.slice qa (xs.length+1) c) (xs++[(p,q)])→Below B w w'→Grew w w' v (.slice qa (xs.length+1) c)→wpList Tryz.prog ops Q rest (a.put o.dst (.slice qa (xs.length+1) c)) w'):wpList Tryz.prog ops Q (o :: rest) a w:=by
 obtain⟨i0,hi,hz0,hz1,hz2⟩:=info_parts Tryz.infoIval
 refine wpList_append_lies w hgd s x 46 ho B 24 i0 (.agg #[.float .f64 0,.float .f64 0]) 2 16 Tryz.underlying46 hi hz0 hz1 hz2 rfl (by decide) v xs.length _ hs hown ⟨g0,0,none⟩ 1 1 [.float .f64 p,.float .f64 q] hx rfl ?_ ?_ (by omega) (by unfold maxLen;omega) (by omega) hB w.heap.size rfl ?_
 · intro j u hj
   match j,hj with
   | 0,hj=>simp at hj;subst hj;simpa [Addr.add] using hc0
   | 1,hj=>simp at hj;subst hj;simpa [Addr.add] using hc1
 · intro u hu
   simp at hu
   rcases hu with rfl | rfl <;> rfl
 · intro g cap w' h1 h2 h3 _
   have lt:∀k,v.ownBlock=some k→B≤k:=fun k hk=>(World.ownsRow.lt hown k hk).1
   refine h _ _ w' ?_ ((Below.refl B w).grown h2 hB lt) ⟨h2.size,fun b hb hne=>h2.block b hb (fun e=>hne e.symm),fun b hb=>?_⟩
   · unfold OwnI
     rw [List.length_append]
     have e:ivCells (xs++[(p,q)])=ivCells xs++[.float .f64 p,.float .f64 q]:=by simp [ivCells]
     rw [e]
     exact h1
   · have e:g=b:=by simpa [Value.ownBlock] using hb
     subst e
     rcases h3 with c | c
     · exact .inl c
     · exact .inr (by omega)
theorem wpList_pushR3 {B g0:Nat} {w:World} {ops:Array Oper} {rest:List Oper} {o:Oper} {a:Act} {Q:Exit→Act→World→Prop} (hgd:o.guard=none) (s x:Operand)
   (ho:o.op=.call { callee:=.builtin .append,args:=#[s,x],argTypes:=#[53,53] }) (v:Value) (vs:List Value) (A:Option Addr) (n c:Nat) (hs:a.eval s=v) (hx:a.eval x=.slice (some ⟨g0,0,none⟩) 1 1)
   (hc0:w.cell? ⟨g0,0,none⟩=some (.slice A n c)) (hown:OwnR B w v vs) (hl:vs.length≤2000000) (hB:B≤w.heap.size)
   (h:∀qa c' w',OwnR B w' (.slice qa (vs.length+1) c') (vs++[.slice A n c])→Below B w w'→Grew w w' v (.slice qa (vs.length+1) c')→wpList Tryz.prog ops Q rest (a.put o.dst (.slice qa (vs.length+1) c')) w'):wpList Tryz.prog ops Q (o :: rest) a w:=by
 obtain⟨i0,hi,hz0,hz1,hz2⟩:=info_parts Tryz.infoRow
 refine wpList_append_lies w hgd s x 53 ho B 46 i0 (.slice none 0 0) 1 24 Tryz.underlying53 hi hz0 hz1 hz2 rfl (by decide) v vs.length _ hs hown ⟨g0,0,none⟩ 1 1 [.slice A n c] hx rfl ?_ ?_ (by omega) (by unfold maxLen;omega) (by omega) hB w.heap.size rfl ?_
 · intro j u hj
   match j,hj with
   | 0,hj=>simp at hj;subst hj;simpa [Addr.add] using hc0
 · intro u hu
   simp at hu
   rw [hu]
   rfl
 · intro g cap w' h1 h2 h3 _
   have lt:∀k,v.ownBlock=some k→B≤k:=fun k hk=>(World.ownsRow.lt hown k hk).1
   refine h _ _ w' ?_ ((Below.refl B w).grown h2 hB lt) ⟨h2.size,fun b hb hne=>h2.block b hb (fun e=>hne e.symm),fun b hb=>?_⟩
   · unfold OwnR
     rw [List.length_append]
     exact h1
   · have e:g=b:=by simpa [Value.ownBlock] using hb
     subst e
     rcases h3 with c | c
     · exact .inl c
     · exact .inr (by omega)
def Kp (w w':World) (va sa va' sa':Value):Prop:=w.heap.size≤w'.heap.size∧∀g,g<w.heap.size→va.ownBlock≠some g→sa.ownBlock≠some g→w'.heap[g]?=w.heap[g]?∧va'.ownBlock≠some g∧sa'.ownBlock≠some g
theorem Kp.trans {w1 w2 w3:World} {a1 b1 a2 b2 a3 b3:Value} (h:Kp w1 w2 a1 b1 a2 b2) (k:Kp w2 w3 a2 b2 a3 b3):Kp w1 w3 a1 b1 a3 b3 :=
 ⟨Nat.le_trans h.1 k.1,fun g hg ha hb=>by
   obtain⟨e1,p1,q1⟩:=h.2 g hg ha hb
   obtain⟨e2,p2,q2⟩:=k.2 g (Nat.lt_of_lt_of_le hg h.1) p1 q1
   exact⟨e2.trans e1,p2,q2⟩⟩
theorem Kp.below {w w':World} (va sa:Value) (hb:Below w.heap.size w w'):Kp w w' va sa va sa:=⟨hb.size,fun g hg ha hs=>⟨hb.block g hg,ha,hs⟩⟩
theorem Grew.kpI {w w':World} {va va':Value} (sa:Value) (h:Grew w w' va va'):Kp w w' va sa va' sa:=⟨h.size,fun g hg ha hs=>⟨h.block g hg ha,fun e=>by
 rcases h.own g e with c | c
 · exact ha c
 · omega,hs⟩⟩
theorem Grew.kpR {w w':World} {sa sa':Value} (va:Value) (h:Grew w w' sa sa'):Kp w w' va sa va sa':=⟨h.size,fun g hg ha hs=>⟨h.block g hg hs,ha,fun e=>by
 rcases h.own g e with c | c
 · exact hs c
 · omega⟩⟩
theorem Img.block {w w':World} {g N:Nat} {xs:Nat→Nat×Nat} (h:Img w g N xs) (hs:w.heap.size≤w'.heap.size) (e:w'.heap[g]?=w.heap[g]?):Img w' g N xs:=by
 refine⟨Nat.lt_of_lt_of_le h.1 hs,fun i hi=>?_⟩
 obtain⟨a,b,c,d⟩:=h.2 i hi
 refine⟨(World.cell?_of_block (w:=w) e).trans a,(World.cell?_of_block (w:=w) e).trans b, ?_, ?_⟩
 · have:=c
   unfold World.frozen? at *
   simp only [e]
   exact this
 · have:=d
   unfold World.frozen? at *
   simp only [e]
   exact this
theorem OwnR.grew {B:Nat} {w w':World} {v v' u:Value} {vs:List Value} {xs:List (Nat×Nat)} (h:OwnR B w u vs) (hi:OwnI B w v xs) (k:Grew w w' v v'):OwnR B w' u vs:=by
 have ap:=own_apart hi h
 refine⟨h.1, ?_⟩
 rcases h.2 with hn | ⟨g,cap,cur,hv,hb2,hg,rest⟩
 · exact .inl hn
 · have hlt:g<w.heap.size:=(Array.getElem?_eq_some_iff.1 hg).1
   refine .inr ⟨g,cap,cur,hv,hb2, ?_,rest⟩
   rw [k.block g hlt ?_]
   · exact hg
   · intro c
     rcases ap with e | e
     · rw [e] at c;cases c
     · rw [hv] at e;exact e c
theorem OwnI.grew {B:Nat} {w w':World} {v v' u:Value} {vs:List Value} {xs:List (Nat×Nat)} (h:OwnI B w u xs) (hi:OwnR B w v vs) (k:Grew w w' v v'):OwnI B w' u xs:=by
 have ap:=own_apart h hi
 have h':w.ownsRow B 24 2 u xs.length (ivCells xs):=h
 refine⟨h'.1, ?_⟩
 rcases h'.2 with hn | ⟨g,cap,cur,hv,hb2,hg,rest⟩
 · exact .inl hn
 · have hlt:g<w.heap.size:=(Array.getElem?_eq_some_iff.1 hg).1
   refine .inr ⟨g,cap,cur,hv,hb2, ?_,rest⟩
   rw [k.block g hlt ?_]
   · exact hg
   · intro c
     rcases ap with e | e
     · rw [hv] at e;cases e
     · rw [hv] at e;exact e c.symm
theorem OwnR.low {B B':Nat} {w:World} {v:Value} {vs:List Value} (h:OwnR B w v vs) (hb:B'≤B):OwnR B' w v vs:=by
 refine⟨h.1, ?_⟩
 rcases h.2 with hn | ⟨g,cap,cur,hv,hb2,rest⟩
 · exact .inl hn
 · exact .inr ⟨g,cap,cur,hv,Nat.le_trans hb hb2,rest⟩
theorem wpList_makeR0 {w:World} {ops:Array Oper} {rest:List Oper} {o:Oper} {a:Act} {Q:Exit→Act→World→Prop} (hgd:o.guard=none) (l c:Operand)
   (ho:o.op=.makeSlice 53 l c) (n:Nat) (hl:a.eval l=.int .i64 0) (hc:a.eval c=.int .i64 (n:Int)) (hn:n≤3000000)
   (h:∀w',OwnR w.heap.size w' (.slice (some ⟨w.heap.size,0,none⟩) 0 n) []→Below w.heap.size w w'→wpList Tryz.prog ops Q rest (a.put o.dst (.slice (some ⟨w.heap.size,0,none⟩) 0 n)) w'):wpList Tryz.prog ops Q (o :: rest) a w:=by
 obtain⟨i0,hi,hz0,hz1,hz2⟩:=info_parts Tryz.infoRow
 refine wpList_make_own w hgd l c 53 ho w.heap.size 46 i0 (.slice none 0 0) 1 Tryz.underlying53 hi hz0 hz1 .i64 .i64 _ n hl hc rfl (by rw [hz2];omega) (by unfold maxLen;omega) (Nat.le_refl _) ?_
 intro w' h1 h2
 exact h w' h1 ⟨h2.os,h2.tape,h2.output,h2.size,fun k hk=>h2.block k hk (by simp)⟩
structure GSt (O:Nat→Opw) (X:Nat→Nat×Nat) (mx B:Nat) (w:World) (va sa:Value) (vs:List Value) (k:Nat):Prop where
 vals:OwnI B w va (vsL O X k)
 rows:OwnR B w sa vs
 len:vs.length=k
 each:∀r,r<k→∃g,vs[r]?=some (.slice (some ⟨g,0,none⟩) mx mx)∧va.ownBlock≠some g∧sa.ownBlock≠some g∧Img w g mx (rowI O X r)
theorem GSt.keep {O:Nat→Opw} {X:Nat→Nat×Nat} {mx B:Nat} {w w2:World} {va sa:Value} {vs:List Value} {k:Nat} (h:GSt O X mx B w va sa vs k) (hb:Below w.heap.size w w2):GSt O X mx B w2 va sa vs k :=
 ⟨OwnI.keep h.vals hb,OwnR.keep h.rows hb,h.len,fun r hr=>by obtain⟨g,e1,e2,e3,i⟩:=h.each r hr;exact⟨g,e1,e2,e3,i.keep hb⟩⟩
theorem GSt.push {O:Nat→Opw} {X:Nat→Nat×Nat} {mx B:Nat} {w w2:World} {va sa va' sa':Value} {vs:List Value} {k g0:Nat} (h:GSt O X mx B w va sa vs k) (hk:Kp w w2 va sa va' sa') (hv:OwnI B w2 va' (vsL O X (k+1))) (hr:OwnR B w2 sa' (vs++[.slice (some ⟨g0,0,none⟩) mx mx])) (g1:va.ownBlock≠some g0) (g2:sa.ownBlock≠some g0) (hi:Img w g0 mx (rowI O X k)) :
   GSt O X mx B w2 va' sa' (vs++[.slice (some ⟨g0,0,none⟩) mx mx]) (k+1):=by
 refine⟨hv,hr,by rw [List.length_append,h.len];rfl,fun r hr=>?_⟩
 rcases Nat.lt_or_ge r k with c | c
 · obtain⟨g,e1,e2,e3,i⟩:=h.each r c
   obtain⟨q1,q2,q3⟩:=hk.2 g i.1 e2 e3
   exact⟨g,by rw [List.getElem?_append_left (by rw [h.len];exact c)];exact e1,q2,q3,i.block hk.1 q1⟩
 · have e:r=k:=by omega
   subst e
   obtain⟨q1,q2,q3⟩:=hk.2 g0 hi.1 g1 g2
   exact⟨g0,by rw [List.getElem?_append_right (by rw [h.len];omega),h.len,Nat.sub_self];rfl,q2,q3,hi.block hk.1 q1⟩
theorem GSt.rws {O:Nat→Opw} {X:Nat→Nat×Nat} {mx B:Nat} {w:World} {va sa:Value} {vs:List Value} {k:Nat} (h:GSt O X mx B w va sa vs k) (hm:mx≤64) (hw:∀r,r<k→∀j,j<mx→W2 (rowI O X r j)):∃A C RA RC,sa=.slice A k C∧Rws w A k RA (fun _=>mx) RC (dAt O X k)∧∀r,r<k→∃b,RA r=some ⟨b,0,none⟩:=by
 have h':w.ownsRow B 46 1 sa vs.length vs:=h.rows
 rw [h.len] at h'
 rcases h'.2 with ⟨rfl,hn⟩ | ⟨g,cap,cur,rfl, -⟩
 · rw [hn]
   exact⟨none,0,fun _=>none,fun _=>0,rfl,fun j hj=>by omega,fun j hj=>by omega⟩
 · have hl:=(World.ownsRow.lt h' g rfl).2
   obtain⟨G,hG⟩:=Classical.axiomOfChoice (r:=fun (r:Nat) (q:Nat)=>r<k→vs[r]?=some (.slice (some ⟨q,0,none⟩) mx mx)∧Img w q mx (rowI O X r)) (fun r=>by
     by_cases c:r<k
     · obtain⟨q,e1, -, -,i⟩:=h.each r c
       exact⟨q,fun _=>⟨e1,i⟩⟩
     · exact⟨0,fun d=>absurd d c⟩)
   refine⟨_,cap,fun r=>some ⟨G r,0,none⟩,fun _=>mx,rfl,fun r hr=>⟨g,0,rfl,hl, ?_,by show mx≤_;omega, ?_⟩,fun r _=>⟨G r,rfl⟩⟩
   · rw [Nat.zero_add,World.ownsRow.cellAt h' r (by omega)]
     exact (hG r hr).1
   · rw [dAt_row O X hr]
     exact (hG r hr).2.ivs (fun j hj=>hw r hr j hj)
theorem ivCells_cells {w:World} {b o n:Nat} {X:Nat→Nat×Nat} (V:Ivs w (some ⟨b,o,none⟩) n X):∀(j:Nat) (u:Value),(ivCells ((List.range n).map X))[j]?=some u→w.cell? ((⟨b,o,none⟩:Addr).add j)=some u:=by
 intro j u hj
 have hlen:j<n*2:=by
   have:=(List.getElem?_eq_some_iff.1 hj).1
   rw [ivCells_len,List.length_map,List.length_range] at this
   exact this
 obtain⟨i,hi⟩:∃i,i=j/2:=⟨_,rfl⟩
 have hin:i<n:=by omega
 have hget:((List.range n).map X)[i]?=some (X i):=by simp [hin]
 obtain⟨e0,e1⟩:=ivCells_at _ i _ hget
 obtain⟨b',o',e,l,c0,c1, -⟩:=V i hin
 cases e
 have hadd:(⟨b,o,none⟩:Addr).add j=⟨b,o+j,none⟩:=by unfold Addr.add;split <;> simp_all
 rw [hadd]
 rcases Nat.mod_two_eq_zero_or_one j with c | c
 · have ej:j=i*2:=by omega
   rw [ej] at hj ⊢
   rw [e0] at hj
   cases hj
   exact c0
 · have ej:j=i*2+1:=by omega
   rw [ej] at hj ⊢
   rw [e1] at hj
   cases hj
   rw [←Nat.add_assoc]
   exact c1
theorem ivCells_one (xs:List (Nat×Nat)):∀u∈ivCells xs,u.oneCell'=true:=by
 induction xs with
 | nil=>intro u hu;cases hu
 | cons p t ih =>
   intro u hu
   have e:ivCells (p :: t)=.float .f64 p.1 :: .float .f64 p.2 :: ivCells t:=rfl
   rw [e] at hu
   simp only [List.mem_cons] at hu
   rcases hu with rfl | rfl | h
   · rfl
   · rfl
   · exact ih u h
set_option maxHeartbeats 1000000 in
theorem clone_w (b o n C:Nat) (X:Nat→Nat×Nat) (hn:n≤64) (w:World) (V:Ivs w (some ⟨b,o,none⟩) n X) :
   Calls Tryz.prog 137 #[.slice (some ⟨b,o,none⟩) n C] w fun e w'=>(∃A C',e=.returned (.slice A n C')∧Ivs w' A n X∧∀x,x<w.heap.size→Off A n x)∧Below w.heap.size w w':=by
 have hx:=ivs_words V
 have hown:=ownI_empty w
 have hb0:Below w.heap.size w (w.alloc (.cells #[] 24)):=by go_grown
 have hc:=ivCells_cells (V.keep hb0)
 have h1:=ivCells_one ((List.range n).map X)
 have hl:(ivCells ((List.range n).map X)).length=n*2:=by rw [ivCells_len,List.length_map,List.length_range]
 obtain⟨i0,hi,hz0,hz1,hz2⟩:=info_parts Tryz.infoIval
 replace hc:Hid _:=hc
 replace h1:Hid _:=h1
 replace hx:Hid _:=hx
 replace hl:Hid _:=hl
 replace hown:Hid _:=hown
 replace hi:Hid _:=hi
 replace hz0:Hid _:=hz0
 replace hz1:Hid _:=hz1
 replace hz2:Hid _:=hz2
 have q46:∀(w:World) (a:Option Addr) (n c n' c':Nat),(binOp .eql 46 (.slice a n c) (.slice none n' c')).run Tryz.prog w=.ok (.bool a.isNone) w:=fun w a n c n' c'=>Go.Lib.run_eql_slice_nil w _ _ a n c n' c' Tryz.underlying46
 clear V
 go_enter Tryz.func137,Tryz.ntmps137
 go_wp2_with
  (at_builtin
   refine wpList_append_own _ (by rfl) _ _ 46 (by rfl) w.heap.size 24 i0 (.agg #[.float .f64 0,.float .f64 0]) 2 16 Tryz.underlying46 hi.out hz0.out hz1.out hz2.out rfl (by decide) _ 0 [] (by rfl) hown.out ⟨b,o,none⟩ n C (ivCells ((List.range n).map X)) (by rfl) hl.out hc.out h1.out (by unfold maxLen;omega) (by omega) (by go_size) ?_
   intro v' w' o1 o2 _)
 have own:OwnI w.heap.size w' v' ((List.range n).map X):=by
   unfold OwnI
   rw [List.length_map,List.length_range]
   rw [Nat.zero_add,List.nil_append] at o1
   exact o1
 have HB:Below w.heap.size w w':=(hb0.grown o2 (by go_size) (fun k hk=>(World.ownsRow.lt hown.out k hk).1))
 obtain⟨A,C',rfl,U⟩:=ownI_ivs own (fun p hp=>by
   obtain⟨i,hi,rfl⟩:=List.mem_map.1 hp
   exact hx.out i (List.mem_range.1 hi))
 rw [List.length_map,List.length_range] at U
 have hoff:∀x,x<w.heap.size→Off A n x:=fun x hx hn0 b' o' e=>by
   have:=World.ownsRow.lt (show w'.ownsRow w.heap.size 24 2 _ _ _ from own) b' (by rw [e];rfl)
   omega
 have U2:Ivs w' A n X:=fun i hi=>by
   have:=U i hi
   simpa [hi] using this
 have e2:((List.range n).map X).length=n:=by rw [List.length_map,List.length_range]
 rw [e2]
 go_ret
 exact⟨⟨A,C',rfl,U2,hoff⟩,HB⟩
set_option maxHeartbeats 2000000 in
theorem sOuts_w (v:Int) (A:Option Addr) (n C:Nat) (D:Option Addr) (m E:Nat) (Y:Nat→Int) (B:Option Addr) (k F mx:Nat) (RA:Nat→Option Addr) (RC:Nat→Nat) (R:Nat→Nat→Nat×Nat) (hr:∀r,r<k→∃b,RA r=some ⟨b,0,none⟩) (hx:mx≤64) (hm:m≤400) (hY:∀i,i<m→0≤Y i∧Y i<(k:Int)) (w:World) (U:Rws w B k RA (fun _=>mx) RC R) (VY:Ins w D m Y) :
   Calls Tryz.prog 75 #[tapeV v A n C D m E,.slice B k F] w fun e w'=>(∃g SA SC,e=.returned (.slice (some ⟨g,0,none⟩) m m)∧Rws w' (some ⟨g,0,none⟩) m SA (fun _=>mx) SC (fun i=>R (Y i).toNat))∧Below w.heap.size w w':=by
 have HY:Hid (∀i,i<m→0≤Y i∧Y i<(k:Int)):=hY
 have HR:Hid (∀r,r<k→∃b,RA r=some ⟨b,0,none⟩):=hr
 clear hY hr
 unfold tapeV at *
 have T:=hasT_new w v A n C D m E
 have HB:Below w.heap.size w (w.alloc (.cells #[.int .i64 v,.slice A n C,.slice D m E] 45)):=by go_grown
 go_enter Tryz.func75,Tryz.ntmps75
 go_upto_region 1 with fail
 generalize (w.alloc (.cells #[.int .i64 v,.slice A n C,.slice D m E] 45))=V1 at *
 obtain⟨t0,t1,t2,tl⟩:=id T
 go_wp2_with (at_make;refine wpList_makeR (by rfl) _ _ (by rfl) m (by rfl) (by rfl) (by omega) ?_;intro w3 hI hb3 hS3;replace T:=T.keep hb3;clear t0 t1 t2 tl;obtain⟨t0,t1,t2,tl⟩:=id T)
 clear t0 t1 t2 tl T
 have hg:w.heap.size≤V1.heap.size:=HB.size
 replace HB:=later HB hb3
 clear hb3
 generalize V1.heap.size=g at *
 go_loopg [15] m (fun G s15 wx=>Below w.heap.size w wx∧g<wx.heap.size∧∃(r:Nat) (f:Nat→Value),r+G=m∧s15=.int .i64 (r:Int)∧Out wx g m f∧Hid (∀i,i<r→∃A' C',f i=.slice A' mx C'∧Ivs wx A' mx (R (Y i).toNat)∧Off A' mx g))
 case atStart=>exact⟨HB,hS3,0,_,by omega,rfl,hI,fun i hi=>absurd hi (by omega)⟩
 case round =>
   clear HB hI hS3
   obtain⟨HB,hS,r,f,hr,rfl,hI,hall⟩:=hrel
   by_cases cr:r=m
   · subst cr
     go_wp2_with fail
     go_ret
     obtain⟨SA,hSA⟩:=Classical.axiomOfChoice (r:=fun (i:Nat) (q:Option Addr×Nat)=>i<r→f i=.slice q.1 mx q.2∧Ivs wr q.1 mx (R (Y i).toNat)) (fun i=>by
       by_cases c:i<r
       · obtain⟨A',C',e1,e2, -⟩:=hall.out i c
         exact⟨(A',C'),fun _=>⟨e1,e2⟩⟩
       · exact⟨(none,0),fun d=>absurd d c⟩)
     refine⟨⟨g,fun i=>(SA i).1,fun i=>(SA i).2,rfl,fun i hi=>⟨g,0,rfl,hI.1, ?_,by show mx≤_;omega,(hSA i hi).2⟩⟩,HB⟩
     rw [Nat.zero_add,(hI.2 i hi).1,(hSA i hi).1]
   · have hlt:(r:Int)<(m:Int):=by omega
     obtain⟨b',o',hA,hb',y0⟩:=(VY.keep HB) r (by omega)
     obtain⟨j,hj⟩:∃j:Nat,Y r=(j:Int):=⟨(Y r).toNat,by have:=HY r (by omega);omega⟩
     have hjk:(j:Int)<(k:Int):=by have:=HY r (by omega);omega
     obtain⟨xb,xo,hB,hxb,x0, -,I⟩:=(U.keep HB) j (by omega)
     obtain⟨rb,hrb⟩:=HR j (by omega)
     rw [hrb] at x0 I
     have cc:=clone_w rb 0 mx (RC j) (R j) hx wr I
     have ej:R (Y r).toNat=R j:=by rw [hj];rfl
     rw [hj] at y0
     subst hA
     subst hB
     go_wp2_with (go_at_call 137;refine cc.mono ?_;rintro _ w4 ⟨⟨A4,C4,rfl,I4,off4⟩,hb4⟩;replace hI:=hI.keep hb4;replace HB:=later HB hb4;obtain⟨i0,f0⟩:=id (hI.2 r (by omega)))
     have kx:Bex g w4 (w4.setCell ⟨g,r,none⟩ (.slice A4 mx C4)):=Bex.set ⟨Nat.le_refl _,fun _ _ _=>rfl⟩ r _
     have o4:=off4 g hS
     have hall2:Hid (∀i,i<r+1→∃A' C',(if i=r then Value.slice A4 mx C4 else f i)=.slice A' mx C'∧Ivs (w4.setCell ⟨g,r,none⟩ (.slice A4 mx C4)) A' mx (R (Y i).toNat)∧Off A' mx g):=fun i hi=>by
       by_cases e:i=r
       · rw [if_pos e,e,ej]
         exact⟨A4,C4,rfl,I4.ex kx o4,o4⟩
       · rw [if_neg e]
         obtain⟨A',C',e1,e2,e3⟩:=hall.out i (by omega)
         exact⟨A',C',e1,(e2.keep hb4).ex kx e3,e3⟩
     have hs4:=hb4.size
     go_roundg (m-r-1)
     case measure=>omega
     case rel =>
       refine⟨?_,by rw [World.size_setCell];omega,r+1,_,by omega,by go_num,hI.set r _ (by omega),hall2⟩
       repeat' (first | (with_reducible exact HB) | (with_reducible refine Below.setCell ?_ ?_ _) | go_size | omega)
theorem nexts_w {o:Opw} {i mx:Nat} (hmx:mx≤64) (h:opB o (i:Int) (mx:Int)=true) (v:Nat×Nat) (hv:W2 v) (B:Option Addr) (D:Nat) (V:Nat→Nat×Nat) (A:Option Addr) (C:Nat) (RA:Nat→Option Addr) (RC:Nat→Nat) (R:Nat→Nat→Nat×Nat) (w:World) (UV:Ivs w B i V) (U:Rws w A i RA (fun _=>mx) RC R) :
   Calls Tryz.prog 73 #[o.val,.agg #[.float .f64 v.1,.float .f64 v.2],.slice B i D,.slice A i C,.int .i64 (mx:Int)] w fun e w' =>
     ((errD o.k v mx (slQ o v (argA o V) (argB o V) (rowA o R) (rowB o R))=0∧∃g,w.heap.size≤g∧e=.returned (.tuple #[.slice (some ⟨g,0,none⟩) mx mx,.int .i64 0])∧Img w' g mx (slQ o v (argA o V) (argB o V) (rowA o R) (rowB o R))) ∨
       (errD o.k v mx (slQ o v (argA o V) (argB o V) (rowA o R) (rowB o R))≠0∧e=.returned (.tuple #[.slice none 0 0,.int .i64 (errD o.k v mx (slQ o v (argA o V) (argB o V) (rowA o R) (rowB o R)))])))∧Below w.heap.size w w':=by
 obtain⟨hk,g1,g2,g3,g4⟩:=opB_says h
 obtain⟨wa,wb⟩:=args_W2 g1 g2 UV
 have cr:∀x W,Below w.heap.size w W→w.heap.size≤x→x<W.heap.size→Calls Tryz.prog 136 #[o.val,.agg #[.float .f64 v.1,.float .f64 v.2],.slice B i D,.slice A i C] W fun e w'=>(∃fv,e=.returned fv∧Rule x w' fv mx (slQ o v (argA o V) (argB o V) (rowA o R) (rowB o R)))∧Below W.heap.size W w' :=
   fun x W hW h1 h2=>sr_any h v hv B D V A C mx RA RC R W x h2 (fun r hr=>by
     obtain⟨b,o',e,l,c, -,I⟩:=U r hr
     exact I.off h1) (UV.keep hW) (U.keep hW)
 have hG:∀j,j<mx→W2 (slQ o v (argA o V) (argB o V) (rowA o R) (rowB o R) j):=fun j hj=>by
   refine slQ_W2 hv wa wb (fun c=>?_) (fun c=>?_) hk
   · unfold rowA
     rw [if_pos c]
     obtain⟨b,o',e,l,cc, -,I⟩:=U o.a.toNat (by have:=g1 c;omega)
     exact ivs_words I j hj
   · unfold rowB
     rw [if_pos c]
     obtain⟨b,o',e,l,cc, -,I⟩:=U o.b.toNat (by have:=g2 c;omega)
     exact ivs_words I j hj
 have c1:=fun w=>has_w v.1 v.2 0 hv.1 hv.2 (by omega) w
 generalize slQ o v (argA o V) (argB o V) (rowA o R) (rowB o R)=G at *
 clear wa wb UV U g1 g2 g3 g4
 obtain⟨k,oa,ob,n,lo,hi⟩:=o
 unfold Opw.val at *
 unfold errD
 simp only at *
 by_cases c:0<mx∧k=9∧hasB v.1 v.2 0=true
 · rw [if_pos c]
   obtain⟨q1,rfl,q3⟩:=c
   rw [q3] at c1
   refine (ns_out oa ob n (lo,hi) v _ _ mx (by omega) c1 w).mono ?_
   rintro _ w' ⟨rfl,hb⟩
   exact⟨Or.inr ⟨by decide,rfl⟩,hb⟩
 · rw [if_neg c]
   refine (ns_row k oa ob n (lo,hi) v _ _ mx hmx G hG _ ?_ c1 w cr).mono ?_
   · rcases Nat.eq_zero_or_pos mx with q | q
     · exact .inl q
     · by_cases q2:k=9
       · refine .inr (.inr ⟨by omega,q2, ?_⟩)
         cases q3:hasB v.1 v.2 0
         · rfl
         · exact absurd ⟨q,q2,q3⟩ c
       · exact .inr (.inl ⟨by omega,by rw [beq_eq_false_iff_ne];exact q2⟩)
   · rintro _ w' ⟨⟨e1,g,e2,rfl,I⟩ | ⟨e1,rfl⟩,hb⟩
     · have e3:((List.range mx).all fun j=>bndB (G j))=true:=e1
       rw [e3]
       exact⟨Or.inl ⟨rfl,g,e2,rfl,I⟩,hb⟩
     · have e3:((List.range mx).all fun j=>bndB (G j))=false:=e1
       rw [e3]
       exact⟨Or.inr ⟨by simp,by simp⟩,hb⟩
theorem rowI_W2 {O:Nat→Opw} {X:Nat→Nat×Nat} {n:Nat} {vars:Int} (hr:∀i,i<n→opB (O i) (i:Int) vars=true) (hl:∀i,i<n→W2 ((O i).lo,(O i).hi)) (hX:∀i:Nat,(i:Int)<vars→W2 (X i)) (j:Nat):∀d i,i<d→i<n→W2 (rowI O X i j):=by
 have hv:=vsL_W2 hr hl hX
 have at_:∀i,i≤n→∀t:Nat,t<i→W2 (vAt O X i t):=fun i hi t ht=>by
   have lj:t<(vsL O X i).length:=by rw [vsL_len];exact ht
   have:vAt O X i t=(vsL O X i)[t]:=by unfold vAt;simp [lj]
   rw [this]
   exact hv i hi _ (List.getElem_mem lj)
 intro d
 induction d with
 | zero=>intro i h;omega
 | succ d ih =>
   intro i hd hi
   obtain⟨hk,g1,g2,g3, -⟩:=opB_says (hr i hi)
   have hval:W2 (valI O X i):=by
     have:=at_ (i+1) (by omega) i (by omega)
     rw [vAt_val O X (by omega)] at this
     exact this
   refine slQ_W2 hval ?_ ?_ (fun c=>?_) (fun c=>?_) hk
   · unfold argA
     split
     · rename_i c
       exact at_ i (by omega) _ (by have:=g1 c;omega)
     · exact zz_W2
   · unfold argB
     split
     · rename_i c
       exact at_ i (by omega) _ (by have:=g2 c;omega)
     · exact zz_W2
   · unfold rowA
     rw [if_pos c,dAt_row O X (by have:=g1 c;omega)]
     exact ih _ (by have:=g1 c;omega) (by have:=g1 c;omega)
   · unfold rowB
     rw [if_pos c,dAt_row O X (by have:=g2 c;omega)]
     exact ih _ (by have:=g2 c;omega) (by have:=g2 c;omega)
end Go.Proofs.YtfdelmgingefkaaGreat
