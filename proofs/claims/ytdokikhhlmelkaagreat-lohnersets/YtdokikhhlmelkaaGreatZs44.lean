/- lohner: the middles of a matrix, row by row. -/
import Derived.Test.YtdokikhhlmelkaaGreatZs39
import Derived.Test.YtdokikhhlmelkaaGreatZs43
import Derived.Deep.AppendLies
import Derived.Deep.RegionLaw
namespace Go.Proofs.YtdokikhhlmelkaaGreat
open Go.ChangeShapes Go.WideShapes Go.ChangeAt Go.RowKit
def OwnD (B:Nat) (w:World) (v:Value) (xs:List Nat):Prop:=w.ownsRow B 36 1 v xs.length (xs.map fun z=>Value.float .f64 z)
theorem ownD_nil (B:Nat) (w:World):OwnD B w (.slice none 0 0) []:=⟨rfl,.inl ⟨rfl,rfl⟩⟩
theorem ownD_block {B:Nat} {w w2:World} {v:Value} {xs:List Nat} (h:OwnD B w v xs) (hb:∀g,B≤g→g<w.heap.size→w2.heap[g]?=w.heap[g]?):OwnD B w2 v xs:=by
 refine⟨h.1, ?_⟩
 rcases h.2 with hn | ⟨g,cap,cur,hv,hb2,hg,rest⟩
 · exact .inl hn
 · have hlt:g<w.heap.size:=(Array.getElem?_eq_some_iff.1 hg).1
   have hl:=(World.ownsRow.lt h g (by rw [hv];rfl)).1
   refine .inr ⟨g,cap,cur,hv,hb2, ?_,rest⟩
   rw [←hg]
   exact hb g hl hlt
theorem ownD_keep {B:Nat} {w w2:World} {v:Value} {xs:List Nat} (h:OwnD B w v xs) (hb:Below w.heap.size w w2):OwnD B w2 v xs:=ownD_block h fun g _ hg=>hb.block g hg
theorem ownD_row {B n:Nat} {w:World} {A:Option Addr} {C:Nat} {xs:List Nat} (h:OwnD B w (.slice A n C) xs) (hn:xs.length=n) (h0:0<n):∃g,A=some ⟨g,0,none⟩∧B≤g∧g<w.heap.size∧∀i,i<n→w.cell? ⟨g,i,none⟩=some (.float .f64 (xs.getD i 0)):=by
 subst hn
 rcases h.2 with ⟨-,hn⟩ | ⟨g,cap,cur,hv, -⟩
 · omega
 · simp only [Value.slice.injEq] at hv
   obtain⟨rfl, -,rfl⟩:=hv
   have hl:=World.ownsRow.lt h g rfl
   refine⟨g,rfl,hl.1,hl.2,fun i hi=>?_⟩
   rw [World.ownsRow.cellAt h i (by omega)]
   simp [List.getD,hi]
theorem step_pushD {B g0:Nat} {w:World} {ops:Array Oper} {o:Oper} {a:Act} {K:Act→World→Prop} {Q:Exit→Act→World→Prop} {E:Prop} (hgd:o.guard=none) (s x:Operand)
   (ho:o.op=.call { callee:=.builtin .append,args:=#[s,x],argTypes:=#[22,22] }) (v:Value) (zs:List Nat) (z n:Nat) (hs:a.eval s=v) (hx:a.eval x=.slice (some ⟨g0,0,none⟩) 1 1)
   (hc0:w.cell? ⟨g0,0,none⟩=some (.float .f64 z)) (hown:OwnD B w v zs) (hn:zs.length=n) (hl:n≤2000000) (hB:B≤w.heap.size)
   (h:∀qa c w',OwnD B w' (.slice qa (n+1) c) (zs++[z])→Below B w w'→w.heap.size≤w'.heap.size→K (a.put o.dst (.slice qa (n+1) c)) w') :
   if Region.wanted o (yielded ops a.tmps)=true then Oper.wp Tryz.prog o a w K Q else E:=by
 subst hn
 obtain⟨i0,hi,hz0,hz1,hz2⟩:=info_parts Tryz.infoFlt
 refine step_append_lies w hgd s x 22 ho B 36 i0 (.float .f64 0) 1 8 Tryz.underlying22 hi hz0 hz1 hz2 rfl (by decide) v zs.length _ hs hown ⟨g0,0,none⟩ 1 1 [.float .f64 z] hx rfl ?_ ?_ (by omega) (by unfold maxLen;omega) (by omega) hB w.heap.size rfl ?_
 · intro j u hj
   match j,hj with
   | 0,hj=>simp at hj;subst hj;simpa [Addr.add] using hc0
 · intro u hu
   simp at hu
   rw [hu]
   rfl
 · intro g cap w' h1 h2 _ _
   have lt:∀k,v.ownBlock=some k→B≤k:=fun k hk=>(World.ownsRow.lt hown k hk).1
   refine h _ _ w' ?_ ((Below.refl B w).grown h2 hB lt) h2.size
   unfold OwnD
   rw [List.length_append,List.map_append]
   exact h1
structure RowsF (w:World) (ga n m:Nat) (h k:Nat→Nat) (F:Nat→Nat→Nat):Prop where
 out:Out w ga n (fun r=>.slice (some ⟨h r,0,none⟩) m (k r))
 row:∀r,r<n→h r<w.heap.size∧∀c,c<m→w.cell? ⟨h r,c,none⟩=some (.float .f64 (F r c))
theorem RowsF.block {w w2:World} {ga n m:Nat} {h k:Nat→Nat} {F:Nat→Nat→Nat} (G:RowsF w ga n m h k F) (hs:w.heap.size≤w2.heap.size) (ha:w2.heap[ga]?=w.heap[ga]?) (hr:∀r,r<n→w2.heap[h r]?=w.heap[h r]?):RowsF w2 ga n m h k F :=
 ⟨G.out.block ha hs,fun r hlt=>⟨Nat.lt_of_lt_of_le (G.row r hlt).1 hs,fun c hc=>(World.cell?_of_block (hr r hlt)).trans ((G.row r hlt).2 c hc)⟩⟩
theorem RowsF.keep {w w2:World} {ga n m:Nat} {h k:Nat→Nat} {F:Nat→Nat→Nat} (G:RowsF w ga n m h k F) (hb:Below w.heap.size w w2):RowsF w2 ga n m h k F :=
 G.block hb.size (hb.block ga G.out.1) fun r hr=>hb.block (h r) (G.row r hr).1
theorem RowsF.rfs {w:World} {ga n m:Nat} {h k:Nat→Nat} {F:Nat→Nat→Nat} (G:RowsF w ga n m h k F) (hm:m≤9223372036854775807) (hF:∀r,r<n→∀c,c<m→F r c<18446744073709551616):Rfs w (some ⟨ga,0,none⟩) n (fun r=>some ⟨h r,0,none⟩) (fun _=>m) k F:=fun r hr =>
 ⟨ga,0,rfl,G.out.1,by rw [Nat.zero_add];exact (G.out.2 r hr).1,hm,fun c hc=>⟨h r,0,rfl,(G.row r hr).1,by rw [Nat.zero_add];exact (G.row r hr).2 c hc,hF r hr c hc⟩⟩
def midL (X:Nat→Nat→Nat×Nat) (i c:Nat):List Nat:=(List.range c).map fun j=>midP (X i j).1 (X i j).2
theorem midL_len (X:Nat→Nat→Nat×Nat) (i c:Nat):(midL X i c).length=c:=by simp [midL]
theorem midL_step (X:Nat→Nat→Nat×Nat) (i c:Nat):midL X i (c+1)=midL X i c++[midP (X i c).1 (X i c).2]:=by simp [midL,List.range_succ]
theorem midL_at (X:Nat→Nat→Nat×Nat) (i m c:Nat) (h:c<m):(midL X i m).getD c 0=midP (X i c).1 (X i c).2:=by simp [midL,List.getD,h]
set_option maxRecDepth 8000 in
set_option maxHeartbeats 8000000 in
theorem midrows_w (A:Option Addr) (N C M:Nat) (RA:Nat→Option Addr) (RC:Nat→Nat) (X:Nat→Nat→Nat×Nat) (hN:N≤24) (hM:M≤24) (m0:0<M) (w:World) (V:Rws w A N RA (fun _=>M) RC X) :
   Calls Tryz.prog 32 #[.slice A N C] w fun e w'=>∃ga h k,e=.returned (.slice (some ⟨ga,0,none⟩) N N)∧RowsF w' ga N M h k (fun r c=>midP (X r c).1 (X r c).2)∧w.heap.size≤ga∧(∀r,r<N→w.heap.size≤h r)∧Below w.heap.size w w':=by
 go_enter Tryz.func32,Tryz.ntmps32
 go_wp2_with (at_make;refine wpList_makeRF (by rfl) _ _ (by rfl) N (by rfl) (by rfl) (by omega) ?_;intro w3 hO HB hS3)
 have hga:w.heap.size≤w.heap.size:=Nat.le_refl _
 obtain⟨ga,eg⟩:∃ga,ga=w.heap.size:=⟨_,rfl⟩
 have hga:Hid (w.heap.size≤ga):=by show _≤ga;omega
 rw [←eg] at hO hS3 ⊢
 clear eg
 go_loopg [13] N (fun G s13 wx=>Below w.heap.size w wx∧∃(r:Nat) (h k:Nat→Nat),r+G=N∧s13=.int .i64 (r:Int)∧Out wx ga N (fun i=>if i<r then .slice (some ⟨h i,0,none⟩) M (k i) else .slice none 0 0) ∧
   Hid (∀i,i<r→(h i<wx.heap.size∧∀c,c<M→wx.cell? ⟨h i,c,none⟩=some (.float .f64 (midP (X i c).1 (X i c).2)))∧w.heap.size≤h i∧h i≠ga))
 case atStart=>exact⟨HB,0,fun _=>0,fun _=>0,by omega,rfl,hO.congr fun i _=>by simp,fun i hi=>absurd hi (by omega)⟩
 case round =>
   clear HB hO hS3
   obtain⟨HB,r,h,k,hr,rfl,hO,hI⟩:=hrel
   by_cases cr:r=N
   · subst cr
     go_wp2_with fail
     go_ret
     exact⟨ga,h,k,rfl,⟨hO.congr fun i hi=>by simp [hi],fun i hi=>(hI i hi).1⟩,hga,fun i hi=>(hI i hi).2.1,HB⟩
   · have hlt:(r:Int)<(N:Int):=by omega
     obtain⟨b,o,hA,hb,x0,l0,I⟩:=(V.keep HB) r (by omega)
     have hwB:w.heap.size≤wr.heap.size:=HB.size
     have gB:ga<wr.heap.size:=hO.1
     obtain⟨b2,o2,hA2, -⟩:=I 0 m0
     subst hA
     rw [hA2] at x0
     have I':∀wy,Below w.heap.size w wy→Ivs wy (some ⟨b2,o2,none⟩) M (X r):=fun wy hy=>by
       obtain⟨_,_, -, -, -, -,J⟩:=(V.keep hy) r (by omega)
       rw [hA2] at J
       exact J
     clear I
     go_wp2_with fail
     clear x0
     obtain⟨w1,rfl⟩:∃w1,w1=wr:=⟨_,rfl⟩
     go_loopg [20] M (fun G s20 wy=>Below w.heap.size w wy∧Hid (w1.heap.size≤wy.heap.size∧∀b,b<w1.heap.size→b≠ga→wy.heap[b]?=w1.heap[b]?)∧∃(c:Nat) (A':Option Addr) (C':Nat),c+G=M∧s20=.int .i64 (c:Int)∧Out wy ga N (fun i=>if i<r then .slice (some ⟨h i,0,none⟩) M (k i) else if i=r then .slice A' c C' else .slice none 0 0)∧OwnD w1.heap.size wy (.slice A' c C') (midL X r c))
     case atStart=>exact⟨HB,⟨Nat.le_refl _,fun _ _ _=>rfl⟩,0,none,0,by omega,rfl,hO.congr fun i _=>by simp,ownD_nil _ _⟩
     case round =>
       clear HB hO
       obtain⟨HB,hF,c,A',C',hc,rfl,hO,hD⟩:=hrel
       by_cases cc:c=M
       · subst cc
         obtain⟨g,rfl,hgB,hgl,hcell⟩:=ownD_row hD (midL_len X r c) m0
         go_wp2_with fail
         go_roundg (N-r-1)
         case measure=>omega
         case rel =>
           obtain⟨f1,f2⟩:=hF
           refine⟨HB,r+1,fun i=>if i=r then g else h i,fun i=>if i=r then C' else k i,by omega,by go_num,hO.congr fun i hi=>?_,fun i hi=>?_⟩
           · by_cases e:i=r
             · subst e
               simp
             · by_cases q:i<r
               · simp [q,e,show i<r+1 by omega]
               · simp [q,e,show ¬i<r+1 by omega]
           · by_cases e:i=r
             · subst e
               simp only [if_true]
               exact⟨⟨hgl,fun c' hc'=>by rw [hcell c' hc',midL_at X i c c' hc']⟩,Nat.le_trans hwB hgB,by omega⟩
             · simp only [e,if_false]
               obtain⟨⟨q1,q2⟩,q3,q4⟩:=hI i (by omega)
               exact⟨⟨Nat.lt_of_lt_of_le q1 f1,fun c' hc'=>(World.cell?_of_block (f2 _ q1 q4)).trans (q2 c' hc')⟩,q3,q4⟩
       · have hlt2:(c:Int)<(M:Int):=by omega
         obtain⟨b3,o3,hA3,hb3,x0,x1,lx0,lx1⟩:=(I' wr HB) c (by omega)
         simp only [Option.some.injEq,Addr.mk.injEq,and_true] at hA3
         obtain⟨rfl,rfl⟩:=hA3
         have cm:=fun w=>Mid_w (X r c).1 (X r c).2 lx0 lx1 w
         have stp:=midL_step X r c
         have len:=midL_len X r c
         generalize midP (X r c).1 (X r c).2=mz at *
         generalize midL X r c=zs at *
         go_upto_region 8 with fail
         have hx:Has2 (wr.alloc (.cells #[.float .f64 (X r c).1,.float .f64 (X r c).2] 38)) wr.heap.size (.float .f64 (X r c).1) (.float .f64 (X r c).2):=has2_new _ _ _ _
         have hb0:Below wr.heap.size wr (wr.alloc (.cells #[.float .f64 (X r c).1,.float .f64 (X r c).2] 38)):=by go_grown
         replace HB:=later HB hb0
         replace hO:=hO.keep hb0
         replace hD:=ownD_keep hD hb0
         have hF1:=hF.1
         replace hF:Hid (w1.heap.size≤(wr.alloc (.cells #[.float .f64 (X r c).1,.float .f64 (X r c).2] 38)).heap.size∧∀b,b<w1.heap.size→b≠ga→(wr.alloc (.cells #[.float .f64 (X r c).1,.float .f64 (X r c).2] 38)).heap[b]?=w1.heap[b]?):=⟨Nat.le_trans hF.1 hb0.size,fun b hb hne=>(hb0.block b (Nat.lt_of_lt_of_le hb hF.1)).trans (hF.2 b hb hne)⟩
         clear hb0 x0 x1
         generalize (wr.alloc (.cells #[.float .f64 (X r c).1,.float .f64 (X r c).2] 38))=W0 at *
         generalize wr.heap.size=xb at *
         obtain⟨o0,o1⟩:=id (hO.2 r (by omega))
         simp only [show ¬r<r by omega,if_false,if_true] at o0
         have gl:=hO.1
         obtain⟨e0,e1,e2,e3,e4⟩:=id hx
         have hltr:(r:Int)<(N:Int):=by omega
         have hS:w1.heap.size≤W0.heap.size:=hF.1
         have hgx:Hid (xb<W0.heap.size):=e4
         go_region_law
           (first
             | (go_simp;go_at_call 60;(with_reducible refine (cm _).mono ?_);rintro _ W ⟨rfl,hb1⟩;have hbW:Below W0.heap.size W0 W:=later (Below.refl _ _).drew hb1;replace hO:=hO.keep hbW;replace hD:=ownD_keep hD hbW;replace HB:=later HB hbW;replace hS:=Nat.le_trans hS hbW.size;obtain⟨p0,p1⟩:=id (hO.2 r (by omega));simp only [show ¬r<r by omega,if_false,if_true] at p0;have glW:=hO.1;have neW:ga≠W.heap.size:=Nat.ne_of_lt glW)
             | (refine step_pushD (by rfl) (.tmp 29) (.tmp 32) (by rfl) _ zs mz c (by rfl) (by rfl) (by go_simp) (ownD_keep hD (by go_grown)) len (by omega) (by simp only [World.size_alloc];omega) ?_;intro A2 C2 w' hD' hB' hS';have hO2:=(hO.keep (below_alloc (Below.refl _ _) _)).block (hB'.block ga gB) hS';obtain⟨q0,q1⟩:=id (hO2.2 r (by omega));simp only [show ¬r<r by omega,if_false,if_true] at q0;have gl2:=hO2.1))
         all_goals
           go_wp2_with fail
           go_roundg (M-c-1)
           case measure=>omega
           case rel =>
             have hg:w.heap.size≤ga:=hga
             have hbA:=below_alloc HB (.cells #[.float .f64 mz] 36)
             refine⟨(hbA.trans (hB'.mono hwB)).setCell hg _,⟨?_,fun b hb hne=>?_⟩,c+1,A2,C2,by omega,by go_num,(hO2.set r _ (by omega)).congr fun i hi=>?_, ?_⟩
             · simp only [World.size_setCell]
               simp only [World.size_alloc] at hS'
               omega
             · rw [Below.heap_setCell _ _ _ _ hne,hB'.block b hb]
               exact ((below_alloc hbW (.cells #[.float .f64 mz] 36)).block b (Nat.lt_of_lt_of_le hb hF.1)).trans (hF.2 b hb hne)
             · by_cases e:i=r
               · subst e
                 simp
               · simp only [e,if_false]
             · rw [stp]
               exact ownD_block hD' fun g hg _=>Below.heap_setCell _ _ _ _ (by show g≠ga;omega)
end Go.Proofs.YtdokikhhlmelkaaGreat
