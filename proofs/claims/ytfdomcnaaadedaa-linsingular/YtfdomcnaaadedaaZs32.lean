/- copy of floats into a row of the call's own; a matrix beside the unit one. Gauss' and Jordan's way in floats ends, with rows of floats or none. -/
import Derived.Test.YtfdomcnaaadedaaZs31
namespace Go.Proofs.Ytfdomcnaaadedaa
open Go.ChangeShapes Go.WideShapes Go.ChangeAt Go.RowKit
theorem Flo.sized {w:World} {g m k:Nat} (h:Flo w g m) (h2:Flo w g k):m=k:=by
 obtain⟨cs,t,hg,hm, -⟩:=h
 obtain⟨ds,t2,hg2,hk, -⟩:=h2
 rw [hg] at hg2
 simp only [Option.some.injEq,Obj.cells.injEq] at hg2
 rw [←hm,←hk,hg2.1]
theorem wpList_copyF {w:World} {ops:Array Oper} {rest:List Oper} {o:Oper} {a:Act} {Q:Exit→Act→World→Prop} (hgd:o.guard=none) (d s:Operand)
   (ho:o.op=.call { callee:=.builtin .copy,args:=#[d,s],argTypes:=#[24,24] }) (g m C c k D:Nat) (hd:a.eval d=.slice (some ⟨g,0,none⟩) m C) (hs:a.eval s=.slice (some ⟨c,0,none⟩) k D)
   (hk:k≤m) (V:Flo w g m) (U:Flo w c k) (B:Nat) (hB:B≤g) (h:∀w',Wrt B g w w'→wpList Try.prog ops Q rest (a.put o.dst (goInt k)) w'):wpList Try.prog ops Q (o :: rest) a w:=by
 obtain⟨cur,t,hg,hm,hx⟩:=id V
 obtain⟨src,t2,hc,hk2,hy⟩:=U
 refine wpList_copy_own hgd d s 24 24 ho 48 Try.underlying24 (by kernel_rfl) g 0 m C ⟨c,0,none⟩ k D hd hs cur t hg src.toList (by simp [hk2];exact (Nat.min_eq_left hk).symm) (fun j v hv=>?_) (by simp;omega) (fun v hv=>?_) ?_
 · have e:(⟨c,0,none⟩:Addr).add j=⟨c,j,none⟩:=by
     unfold Addr.add
     split
     · rename_i z;subst z;rfl
     · simp
   rw [e]
   simp only [World.cell?,hc]
   simpa using hv
 · obtain⟨i,hi,rfl⟩:=List.getElem_of_mem hv
   obtain⟨x,ex, -⟩:=hy i (by simpa [hk2] using hi)
   have:src.toList[i]=.float .f64 x:=by
     have:=(Array.getElem?_eq_some_iff.1 ex).2
     simpa using this
   rw [this];rfl
 · have el:src.toList.length=k:=by simp [hk2]
   rw [el]
   refine h _ ⟨below_setRow (Below.refl _ _) hB _,fun x n F=>?_,fun x n _=>setRow_other _ _ _ _ n⟩
   by_cases e:x=g
   · subst e
     obtain rfl:=F.sized V
     refine⟨_,t,setRow_heap _ _ _ _ _ _ hg,by simp;omega,fun i hi=>?_⟩
     by_cases q:i<k
     · obtain⟨z,ez,hz⟩:=hy i q
       refine⟨z, ?_,hz⟩
       simp only [List.take_zero,List.nil_append,List.getElem?_toArray]
       rw [List.getElem?_append_left (by omega)]
       simpa using ez
     · obtain⟨z,ez,hz⟩:=hx i hi
       refine⟨z, ?_,hz⟩
       simp only [List.take_zero,List.nil_append,List.getElem?_toArray]
       rw [List.getElem?_append_right (by omega),List.getElem?_drop,el,Nat.zero_add,show k+(i-k)=i by omega]
       simpa using ez
   · exact F.block (setRow_other _ _ _ _ e)
set_option maxHeartbeats 2000000 in
theorem beside_w (gb n b:Nat) (hb:Nat→Nat) (hn:n≤24) (w:World) (T:Tab b w gb n n hb) :
   Calls Try.prog 37 #[.slice (some ⟨gb,0,none⟩) n n] w fun e w'=>∃g h,e=.returned (.slice (some ⟨g,0,none⟩) n n)∧Tab w.heap.size w' g n (n+n) h∧w.heap.size≤g∧Below w.heap.size w w':=by
 have cg:∀w,Calls Try.prog 41 #[.int .i64 (n:Int),.int .i64 ((n:Int)+(n:Int))] w fun e w'=>∃g h,e=.returned (.slice (some ⟨g,0,none⟩) n n)∧Tab w.heap.size w' g n (n+n) h∧w.heap.size≤g∧Below w.heap.size w w':=fun w=>by
   have q:=gridF_w n (n+n) hn (by omega) w
   rwa [show ((n+n:Nat):Int)=(n:Int)+(n:Int) by omega] at q
 have HT:Hid (Tab b w gb n n hb):=T
 clear T
 go_enter Try.func37,Try.ntmps37
 go_wp2_with (go_at_call 41;refine (cg _).mono ?_;rintro _ w1 ⟨g,h,rfl,G0,hg,HB⟩)
 have HG:Hid (Tab w.heap.size w1 g n (n+n) h):=G0
 clear G0 cg
 go_loopg [14] n (fun G s14 wx=>Below w.heap.size w wx∧∃i:Nat,i+G=n∧s14=.int .i64 (i:Int)∧Hid (Tab w.heap.size wx g n (n+n) h))
 case atStart=>exact⟨HB,0,by omega,rfl,HG⟩
 case round =>
   clear HB HG
   obtain⟨HB,i,hi,rfl,HG⟩:=hrel
   by_cases ci:i=n
   · subst ci
     go_wp2_with fail
     go_ret
     exact⟨g,h,rfl,HG,hg,HB⟩
   · have hlt:(i:Int)<(n:Int):=by omega
     obtain⟨o0, -⟩:=HG.out.out.2 i (by omega)
     have lg:=HG.out.out.1
     obtain⟨b0, -⟩:=(HT.out.keep HB).out.2 i (by omega)
     have lb:=(HT.out.keep HB).out.1
     have ko:=fun m:Behind wr=>m.cell o0 lg
     have kb:=fun m:Behind wr=>m.cell b0 lb
     go_upto_region 6 with fail
     refine tail_behind 8 (by kernel_rfl) (by kernel_rfl) ?_
     simp only [List.take_succ_cons,List.take_zero,List.drop_succ_cons,List.drop_zero]
     repeat (go_big_quiet_step (fail))
     refine wpQuiet_nil ?_
     rintro _ ⟨m',rfl⟩
     obtain⟨W,hb1⟩:=m'
     dsimp only
     clear ko kb
     replace HG:Hid (Tab w.heap.size W g n (n+n) h):=HG.out.keep hb1
     have HB2:=later HB hb1
     have HT2:Hid (Tab b W gb n n hb):=HT.out.keep HB2
     refine wpList_copyF (by rfl) _ _ (by rfl) (h i) (n+n) (n+n) (hb i) n n (by rfl) (by rfl) (by omega) (HG.out.row i (by omega)) (HT2.out.row i (by omega)) w.heap.size (HG.out.ge i (by omega)) ?_
     intro w2 hW
     have HB3:=HB2.trans hW.below
     replace HG:Hid (Tab w.heap.size w2 g n (n+n) h):=HG.out.wrt hW (fun e=>HG.out.ne i (by omega) e.symm)
     clear HT2 hW HB2 HB hb1 o0 b0 lg lb
     obtain⟨o0, -⟩:=HG.out.out.2 i (by omega)
     obtain⟨x,x0,x1,lx⟩:=(HG.out.row i (by omega)).at (n+i) (by omega)
     have hlt2:(n:Int)+(i:Int)<(n:Int)+(n:Int):=by omega
     have hlt3:(0:Int)≤(n:Int)+(i:Int):=by omega
     have ht:((n:Int)+(i:Int)).toNat=n+i:=by omega
     go_wp2_with fail
     go_roundg (n-i-1)
     case measure=>omega
     case rel=>exact⟨HB3.setCell (HG.out.ge i (by omega)) _,i+1,by omega,by go_num,HG.out.wrt ((Wrt.refl w.heap.size (h i) _).set (HG.out.ge i (by omega)) _ _ (by omega)) (fun e=>HG.out.ne i (by omega) e.symm)⟩
def Half (w:World) (n:Nat) (v:Value):Prop:=v=.slice none 0 0∨∃c,v=.slice (some ⟨c,n,none⟩) n n∧Flo w c (n+n)
theorem Half.keep {w w2:World} {n:Nat} {v:Value} (h:Half w n v) (hb:Below w.heap.size w w2):Half w2 n v:=by
 rcases h with h | ⟨c,e,f⟩
 · exact Or.inl h
 · exact Or.inr ⟨c,e,f.keep hb⟩
theorem Half.wrt {w w2:World} {n:Nat} {v:Value} (h:Half w n v) {B g:Nat} (hW:Wrt B g w w2):Half w2 n v:=by
 rcases h with h | ⟨c,e,f⟩
 · exact Or.inl h
 · exact Or.inr ⟨c,e,hW.flo _ _ f⟩
theorem Half.other {w:World} {n:Nat} {v:Value} (h:Half w n v) {c:Nat} (k:Nat) (u:Value) (hne:∀d,Flo w d (n+n)→d≠c):Half (w.setCell ⟨c,k,none⟩ u) n v:=by
 rcases h with h | ⟨d,e,f⟩
 · exact Or.inl h
 · exact Or.inr ⟨d,e,f.other (hne d f) _ _⟩
structure Pick (w:World) (c n:Nat) (f:Nat→Value):Prop where
 out:Out w c n f
 half:∀i,i<n→Half w n (f i)
theorem Pick.keep {w w2:World} {c n:Nat} {f:Nat→Value} (h:Pick w c n f) (hb:Below w.heap.size w w2):Pick w2 c n f:=⟨h.out.keep hb,fun i hi=>(h.half i hi).keep hb⟩
theorem Pick.wrt {w w2:World} {c n:Nat} {f:Nat→Value} (h:Pick w c n f) {B g:Nat} (hW:Wrt B g w w2) (hne:c≠g):Pick w2 c n f:=⟨h.out.block (hW.rest c hne h.out.1) hW.below.size,fun i hi=>(h.half i hi).wrt hW⟩
theorem Out.noFlo {w:World} {c n m d:Nat} {f:Nat→Value} (h:Out w c n f) (hn:0<n) (hf:∀x,f 0≠.float .f64 x) (F:Flo w d m) (hm:0<m):d≠c:=by
 rintro rfl
 obtain⟨x,e, -⟩:=F.at 0 hm
 rw [(h.2 0 hn).1] at e
 exact hf x (Option.some.inj e)
theorem Half.not {w:World} {n:Nat} {v:Value} (h:Half w n v) (x:Nat):v≠.float .f64 x:=by
 rcases h with rfl | ⟨c,rfl, -⟩ <;> simp
theorem Pick.set {w:World} {c n:Nat} {f:Nat→Value} (h:Pick w c n f) (r:Nat) (v:Value) (hr:r<n) (hv:Half w n v):Pick (w.setCell ⟨c,r,none⟩ v) c n (fun i=>if i=r then v else f i):=by
 have ne:∀d,Flo w d (n+n)→d≠c:=fun d F=>h.out.noFlo (by omega) (fun x=>(h.half 0 (by omega)).not x) F (by omega)
 refine⟨h.out.set r v hr,fun i hi=>?_⟩
 by_cases e:i=r
 · simp only [e,if_true]
   exact hv.other _ _ ne
 · simp only [e,if_false]
   exact (h.half i hi).other _ _ ne
theorem Tab.swap {B:Nat} {w:World} {g n m:Nat} {h:Nat→Nat} (T:Tab B w g n m h) (i j:Nat) (hi:i<n) (hj:j<n) :
   Tab B ((w.setCell ⟨g,i,none⟩ (.slice (some ⟨h j,0,none⟩) m m)).setCell ⟨g,j,none⟩ (.slice (some ⟨h i,0,none⟩) m m)) g n m (fun r=>if r=j then h i else if r=i then h j else h r):=by
 refine⟨((T.out.set i _ hi).set j _ hj).congr fun r hr=>?_,fun r hr=>?_,fun r hr=>?_,fun r hr=>?_⟩
 · by_cases a:r=j
   · simp [a]
   · by_cases b:r=i
     · subst b;simp [a]
     · simp [a,b]
 · have q:∀s,s<n→Flo ((w.setCell ⟨g,i,none⟩ (.slice (some ⟨h j,0,none⟩) m m)).setCell ⟨g,j,none⟩ (.slice (some ⟨h i,0,none⟩) m m)) (h s) m:=fun s hs=>((T.row s hs).other (T.ne s hs) _ _).other (T.ne s hs) _ _
   split
   · exact q i hi
   · split
     · exact q j hj
     · exact q r hr
 · split
   · exact T.ne i hi
   · split
     · exact T.ne j hj
     · exact T.ne r hr
 · split
   · exact T.ge i hi
   · split
     · exact T.ge j hj
     · exact T.ge r hr
theorem Pick.other {w:World} {c n:Nat} {f:Nat→Value} (h:Pick w c n f) {g:Nat} (k:Nat) (v:Value) (hg:g≠c) (hne:∀d,Flo w d (n+n)→d≠g):Pick (w.setCell ⟨g,k,none⟩ v) c n f :=
 ⟨h.out.far hg _,fun i hi=>(h.half i hi).other _ _ hne⟩
end Go.Proofs.Ytfdomcnaaadedaa
