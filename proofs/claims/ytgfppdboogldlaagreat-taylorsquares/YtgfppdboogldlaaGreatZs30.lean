/- taylor: the variable's next coefficient. A region that draws the order of its first operations and then has others one by one: the first ones are walked under a condition that the others may break. -/
import Derived.Test.YtgfppdboogldlaaGreatZs29
import Derived.Test.YtgfppdboogldlaaGreatZs17
import Derived.Deep.RegionHeld3
namespace Go.Proofs.YtgfppdboogldlaaGreat
open Go.ChangeShapes Go.WideShapes Go.ChangeAt Go.RowKit
set_option maxHeartbeats 4000000 in
theorem tnov_w (k b ob oo oC db n t nl C:Nat) (A:Option Addr) (Y:Nat→Nat×Nat) (K P:Nat×Nat) (ht:t<n) (hk:k<nl) (hk2:k≤1000) (hP:W2 P) (w:World) (U:WithPl w b) (lo:ob<w.heap.size) (ld:db<w.heap.size)
   (ck:∀w,Calls Tryz.prog 98 #[.float .f64 (floatOfInt .f64 ((k:Int)+1))] w fun e w'=>e=.returned (.agg #[.float .f64 K.1,.float .f64 K.2])∧Below w.heap.size w w') (cv:∀w,Calls Tryz.prog 142 #[.agg #[.float .f64 (Y k).1,.float .f64 (Y k).2],.agg #[.float .f64 K.1,.float .f64 K.2]] w fun e w'=>e=.returned (.agg #[.float .f64 P.1,.float .f64 P.2])∧Below w.heap.size w w')
   (c3:w.cell? ⟨b,3,none⟩=some (.slice (some ⟨ob,oo,none⟩) 1 oC)) (co:w.cell? ⟨ob,oo,none⟩=some (.int .i64 (t:Int))) (c5:w.cell? ⟨b,5,none⟩=some (.slice (some ⟨db,0,none⟩) n n))
   (cd:w.cell? ⟨db,t*2,none⟩=some (.slice A nl C)) (V:Ivs w A nl Y) :
   Calls Tryz.prog 63 #[.pointer (some ⟨b,0,none⟩),.int .i64 (k:Int)] w fun e w'=>(∃g,e=.returned (.slice (some ⟨g,0,none⟩) 1 1)∧w.heap.size≤g∧Ivs w' (some ⟨g,0,none⟩) 1 (fun _=>P))∧Below w.heap.size w w':=by
 have cw:=fun W (u:WithPl W b)=>twhole_w ((k:Int)+1) K ck b W u
 have cq:=fun W=>pdiv_w _ _ _ cv W
 clear ck cv
 obtain⟨xa,oa,rfl,la,ea0,ea1, -⟩:=V k hk
 have lb:=U.2
 have ltk2:(k:Int)≤1000:=by omega
 have ltk:(k:Int)<(nl:Int):=by omega
 have ltt:(t:Int)<(n:Int):=by omega
 have HB:=Below.refl w.heap.size w
 have ls:w.heap.size≤w.heap.size:=Nat.le_refl _
 clear V
 go_enter Tryz.func63,Tryz.ntmps63
 go_wp2_with (at_make;refine wpList_makeI (by rfl) _ _ (by rfl) 1 (by rfl) (by rfl) (by omega) ?_;intro w3 hI hb3 hS3;replace U:=U.keep hb3;replace c3:=keepsC hb3 c3 lb;replace c5:=keepsC hb3 c5 lb;replace co:=keepsC hb3 co lo;replace cd:=keepsC hb3 cd ld;replace ea0:=keepsC hb3 ea0 la;replace ea1:=keepsC hb3 ea1 la;replace HB:=later HB hb3;replace lo:=Nat.lt_of_lt_of_le lo hb3.size;replace ld:=Nat.lt_of_lt_of_le ld hb3.size;replace la:=Nat.lt_of_lt_of_le la hb3.size;clear hb3)
 generalize hgg:w.heap.size=g0 at hI hS3
 go_loopg [21] 1 (fun G s21 wx=>Below w.heap.size w wx∧∃r:Nat,r+G=1∧s21=.int .i64 (r:Int)∧Img wx g0 1 (fun _=>if r=0 then (0,0) else P)∧(r=0→w3=wx))
 case atStart=>exact⟨HB,0,by omega,rfl,hI,fun _=>rfl⟩
 case round =>
   clear HB hI
   obtain⟨HB,r,hr,rfl,hI,hw⟩:=hrel
   by_cases c0:r=0
   · subst c0
     obtain rfl:=hw rfl
     obtain rfl:gk=1:=by omega
     go_upto_region 5 with fail
     have ku:=fun n:Behind w3=>n.cell U.1 U.2
     have k3:=fun n:Behind w3=>n.cell c3 U.2
     have k5:=fun n:Behind w3=>n.cell c5 U.2
     have ko:=fun n:Behind w3=>n.cell co lo
     have kd:=fun n:Behind w3=>n.cell cd ld
     have ka0:=fun n:Behind w3=>n.cell ea0 la
     have ka1:=fun n:Behind w3=>n.cell ea1 la
     have cw':=fun n:Behind w3=>cw n.W (U.keep n.bel)
     refine tail_behind 25 (by kernel_rfl) (by kernel_rfl) ?_
     simp only [List.take_succ_cons,List.take_zero,List.drop_succ_cons,List.drop_zero]
     repeat (go_big_quiet_step (first | (go_at_call 79;with_reducible refine Behind.call (cw' _)) | (go_at_call 133;with_reducible refine Behind.call (cq _))))
     refine wpQuiet_nil ?_
     rintro _ ⟨m',rfl⟩
     obtain⟨W,hb1⟩:=m'
     dsimp only
     clear ku k3 k5 ko kd ka0 ka1 cw'
     replace hI:=hI.keep hb1
     replace HB:=later HB hb1
     obtain⟨i0,i1,f0,f1⟩:=id (hI.2 0 (by omega))
     go_wp2_with fail
     go_roundg 0
     case measure=>omega
     case rel =>
       refine⟨?_,1,by omega,by go_num,(hI.set 0 _ _ (by omega)).congr fun i hi=>?_,fun e=>by omega⟩
       · repeat' (first | (with_reducible exact HB) | (with_reducible refine Below.setCell ?_ ?_ _) | go_size | omega)
       · obtain rfl:i=0:=by omega
         simp
   · obtain rfl:r=1:=by omega
     have hI':Img wr g0 1 (fun _=>P):=hI.congr fun i hi=>by simp
     go_wp2_with fail
     refine bodyPost_ret (v:=.slice (some ⟨g0,0,none⟩) 1 1) (by simp [results,Tryz.results63,go_sem, *]) rfl ⟨⟨g0,rfl,by omega,hI'.ivs fun _ _=>hP⟩,HB⟩
section
variable {P:Program} {ops hd:Array Oper}
def HeadQ (N:Act→World→Prop) (Q:Exit→Act→World→Prop):Exit→Act→World→Prop
 | .normal,a,w=>N a w
 | e,a,w=>Q e a w
theorem letsOut_head {N:Act→World→Prop} {Q:Exit→Act→World→Prop} (h:LetsOut (HeadQ N Q)):LetsOut Q:=h
theorem operWp_head {o:Oper} {N:Act→World→Prop} {Q:Exit→Act→World→Prop} {K K':Act→World→Prop} {a:Act} {w:World} (hK:∀a w,K a w→K' a w)
   (h:o.wp P a w K (HeadQ N Q)):o.wp P a w K' Q:=by
 unfold Oper.wp at *
 generalize (execOp a.eval o).run P w=r at *
 cases r with
 | ok n w' =>
   cases n <;> simp only [Oper.upon] at h ⊢ <;>
     first
       | exact hK _ _ h
       | exact Calls.mono h (fun e w'' he=>by cases e <;> first | exact hK _ _ he | exact he)
       | exact Rows.mono h (fun _ _ he=>hK _ _ he)
 | halt x w'=>cases x <;> simp only [Oper.upon] at h ⊢ <;> exact h
theorem wpOp_head {md:Region.Mode} {n j:Nat} {N:Act→World→Prop} {Q:Exit→Act→World→Prop} {K K':Act→World→Prop} {a:Act} {w:World} (H:Heads md ops hd n) (hj:j<n) (hK:∀a w,K a w→K' a w)
   (h:wpOp P hd (HeadQ N Q) j K a w):wpOp P ops Q j K' a w:=by
 have e:=H.same j hj
 unfold wpOp at *
 rw [e] at h
 cases ho:ops[j]? with
 | none=>rw [ho] at h;exact hK _ _ h
 | some o =>
   rw [ho] at h
   simp only at h ⊢
   rw [head_wanted H hj ho] at h
   split
   · rename_i hw;simp only [hw,if_true] at h;exact h.imp (operWp_head hK) (fun q=>⟨q.1,letsOut_head q.2⟩)
   · rename_i hw;simp only [hw] at h;exact hK _ _ h
theorem head_splitA {md:Region.Mode} {n g:Nat} {Q:Exit→Act→World→Prop} {N:Act→World→Prop} (H:Heads md ops hd n) (hs:Region.sinkB md ops n=true) (hc:Region.chainB md ops n=true)
   (hT:∀listed a w,HeadInv md ops n listed→(∀j,j<n→listed.getD j true=true)→N a w→wpAny P md ops Q g listed a w) :
   ∀(f:Nat) (lh listed:Array Bool) (a:Act) (w:World),HeadInv md ops n listed→lh.size=n→(∀j,j<n→lh.getD j true=listed.getD j true)→wpAny P md hd (HeadQ N Q) f lh a w→wpAny P md ops Q (f+g) listed a w:=by
 have up:∀(lh listed:Array Bool),HeadInv md ops n listed→lh.size=n→(∀j,j<n→lh.getD j true=listed.getD j true)→∀j,j<n→(j∈Region.ready md hd lh↔j∈Region.ready md ops listed):=fun lh listed inv hsz ag j hj=>by
   have hn:=H.lt
   rw [mem_ready,mem_ready,ag j hj,H.same j hj]
   have key:∀o,ops[j]?=some o→∀e∈o.after,Region.binds md e=true→lh.getD e.on false=listed.getD e.on false:=fun o ho e he hb=>by
     have hl:=H.low j o hj ho e he hb
     rw [getD_any (l:=lh) (by omega) false true,getD_any (l:=listed) (by rw [inv.size];omega) false true]
     exact ag e.on (by omega)
   refine and_congr_right fun _=>⟨fun ⟨o,ho,h⟩=>⟨o,ho,fun e he hb=>?_⟩,fun ⟨o,ho,h⟩=>⟨o,ho,fun e he hb=>?_⟩⟩
   · rw [←key o ho e he hb];exact h e he hb
   · rw [key o ho e he hb];exact h e he hb
 have full:∀(lh listed:Array Bool),HeadInv md ops n listed→lh.size=n→(∀j,j<n→lh.getD j true=listed.getD j true)→Region.ready md hd lh=[]→∀j,j<n→listed.getD j true=true:=fun lh listed inv hsz ag hr j=>by
   induction j using Nat.strongRecOn with
   | _ j ih =>
     intro hj
     cases hl:listed.getD j true with
     | true=>rfl
     | false =>
       have hn:=H.lt
       have:j∈Region.ready md hd lh:=by
         rw [up lh listed inv hsz ag j hj,mem_ready]
         refine⟨hl,ops[j]'(by omega),by simp,fun e he hb=>?_⟩
         have lw:=H.low j (ops[j]'(by omega)) hj (by simp) e he hb
         rw [getD_any (l:=listed) (by rw [inv.size];omega) false true]
         exact ih e.on lw (by omega)
       rw [hr] at this
       cases this
 intro f
 induction f with
 | zero =>
   intro lh listed a w inv hsz ag h
   rw [Nat.zero_add]
   exact hT listed a w inv (full lh listed inv hsz ag h.1) h.2
 | succ f ih =>
   intro lh listed a w inv hsz ag h
   by_cases hr:Region.ready md hd lh=[]
   · exact any_more' (hT listed a w inv (full lh listed inv hsz ag hr) (h.1 hr)) _
   · obtain⟨i,hi⟩:=List.exists_mem_of_ne_nil _ hr
     have hin:i<n:=by
       obtain⟨_,o,ho,_⟩:=mem_ready.1 hi
       have:=(Array.getElem?_eq_some_iff.1 ho).1
       rw [H.size] at this
       exact this
     have hi':=(up lh listed inv hsz ag i hin).1 hi
     rw [show f+1+g=(f+g)+1 by omega]
     refine⟨fun h0=>(by rw [h0] at hi';cases hi'),fun j hj=>?_⟩
     have hjn:j<n:=by
       rcases Nat.lt_or_ge j n with c | c
       · exact c
       · exact absurd hj (tail_waits hs hc H.lt inv _ i rfl hin (mem_ready.1 hi').1 j c)
     refine wpOp_head H hjn (fun a' w' hK=>ih (lh.setIfInBounds j true) (listed.setIfInBounds j true) a' w' (inv.set hj hjn) (by simp [hsz]) (fun k hk=>?_) hK) (h.2 j ((up lh listed inv hsz ag j hjn).2 hj))
     by_cases hjk:j=k
     · subst hjk
       have:=H.lt
       simp [hsz,hk,inv.size,show j<ops.size by omega]
     · rw [Go.getD_set_ne true hjk,Go.getD_set_ne true hjk]
       exact ag k hk
def tailA (l:List Oper) (n:Nat):Bool:=decide (n<l.length)&&Region.sinkB .any l.toArray n&&Region.chainB .any l.toArray n&&lowB l n&&Region.seqB .any l.toArray (l.length-n) n (List.replicate n true++List.replicate (l.length-n) false).toArray
theorem held_tail {id:Nat} {Q:Exit→Act→World→Prop} {a:Act} {w:World} {l:List Oper} (n:Nat) (S:World→Prop) (hm:P.follows .mixedOrders=true) (hB:tailA l n=true) (hS:S w.drew)
   (h:S w.drew→wpAnyH P .any (l.take n).toArray (HeadQ (fun a' w'=>wpList P l.toArray Q (l.drop n) a' w') Q) S n (Array.replicate n false) a w.drew):(Code.region id l.toArray true).wp P Q a w:=by
 simp only [tailA,Bool.and_eq_true,decide_eq_true_eq] at hB
 obtain⟨⟨⟨⟨hn,hs⟩,hc⟩,hlow⟩,hseq⟩:=hB
 have H:=heads_of hn hlow
 have q:=wpAny_of_held _ _ _ _ (h hS)
 refine wp_region_any hm ?_
 have:=head_splitA (P:=P) (Q:=Q) (g:=l.length-n) H hs hc (fun listed a' w' inv full hq=>by
   have e:listed=(List.replicate n true++List.replicate (l.length-n) false).toArray:=by
     have sz:=inv.size
     refine Array.ext (by simp [sz];omega) fun i h1 h2=>?_
     have hi:i<l.length:=by rw [sz] at h1;simpa using h1
     rcases Nat.lt_or_ge i n with c | c
     · have:=full i c
       simp [h1] at this
       simp [this,c]
     · have:=inv.tail i c (by simpa using hi)
       simp [h1] at this
       rw [this]
       simp [c]
   have s:=wpAny_of_seq (P:=P) (md:=.any) (Q':=Q) (l.drop n) n listed a' w' (fun j=>by simp [List.getElem?_drop]) (by rw [e,List.length_drop];exact hseq) hq
   rwa [List.length_drop] at s) n (Array.replicate n false) (Array.replicate l.toArray.size false) a w.drew
   ⟨by simp,fun j oj _ hl=>(by rw [getD_replicate_false] at hl;cases hl),fun t _ ht=>getD_in (by simpa using ht) (getD_replicate_false _ _)⟩ (by simp) (fun j hj=>?_) q
 · rw [show n+(l.length-n)=l.toArray.size by simp;omega] at this
   exact this
 · have hj':j<l.length:=by omega
   simp [hj,hj']
end
end Go.Proofs.YtgfppdboogldlaaGreat
