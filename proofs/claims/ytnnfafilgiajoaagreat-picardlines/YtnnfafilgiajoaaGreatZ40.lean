/- A tape's values: Eval of the program. A region that draws its order, of quiet operations and one store into a block that none of them reads, then others behind all of them (return f(x), c): walked once. An operation's value, the laws' way: Basic and value, kind by kind. An operation's value, the laws' way: value, kind by kind. -/
import Derived.Test.YtnnfafilgiajoaaGreatZ39
import Derived.Test.YtnnfafilgiajoaaGreatZ32
import Derived.Test.YtnnfafilgiajoaaGreatZ18
import Derived.Test.YtnnfafilgiajoaaGreatZ30
namespace Go.Proofs.YtnnfafilgiajoaaGreat
open Go.ChangeShapes Go.WideShapes Go.ChangeAt Go.RowKit
def vsL (O:Nat→Opw) (X:Nat→Nat×Nat):Nat→List (Nat×Nat)
 | 0=>[]
 | i+1=>vsL O X i++[evalQ (O i) (argA (O i) (fun j=>(vsL O X i).getD j (0,0))) (argB (O i) (fun j=>(vsL O X i).getD j (0,0))) X]
def vAt (O:Nat→Opw) (X:Nat→Nat×Nat) (i:Nat):Nat→Nat×Nat:=fun j=>(vsL O X i).getD j (0,0)
def valI (O:Nat→Opw) (X:Nat→Nat×Nat) (i:Nat):Nat×Nat:=evalQ (O i) (argA (O i) (vAt O X i)) (argB (O i) (vAt O X i)) X
def errI (O:Nat→Opw) (X:Nat→Nat×Nat) (i:Nat):Int:=errQ (O i) (argA (O i) (vAt O X i)) (argB (O i) (vAt O X i)) X
theorem vsL_step (O:Nat→Opw) (X:Nat→Nat×Nat) (i:Nat):vsL O X (i+1)=vsL O X i++[((valI O X i).1,(valI O X i).2)]:=rfl
theorem vsL_len (O:Nat→Opw) (X:Nat→Nat×Nat) (i:Nat):(vsL O X i).length=i:=by
 induction i with
 | zero=>rfl
 | succ i ih=>rw [vsL_step,List.length_append,ih];rfl
theorem vsL_W2 {O:Nat→Opw} {X:Nat→Nat×Nat} {n:Nat} {vars:Int} (hr:∀i,i<n→opB (O i) (i:Int) vars=true) (hl:∀i,i<n→W2 ((O i).lo,(O i).hi)) (hX:∀i:Nat,(i:Int)<vars→W2 (X i)):∀i,i≤n→∀p∈vsL O X i,W2 p:=by
 intro i
 induction i with
 | zero=>intro _ p hp;cases hp
 | succ i ih =>
   intro hi p hp
   have ih':=ih (by omega)
   rw [vsL_step] at hp
   rcases List.mem_append.1 hp with h | h
   · exact ih' p h
   · have e:p=valI O X i:=by simpa using h
     rw [e]
     obtain⟨-,g1,g2,g3, -⟩:=opB_says (hr i (by omega))
     have at_:∀j:Nat,j<i→W2 (vAt O X i j):=fun j hj=>by
       have lj:j<(vsL O X i).length:=by rw [vsL_len];exact hj
       have:vAt O X i j=(vsL O X i)[j]:=by unfold vAt;simp [lj]
       rw [this]
       exact ih' _ (List.getElem_mem lj)
     refine evalQ_W2 (fun _=>hl i (by omega)) (fun e=>hX _ (by have:=g3 e;omega)) ?_ ?_
     · unfold argA
       split
       · rename_i c
         exact at_ _ (by have:=g1 c;omega)
       · exact zz_W2
     · unfold argB
       split
       · rename_i c
         exact at_ _ (by have:=g2 c;omega)
       · exact zz_W2
theorem wpList_makeI0 {w:World} {ops:Array Oper} {rest:List Oper} {o:Oper} {a:Act} {Q:Exit→Act→World→Prop} (hgd:o.guard=none) (l c:Operand)
   (ho:o.op=.makeSlice 26 l c) (n:Nat) (hl:a.eval l=.int .i64 0) (hc:a.eval c=.int .i64 (n:Int)) (hn:n≤3000000)
   (h:∀w',OwnI w.heap.size w' (.slice (some ⟨w.heap.size,0,none⟩) 0 n) []→Below w.heap.size w w'→wpList Tryz.prog ops Q rest (a.put o.dst (.slice (some ⟨w.heap.size,0,none⟩) 0 n)) w'):wpList Tryz.prog ops Q (o :: rest) a w:=by
 obtain⟨i0,hi,hz0,hz1,hz2⟩:=info_parts Tryz.infoIval
 refine wpList_make_own w hgd l c 26 ho w.heap.size 40 i0 (.agg #[.float .f64 0,.float .f64 0]) 2 Tryz.underlying26 hi hz0 hz1 .i64 .i64 _ n hl hc rfl (by rw [hz2];omega) (by unfold maxLen;omega) (Nat.le_refl _) ?_
 intro w' h1 h2
 exact h w' h1 ⟨h2.os,h2.tape,h2.output,h2.size,fun k hk=>h2.block k hk (by simp)⟩
set_option maxHeartbeats 4000000 in
theorem eval_t (v:Int) (A:Option Addr) (n C:Nat) (D:Option Addr) (m E:Nat) (O:Nat→Opw) (Y:Nat→Int) (AX:Option Addr) (mx CX:Nat) (X:Nat→Nat×Nat) (hn:n≤4000) (hm:m≤400) (hv:v=(mx:Int)) (hr:∀i,i<n→opB (O i) (i:Int) (mx:Int)=true) (hY:∀i,i<m→0≤Y i∧Y i<(n:Int)) (w:World) (VO:Ops w A n O) (VY:Ins w D m Y) (VX:Ivs w AX mx X)
   (c1:∀W,Below w.heap.size w W→Calls Tryz.prog 29 #[tapeV v A n C D m E,.slice AX mx CX] W fun e w'=>e=.returned (.int .i64 0)∧Below W.heap.size W w') :
   Calls Tryz.prog 12 #[tapeV v A n C D m E,.slice AX mx CX] w fun e w' =>
     ((∃g,e=.returned (.tuple #[.slice (some ⟨g,0,none⟩) m m,.int .i64 0])∧Img w' g m (fun i=>vAt O X n (Y i).toNat)∧∀j,j<n→errI O X j=0) ∨
      (∃k,k<n∧(∀j,j<k→errI O X j=0)∧errI O X k≠0∧e=.returned (.tuple #[.slice none 0 0,.int .i64 (errI O X k)])))∧Below w.heap.size w w':=by
 subst hv
 have HR:Hid (∀i,i<n→opB (O i) (i:Int) (mx:Int)=true):=hr
 have HY:Hid (∀i,i<m→0≤Y i∧Y i<(n:Int)):=hY
 have HW:Hid (∀i,i≤n→∀p∈vsL O X i,W2 p):=vsL_W2 hr (fun i hi=>by obtain⟨b,o,e,l,c0,c1,c2,c3,c4,c5,r⟩:=VO i hi;exact r) (fun i hi=>ivs_words VX i (by omega))
 have HL:Hid (∀i,(vsL O X i).length=i):=vsL_len O X
 clear hr hY
 unfold tapeV at c1 ⊢
 have T:=hasT_new w (mx:Int) A n C D m E
 have HB:Below w.heap.size w (w.alloc (.cells #[.int .i64 (mx:Int),.slice A n C,.slice D m E] 25)):=by go_grown
 go_enter Tryz.func12,Tryz.ntmps12
 go_upto_region 1 with fail
 generalize (w.alloc (.cells #[.int .i64 (mx:Int),.slice A n C,.slice D m E] 25))=V1 at *
 obtain⟨t0,t1,t2,tl⟩:=id T
 go_wp2_with (first
   | (go_at_call 29;refine (c1 _ HB).mono ?_;rintro _ V2 ⟨rfl,hb1⟩;replace HB:=later HB hb1;replace T:=T.keep hb1;clear t0 t1 t2 tl hb1;obtain⟨t0,t1,t2,tl⟩:=id T)
   | (at_make;refine wpList_makeI0 (by rfl) _ _ (by rfl) n (by rfl) (by rfl) (by omega) ?_;intro w3 hown hb3;have T3:=T.keep hb3;clear t0 t1 t2 tl;obtain⟨t0,t1,t2,tl⟩:=id T3))
 clear t0 t1 t2 tl T3 c1
 have TB:=T
 have HB2:=HB
 go_loopg [7,25] n (fun G s7 s25 wx=>Below V2.heap.size V2 wx∧∃k:Nat,k+G=n∧s25=.int .i64 (k:Int)∧OwnI V2.heap.size wx s7 (vsL O X k)∧Hid (∀j,j<k→errI O X j=0))
 case atStart=>exact⟨hb3,0,by omega,rfl,hown,fun j hj=>absurd hj (by omega)⟩
 case round =>
   clear hown hb3
   obtain⟨HV,k,hk,rfl,hown,hall⟩:=hrel
   have T:=TB.keep HV
   have HB:=later HB2 HV
   obtain⟨A7,C7,rfl,U⟩:=ownI_ivs hown (fun p hp=>HW k (by omega) p hp)
   rw [HL k] at U hown ⊢
   by_cases ck:k=n
   · subst ck
     obtain⟨t0,t1,t2,tl⟩:=id T
     have co:=outs_i (mx:Int) A k C D m E Y A7 k C7 (fun i=>(vsL O X k).getD i (0,0)) hm HY wr U (VY.keep HB)
     unfold tapeV at co
     go_wp2_with (go_at_call 31;refine co.mono ?_;rintro _ w4 ⟨g,rfl,hI,hb4⟩)
     refine bodyPost_ret (v:=.tuple #[.slice (some ⟨g,0,none⟩) m m,.int .i64 0]) (by simp [results,Tryz.results12,go_sem]) rfl ⟨Or.inl ⟨g,rfl,hI,hall⟩,later HB hb4⟩
   · have hlt:(k:Int)<(n:Int):=by omega
     obtain⟨b,o,hA,hb,x0,x1,x2,x3,x4,x5,l0,l1⟩:=(VO.keep HB) k (by omega)
     have cn:∀W,Below wr.heap.size wr W→Calls Tryz.prog 30 #[(O k).val,.slice A7 k C7,.slice AX mx CX] W fun e w'=>e=.returned (.tuple #[.agg #[.float .f64 (if errI O X k=0 then valI O X k else zz).1,.float .f64 (if errI O X k=0 then valI O X k else zz).2],.int .i64 (errI O X k)])∧Below W.heap.size W w' :=
       fun W hW=>nextv_w A7 C7 (fun j=>(vsL O X k).getD j (0,0)) AX mx CX X (HR k (by omega)) ⟨l0,l1⟩ W (U.keep hW) ((VX.keep HB).keep hW)
     unfold Opw.val at cn
     have hst:Hid (vsL O X (k+1)=vsL O X k++[((valI O X k).1,(valI O X k).2)]):=vsL_step O X k
     have hlen:(vsL O X k).length≤2000000:=by rw [HL k];omega
     replace hlen:Hid ((vsL O X k).length≤2000000):=hlen
     have hS:=HV.size
     by_cases he:errI O X k=0
     · rw [he,if_pos rfl] at cn
       replace he:Hid (errI O X k=0):=he
       generalize valI O X k=p at *
       subst hA
       go_upto_region 11 with (go_at_call 30;refine (cn _ (by go_grown)).mono ?_;rintro _ w5 ⟨rfl,hb5⟩;replace hown:=OwnI.keep (OwnI.keep hown (by go_grown)) hb5;replace HV:=later (below_alloc HV _) hb5)
       have Z:Has2 (w5.alloc (.cells #[.float .f64 p.1,.float .f64 p.2] 40)) w5.heap.size (.float .f64 p.1) (.float .f64 p.2):=has2_new _ _ _ _
       have hb6:Below w5.heap.size w5 (w5.alloc (.cells #[.float .f64 p.1,.float .f64 p.2] 40)):=by go_grown
       replace hown:=OwnI.keep hown hb6
       replace HV:=later HV hb6
       clear hb6 hb5 cn
       have hS6:=HV.size
       generalize w5.alloc (.cells #[.float .f64 p.1,.float .f64 p.2] 40)=w6 at *
       generalize w5.heap.size=z at *
       obtain⟨y0,y1,y2,y3,y4⟩:=id Z
       go_wp2_with (at_builtin;refine wpList_pushI (by rfl) _ _ (by rfl) _ (vsL O X k) p.1 p.2 (by rfl) (by rfl) hown hlen hS6 HV ?_;intro v' w' hown' hB' hS')
       go_roundg (n-k-1)
       case measure=>omega
       case rel=>exact⟨hB',k+1,by omega,by go_num,by rw [hst];exact hown',fun j hj=>by rcases Nat.lt_or_ge j k with h | h;exact hall j h;rw [show j=k by omega];exact he⟩
     · rw [if_neg he] at cn
       have hne:(errI O X k != 0)=true:=by simpa using he
       replace he:Hid (errI O X k≠0):=he
       subst hA
       go_wp2_with (go_at_call 30;refine (cn _ (by go_grown)).mono ?_;rintro _ w5 ⟨rfl,hb5⟩;replace HB:=later (below_alloc HB _) hb5)
       refine bodyPost_ret (v:=.tuple #[.slice none 0 0,.int .i64 (errI O X k)]) (by simp [results,Tryz.results12,go_sem]) rfl ⟨Or.inr ⟨k,by omega,hall,he,rfl⟩,below_alloc HB _⟩
section
variable {P:Program} {ops hd:Array Oper}
end
end Go.Proofs.YtnnfafilgiajoaaGreat
