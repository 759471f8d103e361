/- A float times a power of two, rounded to a side; an interval so. The power of two above a float; the greatest one of a row. The greatest power of two of a row of floats. copy of floats into a row of the call's own; a matrix beside the unit one. Gauss' and Jordan's way in floats ends, with rows of floats or none. nearlyInverse ends, with rows of floats or none. -/
import Derived.Test.YtopfabemfbdccaaGreatZk17
import Derived.Test.YtopfabemfbdccaaGreatZk20
import Derived.Test.YtopfabemfbdccaaGreatZk02
import Derived.Test.YtopfabemfbdccaaGreatZk03
import Derived.Test.YtopfabemfbdccaaGreatZk06
import Derived.Test.YtopfabemfbdccaaGreatZk07
import Derived.Test.YtopfabemfbdccaaGreatZk23
import Derived.Test.YtopfabemfbdccaaGreatZk29
namespace Go.Proofs.YtopfabemfbdccaaGreat
open Go.ChangeShapes Go.WideShapes Go.ChangeAt Go.RowKit
def rpF (v:Nat) (e dir:Int):Nat:=if finB v then roundN (splitG v) (splitM v) (splitE v+e) dir else v
theorem rpF_lt {v:Nat} (hv:v<18446744073709551616) (e dir:Int):rpF v e dir<18446744073709551616:=by
 unfold rpF
 split
 ·exact (roundN_facts _ _ _ _ (by have:=splitM_lt v;omega)).2.2
 ·exact hv
set_option maxHeartbeats 1000000 in
theorem rp_w (v:Nat) (e dir:Int) (hv:v<18446744073709551616) (h1:-100000<=e) (h2:e<=100000) (w:World) :
  Calls Tryz.prog 294 #[.float .f64 v,.int .i64 e,.int .i64 dir] w fun x w'=>x=.returned (.float .f64 (rpF v e dir))/\Below w.heap.size w w':=by
 unfold rpF
 cases hf:finB v
 ·have cs:=fun w=>split_not v hv hf w
  go_enter Tryz.func294,Tryz.ntmps294
  go_wp2_with (go_at_call 167;refine (cs _).mono ?_;rintro _ w1 ⟨rfl,hb1⟩)
  go_ret
  exact⟨rfl,below_alloc hb1 _⟩
 ·have cs:=fun w=>split_w v hv hf w
  obtain⟨b1,b2⟩:=splitE_bounds hf
  have hm:=splitM_lt v
  have cr:=fun w=>round_w (splitG v) (splitM v) (splitE v+e) dir (by omega) w
  simp only [if_true]
  generalize splitG v=g at *
  generalize splitM v=m at *
  generalize splitE v=x at *
  generalize roundN g m (x+e) dir=r at *
  go_enter Tryz.func294,Tryz.ntmps294
  go_wp2_with (first
   | (go_at_call 167;refine (cs _).mono ?_;rintro _ w1 ⟨rfl,hb1⟩)
   | (go_at_call 168;refine (cr _).mono ?_;rintro _ w2 ⟨rfl,hb2⟩))
  go_ret
  refine⟨rfl,later ?_ hb2⟩
  repeat' (first | (with_reducible exact hb1) | (with_reducible refine Below.setCell ?_ ?_ _) | (with_reducible refine below_alloc ?_ _) | go_size)
set_option maxHeartbeats 1000000 in
theorem tp_core (x1 x2 a1 a2:Nat) (e:Int)
  (c1:∀w,Calls Tryz.prog 294 #[.float .f64 x1,.int .i64 e,.int .i64 (-1)] w fun x w'=>x=.returned (.float .f64 a1)/\Below w.heap.size w w')
  (c2:∀w,Calls Tryz.prog 294 #[.float .f64 x2,.int .i64 e,.int .i64 1] w fun x w'=>x=.returned (.float .f64 a2)/\Below w.heap.size w w') (w:World) :
  Calls Tryz.prog 277 #[.agg #[.float .f64 x1,.float .f64 x2],.int .i64 e] w fun x w'=>x=.returned (.agg #[.float .f64 a1,.float .f64 a2])/\Below w.heap.size w w':=by
 obtain⟨X,R,HB⟩:=enter1 w (.float .f64 x1) (.float .f64 x2) 24
 go_enter Tryz.func277,Tryz.ntmps277
 go_upto_region 1 with fail
 generalize (w.alloc (.cells #[.float .f64 x1,.float .f64 x2] 24)).alloc (.cells #[.float .f64 0,.float .f64 0] 24)=V1 at *
 have kx0:=fun n:Behind V1=>n.cell X.1 X.2.2.2.2
 have kx1:=fun n:Behind V1=>n.cell X.2.1 X.2.2.2.2
 refine tail_behind 8 (by kernel_rfl) (by kernel_rfl) ?_
 simp only [List.take_succ_cons,List.take_zero,List.drop_succ_cons,List.drop_zero]
 repeat (go_big_quiet_step (first
  | (go_at_call 294;with_reducible refine Behind.call (c1 _))
  | (go_at_call 294;with_reducible refine Behind.call (c2 _))))
 refine wpQuiet_nil ?_
 rintro _ ⟨m',rfl⟩
 obtain⟨W,hb1⟩:=m'
 dsimp only
 clear kx0 kx1
 replace R:=R.keep hb1;replace HB:=later HB hb1;clear hb1
 obtain⟨k0,k1,k2,k3,k4⟩:=id R
 go_wp2_with fail
 refine bodyPost_ret (v:=.agg #[.float .f64 a1,.float .f64 a2]) (by simp [results,Tryz.results277,go_sem, *]) rfl ⟨rfl, ?_⟩
 repeat' (first | (with_reducible exact HB) | (with_reducible refine Below.setCell ?_ ?_ _) | go_size)
def tpP (x:Nat×Nat) (e:Int):Nat×Nat:=(rpF x.1 e (-1),rpF x.2 e 1)
theorem tp_w (x1 x2:Nat) (e:Int) (l1:x1<18446744073709551616) (l2:x2<18446744073709551616) (h1:-100000<=e) (h2:e<=100000) (w:World) :
  Calls Tryz.prog 277 #[.agg #[.float .f64 x1,.float .f64 x2],.int .i64 e] w fun x w'=>x=.returned (.agg #[.float .f64 (tpP (x1,x2) e).1,.float .f64 (tpP (x1,x2) e).2])/\Below w.heap.size w w' :=
 tp_core x1 x2 _ _ e (fun w=>rp_w x1 e (-1) l1 h1 h2 w) (fun w=>rp_w x2 e 1 l2 h1 h2 w) w
def pwI (x:Nat):Int:=splitE x+(Lib.bitLen (splitM x):Int)
set_option maxHeartbeats 1000000 in
theorem powerOf_w (x:Nat) (hx:x<18446744073709551616) (hf:finB x=true) (hl:Lib.bitLen (splitM x)<=64) (w:World) :
  Calls Tryz.prog 293 #[.float .f64 x] w fun e w'=>e=.returned (.int .i64 (pwI x))/\Below w.heap.size w w':=by
 have cs:=fun w=>split_w x hx hf w
 obtain⟨b1,b2⟩:=splitE_bounds hf
 unfold pwI
 have hm:=splitM_lt x
 have cl:=fun w=>len64_i (splitM x:Int) w (by omega) (by omega)
 rw [Int.toNat_natCast] at cl
 generalize Lib.bitLen (splitM x)=L at *
 generalize splitG x=g at *
 generalize splitM x=m at *
 generalize splitE x=e at *
 go_enter Tryz.func293,Tryz.ntmps293
 go_upto_region 2 with (go_at_call 167;refine (cs _).mono ?_;rintro _ w1 ⟨rfl,hb1⟩)
 have HB:Below w.heap.size w (w1.alloc (Obj.cells #[Value.bool g,Value.int IntKind.u64 m,Value.int IntKind.i64 e] 135)):=below_alloc hb1 _
 have c1:(w1.alloc (Obj.cells #[Value.bool g,Value.int IntKind.u64 m,Value.int IntKind.i64 e] 135)).cell? ⟨w1.heap.size,1,none⟩=some (.int .u64 m):=by go_simp
 have c2:(w1.alloc (Obj.cells #[Value.bool g,Value.int IntKind.u64 m,Value.int IntKind.i64 e] 135)).cell? ⟨w1.heap.size,2,none⟩=some (.int .i64 e):=by go_simp
 have cz:w1.heap.size<(w1.alloc (Obj.cells #[Value.bool g,Value.int IntKind.u64 m,Value.int IntKind.i64 e] 135)).heap.size:=by go_size
 generalize w1.alloc (Obj.cells #[Value.bool g,Value.int IntKind.u64 m,Value.int IntKind.i64 e] 135)=V1 at *
 have k1:=fun n:Behind V1=>n.cell c1 cz
 have k2:=fun n:Behind V1=>n.cell c2 cz
 refine tail_behind 6 (by kernel_rfl) (by kernel_rfl) ?_
 simp only [List.take_succ_cons,List.take_zero,List.drop_succ_cons,List.drop_zero]
 repeat (go_big_quiet_step (first | (go_at_call 274;with_reducible refine Behind.same (cl _))))
 refine wpQuiet_nil ?_
 rintro _ ⟨q,rfl⟩
 obtain⟨W,hb2⟩:=q
 dsimp only
 clear k1 k2 c1 c2 cz
 replace HB:=later HB hb2
 go_wp2_with fail
 go_ret
 exact⟨rfl,HB⟩
theorem bl_le (m:Nat) (h:m<9007199254740992):Lib.bitLen m<=64:=by
 by_cases h0:m=0
 ·subst h0;decide
 ·rw [bitLen_log2 m h0 (by omega)]
  have:=(Nat.log2_lt h0).2 (show m<2^53 by omega)
  omega
def zeB (x:Nat):Bool:=FloatKind.f64.format.order x 0==some .eq
def gpI (X:Nat->Nat) (D:Nat->Int):Nat->Int
 | 0=>-9223372036854775808
 | j+1=>if zeB (X j) then gpI X D j else max (gpI X D j) (pwI (X j)-D j)
theorem pw_bounds {x:Nat} (hf:finB x=true):-1074<=pwI x/\pwI x<=1035:=by
 have a:=splitE_bounds hf
 have b:=bl_le (splitM x) (splitM_lt x)
 unfold pwI
 omega
set_option maxHeartbeats 2000000 in
theorem gp_w (A B:Option Addr) (n C E:Nat) (X:Nat->Nat) (D:Nat->Int) (hn:n<=3000000) (hf:∀j,j<n->finB (X j)=true) (hD:∀j,j<n->zeB (X j)=false->-100000<=D j/\D j<=100000) (w:World) (V:Fls w A n X)
  (U:∀j,j<n->∃b o,B=some ⟨b,o,none⟩/\b<w.heap.size/\w.cell? ⟨b,o+j,none⟩=some (.int .i64 (D j))) :
  Calls Tryz.prog 275 #[.slice A n C,.slice B n E] w fun e w'=>e=.returned (.int .i64 (gpI X D n))/\Below w.heap.size w w':=by
 have HF:Hid (∀j,j<n->finB (X j)=true):=hf
 have HD:Hid (∀j,j<n->zeB (X j)=false->-100000<=D j/\D j<=100000):=hD
 have HU:Hid (∀j,j<n->∃b o,B=some ⟨b,o,none⟩/\b<w.heap.size/\w.cell? ⟨b,o+j,none⟩=some (.int .i64 (D j))):=U
 clear hf hD U
 go_enter Tryz.func275,Tryz.ntmps275
 go_wp2_with fail
 go_loopg [5,10] n (fun G s5 s10 wx=>Below w.heap.size w wx/\∃j:Nat,j+G=n/\s10=.int .i64 (j:Int)/\s5=.int .i64 (gpI X D j))
 case atStart=>exact⟨Below.refl _ _,0,by omega,rfl,rfl⟩
 case round =>
  obtain⟨HB,j,hj,rfl,rfl⟩:=hrel
  by_cases cj:j=n
  ·subst cj
   go_wp2_with fail
   go_ret
   exact⟨rfl,HB⟩
  ·have hltj:(j:Int)<(n:Int):=by omega
   obtain⟨b1,o1,hA1,lb1,x0,lx⟩:=(V.keep HB) j (by omega)
   have hfj:=HF.out j (by omega)
   cases hz:zeB (X j)
   ·have nx:Hid (gpI X D (j+1)=max (gpI X D j) (pwI (X j)-D j)):=by
     show (if zeB (X j)=true then gpI X D j else max (gpI X D j) (pwI (X j)-D j))=_
     rw [if_neg (by rw [hz];simp)]
    have cp:=fun w=>powerOf_w (X j) lx hfj (bl_le _ (splitM_lt _)) w
    obtain⟨d1,d2⟩:=HD.out j (by omega) hz
    obtain⟨p1,p2⟩:=pw_bounds hfj
    obtain⟨b2,o2,hB2,lb2,u0⟩:=HU.out j (by omega)
    replace u0:=keepsC HB u0 lb2
    replace lb2:=Nat.lt_of_lt_of_le lb2 HB.size
    have hz2:(FloatKind.f64.format.order (X j) 0 != some .eq)=true:=by unfold zeB at hz;simp only [bne,hz,Bool.not_false]
    clear hz
    generalize gpI X D j=gp at *
    generalize pwI (X j)=pw at *
    generalize D j=d at *
    generalize X j=x at *
    subst hA1
    subst hB2
    go_upto_region 6 with fail
    have ku:=fun n:Behind wr=>n.cell u0 lb2
    refine tail_behind 9 (by kernel_rfl) (by kernel_rfl) ?_
    simp only [List.take_succ_cons,List.take_zero,List.drop_succ_cons,List.drop_zero]
    repeat (go_big_quiet_step (first | (go_at_call 293;with_reducible refine Behind.call (cp _))))
    refine wpQuiet_nil ?_
    rintro _ ⟨q,rfl⟩
    obtain⟨W,hb1⟩:=q
    dsimp only
    clear ku
    replace HB:=later HB hb1
    go_wp2_with fail
    go_roundg (n-j-1)
    case measure=>omega
    case rel=>exact⟨HB,j+1,by omega,by go_num,by rw [nx.out]⟩
   ·have nx:Hid (gpI X D (j+1)=gpI X D j):=by
     show (if zeB (X j)=true then gpI X D j else max (gpI X D j) (pwI (X j)-D j))=_
     rw [if_pos hz]
    have hz2:(FloatKind.f64.format.order (X j) 0 != some .eq)=false:=by unfold zeB at hz;simp only [bne,hz,Bool.not_true]
    clear hz
    generalize gpI X D j=gp at *
    generalize X j=x at *
    subst hA1
    go_wp2_with fail
    go_roundg (n-j-1)
    case measure=>omega
    case rel=>exact⟨HB,j+1,by omega,by go_num,by rw [nx.out]⟩
theorem Flo.sized {w:World} {g m k:Nat} (h:Flo w g m) (h2:Flo w g k):m=k:=by
 obtain⟨cs,t,hg,hm, -⟩:=h
 obtain⟨ds,t2,hg2,hk, -⟩:=h2
 rw [hg] at hg2
 simp only [Option.some.injEq,Obj.cells.injEq] at hg2
 rw [<-hm,<-hk,hg2.1]
theorem wpList_copyF {w:World} {ops:Array Oper} {rest:List Oper} {o:Oper} {a:Act} {Q:Exit->Act->World->Prop} (hgd:o.guard=none) (d s:Operand)
  (ho:o.op=.call { callee:=.builtin .copy,args:=#[d,s],argTypes:=#[68,68] }) (g m C c k D:Nat) (hd:a.eval d=.slice (some ⟨g,0,none⟩) m C) (hs:a.eval s=.slice (some ⟨c,0,none⟩) k D)
  (hk:k<=m) (V:Flo w g m) (U:Flo w c k) (B:Nat) (hB:B<=g) (h:∀w',Wrt B g w w'->wpList Tryz.prog ops Q rest (a.put o.dst (goInt k)) w'):wpList Tryz.prog ops Q (o :: rest) a w:=by
 obtain⟨cur,t,hg,hm,hx⟩:=id V
 obtain⟨src,t2,hc,hk2,hy⟩:=U
 refine wpList_copy_own hgd d s 68 68 ho 22 Tryz.underlying68 (by kernel_rfl) g 0 m C ⟨c,0,none⟩ k D hd hs cur t hg src.toList (by simp [hk2];exact (Nat.min_eq_left hk).symm) (fun j v hv=>?_) (by simp;omega) (fun v hv=>?_) ?_
 ·have e:(⟨c,0,none⟩:Addr).add j=⟨c,j,none⟩:=by
   unfold Addr.add
   split
   ·rename_i z;subst z;rfl
   ·simp
  rw [e]
  simp only [World.cell?,hc]
  simpa using hv
 ·obtain⟨i,hi,rfl⟩:=List.getElem_of_mem hv
  obtain⟨x,ex, -⟩:=hy i (by simpa [hk2] using hi)
  have:src.toList[i]=.float .f64 x:=by
   have:=(Array.getElem?_eq_some_iff.1 ex).2
   simpa using this
  rw [this];rfl
 ·have el:src.toList.length=k:=by simp [hk2]
  rw [el]
  refine h _ ⟨below_setRow (Below.refl _ _) hB _,fun x n F=>?_,fun x n _=>setRow_other _ _ _ _ n⟩
  by_cases e:x=g
  ·subst e
   obtain rfl:=F.sized V
   refine⟨_,t,setRow_heap _ _ _ _ _ _ hg,by simp;omega,fun i hi=>?_⟩
   by_cases q:i<k
   ·obtain⟨z,ez,hz⟩:=hy i q
    refine⟨z, ?_,hz⟩
    simp only [List.take_zero,List.nil_append,List.getElem?_toArray]
    rw [List.getElem?_append_left (by omega)]
    simpa using ez
   ·obtain⟨z,ez,hz⟩:=hx i hi
    refine⟨z, ?_,hz⟩
    simp only [List.take_zero,List.nil_append,List.getElem?_toArray]
    rw [List.getElem?_append_right (by omega),List.getElem?_drop,el,Nat.zero_add,show k+(i-k)=i by omega]
    simpa using ez
  ·exact F.block (setRow_other _ _ _ _ e)
set_option maxHeartbeats 2000000 in
theorem beside_w (gb n b:Nat) (hb:Nat->Nat) (hn:n<=24) (w:World) (T:Tab b w gb n n hb) :
  Calls Tryz.prog 278 #[.slice (some ⟨gb,0,none⟩) n n] w fun e w'=>∃g h,e=.returned (.slice (some ⟨g,0,none⟩) n n)/\Tab w.heap.size w' g n (n+n) h/\w.heap.size<=g/\Below w.heap.size w w':=by
 have cg:∀w,Calls Tryz.prog 282 #[.int .i64 (n:Int),.int .i64 ((n:Int)+(n:Int))] w fun e w'=>∃g h,e=.returned (.slice (some ⟨g,0,none⟩) n n)/\Tab w.heap.size w' g n (n+n) h/\w.heap.size<=g/\Below w.heap.size w w':=fun w=>by
  have q:=gridF_w n (n+n) hn (by omega) w
  rwa [show ((n+n:Nat):Int)=(n:Int)+(n:Int) by omega] at q
 have HT:Hid (Tab b w gb n n hb):=T
 clear T
 go_enter Tryz.func278,Tryz.ntmps278
 go_wp2_with (go_at_call 282;refine (cg _).mono ?_;rintro _ w1 ⟨g,h,rfl,G0,hg,HB⟩)
 have HG:Hid (Tab w.heap.size w1 g n (n+n) h):=G0
 clear G0 cg
 go_loopg [14] n (fun G s14 wx=>Below w.heap.size w wx/\∃i:Nat,i+G=n/\s14=.int .i64 (i:Int)/\Hid (Tab w.heap.size wx g n (n+n) h))
 case atStart=>exact⟨HB,0,by omega,rfl,HG⟩
 case round =>
  clear HB HG
  obtain⟨HB,i,hi,rfl,HG⟩:=hrel
  by_cases ci:i=n
  ·subst ci
   go_wp2_with fail
   go_ret
   exact⟨g,h,rfl,HG,hg,HB⟩
  ·have hlt:(i:Int)<(n:Int):=by omega
   obtain⟨o0, -⟩:=HG.out.out.2 i (by omega)
   have lg:=HG.out.out.1
   obtain⟨b0, -⟩:=(HT.out.keep HB).out.2 i (by omega)
   have lb:=(HT.out.keep HB).out.1
   have ko:=fun m:Behind wr=>m.cell o0 lg
   have kb:=fun m:Behind wr=>m.cell b0 lb
   go_upto_region 6 with fail
   refine tail_behind 8 (by kernel_rfl) (by kernel_rfl) ?_
   simp only [List.take_succ_cons,List.take_zero,List.drop_succ_cons,List.drop_zero]
   repeat (go_big_quiet_step (fail))
   refine wpQuiet_nil ?_
   rintro _ ⟨m',rfl⟩
   obtain⟨W,hb1⟩:=m'
   dsimp only
   clear ko kb
   replace HG:Hid (Tab w.heap.size W g n (n+n) h):=HG.out.keep hb1
   have HB2:=later HB hb1
   have HT2:Hid (Tab b W gb n n hb):=HT.out.keep HB2
   refine wpList_copyF (by rfl) _ _ (by rfl) (h i) (n+n) (n+n) (hb i) n n (by rfl) (by rfl) (by omega) (HG.out.row i (by omega)) (HT2.out.row i (by omega)) w.heap.size (HG.out.ge i (by omega)) ?_
   intro w2 hW
   have HB3:=HB2.trans hW.below
   replace HG:Hid (Tab w.heap.size w2 g n (n+n) h):=HG.out.wrt hW (fun e=>HG.out.ne i (by omega) e.symm)
   clear HT2 hW HB2 HB hb1 o0 b0 lg lb
   obtain⟨o0, -⟩:=HG.out.out.2 i (by omega)
   obtain⟨x,x0,x1,lx⟩:=(HG.out.row i (by omega)).at (n+i) (by omega)
   have hlt2:(n:Int)+(i:Int)<(n:Int)+(n:Int):=by omega
   have hlt3:(0:Int)<=(n:Int)+(i:Int):=by omega
   have ht:((n:Int)+(i:Int)).toNat=n+i:=by omega
   go_wp2_with fail
   go_roundg (n-i-1)
   case measure=>omega
   case rel=>exact⟨HB3.setCell (HG.out.ge i (by omega)) _,i+1,by omega,by go_num,HG.out.wrt ((Wrt.refl w.heap.size (h i) _).set (HG.out.ge i (by omega)) _ _ (by omega)) (fun e=>HG.out.ne i (by omega) e.symm)⟩
def Half (w:World) (n:Nat) (v:Value):Prop:=v=.slice none 0 0\/∃c,v=.slice (some ⟨c,n,none⟩) n n/\Flo w c (n+n)
theorem Half.keep {w w2:World} {n:Nat} {v:Value} (h:Half w n v) (hb:Below w.heap.size w w2):Half w2 n v:=by
 rcases h with h | ⟨c,e,f⟩
 ·exact Or.inl h
 ·exact Or.inr ⟨c,e,f.keep hb⟩
theorem Half.wrt {w w2:World} {n:Nat} {v:Value} (h:Half w n v) {B g:Nat} (hW:Wrt B g w w2):Half w2 n v:=by
 rcases h with h | ⟨c,e,f⟩
 ·exact Or.inl h
 ·exact Or.inr ⟨c,e,hW.flo _ _ f⟩
theorem Half.other {w:World} {n:Nat} {v:Value} (h:Half w n v) {c:Nat} (k:Nat) (u:Value) (hne:∀d,Flo w d (n+n)->d≠c):Half (w.setCell ⟨c,k,none⟩ u) n v:=by
 rcases h with h | ⟨d,e,f⟩
 ·exact Or.inl h
 ·exact Or.inr ⟨d,e,f.other (hne d f) _ _⟩
structure Pick (w:World) (c n:Nat) (f:Nat->Value):Prop where
 out:Out w c n f
 half:∀i,i<n->Half w n (f i)
theorem Pick.keep {w w2:World} {c n:Nat} {f:Nat->Value} (h:Pick w c n f) (hb:Below w.heap.size w w2):Pick w2 c n f:=⟨h.out.keep hb,fun i hi=>(h.half i hi).keep hb⟩
theorem Pick.wrt {w w2:World} {c n:Nat} {f:Nat->Value} (h:Pick w c n f) {B g:Nat} (hW:Wrt B g w w2) (hne:c≠g):Pick w2 c n f:=⟨h.out.block (hW.rest c hne h.out.1) hW.below.size,fun i hi=>(h.half i hi).wrt hW⟩
theorem Out.noFlo {w:World} {c n m d:Nat} {f:Nat->Value} (h:Out w c n f) (hn:0<n) (hf:∀x,f 0≠.float .f64 x) (F:Flo w d m) (hm:0<m):d≠c:=by
 rintro rfl
 obtain⟨x,e, -⟩:=F.at 0 hm
 rw [(h.2 0 hn).1] at e
 exact hf x (Option.some.inj e)
theorem Half.not {w:World} {n:Nat} {v:Value} (h:Half w n v) (x:Nat):v≠.float .f64 x:=by
 rcases h with rfl | ⟨c,rfl, -⟩ <;> simp
theorem Pick.set {w:World} {c n:Nat} {f:Nat->Value} (h:Pick w c n f) (r:Nat) (v:Value) (hr:r<n) (hv:Half w n v):Pick (w.setCell ⟨c,r,none⟩ v) c n (fun i=>if i=r then v else f i):=by
 have ne:∀d,Flo w d (n+n)->d≠c:=fun d F=>h.out.noFlo (by omega) (fun x=>(h.half 0 (by omega)).not x) F (by omega)
 refine⟨h.out.set r v hr,fun i hi=>?_⟩
 by_cases e:i=r
 ·simp only [e,if_true]
  exact hv.other _ _ ne
 ·simp only [e,if_false]
  exact (h.half i hi).other _ _ ne
theorem Tab.swap {B:Nat} {w:World} {g n m:Nat} {h:Nat->Nat} (T:Tab B w g n m h) (i j:Nat) (hi:i<n) (hj:j<n) :
  Tab B ((w.setCell ⟨g,i,none⟩ (.slice (some ⟨h j,0,none⟩) m m)).setCell ⟨g,j,none⟩ (.slice (some ⟨h i,0,none⟩) m m)) g n m (fun r=>if r=j then h i else if r=i then h j else h r):=by
 refine⟨((T.out.set i _ hi).set j _ hj).congr fun r hr=>?_,fun r hr=>?_,fun r hr=>?_,fun r hr=>?_⟩
 ·by_cases a:r=j
  ·simp [a]
  ·by_cases b:r=i
   ·subst b;simp [a]
   ·simp [a,b]
 ·have q:∀s,s<n->Flo ((w.setCell ⟨g,i,none⟩ (.slice (some ⟨h j,0,none⟩) m m)).setCell ⟨g,j,none⟩ (.slice (some ⟨h i,0,none⟩) m m)) (h s) m:=fun s hs=>((T.row s hs).other (T.ne s hs) _ _).other (T.ne s hs) _ _
  split
  ·exact q i hi
  ·split
   ·exact q j hj
   ·exact q r hr
 ·split
  ·exact T.ne i hi
  ·split
   ·exact T.ne j hj
   ·exact T.ne r hr
 ·split
  ·exact T.ge i hi
  ·split
   ·exact T.ge j hj
   ·exact T.ge r hr
theorem Pick.other {w:World} {c n:Nat} {f:Nat->Value} (h:Pick w c n f) {g:Nat} (k:Nat) (v:Value) (hg:g≠c) (hne:∀d,Flo w d (n+n)->d≠g):Pick (w.setCell ⟨g,k,none⟩ v) c n f :=
 ⟨h.out.far hg _,fun i hi=>(h.half i hi).other _ _ hne⟩
theorem Tab.other {B:Nat} {w:World} {g n m:Nat} {h:Nat->Nat} (T:Tab B w g n m h) {c:Nat} (k:Nat) (v:Value) (hc:c≠g) (hne:∀r,r<n->h r≠c):Tab B (w.setCell ⟨c,k,none⟩ v) g n m h :=
 ⟨T.out.far hc _,fun r hr=>(T.row r hr).other (hne r hr) _ _,T.ne,T.ge⟩
set_option maxRecDepth 4000 in
set_option maxHeartbeats 8000000 in
theorem nearly_w (gb n b:Nat) (hb:Nat->Nat) (hn:n<=24) (w:World) (T:Tab b w gb n n hb) :
  Calls Tryz.prog 253 #[.slice (some ⟨gb,0,none⟩) n n] w fun e w'=>(e=.returned (.slice none 0 0)\/∃c f,e=.returned (.slice (some ⟨c,0,none⟩) n n)/\Pick w' c n f)/\Below w.heap.size w w':=by
 have cb:=beside_w gb n b hb hn w T
 clear T
 go_enter Tryz.func253,Tryz.ntmps253
 go_wp2_with (first
  | (go_at_call 278;refine cb.mono ?_;rintro _ w1 ⟨g,h0,rfl,G0,hg,HB⟩)
  | (at_make;refine wpList_makeRF (by rfl) _ _ (by rfl) n (by rfl) (by rfl) (by omega) ?_;intro w3 hO hb3 hS3))
 have hcg:g≠w1.heap.size:=by have:=G0.out.1;omega
 have hcw:w.heap.size<=w1.heap.size:=HB.size
 have HG:Hid (Tab w.heap.size w3 g n (n+n) h0):=G0.keep hb3
 have HP:Hid (Pick w3 w1.heap.size n (fun _=>.slice none 0 0)):=⟨hO,fun _ _=>Or.inl rfl⟩
 have HB3:=later HB hb3
 clear cb G0 hO hb3 HB hS3
 generalize w1.heap.size=c at *
 go_loopg [18] n (fun G s18 wx=>Below w.heap.size w wx/\∃(k:Nat) (h:Nat->Nat) (f:Nat->Value),k+G=n/\s18=.int .i64 (k:Int)/\Hid (Tab w.heap.size wx g n (n+n) h)/\Hid (Pick wx c n f))
 case atStart=>exact⟨HB3,0,h0,_,by omega,rfl,HG,HP⟩
 case round =>
  clear HB3 HG HP
  obtain⟨HB,k,h,f,hk,rfl,HG,HP⟩:=hrel
  by_cases ck:k=n
  ·subst ck
   go_wp2_with fail
   go_ret
   exact⟨Or.inr ⟨c,f,rfl,HP⟩,HB⟩
  ·have hlt:(k:Int)<(n:Int):=by omega
   have hle:(k:Int)<=(n:Int):=by omega
   have cg:=fun C=>greatest_w g k (n-k) (n+n) n C (fun r=>h (k+r)) (by omega) (by omega) (by omega) (by omega) wr (fun r hr=>⟨(HG.out.out.2 (k+r) (by omega)).1,HG.out.row (k+r) (by omega)⟩)
   go_upto_region 8 with (go_at_call 279;refine (cg _).mono ?_;rintro _ _ ⟨⟨p,q,rfl,hp,hq,hq2⟩,rfl⟩)
   clear cg
   rcases Int.lt_or_le q 0 with h0 | h0
   ·go_wp2_with fail
    go_ret
    exact⟨Or.inl rfl,HB⟩
   ·obtain⟨q,rfl⟩:∃z:Nat,q=(z:Int):=⟨q.toNat,by omega⟩
    clear hq
    have hqn:q<n:=by omega
    have hltp:(k:Int)+(p:Int)<(n:Int):=by omega
    have hp0:(0:Int)<=(k:Int)+(p:Int):=by omega
    have htp:((k:Int)+(p:Int)).toNat=k+p:=by omega
    obtain⟨o0,o1⟩:=HG.out.out.2 k (by omega)
    obtain⟨r0,r1⟩:=HG.out.out.2 (k+p) (by omega)
    have lg:=HG.out.out.1
    have HF:Hid (∀d,Flo wr d (n+n)->d≠g):=fun d F=>HG.out.out.noFlo (by omega) (fun x=>by simp) F (by omega)
    have HS:Hid (Tab w.heap.size (((wr.setCell ⟨g,k,none⟩ (.slice (some ⟨h (k+p),0,none⟩) (n+n) (n+n))).setCell ⟨g,k+p,none⟩ (.slice (some ⟨h k,0,none⟩) (n+n) (n+n))).drew) g n (n+n) (fun r=>if r=k+p then h k else if r=k then h (k+p) else h r)) :=
     (HG.out.swap k (k+p) (by omega) (by omega)).keep (Below.refl _ _).drew
    have HQ:Hid (Pick (((wr.setCell ⟨g,k,none⟩ (.slice (some ⟨h (k+p),0,none⟩) (n+n) (n+n))).setCell ⟨g,k+p,none⟩ (.slice (some ⟨h k,0,none⟩) (n+n) (n+n))).drew) c n f) :=
     ((HP.out.other _ _ hcg HF.out).other _ _ hcg (fun d F e=>by
      subst e
      exact (HG.out.out.set k (.slice (some ⟨h (k+p),0,none⟩) (n+n) (n+n)) (by omega)).noFlo (by omega) (fun x=>by split <;> simp) F (by omega) rfl)).keep (Below.refl _ _).drew
    have HB2:Below w.heap.size w (((wr.setCell ⟨g,k,none⟩ (.slice (some ⟨h (k+p),0,none⟩) (n+n) (n+n))).setCell ⟨g,k+p,none⟩ (.slice (some ⟨h k,0,none⟩) (n+n) (n+n))).drew):=((HB.setCell hg _).setCell hg _).drew
    obtain⟨u,s0⟩:∃u,(wr.setCell ⟨g,k,none⟩ (.slice (some ⟨h (k+p),0,none⟩) (n+n) (n+n))).cell? ⟨g,k+p,none⟩=some u:=⟨_,((HG.out.out.set k _ (by omega)).2 (k+p) (by omega)).1⟩
    go_upto_region 10 with fail
    go_region
    generalize ((wr.setCell ⟨g,k,none⟩ (.slice (some ⟨h (k+p),0,none⟩) (n+n) (n+n))).setCell ⟨g,k+p,none⟩ (.slice (some ⟨h k,0,none⟩) (n+n) (n+n))).drew=W2 at HS HQ HB2 ⊢
    generalize (fun r=>if r=k+p then h k else if r=k then h (k+p) else h r)=h2 at HS
    clear o0 o1 r0 r1 s0 HF lg HG HP HB hltp hp0 htp
    obtain⟨o0, -⟩:=HS.out.out.2 k (by omega)
    have lg:=HS.out.out.1
    have lx2:=(HS.out.row k (by omega)).lt
    obtain⟨x,x0, -,lx⟩:=(HS.out.row k (by omega)).at q (by omega)
    have ko:=fun m:Behind W2=>m.cell o0 lg
    have kx:=fun m:Behind W2=>m.cell x0 lx2
    have hltq:(q:Int)<(n:Int)+(n:Int):=by omega
    go_upto_region 11 with fail
    refine tail_behind 11 (by kernel_rfl) (by kernel_rfl) ?_
    simp only [List.take_succ_cons,List.take_zero,List.drop_succ_cons,List.drop_zero]
    repeat (go_big_quiet_step (fail))
    refine wpQuiet_nil ?_
    rintro _ ⟨m',rfl⟩
    obtain⟨W,hb1⟩:=m'
    dsimp only
    clear ko kx o0 x0 lg lx2
    replace HS:Hid (Tab w.heap.size W g n (n+n) h2):=HS.out.keep hb1
    replace HQ:Hid (Pick W c n f):=HQ.out.keep hb1
    replace HB2:=later HB2 hb1
    have cd:=divide_w (h2 k) (n+n) (n+n) x w.heap.size (by omega) (HS.out.ge k (by omega)) W (HS.out.row k (by omega))
    go_wp2_with (go_at_call 280;refine cd.mono ?_;rintro _ w4 ⟨rfl,hW4⟩)
    have n4:=HQ.out.out.noFlo (by omega) (fun x=>(HQ.out.half 0 (by omega)).not x) (HS.out.row k (by omega)) (by omega)
    replace HQ:Hid (Pick w4 c n f):=HQ.out.wrt hW4 (fun e=>n4 e.symm)
    replace HS:Hid (Tab w.heap.size w4 g n (n+n) h2):=HS.out.wrt hW4 (fun e=>HS.out.ne k (by omega) e.symm)
    replace HB2:=HB2.trans hW4.below
    clear cd hb1 hW4 n4
    go_loopg [63] n (fun G s63 wx=>Below w.heap.size w wx/\∃i:Nat,i+G=n/\s63=.int .i64 (i:Int)/\Hid (Tab w.heap.size wx g n (n+n) h2)/\Hid (Pick wx c n f))
    case atStart=>exact⟨HB2,0,by omega,rfl,HS,HQ⟩
    case round =>
     clear HB2 HS HQ
     obtain⟨HB,i,hi,rfl,HS,HQ⟩:=hrel
     by_cases ci:i=n
     ·obtain⟨o0, -⟩:=HS.out.out.2 k (by omega)
      obtain⟨c0,c1⟩:=HQ.out.out.2 q hqn
      have hnn:¬(i:Int)<(n:Int):=by omega
      have hle2:(n:Int)<=(n:Int)+(n:Int):=by omega
      clear ci
      go_wp2_with fail
      have nf:∀r,r<n->h2 r≠c:=fun r hr=>HQ.out.out.noFlo (by omega) (fun x=>(HQ.out.half 0 (by omega)).not x) (HS.out.row r hr) (by omega)
      go_roundg (n-k-1)
      case measure=>omega
      case rel=>exact⟨HB.setCell hcw _,k+1,h2,_,by omega,by go_num,HS.out.other _ _ (fun e=>hcg e.symm) nf,HQ.out.set q _ hqn (Or.inr ⟨h2 k,rfl,HS.out.row k (by omega)⟩)⟩
     ·have hlti:(i:Int)<(n:Int):=by omega
      obtain⟨o0, -⟩:=HS.out.out.2 k (by omega)
      obtain⟨i0, -⟩:=HS.out.out.2 i (by omega)
      have lg:=HS.out.out.1
      by_cases cik:i=k
      ·have heq:(i:Int)=(k:Int):=by omega
       go_wp2_with fail
       go_roundg (n-i-1)
       case measure=>omega
       case rel=>exact⟨HB,i+1,by omega,by go_num,HS,HQ⟩
      ·have hne:¬(i:Int)=(k:Int):=by omega
       have ly2:=(HS.out.row i (by omega)).lt
       obtain⟨y,y0, -,ly⟩:=(HS.out.row i (by omega)).at q (by omega)
       go_upto_region 16 with fail
       have ko:=fun m:Behind wr=>m.cell o0 lg
       have ky:=fun m:Behind wr=>m.cell y0 ly2
       refine tail_behind 9 (by kernel_rfl) (by kernel_rfl) ?_
       simp only [List.take_succ_cons,List.take_zero,List.drop_succ_cons,List.drop_zero]
       repeat (go_big_quiet_step (fail))
       refine wpQuiet_nil ?_
       rintro _ ⟨m',rfl⟩
       obtain⟨W,hb1⟩:=m'
       dsimp only
       clear ko ky o0 i0 y0 lg ly2
       replace HS:Hid (Tab w.heap.size W g n (n+n) h2):=HS.out.keep hb1
       replace HQ:Hid (Pick W c n f):=HQ.out.keep hb1
       replace HB:=later HB hb1
       have ct:=takeOff_w (h2 i) (h2 k) (n+n) (n+n) (n+n) y w.heap.size (by omega) (HS.out.ge i (by omega)) W (HS.out.row i (by omega)) (HS.out.row k (by omega))
       go_wp2_with (go_at_call 281;refine ct.mono ?_;rintro _ w5 ⟨rfl,hW5⟩)
       have n5:=HQ.out.out.noFlo (by omega) (fun x=>(HQ.out.half 0 (by omega)).not x) (HS.out.row i (by omega)) (by omega)
       go_roundg (n-i-1)
       case measure=>omega
       case rel=>exact⟨HB.trans hW5.below,i+1,by omega,by go_num,HS.out.wrt hW5 (fun e=>HS.out.ne i (by omega) e.symm),HQ.out.wrt hW5 (fun e=>n5 e.symm)⟩
end Go.Proofs.YtopfabemfbdccaaGreat
