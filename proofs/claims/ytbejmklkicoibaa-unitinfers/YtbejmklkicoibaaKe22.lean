/- unit.isPlain, variables.right, variables.have. unit.dimensionOf: what a node's dimension is, of those of its operands. -/
import Derived.Test.YtbejmklkicoibaaKe21
import Derived.Test.YtbejmklkicoibaaKe17
namespace Go.Proofs.Ytbejmklkicoibaa
open Go.ChangeShapes Go.WideShapes Go.ChangeAt Go.RowKit
section
variable {P:Program} {ops:Array Oper} {Q:Exit->Act->World->Prop} {a:Act} {w:World} {rest:List Oper} {o:Oper}
theorem load_arr {T:TypeId} {n e:Nat} (hu:P.underlying T=some (.array n e)) {cs:List Value} (hi:(P.info? T).map (·.size)=some cs.length) {b off:Nat} (hc:∀j v,cs[j]?=some v->w.cell? ⟨b,off+j,none⟩=some v) :
  (loadVar T ⟨b,off,none⟩).run P w=.ok (.agg cs.toArray) w:=by
 have hl:(loadCells ⟨b,off,none⟩ cs.length).run P w=.ok cs.toArray w :=
  run_loadCells_list (P:=P) w ⟨b,off,none⟩ cs (fun j v hv=>by rw [add_plain];exact hc j v hv)
 cases hq:P.info? T with
 | none=>simp [hq] at hi
 | some i =>
  have hs:i.size=cs.length:=by simpa [hq] using hi
  simp [loadVar,isAgg,underlying,sizeOf,typeInfo,hq,hu,hs,hl]
theorem run_loadArr {cs:List Value} {T:TypeId} {p:Operand} (ho:o.op=.load T p) {n e:Nat} (hu:P.underlying T=some (.array n e)) (hi:(P.info? T).map (·.size)=some cs.length) {b off:Nat} (hp:a.eval p=.pointer (some ⟨b,off,none⟩))
  (hc:∀j v,cs[j]?=some v->w.cell? ⟨b,off+j,none⟩=some v):(execOp a.eval o).run P w=.ok (.value (.agg cs.toArray)) w:=by
 obtain⟨dst,op,ty,pos,after,guard⟩:=o
 simp only at ho
 subst ho
 have e:(Instr.loadAt T (.pointer (some ⟨b,off,none⟩))).run P w=.ok (.agg cs.toArray) w:=by
  simp only [Instr.loadAt,Instr.sureAddr,Sem.run_bind,Sem.run_pure,Result.andThen]
  exact load_arr hu hi hc
 simp only [execOp,hp,Sem.run_bind,e,Result.andThen,Sem.run_pure]
theorem quiet_loadArr {C:World->Prop} {K:Act->Prop} (p:Operand) (T:TypeId) (ho:o.op=.load T p) {n e:Nat} (hu:P.underlying T=some (.array n e)) (cs:List Value) (hi:(P.info? T).map (·.size)=some cs.length) {b off:Nat} (hp:a.eval p=.pointer (some ⟨b,off,none⟩))
  (hc:∀w,C w->∀j v,cs[j]?=some v->w.cell? ⟨b,off+j,none⟩=some v) {V:Value} (hV:V=.agg cs.toArray) (h:K (a.put o.dst V)):o.quiet P a C K:=by
 subst hV
 exact⟨_,fun w hw=>by unfold Oper.quietAt;rw [run_loadArr ho hu hi hp (hc w hw)];exact⟨rfl,rfl⟩,h⟩
theorem quiet_run {C:World->Prop} {K:Act->Prop} (V:Value) (hr:∀w,C w->(execOp a.eval o).run P w=.ok (.value V) w) (h:K (a.put o.dst V)):o.quiet P a C K :=
 ⟨_,fun w hw=>by unfold Oper.quietAt;rw [hr w hw];exact⟨rfl,rfl⟩,h⟩
end
def givenB (G:Nat->Bool) (D:Nat->Nat->Int×Int) (n:Nat):Bool:=(List.range n).all fun i=>!G i || drK (D i) 7
def vrightB (n0 n1:Nat) (G:Nat->Bool) (D:Nat->Nat->Int×Int) (S:Nat->Int×Int):Bool:=n1==n0&&(drK S 7&&givenB G D n0)
def haveB (X:Nat->Nd) (N:Nat->Bool) (n m:Nat):Bool:=(List.range n).all fun i=>!(N i&&((X i).k==2&&decide ((m:Int)<=(X i).v)))
theorem as_aggU (xs:Array Value) (w:World):(asAgg (.agg xs)).run Try.prog w=.ok xs w:=rfl
@[go_sem] theorem fld_dim (E:Nat->Int×Int) (w:World):(Instr.field 30 (.agg #[.int .i64 (E 0).1,.int .i64 (E 0).2,.int .i64 (E 1).1,.int .i64 (E 1).2,.int .i64 (E 2).1,.int .i64 (E 2).2,.int .i64 (E 3).1,.int .i64 (E 3).2,.int .i64 (E 4).1,.int .i64 (E 4).2,.int .i64 (E 5).1,.int .i64 (E 5).2,.int .i64 (E 6).1,.int .i64 (E 6).2]) 0).run Try.prog w=.ok (.agg #[.int .i64 (E 0).1,.int .i64 (E 0).2,.int .i64 (E 1).1,.int .i64 (E 1).2,.int .i64 (E 2).1,.int .i64 (E 2).2,.int .i64 (E 3).1,.int .i64 (E 3).2,.int .i64 (E 4).1,.int .i64 (E 4).2,.int .i64 (E 5).1,.int .i64 (E 5).2,.int .i64 (E 6).1,.int .i64 (E 6).2]) w:=by
 unfold Instr.field
 simp [go_sem,as_aggU]
set_option maxRecDepth 4000 in
set_option maxHeartbeats 4000000 in
theorem uisPlain_w (E:Nat->Int×Int) (w:World):Calls Try.prog 36 #[.agg #[.int .i64 (E 0).1,.int .i64 (E 0).2,.int .i64 (E 1).1,.int .i64 (E 1).2,.int .i64 (E 2).1,.int .i64 (E 2).2,.int .i64 (E 3).1,.int .i64 (E 3).2,.int .i64 (E 4).1,.int .i64 (E 4).2,.int .i64 (E 5).1,.int .i64 (E 5).2,.int .i64 (E 6).1,.int .i64 (E 6).2]] w fun r w'=>r=.returned (.bool (eqD E plE))/\Below w.heap.size w w':=by
 have cp:∀W,Calls Try.prog 40 #[] W fun r w'=>r=.returned (.agg #[.int .i64 (plE 0).1,.int .i64 (plE 0).2,.int .i64 (plE 1).1,.int .i64 (plE 1).2,.int .i64 (plE 2).1,.int .i64 (plE 2).2,.int .i64 (plE 3).1,.int .i64 (plE 3).2,.int .i64 (plE 4).1,.int .i64 (plE 4).2,.int .i64 (plE 5).1,.int .i64 (plE 5).2,.int .i64 (plE 6).1,.int .i64 (plE 6).2])/\Below W.heap.size W w':=fun W=>uplain_w W
 obtain⟨b,hb⟩:∃b,Hid (eqD E plE=b):=⟨_,rfl⟩
 rw [hb.out]
 have q1:∀W,(Op.equalIn 10000 28 (.agg #[.int .i64 (E 0).1,.int .i64 (E 0).2,.int .i64 (E 1).1,.int .i64 (E 1).2,.int .i64 (E 2).1,.int .i64 (E 2).2,.int .i64 (E 3).1,.int .i64 (E 3).2,.int .i64 (E 4).1,.int .i64 (E 4).2,.int .i64 (E 5).1,.int .i64 (E 5).2,.int .i64 (E 6).1,.int .i64 (E 6).2]) (.agg #[.int .i64 (plE 0).1,.int .i64 (plE 0).2,.int .i64 (plE 1).1,.int .i64 (plE 1).2,.int .i64 (plE 2).1,.int .i64 (plE 2).2,.int .i64 (plE 3).1,.int .i64 (plE 3).2,.int .i64 (plE 4).1,.int .i64 (plE 4).2,.int .i64 (plE 5).1,.int .i64 (plE 5).2,.int .i64 (plE 6).1,.int .i64 (plE 6).2])).run Try.prog W=.ok b W:=fun W=>by
  have h:=run_equal_arr 9997 E plE W
  rw [hb.out] at h
  exact h
 generalize plE=PE at *
 obtain⟨XB,HB⟩:=blks1 w 30 [.int .i64 (E 0).1,.int .i64 (E 0).2,.int .i64 (E 1).1,.int .i64 (E 1).2,.int .i64 (E 2).1,.int .i64 (E 2).2,.int .i64 (E 3).1,.int .i64 (E 3).2,.int .i64 (E 4).1,.int .i64 (E 4).2,.int .i64 (E 5).1,.int .i64 (E 5).2,.int .i64 (E 6).1,.int .i64 (E 6).2]
 go_enter Try.func36,Try.ntmps36
 go_upto_region 1 with fail
 generalize (w.alloc (.cells #[.int .i64 (E 0).1,.int .i64 (E 0).2,.int .i64 (E 1).1,.int .i64 (E 1).2,.int .i64 (E 2).1,.int .i64 (E 2).2,.int .i64 (E 3).1,.int .i64 (E 3).2,.int .i64 (E 4).1,.int .i64 (E 4).2,.int .i64 (E 5).1,.int .i64 (E 5).2,.int .i64 (E 6).1,.int .i64 (E 6).2] 30))=V1 at *
 replace XB:BlkAt V1 w.heap.size 30 (dimL E):=XB
 refine region_behind (by kernel_rfl) (by kernel_rfl) ?_
 repeat (first
  | (go_big_quiet_want;refine quiet_loadArr _ 28 (by rfl) Try.underlying28 (dimL E) (by kernel_rfl) (by rfl) XB.behind (dim_valU E) ?_;simp only [Act.put,List.setIfInBounds_toArray,List.set_cons_zero,List.set_cons_succ];go_big_quiet_on)
  | (go_big_quiet_step (first | (go_at_call 40;with_reducible refine Behind.call (cp _))))
  | (go_big_quiet_want;refine quiet_run (.agg #[.int .i64 (PE 0).1,.int .i64 (PE 0).2,.int .i64 (PE 1).1,.int .i64 (PE 1).2,.int .i64 (PE 2).1,.int .i64 (PE 2).2,.int .i64 (PE 3).1,.int .i64 (PE 3).2,.int .i64 (PE 4).1,.int .i64 (PE 4).2,.int .i64 (PE 5).1,.int .i64 (PE 5).2,.int .i64 (PE 6).1,.int .i64 (PE 6).2]) (fun W _=>by simp [execOp,go_sem,fld_dim]) ?_;simp only [Act.put,List.setIfInBounds_toArray,List.set_cons_zero,List.set_cons_succ];go_big_quiet_on)
  | (go_big_quiet_want;refine quiet_run (.bool b) (fun W _=>by simp [execOp,go_sem,q1 W]) ?_;simp only [Act.put,List.setIfInBounds_toArray,List.set_cons_zero,List.set_cons_succ];go_big_quiet_on))
 refine wpQuiet_nil ?_
 rintro _ ⟨q,rfl⟩
 obtain⟨W,hb1⟩:=q
 dsimp only
 go_wp2_with fail
 go_ret
 exact⟨rfl,later HB hb1⟩
set_option maxRecDepth 4000 in
set_option maxHeartbeats 4000000 in
theorem uvright_w (A0 A1:Option Addr) (n0 C0 n1 C1:Nat) (D:Nat->Nat->Int×Int) (G:Nat->Bool) (S:Nat->Int×Int) (hS:Dim64 S) (hn:(n0:Int)<=9223372036854775807) (hn1:(n1:Int)<=9223372036854775807)
  (hD:∀i,i<n0->Dim64 (D i)) (w:World) (VD:Dms w A0 n0 D) (VG:Bls w A1 n1 G) :
  Calls Try.prog 14 #[vrV (.slice A0 n0 C0) (.slice A1 n1 C1) S] w fun r w'=>r=.returned (.bool (vrightB n0 n1 G D S))/\Below w.heap.size w w':=by
 obtain⟨R,hR⟩:∃R,Hid (vrightB n0 n1 G D S=R):=⟨_,rfl⟩
 rw [hR.out]
 have HD:Hid (∀i,i<n0->Dim64 (D i)):=hD
 have cS:∀W,Calls Try.prog 10 #[.agg #[.int .i64 (S 0).1,.int .i64 (S 0).2,.int .i64 (S 1).1,.int .i64 (S 1).2,.int .i64 (S 2).1,.int .i64 (S 2).2,.int .i64 (S 3).1,.int .i64 (S 3).2,.int .i64 (S 4).1,.int .i64 (S 4).2,.int .i64 (S 5).1,.int .i64 (S 5).2,.int .i64 (S 6).1,.int .i64 (S 6).2]] W fun r w'=>r=.returned (.bool (drK S 7))/\Below W.heap.size W w':=fun W=>uright_w S hS W
 clear hD
 show Calls Try.prog _ #[.agg #[.slice A0 n0 C0,.slice A1 n1 C1,.int .i64 (S 0).1,.int .i64 (S 0).2,.int .i64 (S 1).1,.int .i64 (S 1).2,.int .i64 (S 2).1,.int .i64 (S 2).2,.int .i64 (S 3).1,.int .i64 (S 3).2,.int .i64 (S 4).1,.int .i64 (S 4).2,.int .i64 (S 5).1,.int .i64 (S 5).2,.int .i64 (S 6).1,.int .i64 (S 6).2]] w _
 obtain⟨XV,HB⟩:=blks1 w 43 [.slice A0 n0 C0,.slice A1 n1 C1,.int .i64 (S 0).1,.int .i64 (S 0).2,.int .i64 (S 1).1,.int .i64 (S 1).2,.int .i64 (S 2).1,.int .i64 (S 2).2,.int .i64 (S 3).1,.int .i64 (S 3).2,.int .i64 (S 4).1,.int .i64 (S 4).2,.int .i64 (S 5).1,.int .i64 (S 5).2,.int .i64 (S 6).1,.int .i64 (S 6).2]
 go_enter Try.func14,Try.ntmps14
 go_upto_region 1 with fail
 generalize (w.alloc (.cells #[.slice A0 n0 C0,.slice A1 n1 C1,.int .i64 (S 0).1,.int .i64 (S 0).2,.int .i64 (S 1).1,.int .i64 (S 1).2,.int .i64 (S 2).1,.int .i64 (S 2).2,.int .i64 (S 3).1,.int .i64 (S 3).2,.int .i64 (S 4).1,.int .i64 (S 4).2,.int .i64 (S 5).1,.int .i64 (S 5).2,.int .i64 (S 6).1,.int .i64 (S 6).2] 43))=V1 at *
 replace XV:BlkAt V1 w.heap.size 43 (vrL (.slice A0 n0 C0) (.slice A1 n1 C1) S):=XV
 have x0:=XV.cell 0 _ rfl
 have x1:=XV.cell 1 _ rfl
 by_cases cn:¬n1=n0
 ·have e1:Hid (false=R):=by have q:=hR.out;unfold vrightB at q;rw [beq_eq_false_iff_ne.2 cn,Bool.false_and] at q;exact q
  have cn2:¬(n1:Int)=(n0:Int):=by omega
  have cn3:((n1:Int) != (n0:Int))=true:=bne_iff_ne.2 cn2
  clear hR
  replace cn:Hid (¬n1=n0):=cn
  go_wp2_with fail
  go_ret
  exact⟨by have q:=e1.out;subst q;rfl,HB⟩
 replace cn:n1=n0:=Decidable.not_not.1 cn
 subst cn
 have hR1:Hid ((drK S 7&&givenB G D n1)=R):=by have q:=hR.out;unfold vrightB at q;rw [beq_self_eq_true,Bool.true_and] at q;exact q
 clear hR
 cases hs:drK S 7 with
 | false =>
  rw [hs] at cS
  have e1:Hid (false=R):=by have q:=hR1.out;rw [hs,Bool.false_and] at q;exact q
  clear hR1 hs
  go_wp2_with (first
   | (refine wpList_loadBig (by rfl) _ 30 (by rfl) Try.underlying30 (dimL S) (by kernel_rfl) (by rfl) ((fun j c hj=>by have q:=XV.cell0 (2+j) c (vrL_dim j c hj);rwa [Nat.zero_add] at q)) (dim_valU S) ?_)
   | (go_at_call 10;(with_reducible refine (cS _).mono ?_);rintro _ W3 ⟨rfl,hb1⟩;replace HB:=later HB hb1;clear hb1 x0 x1))
  go_ret
  exact⟨by have q:=e1.out;subst q;rfl,HB⟩
 | true =>
  rw [hs] at cS
  have hR2:Hid (givenB G D n1=R):=by have q:=hR1.out;rw [hs,Bool.true_and] at q;exact q
  clear hR1 hs
  go_upto_region 4 with (first
   | (refine wpList_loadBig (by rfl) _ 30 (by rfl) Try.underlying30 (dimL S) (by kernel_rfl) (by rfl) ((fun j c hj=>by have q:=XV.cell0 (2+j) c (vrL_dim j c hj);rwa [Nat.zero_add] at q)) (dim_valU S) ?_)
   | (go_at_call 10;(with_reducible refine (cS _).mono ?_);rintro _ W3 ⟨rfl,hb1⟩;replace HB:=later HB hb1;replace XV:=XV.keeps hb1;clear hb1 x0 x1;have x0:=XV.cell 0 _ rfl;have x1:=XV.cell 1 _ rfl))
  clear x0 x1
  go_loopg [21] n1 (fun T s21 wx=>∃i:Nat,i+T=n1/\s21=.int .i64 (i:Int)/\Below w.heap.size w wx/\BlkAt wx w.heap.size 43 (vrL (.slice A0 n1 C0) (.slice A1 n1 C1) S)/\Hid (∀q,q<i->(!G q || drK (D q) 7)=true))
  case atStart=>exact⟨0,by omega,rfl,HB,XV,fun j hj=>absurd hj (by omega)⟩
  case round =>
   clear HB XV
   obtain⟨i,hi,rfl,HB,XV,hall⟩:=hrel
   by_cases ci:i=n1
   ·have e1:Hid (true=R):=by have q:=hR2.out;subst ci;unfold givenB at q;rw [all_upto2.2 hall] at q;exact q
    clear hR2 hall
    subst ci
    go_wp2_with fail
    go_ret
    exact⟨by have q:=e1.out;subst q;rfl,HB⟩
   ·have hin:i<n1:=by omega
    have hlt:(i:Int)<(n1:Int):=by omega
    obtain⟨b1,o1,hA1,l1,g1⟩:=(VG.keep HB) i hin
    obtain⟨b0,o0,hA0,l0,g0⟩:=(VD.keep HB) i hin
    replace g0:Hid (∀j c,(dimL (D i))[j]?=some c->wr.cell? ⟨b0,o0+i*14+j,none⟩=some c):=g0
    subst hA1 hA0
    have x0:=XV.cell 0 _ rfl
    have x1:=XV.cell 1 _ rfl
    go_upto_region 6 with (first
     | (refine wpList_loadBig (by rfl) _ 30 (by rfl) Try.underlying30 (dimL (D i)) (by kernel_rfl) (by rfl) (g0.out) (dim_valU (D i)) ?_)
     | (refine wpList_storeBig (by rfl) _ _ 30 (by rfl) (blk_new _ _ _) (dimL (D i)) (by kernel_rfl) (by rfl) (by rfl) (by rfl) (by rfl) ?_;rintro V2 XR hs2 hB2 hk2))
    have XD:=XR
    have hvb:w.heap.size<wr.heap.size:=XV.lt
    have GA:=Below.alloc (Below.refl wr.heap.size wr) (Nat.le_refl _) (.cells #[.int .i64 0,.int .i64 0,.int .i64 0,.int .i64 0,.int .i64 0,.int .i64 0,.int .i64 0,.int .i64 0,.int .i64 0,.int .i64 0,.int .i64 0,.int .i64 0,.int .i64 0,.int .i64 0] 30)
    replace XV:=hk2 _ _ _ (by omega) (XV.keeps GA)
    have GB:=hB2 _ _ GA (Nat.le_refl _)
    replace HB:=later HB GB
    replace g1:=keepsC GB g1 l1
    obtain⟨db,hdb⟩:∃db,db=wr.heap.size:=⟨_,rfl⟩
    rw [<-hdb] at XD hvb ⊢
    clear XR hB2 hk2 hs2 hdb GA GB x0 x1 g0 l0
    try simp only [Act.put]
    have x0:=XV.cell 0 _ rfl
    have x1:=XV.cell 1 _ rfl
    have cD:∀W,Calls Try.prog 10 #[.agg #[.int .i64 (D i 0).1,.int .i64 (D i 0).2,.int .i64 (D i 1).1,.int .i64 (D i 1).2,.int .i64 (D i 2).1,.int .i64 (D i 2).2,.int .i64 (D i 3).1,.int .i64 (D i 3).2,.int .i64 (D i 4).1,.int .i64 (D i 4).2,.int .i64 (D i 5).1,.int .i64 (D i 5).2,.int .i64 (D i 6).1,.int .i64 (D i 6).2]] W fun r w'=>r=.returned (.bool (drK (D i) 7))/\Below W.heap.size W w':=fun W=>uright_w (D i) (HD.out i hin) W
    cases hG:G i with
    | false =>
     rw [hG] at g1
     have hall2:Hid (∀q,q<i+1->(!G q || drK (D q) 7)=true):=fun q hq=>by rcases Nat.lt_or_ge q i with h | h;exact hall.out q h;rw [show q=i by omega,hG];rfl
     clear hG hall cD
     go_wp2_with fail
     go_roundg (n1-i-1)
     case measure=>omega
     case rel=>exact⟨i+1,by omega,by go_num,HB,XV,hall2⟩
    | true =>
     rw [hG] at g1
     cases hd:drK (D i) 7 with
     | true =>
      rw [hd] at cD
      have hall2:Hid (∀q,q<i+1->(!G q || drK (D q) 7)=true):=fun q hq=>by rcases Nat.lt_or_ge q i with h | h;exact hall.out q h;rw [show q=i by omega,hd,Bool.or_true]
      clear hG hall hd
      go_wp2_with (first
       | (refine wpList_loadBig (by rfl) _ 30 (by rfl) Try.underlying30 (dimL (D i)) (by kernel_rfl) (by rfl) (XD.cell0) (dim_valU (D i)) ?_)
       | (go_at_call 10;(with_reducible refine (cD _).mono ?_);rintro _ W3 ⟨rfl,hb1⟩;replace HB:=later HB hb1;replace XV:=XV.keeps hb1;clear hb1 x0 x1 g1))
      go_roundg (n1-i-1)
      case measure=>omega
      case rel=>exact⟨i+1,by omega,by go_num,HB,XV,hall2⟩
     | false =>
      rw [hd] at cD
      have e1:Hid (false=R):=by have q:=hR2.out;unfold givenB at q;rw [all_not2 (i:=i) (by omega) (by rw [hG,hd];rfl)] at q;exact q
      clear hR2 hG hall hd
      go_wp2_with (first
       | (refine wpList_loadBig (by rfl) _ 30 (by rfl) Try.underlying30 (dimL (D i)) (by kernel_rfl) (by rfl) (XD.cell0) (dim_valU (D i)) ?_)
       | (go_at_call 10;(with_reducible refine (cD _).mono ?_);rintro _ W3 ⟨rfl,hb1⟩;replace HB:=later HB hb1;clear hb1 x0 x1 g1))
      go_ret
      exact⟨by have q:=e1.out;subst q;rfl,HB⟩
set_option maxRecDepth 4000 in
set_option maxHeartbeats 4000000 in
theorem uhave_w (A0 A1:Option Addr) (n0 C0 n1 C1:Nat) (S:Nat->Int×Int) (AN:Option Addr) (n CN:Nat) (X:Nat->Nd) (g0:Nat) (N:Nat->Bool) (hn:n<=4000) (w:World) (VN:Nds w AN n X) (VC:Cel w g0 n (fun i=>.bool (N i))) :
  Calls Try.prog 15 #[vrV (.slice A0 n0 C0) (.slice A1 n1 C1) S,.slice AN n CN,.slice (some ⟨g0,0,none⟩) n n] w fun r w'=>r=.returned (.bool (haveB X N n n0))/\Below w.heap.size w w':=by
 obtain⟨R,hR⟩:∃R,Hid (haveB X N n n0=R):=⟨_,rfl⟩
 rw [hR.out]
 show Calls Try.prog _ #[.agg #[.slice A0 n0 C0,.slice A1 n1 C1,.int .i64 (S 0).1,.int .i64 (S 0).2,.int .i64 (S 1).1,.int .i64 (S 1).2,.int .i64 (S 2).1,.int .i64 (S 2).2,.int .i64 (S 3).1,.int .i64 (S 3).2,.int .i64 (S 4).1,.int .i64 (S 4).2,.int .i64 (S 5).1,.int .i64 (S 5).2,.int .i64 (S 6).1,.int .i64 (S 6).2],_,_] w _
 obtain⟨XV,HB⟩:=blks1 w 43 [.slice A0 n0 C0,.slice A1 n1 C1,.int .i64 (S 0).1,.int .i64 (S 0).2,.int .i64 (S 1).1,.int .i64 (S 1).2,.int .i64 (S 2).1,.int .i64 (S 2).2,.int .i64 (S 3).1,.int .i64 (S 3).2,.int .i64 (S 4).1,.int .i64 (S 4).2,.int .i64 (S 5).1,.int .i64 (S 5).2,.int .i64 (S 6).1,.int .i64 (S 6).2]
 go_enter Try.func15,Try.ntmps15
 go_upto_region 1 with fail
 generalize (w.alloc (.cells #[.slice A0 n0 C0,.slice A1 n1 C1,.int .i64 (S 0).1,.int .i64 (S 0).2,.int .i64 (S 1).1,.int .i64 (S 1).2,.int .i64 (S 2).1,.int .i64 (S 2).2,.int .i64 (S 3).1,.int .i64 (S 3).2,.int .i64 (S 4).1,.int .i64 (S 4).2,.int .i64 (S 5).1,.int .i64 (S 5).2,.int .i64 (S 6).1,.int .i64 (S 6).2] 43))=V1 at *
 replace XV:BlkAt V1 w.heap.size 43 (vrL (.slice A0 n0 C0) (.slice A1 n1 C1) S):=XV
 go_wp2_with fail
 go_loopg [11] n (fun T s11 wx=>∃i:Nat,i+T=n/\s11=.int .i64 (i:Int)/\Below w.heap.size w wx/\BlkAt wx w.heap.size 43 (vrL (.slice A0 n0 C0) (.slice A1 n1 C1) S)/\Hid (∀q,q<i->(!(N q&&((X q).k==2&&decide ((n0:Int)<=(X q).v))))=true))
 case atStart=>exact⟨0,by omega,rfl,HB,XV,fun j hj=>absurd hj (by omega)⟩
 case round =>
  clear HB XV
  obtain⟨i,hi,rfl,HB,XV,hall⟩:=hrel
  by_cases ci:i=n
  ·have e1:Hid (true=R):=by have q:=hR.out;subst ci;unfold haveB at q;rw [all_upto2.2 hall] at q;exact q
   clear hR hall
   subst ci
   go_wp2_with fail
   go_ret
   exact⟨by have q:=e1.out;subst q;rfl,HB⟩
  ·have hin:i<n:=by omega
   have hlt:(i:Int)<(n:Int):=by omega
   obtain⟨b,o,hA,hb, -⟩:=(VN.keep HB) i hin
   subst hA
   obtain⟨x,hx⟩:∃x,x=X i:=⟨_,rfl⟩
   have xc:Hid (∀j c,(ndL x)[j]?=some c->wr.cell? ⟨b,o+i*22+j,none⟩=some c):=by rw [hx];exact ((VN.keep HB).at (i:=i) hin).2
   replace hx:Hid (x=X i):=hx
   go_upto_region 4 with (first
    | (refine wpList_loadBig (by rfl) _ 54 (by rfl) Try.underlying54 (ndL x) (by kernel_rfl) (by rfl) (xc.out) (nd_val x) ?_)
    | (refine wpList_storeBig (by rfl) _ _ 54 (by rfl) (blk_new _ _ _) (ndL x) (by kernel_rfl) (by rfl) (by rfl) (by rfl) (by rfl) ?_;rintro V2 XR hs2 hB2 hk2))
   have hvb:w.heap.size<wr.heap.size:=XV.lt
   have GA:=Below.refl wr.heap.size wr
   have grw:Below wr.heap.size wr V2:=hB2 _ _ (Below.alloc (Below.refl _ _) (Nat.le_refl _) _) (Nat.le_refl _)
   replace HB:=later HB grw
   replace XV:=XV.keeps grw
   have XN:=XR
   have cn:=((VC.keep HB).2 i hin).1
   obtain⟨xb,hxb⟩:∃xb,xb=wr.heap.size:=⟨_,rfl⟩
   rw [<-hxb] at XN hvb ⊢
   clear hxb hB2 hk2 hs2 grw xc GA XR
   dsimp only at cn
   have x0:=XV.cell 0 _ rfl
   obtain⟨y0,y1,y2,y3,y4,y5,y6,y7⟩:=XN.nd.cells
   have hgood:Hid ((!(N i&&(x.k==2&&decide ((n0:Int)<=x.v))))=true->∀q,q<i+1->(!(N q&&((X q).k==2&&decide ((n0:Int)<=(X q).v))))=true):=fun h q hq=>by
    rcases Nat.lt_or_ge q i with h1 | h1
    ·exact hall.out q h1
    ·rw [show q=i by omega,<-hx.out];exact h
   have hbad:Hid ((!(N i&&(x.k==2&&decide ((n0:Int)<=x.v))))=false->false=R):=fun q=>by
    have q2:=hR.out
    unfold haveB at q2
    rw [all_not2 (i:=i) (by omega) (by rw [<-hx.out];exact q)] at q2
    exact q2
   clear hR hall
   generalize N i=Ni at *
   cases Ni with
   | false =>
    have g2:Hid _:=hgood.out rfl
    clear hgood hbad
    go_wp2_with fail
    go_roundg (n-i-1)
    case measure=>omega
    case rel=>exact⟨i+1,by omega,by go_num,HB,XV,g2⟩
   | true =>
    by_cases ck:¬x.k=2
    ·have ck2:(x.k==2)=false:=beq_eq_false_iff_ne.2 ck
     have g2:Hid _:=hgood.out (by rw [ck2];rfl)
     clear hgood hbad
     go_wp2_with fail
     go_roundg (n-i-1)
     case measure=>omega
     case rel=>exact⟨i+1,by omega,by go_num,HB,XV,g2⟩
    ·replace ck:x.k=2:=Decidable.not_not.1 ck
     have ck2:(x.k==2)=true:=by rw [ck];rfl
     replace ck:Hid (x.k=2):=ck
     by_cases cv:(n0:Int)<=x.v
     ·have e1:Hid (false=R):=hbad.out (by rw [ck2,decide_eq_true cv];rfl)
      clear hgood hbad
      go_wp2_with fail
      go_ret
      exact⟨by have q:=e1.out;subst q;rfl,HB⟩
     ·have g2:Hid _:=hgood.out (by rw [decide_eq_false cv,Bool.and_false];rfl)
      clear hgood hbad
      go_wp2_with fail
      go_roundg (n-i-1)
      case measure=>omega
      case rel=>exact⟨i+1,by omega,by go_num,HB,XV,g2⟩
theorem ndL_dim {x:Nd} (j:Nat) (v:Value) (h:(dimL x.E)[j]?=some v):(ndL x)[8+j]?=some v:=by
 rw [Nat.add_comm]
 exact h
def PrsAt (w:World) (A:Option Addr) (K:Nat->Prop) (Q:Nat->Pro):Prop:=∀i,K i->∃b o A' c,A=some ⟨b,o,none⟩/\b<w.heap.size/\(Q i).2.length<=c/\FacAt w A' (Q i).2/\∀j u,(proL (Q i).1 (.slice A' (Q i).2.length c))[j]?=some u->w.cell? ⟨b,o+i*15+j,none⟩=some u
set_option maxRecDepth 4000 in
set_option maxHeartbeats 4000000 in
theorem udim_const (x:Nd) (AN:Option Addr) (nn CN:Nat) (AP:Option Addr) (np CP:Nat) (A0 A1:Option Addr) (n0 C0 n1 C1:Nat) (S:Nat->Int×Int) (hh:Hid (x.k=1)) (w:World) :
  Calls Try.prog 38 #[x.val,.slice AN nn CN,.slice AP np CP,vrV (.slice A0 n0 C0) (.slice A1 n1 C1) S] w fun r w'=>PrAns r w' (some (x.E,[]))/\Below w.heap.size w w':=by
 have cE:=fun W=>uofKnown_w x.E W
 show Calls Try.prog _ #[.agg #[.int .i64 x.k,.int .i64 x.a,.int .i64 x.b,.int .i64 x.n,.int .i64 x.q,.int .i64 x.p,.int .i64 x.v,.int .i64 x.d,.int .i64 (x.E 0).1,.int .i64 (x.E 0).2,.int .i64 (x.E 1).1,.int .i64 (x.E 1).2,.int .i64 (x.E 2).1,.int .i64 (x.E 2).2,.int .i64 (x.E 3).1,.int .i64 (x.E 3).2,.int .i64 (x.E 4).1,.int .i64 (x.E 4).2,.int .i64 (x.E 5).1,.int .i64 (x.E 5).2,.int .i64 (x.E 6).1,.int .i64 (x.E 6).2],_,_,.agg #[.slice A0 n0 C0,.slice A1 n1 C1,.int .i64 (S 0).1,.int .i64 (S 0).2,.int .i64 (S 1).1,.int .i64 (S 1).2,.int .i64 (S 2).1,.int .i64 (S 2).2,.int .i64 (S 3).1,.int .i64 (S 3).2,.int .i64 (S 4).1,.int .i64 (S 4).2,.int .i64 (S 5).1,.int .i64 (S 5).2,.int .i64 (S 6).1,.int .i64 (S 6).2]] w _
 obtain⟨XN,XV,RB,HB⟩:=blks3 w 54 43 79 [.int .i64 x.k,.int .i64 x.a,.int .i64 x.b,.int .i64 x.n,.int .i64 x.q,.int .i64 x.p,.int .i64 x.v,.int .i64 x.d,.int .i64 (x.E 0).1,.int .i64 (x.E 0).2,.int .i64 (x.E 1).1,.int .i64 (x.E 1).2,.int .i64 (x.E 2).1,.int .i64 (x.E 2).2,.int .i64 (x.E 3).1,.int .i64 (x.E 3).2,.int .i64 (x.E 4).1,.int .i64 (x.E 4).2,.int .i64 (x.E 5).1,.int .i64 (x.E 5).2,.int .i64 (x.E 6).1,.int .i64 (x.E 6).2] [.slice A0 n0 C0,.slice A1 n1 C1,.int .i64 (S 0).1,.int .i64 (S 0).2,.int .i64 (S 1).1,.int .i64 (S 1).2,.int .i64 (S 2).1,.int .i64 (S 2).2,.int .i64 (S 3).1,.int .i64 (S 3).2,.int .i64 (S 4).1,.int .i64 (S 4).2,.int .i64 (S 5).1,.int .i64 (S 5).2,.int .i64 (S 6).1,.int .i64 (S 6).2] [.int .i64 0,.int .i64 0,.int .i64 0,.int .i64 0,.int .i64 0,.int .i64 0,.int .i64 0,.int .i64 0,.int .i64 0,.int .i64 0,.int .i64 0,.int .i64 0,.int .i64 0,.int .i64 0,.slice none 0 0]
 go_enter Try.func38,Try.ntmps38
 go_upto_region 1 with fail
 generalize (((w.alloc (.cells #[.int .i64 x.k,.int .i64 x.a,.int .i64 x.b,.int .i64 x.n,.int .i64 x.q,.int .i64 x.p,.int .i64 x.v,.int .i64 x.d,.int .i64 (x.E 0).1,.int .i64 (x.E 0).2,.int .i64 (x.E 1).1,.int .i64 (x.E 1).2,.int .i64 (x.E 2).1,.int .i64 (x.E 2).2,.int .i64 (x.E 3).1,.int .i64 (x.E 3).2,.int .i64 (x.E 4).1,.int .i64 (x.E 4).2,.int .i64 (x.E 5).1,.int .i64 (x.E 5).2,.int .i64 (x.E 6).1,.int .i64 (x.E 6).2] 54)).alloc (.cells #[.slice A0 n0 C0,.slice A1 n1 C1,.int .i64 (S 0).1,.int .i64 (S 0).2,.int .i64 (S 1).1,.int .i64 (S 1).2,.int .i64 (S 2).1,.int .i64 (S 2).2,.int .i64 (S 3).1,.int .i64 (S 3).2,.int .i64 (S 4).1,.int .i64 (S 4).2,.int .i64 (S 5).1,.int .i64 (S 5).2,.int .i64 (S 6).1,.int .i64 (S 6).2] 43)).alloc (.cells #[.int .i64 0,.int .i64 0,.int .i64 0,.int .i64 0,.int .i64 0,.int .i64 0,.int .i64 0,.int .i64 0,.int .i64 0,.int .i64 0,.int .i64 0,.int .i64 0,.int .i64 0,.int .i64 0,.slice none 0 0] 79))=V1 at *
 obtain⟨x0,x1,x2,x3,x4,x5,x6,x7⟩:=XN.nd.cells
 rw [hh.out] at x0
 go_wp2_with (first
  | (refine wpList_loadBig (by rfl) _ 30 (by rfl) Try.underlying30 (dimL x.E) (by kernel_rfl) (by rfl) (fun j c hj=>XN.cell (8+j) c (ndL_dim j c hj)) (dim_val x.E) ?_)
  | (go_at_call 63;(with_reducible refine (cE _).mono ?_);rintro _ W2 ⟨rfl,hb1⟩;replace HB:=later HB hb1;replace RB:=RB.keeps hb1;clear hb1)
  | (refine wpList_storeBig (by rfl) _ _ 79 (by rfl) (RB) (proL x.E (.slice none 0 0)) (by kernel_rfl) (by rfl) (by rfl) (by rfl) (by rfl) ?_;rintro V2 XR hs2 hB2 hk2))
 have fl2:=(fSl_nil W2).other RB (by decide) hk2
 exact bodyPost_ret (v:=proV x.E (.slice none 0 0)) (results_cell_row Try.results38 _ V2 (w.heap.size+1+1) 79 (proL x.E (.slice none 0 0)).toArray (0,0) _ (by rfl) XR Try.underlying79 (by rfl) (by kernel_rfl)) rfl ⟨Or.inl ⟨(x.E,[]),_,rfl,rfl,fl2⟩,hB2 _ _ HB (by omega)⟩
set_option maxRecDepth 4000 in
set_option maxHeartbeats 4000000 in
theorem udim_time (x:Nd) (AN:Option Addr) (nn CN:Nat) (AP:Option Addr) (np CP:Nat) (A0 A1:Option Addr) (n0 C0 n1 C1:Nat) (S:Nat->Int×Int) (hh:Hid (x.k=15)) (w:World) :
  Calls Try.prog 38 #[x.val,.slice AN nn CN,.slice AP np CP,vrV (.slice A0 n0 C0) (.slice A1 n1 C1) S] w fun r w'=>PrAns r w' (some (S,[]))/\Below w.heap.size w w':=by
 have cE:=fun W=>uofKnown_w S W
 show Calls Try.prog _ #[.agg #[.int .i64 x.k,.int .i64 x.a,.int .i64 x.b,.int .i64 x.n,.int .i64 x.q,.int .i64 x.p,.int .i64 x.v,.int .i64 x.d,.int .i64 (x.E 0).1,.int .i64 (x.E 0).2,.int .i64 (x.E 1).1,.int .i64 (x.E 1).2,.int .i64 (x.E 2).1,.int .i64 (x.E 2).2,.int .i64 (x.E 3).1,.int .i64 (x.E 3).2,.int .i64 (x.E 4).1,.int .i64 (x.E 4).2,.int .i64 (x.E 5).1,.int .i64 (x.E 5).2,.int .i64 (x.E 6).1,.int .i64 (x.E 6).2],_,_,.agg #[.slice A0 n0 C0,.slice A1 n1 C1,.int .i64 (S 0).1,.int .i64 (S 0).2,.int .i64 (S 1).1,.int .i64 (S 1).2,.int .i64 (S 2).1,.int .i64 (S 2).2,.int .i64 (S 3).1,.int .i64 (S 3).2,.int .i64 (S 4).1,.int .i64 (S 4).2,.int .i64 (S 5).1,.int .i64 (S 5).2,.int .i64 (S 6).1,.int .i64 (S 6).2]] w _
 obtain⟨XN,XV,RB,HB⟩:=blks3 w 54 43 79 [.int .i64 x.k,.int .i64 x.a,.int .i64 x.b,.int .i64 x.n,.int .i64 x.q,.int .i64 x.p,.int .i64 x.v,.int .i64 x.d,.int .i64 (x.E 0).1,.int .i64 (x.E 0).2,.int .i64 (x.E 1).1,.int .i64 (x.E 1).2,.int .i64 (x.E 2).1,.int .i64 (x.E 2).2,.int .i64 (x.E 3).1,.int .i64 (x.E 3).2,.int .i64 (x.E 4).1,.int .i64 (x.E 4).2,.int .i64 (x.E 5).1,.int .i64 (x.E 5).2,.int .i64 (x.E 6).1,.int .i64 (x.E 6).2] [.slice A0 n0 C0,.slice A1 n1 C1,.int .i64 (S 0).1,.int .i64 (S 0).2,.int .i64 (S 1).1,.int .i64 (S 1).2,.int .i64 (S 2).1,.int .i64 (S 2).2,.int .i64 (S 3).1,.int .i64 (S 3).2,.int .i64 (S 4).1,.int .i64 (S 4).2,.int .i64 (S 5).1,.int .i64 (S 5).2,.int .i64 (S 6).1,.int .i64 (S 6).2] [.int .i64 0,.int .i64 0,.int .i64 0,.int .i64 0,.int .i64 0,.int .i64 0,.int .i64 0,.int .i64 0,.int .i64 0,.int .i64 0,.int .i64 0,.int .i64 0,.int .i64 0,.int .i64 0,.slice none 0 0]
 go_enter Try.func38,Try.ntmps38
 go_upto_region 1 with fail
 generalize (((w.alloc (.cells #[.int .i64 x.k,.int .i64 x.a,.int .i64 x.b,.int .i64 x.n,.int .i64 x.q,.int .i64 x.p,.int .i64 x.v,.int .i64 x.d,.int .i64 (x.E 0).1,.int .i64 (x.E 0).2,.int .i64 (x.E 1).1,.int .i64 (x.E 1).2,.int .i64 (x.E 2).1,.int .i64 (x.E 2).2,.int .i64 (x.E 3).1,.int .i64 (x.E 3).2,.int .i64 (x.E 4).1,.int .i64 (x.E 4).2,.int .i64 (x.E 5).1,.int .i64 (x.E 5).2,.int .i64 (x.E 6).1,.int .i64 (x.E 6).2] 54)).alloc (.cells #[.slice A0 n0 C0,.slice A1 n1 C1,.int .i64 (S 0).1,.int .i64 (S 0).2,.int .i64 (S 1).1,.int .i64 (S 1).2,.int .i64 (S 2).1,.int .i64 (S 2).2,.int .i64 (S 3).1,.int .i64 (S 3).2,.int .i64 (S 4).1,.int .i64 (S 4).2,.int .i64 (S 5).1,.int .i64 (S 5).2,.int .i64 (S 6).1,.int .i64 (S 6).2] 43)).alloc (.cells #[.int .i64 0,.int .i64 0,.int .i64 0,.int .i64 0,.int .i64 0,.int .i64 0,.int .i64 0,.int .i64 0,.int .i64 0,.int .i64 0,.int .i64 0,.int .i64 0,.int .i64 0,.int .i64 0,.slice none 0 0] 79))=V1 at *
 obtain⟨x0,x1,x2,x3,x4,x5,x6,x7⟩:=XN.nd.cells
 rw [hh.out] at x0
 go_wp2_with (first
  | (refine wpList_loadBig (by rfl) _ 30 (by rfl) Try.underlying30 (dimL S) (by kernel_rfl) (by rfl) (fun j c hj=>XV.cell (2+j) c (vrL_dim j c hj)) (dim_val S) ?_)
  | (go_at_call 63;(with_reducible refine (cE _).mono ?_);rintro _ W2 ⟨rfl,hb1⟩;replace HB:=later HB hb1;replace RB:=RB.keeps hb1;clear hb1)
  | (refine wpList_storeBig (by rfl) _ _ 79 (by rfl) (RB) (proL S (.slice none 0 0)) (by kernel_rfl) (by rfl) (by rfl) (by rfl) (by rfl) ?_;rintro V2 XR hs2 hB2 hk2))
 have fl2:=(fSl_nil W2).other RB (by decide) hk2
 exact bodyPost_ret (v:=proV S (.slice none 0 0)) (results_cell_row Try.results38 _ V2 (w.heap.size+1+1) 79 (proL S (.slice none 0 0)).toArray (0,0) _ (by rfl) XR Try.underlying79 (by rfl) (by kernel_rfl)) rfl ⟨Or.inl ⟨(S,[]),_,rfl,rfl,fl2⟩,hB2 _ _ HB (by omega)⟩
set_option maxRecDepth 4000 in
set_option maxHeartbeats 4000000 in
theorem udim_var (x:Nd) (AN:Option Addr) (nn CN:Nat) (AP:Option Addr) (np CP:Nat) (A0 A1:Option Addr) (n0 C0 n1 C1:Nat) (S:Nat->Int×Int) (hh:Hid (x.k=2)) (D:Nat->Nat->Int×Int) (G:Nat->Bool) (hk:0<=x.d/\x.d<=6) (hS:Dim64 S) (rS:drK S 7=true) (hv:0<=x.v/\x.v<(n0:Int)) (hn:n1=n0) (hn2:(n0:Int)<=9223372036854775807) (hD:G x.v.toNat=true->Dim64 (D x.v.toNat)/\drK (D x.v.toNat) 7=true) (w:World) (VD:Dms w A0 n0 D) (VG:Bls w A1 n1 G) :
  Calls Try.prog 38 #[x.val,.slice AN nn CN,.slice AP np CP,vrV (.slice A0 n0 C0) (.slice A1 n1 C1) S] w fun r w'=>PrAns r w' (varP G D S x.v x.d)/\Below w.heap.size w w':=by
 subst hn
 have ct:=fun W vd vg=>uvarOf_w A0 A1 n1 C0 n1 C1 D G S x.v x.d hk hS rS hv rfl hn2 hD W vd vg
 clear hk hS rS hv hn2 hD
 obtain⟨R,hR⟩:∃R,Hid (varP G D S x.v x.d=R):=⟨_,rfl⟩
 rw [hR.out] at ct ⊢
 show Calls Try.prog _ #[.agg #[.int .i64 x.k,.int .i64 x.a,.int .i64 x.b,.int .i64 x.n,.int .i64 x.q,.int .i64 x.p,.int .i64 x.v,.int .i64 x.d,.int .i64 (x.E 0).1,.int .i64 (x.E 0).2,.int .i64 (x.E 1).1,.int .i64 (x.E 1).2,.int .i64 (x.E 2).1,.int .i64 (x.E 2).2,.int .i64 (x.E 3).1,.int .i64 (x.E 3).2,.int .i64 (x.E 4).1,.int .i64 (x.E 4).2,.int .i64 (x.E 5).1,.int .i64 (x.E 5).2,.int .i64 (x.E 6).1,.int .i64 (x.E 6).2],_,_,.agg #[.slice A0 n1 C0,.slice A1 n1 C1,.int .i64 (S 0).1,.int .i64 (S 0).2,.int .i64 (S 1).1,.int .i64 (S 1).2,.int .i64 (S 2).1,.int .i64 (S 2).2,.int .i64 (S 3).1,.int .i64 (S 3).2,.int .i64 (S 4).1,.int .i64 (S 4).2,.int .i64 (S 5).1,.int .i64 (S 5).2,.int .i64 (S 6).1,.int .i64 (S 6).2]] w _
 obtain⟨XN,XV,RB,HB⟩:=blks3 w 54 43 79 [.int .i64 x.k,.int .i64 x.a,.int .i64 x.b,.int .i64 x.n,.int .i64 x.q,.int .i64 x.p,.int .i64 x.v,.int .i64 x.d,.int .i64 (x.E 0).1,.int .i64 (x.E 0).2,.int .i64 (x.E 1).1,.int .i64 (x.E 1).2,.int .i64 (x.E 2).1,.int .i64 (x.E 2).2,.int .i64 (x.E 3).1,.int .i64 (x.E 3).2,.int .i64 (x.E 4).1,.int .i64 (x.E 4).2,.int .i64 (x.E 5).1,.int .i64 (x.E 5).2,.int .i64 (x.E 6).1,.int .i64 (x.E 6).2] [.slice A0 n1 C0,.slice A1 n1 C1,.int .i64 (S 0).1,.int .i64 (S 0).2,.int .i64 (S 1).1,.int .i64 (S 1).2,.int .i64 (S 2).1,.int .i64 (S 2).2,.int .i64 (S 3).1,.int .i64 (S 3).2,.int .i64 (S 4).1,.int .i64 (S 4).2,.int .i64 (S 5).1,.int .i64 (S 5).2,.int .i64 (S 6).1,.int .i64 (S 6).2] [.int .i64 0,.int .i64 0,.int .i64 0,.int .i64 0,.int .i64 0,.int .i64 0,.int .i64 0,.int .i64 0,.int .i64 0,.int .i64 0,.int .i64 0,.int .i64 0,.int .i64 0,.int .i64 0,.slice none 0 0]
 go_enter Try.func38,Try.ntmps38
 go_upto_region 1 with fail
 generalize (((w.alloc (.cells #[.int .i64 x.k,.int .i64 x.a,.int .i64 x.b,.int .i64 x.n,.int .i64 x.q,.int .i64 x.p,.int .i64 x.v,.int .i64 x.d,.int .i64 (x.E 0).1,.int .i64 (x.E 0).2,.int .i64 (x.E 1).1,.int .i64 (x.E 1).2,.int .i64 (x.E 2).1,.int .i64 (x.E 2).2,.int .i64 (x.E 3).1,.int .i64 (x.E 3).2,.int .i64 (x.E 4).1,.int .i64 (x.E 4).2,.int .i64 (x.E 5).1,.int .i64 (x.E 5).2,.int .i64 (x.E 6).1,.int .i64 (x.E 6).2] 54)).alloc (.cells #[.slice A0 n1 C0,.slice A1 n1 C1,.int .i64 (S 0).1,.int .i64 (S 0).2,.int .i64 (S 1).1,.int .i64 (S 1).2,.int .i64 (S 2).1,.int .i64 (S 2).2,.int .i64 (S 3).1,.int .i64 (S 3).2,.int .i64 (S 4).1,.int .i64 (S 4).2,.int .i64 (S 5).1,.int .i64 (S 5).2,.int .i64 (S 6).1,.int .i64 (S 6).2] 43)).alloc (.cells #[.int .i64 0,.int .i64 0,.int .i64 0,.int .i64 0,.int .i64 0,.int .i64 0,.int .i64 0,.int .i64 0,.int .i64 0,.int .i64 0,.int .i64 0,.int .i64 0,.int .i64 0,.int .i64 0,.slice none 0 0] 79))=V1 at *
 obtain⟨x0,x1,x2,x3,x4,x5,x6,x7⟩:=XN.nd.cells
 rw [hh.out] at x0
 cases R with
 | none =>
  have eR:Hid ((none:Option Pro)=none):=rfl
  go_wp2_with (first
   | (refine wpList_loadBig (by rfl) _ 43 (by rfl) Try.underlying43 (vrL (.slice A0 n1 C0) (.slice A1 n1 C1) S) (by kernel_rfl) (by rfl) (XV.cell0) (vr_val _ _ _) ?_)
   | (go_at_call 64;(with_reducible refine (ct _ (VD.keep HB) (VG.keep HB)).mono ?_);rintro r W2 ⟨hM,hb2⟩;have hr:=hM.no;subst hr;exact⟨rfl,Or.inr ⟨eR.out,rfl⟩,later HB hb2⟩))
 | some Y =>
  go_wp2_with (first
   | (refine wpList_loadBig (by rfl) _ 43 (by rfl) Try.underlying43 (vrL (.slice A0 n1 C0) (.slice A1 n1 C1) S) (by kernel_rfl) (by rfl) (XV.cell0) (vr_val _ _ _) ?_)
   | (go_at_call 64;(with_reducible refine (ct _ (VD.keep HB) (VG.keep HB)).mono ?_);rintro r W2 ⟨hM,hb2⟩;obtain⟨s,hr,A9,c9,rfl,hc9,fa9⟩:=hM.yes;subst hr;have fl:FSl W2 (.slice A9 Y.2.length c9) Y.2:=⟨A9,c9,rfl,hc9,fa9⟩;replace HB:=later HB hb2;replace RB:=RB.keeps hb2;clear hb2 hM)
   | (refine wpList_storeBig (by rfl) _ _ 79 (by rfl) (RB) (proL Y.1 (.slice A9 Y.2.length c9)) (by kernel_rfl) (by rfl) (by rfl) (by rfl) (by rfl) ?_;rintro V2 XR hs2 hB2 hk2))
  have fl2:=fl.other RB (by decide) hk2
  exact bodyPost_ret (v:=proV Y.1 (.slice A9 Y.2.length c9)) (results_cell_row Try.results38 _ V2 (w.heap.size+1+1) 79 (proL Y.1 (.slice A9 Y.2.length c9)).toArray (0,0) _ (by rfl) XR Try.underlying79 (by rfl) (by kernel_rfl)) rfl ⟨Or.inl ⟨Y,_,rfl,rfl,fl2⟩,hB2 _ _ HB (by omega)⟩
end Go.Proofs.Ytbejmklkicoibaa
