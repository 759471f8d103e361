/- Regions that draw their order and make a pair of words beside quiet operations. The product of two quotients (rat.times): walked over letters. The sum of two quotients (rat.sum): walked over letters. Products and sums of quotients (rat.times, rat.sum): what they answer is the exact one in its form. -/
import Derived.Test.YtbejmklkicoibaaKe02
import Derived.Test.YtbejmklkicoibaaKe08
namespace Go.Proofs.Ytbejmklkicoibaa
open Go.ChangeShapes Go.WideShapes Go.ChangeAt Go.RowKit
theorem alloc_wide (d:Option Tmp) (ty:TypeId) (p:String) (a:Act) (w:World):(execOp a.eval { dst:=d,op:=.alloc 133,type:=ty,pos:=p,after:=#[],guard:=none }).run Try.prog w=.ok (.value (.pointer (some ⟨w.heap.size,0,none⟩))) (w.alloc (.cells #[.int .u64 0,.int .u64 0] 133)):=by
 simp [execOp,go_sem]
theorem tail_wide1 {id:Nat} {Q:Exit->Act->World->Prop} {a:Act} {w:World} {l:List Oper} {d:Tmp} {ty:TypeId} {p:String} {A:Act} (n:Nat) (hm:Try.prog.follows .mixedOrders=true) (hB:allocsB l n 1=true) (ho:l[n]?=some { dst:=some d,op:=.alloc 133,type:=ty,pos:=p,after:=#[],guard:=none })
  (h:∀W,Below w.heap.size w W->wpQuiet Try.prog (l.take n).toArray (fun w'=>∃n:Behind W,w'=n.W) (fun a'=>a'=A) (l.take n) a)
  (hT:∀b W,w.heap.size<=b->Has2 W b (.int .u64 0) (.int .u64 0)->Below w.heap.size w W->wpList Try.prog l.toArray Q (l.drop (n+1)) (A.put (some d) (.pointer (some ⟨b,0,none⟩))) W):(Code.region id l.toArray true).wp Try.prog Q a w:=by
 refine region_allocs n 1 (fun _=>.cells #[.int .u64 0,.int .u64 0] 133) (fun _ b w'=>Has2 w' b (.int .u64 0) (.int .u64 0)) A hm hB (fun m hm1 o hom a w=>?_) (fun m _ w1=>has2_new w1 _ _ _) (fun m b w1 w2 z _ hb=>z.keep hb) h (fun tk W hp hnd hz hb=>?_)
 ·obtain rfl:m=0:=by omega
  rw [Nat.add_zero,ho] at hom
  cases hom
  exact alloc_wide _ _ _ a w
 ·have:tk.length=1:=by have:=hp.length_eq;simpa using this
  match tk,this with
  | [(m,b)],_ =>
   have:m=0:=by
    have:=hp.mem_iff.1 (List.mem_cons_self ..)
    simpa using this
   subst this
   obtain⟨z1,z2,z3⟩:=hz 0 b (List.mem_cons_self ..)
   have e:=hT b W z2 z1 hb
   simp only [putL,Nat.add_zero,ho,Option.bind_some]
   exact e
theorem grewW (w:World) (o:Obj):Below w.heap.size w (w.alloc o):=by go_grown
set_option maxHeartbeats 4000000 in
theorem times_core (aN aD bN bD:Int) (pa pA pb pB dn up q1 q2 q3 q4 nh nl dh dl:Nat) (g:Bool) (x y e:Int)
  (c1:∀W,Calls Try.prog 54 #[.int .i64 aN] W fun r w'=>r=.returned (.int .u64 (pa:Int))/\W=w')
  (c2:∀W,Calls Try.prog 54 #[.int .i64 aD] W fun r w'=>r=.returned (.int .u64 (pA:Int))/\W=w')
  (c3:∀W,Calls Try.prog 54 #[.int .i64 bN] W fun r w'=>r=.returned (.int .u64 (pb:Int))/\W=w')
  (c4:∀W,Calls Try.prog 54 #[.int .i64 bD] W fun r w'=>r=.returned (.int .u64 (pB:Int))/\W=w')
  (c5:∀W,Calls Try.prog 53 #[.int .u64 (pa:Int),.int .u64 (pB:Int)] W fun r w'=>r=.returned (.int .u64 (dn:Int))/\Below W.heap.size W w')
  (c6:∀W,Calls Try.prog 53 #[.int .u64 (pb:Int),.int .u64 (pA:Int)] W fun r w'=>r=.returned (.int .u64 (up:Int))/\Below W.heap.size W w')
  (c7:∀W,Calls Try.prog 97 #[.int .u64 (q1:Int),.int .u64 (q2:Int)] W fun r w'=>r=.returned (.agg #[.int .u64 (nh:Int),.int .u64 (nl:Int)])/\Below W.heap.size W w')
  (c8:∀W,Calls Try.prog 97 #[.int .u64 (q3:Int),.int .u64 (q4:Int)] W fun r w'=>r=.returned (.agg #[.int .u64 (dh:Int),.int .u64 (dl:Int)])/\Below W.heap.size W w')
  (c9:∀W,Calls Try.prog 96 #[.bool g,.agg #[.int .u64 (nh:Int),.int .u64 (nl:Int)],.agg #[.int .u64 (dh:Int),.int .u64 (dl:Int)]] W fun r w'=>r=.returned (.tuple #[.agg #[.int .i64 x,.int .i64 y],.int .i64 e])/\Below W.heap.size W w')
  (d1:¬(dn:Int)=0) (d2:¬(up:Int)=0) (e1:IntKind.u64.wrap ((pa:Int)/(dn:Int))=(q1:Int)) (e2:IntKind.u64.wrap ((pb:Int)/(up:Int))=(q2:Int)) (e3:IntKind.u64.wrap ((pA:Int)/(up:Int))=(q3:Int)) (e4:IntKind.u64.wrap ((pB:Int)/(dn:Int))=(q4:Int))
  (hg:(!(decide (aN<0)==decide (bN<0)))=g) (w:World) :
  Calls Try.prog 78 #[.agg #[.int .i64 aN,.int .i64 aD],.agg #[.int .i64 bN,.int .i64 bD]] w fun r w'=>r=.returned (.tuple #[.agg #[.int .i64 x,.int .i64 y],.int .i64 e])/\Below w.heap.size w w':=by
 have HB:Below w.heap.size w (((w.alloc (.cells #[.int .i64 aN,.int .i64 aD] 27)).alloc (.cells #[.int .i64 bN,.int .i64 bD] 27)).alloc (.cells #[.int .i64 0,.int .i64 0] 27)):=by go_grown
 have X:Has2 (((w.alloc (.cells #[.int .i64 aN,.int .i64 aD] 27)).alloc (.cells #[.int .i64 bN,.int .i64 bD] 27)).alloc (.cells #[.int .i64 0,.int .i64 0] 27)) w.heap.size (.int .i64 aN) (.int .i64 aD):=⟨by go_simp,by go_simp,by go_simp,by go_simp,by go_size⟩
 have Y:Has2 (((w.alloc (.cells #[.int .i64 aN,.int .i64 aD] 27)).alloc (.cells #[.int .i64 bN,.int .i64 bD] 27)).alloc (.cells #[.int .i64 0,.int .i64 0] 27)) (w.heap.size+1) (.int .i64 bN) (.int .i64 bD):=⟨by go_simp,by go_simp,by go_simp,by go_simp,by go_size⟩
 have Z:Has2 (((w.alloc (.cells #[.int .i64 aN,.int .i64 aD] 27)).alloc (.cells #[.int .i64 bN,.int .i64 bD] 27)).alloc (.cells #[.int .i64 0,.int .i64 0] 27)) (w.heap.size+1+1) (.int .i64 0) (.int .i64 0):=⟨by go_simp,by go_simp,by go_simp,by go_simp,by go_size⟩
 go_enter Try.func78,Try.ntmps78
 go_upto_region 1 with fail
 generalize (((w.alloc (.cells #[.int .i64 aN,.int .i64 aD] 27)).alloc (.cells #[.int .i64 bN,.int .i64 bD] 27)).alloc (.cells #[.int .i64 0,.int .i64 0] 27))=V1 at *
 have kX0:=fun n:Behind V1=>n.cell X.1 X.2.2.2.2
 have kX1:=fun n:Behind V1=>n.cell X.2.1 X.2.2.2.2
 have kY0:=fun n:Behind V1=>n.cell Y.1 Y.2.2.2.2
 have kY1:=fun n:Behind V1=>n.cell Y.2.1 Y.2.2.2.2
 refine region_behind (by kernel_rfl) (by kernel_rfl) ?_
 repeat (go_big_quiet_step (first | (go_at_call_of 54 (Value.int .i64 aN);with_reducible refine Behind.same (c1 _)) | (go_at_call_of 54 (Value.int .i64 aD);with_reducible refine Behind.same (c2 _)) | (go_at_call_of 54 (Value.int .i64 bN);with_reducible refine Behind.same (c3 _)) | (go_at_call_of 54 (Value.int .i64 bD);with_reducible refine Behind.same (c4 _)) | (go_at_call_of 53 (Value.int .u64 (pa:Int));with_reducible refine Behind.call (c5 _)) | (go_at_call_of 53 (Value.int .u64 (pb:Int));with_reducible refine Behind.call (c6 _))))
 refine wpQuiet_nil ?_
 rintro _ ⟨m',rfl⟩
 obtain⟨V2,hb1⟩:=m'
 dsimp only
 clear kX0 kX1 kY0 kY1
 replace X:=X.keep hb1
 replace Y:=Y.keep hb1
 replace Z:=Z.keep hb1
 replace HB:=later HB hb1
 clear hb1
 go_upto_region 2 with fail
 apply tail_wide1 11 (by kernel_rfl) (by kernel_rfl) rfl
 ·intro W1 hW
  replace X:=X.keep hW
  replace Y:=Y.keep hW
  have kX0:=fun n:Behind W1=>n.cell X.1 X.2.2.2.2
  have kX1:=fun n:Behind W1=>n.cell X.2.1 X.2.2.2.2
  have kY0:=fun n:Behind W1=>n.cell Y.1 Y.2.2.2.2
  have kY1:=fun n:Behind W1=>n.cell Y.2.1 Y.2.2.2.2
  simp only [List.take_succ_cons,List.take_zero]
  repeat (go_big_quiet_step (first | (go_at_call_of 54 (Value.int .i64 aN);with_reducible refine Behind.same (c1 _)) | (go_at_call_of 54 (Value.int .i64 aD);with_reducible refine Behind.same (c2 _)) | (go_at_call_of 54 (Value.int .i64 bN);with_reducible refine Behind.same (c3 _)) | (go_at_call_of 54 (Value.int .i64 bD);with_reducible refine Behind.same (c4 _)) | (go_at_call 97;with_reducible refine Behind.call (c7 _))))
  exact wpQuiet_nil rfl
 intro b W hbb B hb1
 have sX:=X.lt
 have sY:=Y.lt
 have sZ:=Z.lt
 have sHB:=HB.size
 replace X:=X.keep hb1
 replace Y:=Y.keep hb1
 replace Z:=Z.keep hb1
 replace HB:=later HB hb1
 clear hb1
 have P:=B.put (.int .u64 (nh:Int)) (.int .u64 (nl:Int))
 replace X:=X.far2 (c:=b) (by omega) (.int .u64 (nh:Int)) (.int .u64 (nl:Int))
 replace Y:=Y.far2 (c:=b) (by omega) (.int .u64 (nh:Int)) (.int .u64 (nl:Int))
 replace Z:=Z.far2 (c:=b) (by omega) (.int .u64 (nh:Int)) (.int .u64 (nl:Int))
 have nP:Hid (w.heap.size+1+1<b):=show w.heap.size+1+1<b by omega
 replace HB:Below w.heap.size w ((W.setCell ⟨b,0,none⟩ (.int .u64 (nh:Int))).setCell ⟨b,1,none⟩ (.int .u64 (nl:Int))):=(HB.setCell (by simp;omega) _).setCell (by simp;omega) _
 obtain⟨bb0,bb1,bb2,bb3,bb4⟩:=id B
 simp only [List.drop_succ_cons,List.drop_zero,Act.put,List.setIfInBounds_toArray,List.set_cons_succ,List.set_cons_zero]
 go_upto_region 3 with fail
 clear bb0 bb1 bb2 bb3 bb4 B hbb sX sY sZ sHB
 generalize ((W.setCell ⟨b,0,none⟩ (.int .u64 (nh:Int))).setCell ⟨b,1,none⟩ (.int .u64 (nl:Int)))=V3 at *
 generalize b=bP at *
 apply tail_wide1 11 (by kernel_rfl) (by kernel_rfl) rfl
 ·intro W1 hW
  replace X:=X.keep hW
  replace Y:=Y.keep hW
  have kX0:=fun n:Behind W1=>n.cell X.1 X.2.2.2.2
  have kX1:=fun n:Behind W1=>n.cell X.2.1 X.2.2.2.2
  have kY0:=fun n:Behind W1=>n.cell Y.1 Y.2.2.2.2
  have kY1:=fun n:Behind W1=>n.cell Y.2.1 Y.2.2.2.2
  simp only [List.take_succ_cons,List.take_zero]
  repeat (go_big_quiet_step (first | (go_at_call_of 54 (Value.int .i64 aN);with_reducible refine Behind.same (c1 _)) | (go_at_call_of 54 (Value.int .i64 aD);with_reducible refine Behind.same (c2 _)) | (go_at_call_of 54 (Value.int .i64 bN);with_reducible refine Behind.same (c3 _)) | (go_at_call_of 54 (Value.int .i64 bD);with_reducible refine Behind.same (c4 _)) | (go_at_call 97;with_reducible refine Behind.call (c8 _))))
  exact wpQuiet_nil rfl
 intro b W hbb B hb1
 have sX:=X.lt
 have sY:=Y.lt
 have sZ:=Z.lt
 have sP:=P.lt
 have sHB:=HB.size
 replace X:=X.keep hb1
 replace Y:=Y.keep hb1
 replace Z:=Z.keep hb1
 replace P:=P.keep hb1
 replace HB:=later HB hb1
 clear hb1
 have Q:=B.put (.int .u64 (dh:Int)) (.int .u64 (dl:Int))
 replace X:=X.far2 (c:=b) (by omega) (.int .u64 (dh:Int)) (.int .u64 (dl:Int))
 replace Y:=Y.far2 (c:=b) (by omega) (.int .u64 (dh:Int)) (.int .u64 (dl:Int))
 replace Z:=Z.far2 (c:=b) (by omega) (.int .u64 (dh:Int)) (.int .u64 (dl:Int))
 replace P:=P.far2 (c:=b) (by omega) (.int .u64 (dh:Int)) (.int .u64 (dl:Int))
 have nQ:Hid (w.heap.size+1+1<b):=show w.heap.size+1+1<b by omega
 replace HB:Below w.heap.size w ((W.setCell ⟨b,0,none⟩ (.int .u64 (dh:Int))).setCell ⟨b,1,none⟩ (.int .u64 (dl:Int))):=(HB.setCell (by simp;omega) _).setCell (by simp;omega) _
 obtain⟨bb0,bb1,bb2,bb3,bb4⟩:=id B
 simp only [List.drop_succ_cons,List.drop_zero,Act.put,List.setIfInBounds_toArray,List.set_cons_succ,List.set_cons_zero]
 go_upto_region 4 with fail
 clear bb0 bb1 bb2 bb3 bb4 B hbb sX sY sZ sP sHB
 generalize ((W.setCell ⟨b,0,none⟩ (.int .u64 (dh:Int))).setCell ⟨b,1,none⟩ (.int .u64 (dl:Int)))=V4 at *
 generalize b=bQ at *
 obtain⟨x0,x1,x2,x3,x4⟩:=id X
 obtain⟨y0,y1,y2,y3,y4⟩:=id Y
 obtain⟨n0,n1,n2,n3,n4⟩:=id P
 obtain⟨d0,d1,d2,d3,d4⟩:=id Q
 go_wp2_with (go_at_call 96;(with_reducible refine (c9 _).mono ?_);rintro _ V5 ⟨rfl,hb1⟩;replace Z:=Z.keep hb1;replace HB:=later HB hb1;clear hb1;obtain⟨z0,z1,z2,z3,z4⟩:=id Z)
 refine bodyPost_ret (v:=.tuple #[.agg #[.int .i64 x,.int .i64 y],.int .i64 e]) (by simp [results,Try.results78,go_sem, *]) rfl ⟨rfl, ?_⟩
 repeat' (first | (with_reducible exact HB) | (with_reducible refine Below.setCell ?_ ?_ _) | go_size)
set_option maxHeartbeats 4000000 in
theorem sum_pos (aN aD bN bD:Int) (pA pB cm ra rb ah al bh bl th tl qh ql rs ou nh nl rr qb dh dl:Nat) (x y e:Int)
  (c1:∀W,Calls Try.prog 54 #[.int .i64 aD] W fun r w'=>r=.returned (.int .u64 (pA:Int))/\W=w')
  (c2:∀W,Calls Try.prog 54 #[.int .i64 bD] W fun r w'=>r=.returned (.int .u64 (pB:Int))/\W=w')
  (c3:∀W,Calls Try.prog 53 #[.int .u64 (pA:Int),.int .u64 (pB:Int)] W fun r w'=>r=.returned (.int .u64 (cm:Int))/\Below W.heap.size W w')
  (c4:∀W,Calls Try.prog 91 #[.int .i64 aN,.int .u64 (rb:Int)] W fun r w'=>r=.returned (.agg #[.int .u64 (ah:Int),.int .u64 (al:Int)])/\Below W.heap.size W w')
  (c5:∀W,Calls Try.prog 91 #[.int .i64 bN,.int .u64 (ra:Int)] W fun r w'=>r=.returned (.agg #[.int .u64 (bh:Int),.int .u64 (bl:Int)])/\Below W.heap.size W w')
  (c6:∀W,Calls Try.prog 92 #[.agg #[.int .u64 (ah:Int),.int .u64 (al:Int)],.agg #[.int .u64 (bh:Int),.int .u64 (bl:Int)]] W fun r w'=>r=.returned (.agg #[.int .u64 (th:Int),.int .u64 (tl:Int)])/\Below W.heap.size W w')
  (c7:∀W,Calls Try.prog 93 #[.agg #[.int .u64 (th:Int),.int .u64 (tl:Int)]] W fun r w'=>r=.returned (.bool false)/\Below W.heap.size W w')
  (c9:∀W,Calls Try.prog 95 #[.agg #[.int .u64 (th:Int),.int .u64 (tl:Int)],.int .u64 (cm:Int)] W fun r w'=>r=.returned (.tuple #[.agg #[.int .u64 (qh:Int),.int .u64 (ql:Int)],.int .u64 (rs:Int)])/\Below W.heap.size W w')
  (c10:∀W,Calls Try.prog 53 #[.int .u64 (rs:Int),.int .u64 (cm:Int)] W fun r w'=>r=.returned (.int .u64 (ou:Int))/\Below W.heap.size W w')
  (c11:∀W,Calls Try.prog 95 #[.agg #[.int .u64 (th:Int),.int .u64 (tl:Int)],.int .u64 (ou:Int)] W fun r w'=>r=.returned (.tuple #[.agg #[.int .u64 (nh:Int),.int .u64 (nl:Int)],.int .u64 (rr:Int)])/\Below W.heap.size W w')
  (c12:∀W,Calls Try.prog 97 #[.int .u64 (ra:Int),.int .u64 (qb:Int)] W fun r w'=>r=.returned (.agg #[.int .u64 (dh:Int),.int .u64 (dl:Int)])/\Below W.heap.size W w')
  (c13:∀W,Calls Try.prog 96 #[.bool false,.agg #[.int .u64 (nh:Int),.int .u64 (nl:Int)],.agg #[.int .u64 (dh:Int),.int .u64 (dl:Int)]] W fun r w'=>r=.returned (.tuple #[.agg #[.int .i64 x,.int .i64 y],.int .i64 e])/\Below W.heap.size W w')
  (d1:¬(cm:Int)=0) (d2:¬(ou:Int)=0) (e1:IntKind.u64.wrap ((pA:Int)/(cm:Int))=(ra:Int)) (e2:IntKind.u64.wrap ((pB:Int)/(cm:Int))=(rb:Int)) (e3:IntKind.u64.wrap ((pB:Int)/(ou:Int))=(qb:Int)) (w:World) :
  Calls Try.prog 77 #[.agg #[.int .i64 aN,.int .i64 aD],.agg #[.int .i64 bN,.int .i64 bD]] w fun r w'=>r=.returned (.tuple #[.agg #[.int .i64 x,.int .i64 y],.int .i64 e])/\Below w.heap.size w w':=by
 have HB:Below w.heap.size w (((w.alloc (.cells #[.int .i64 aN,.int .i64 aD] 27)).alloc (.cells #[.int .i64 bN,.int .i64 bD] 27)).alloc (.cells #[.int .i64 0,.int .i64 0] 27)):=by go_grown
 have X:Has2 (((w.alloc (.cells #[.int .i64 aN,.int .i64 aD] 27)).alloc (.cells #[.int .i64 bN,.int .i64 bD] 27)).alloc (.cells #[.int .i64 0,.int .i64 0] 27)) w.heap.size (.int .i64 aN) (.int .i64 aD):=⟨by go_simp,by go_simp,by go_simp,by go_simp,by go_size⟩
 have Y:Has2 (((w.alloc (.cells #[.int .i64 aN,.int .i64 aD] 27)).alloc (.cells #[.int .i64 bN,.int .i64 bD] 27)).alloc (.cells #[.int .i64 0,.int .i64 0] 27)) (w.heap.size+1) (.int .i64 bN) (.int .i64 bD):=⟨by go_simp,by go_simp,by go_simp,by go_simp,by go_size⟩
 have Z:Has2 (((w.alloc (.cells #[.int .i64 aN,.int .i64 aD] 27)).alloc (.cells #[.int .i64 bN,.int .i64 bD] 27)).alloc (.cells #[.int .i64 0,.int .i64 0] 27)) (w.heap.size+1+1) (.int .i64 0) (.int .i64 0):=⟨by go_simp,by go_simp,by go_simp,by go_simp,by go_size⟩
 go_enter Try.func77,Try.ntmps77
 go_upto_region 1 with fail
 generalize (((w.alloc (.cells #[.int .i64 aN,.int .i64 aD] 27)).alloc (.cells #[.int .i64 bN,.int .i64 bD] 27)).alloc (.cells #[.int .i64 0,.int .i64 0] 27))=V1 at *
 have kX0:=fun n:Behind V1=>n.cell X.1 X.2.2.2.2
 have kX1:=fun n:Behind V1=>n.cell X.2.1 X.2.2.2.2
 have kY0:=fun n:Behind V1=>n.cell Y.1 Y.2.2.2.2
 have kY1:=fun n:Behind V1=>n.cell Y.2.1 Y.2.2.2.2
 refine region_behind (by kernel_rfl) (by kernel_rfl) ?_
 repeat (go_big_quiet_step (first | (go_at_call_of 54 (Value.int .i64 aD);with_reducible refine Behind.same (c1 _)) | (go_at_call_of 54 (Value.int .i64 bD);with_reducible refine Behind.same (c2 _)) | (go_at_call 53;with_reducible refine Behind.call (c3 _))))
 refine wpQuiet_nil ?_
 rintro _ ⟨m',rfl⟩
 obtain⟨V2,hb1⟩:=m'
 dsimp only
 clear kX0 kX1 kY0 kY1
 replace X:=X.keep hb1
 replace Y:=Y.keep hb1
 replace Z:=Z.keep hb1
 replace HB:=later HB hb1
 clear hb1
 go_upto_region 2 with fail
 have kX0:=fun n:Behind V2=>n.cell X.1 X.2.2.2.2
 have kX1:=fun n:Behind V2=>n.cell X.2.1 X.2.2.2.2
 have kY0:=fun n:Behind V2=>n.cell Y.1 Y.2.2.2.2
 have kY1:=fun n:Behind V2=>n.cell Y.2.1 Y.2.2.2.2
 refine region_behind (by kernel_rfl) (by kernel_rfl) ?_
 repeat (go_big_quiet_step (first | (go_at_call_of 54 (Value.int .i64 aD);with_reducible refine Behind.same (c1 _)) | (go_at_call_of 54 (Value.int .i64 bD);with_reducible refine Behind.same (c2 _))))
 refine wpQuiet_nil ?_
 rintro _ ⟨m',rfl⟩
 obtain⟨V3,hb1⟩:=m'
 dsimp only
 clear kX0 kX1 kY0 kY1
 replace X:=X.keep hb1
 replace Y:=Y.keep hb1
 replace Z:=Z.keep hb1
 replace HB:=later HB hb1
 clear hb1
 go_upto_region 3 with fail
 apply tail_wide1 9 (by kernel_rfl) (by kernel_rfl) rfl
 ·intro W1 hW
  replace X:=X.keep hW
  replace Y:=Y.keep hW
  have kX0:=fun n:Behind W1=>n.cell X.1 X.2.2.2.2
  have kX1:=fun n:Behind W1=>n.cell X.2.1 X.2.2.2.2
  have kY0:=fun n:Behind W1=>n.cell Y.1 Y.2.2.2.2
  have kY1:=fun n:Behind W1=>n.cell Y.2.1 Y.2.2.2.2
  simp only [List.take_succ_cons,List.take_zero]
  repeat (go_big_quiet_step (first | (go_at_call_of 91 (Value.int .i64 aN);with_reducible refine Behind.call (c4 _)) | (go_at_call_of 91 (Value.int .i64 bN);with_reducible refine Behind.call (c5 _)) | (go_at_call 92;with_reducible refine Behind.call (c6 _))))
  exact wpQuiet_nil rfl
 intro b W hbb B hb1
 have sX:=X.lt
 have sY:=Y.lt
 have sZ:=Z.lt
 have sHB:=HB.size
 replace X:=X.keep hb1
 replace Y:=Y.keep hb1
 replace Z:=Z.keep hb1
 replace HB:=later HB hb1
 clear hb1
 have T:=B.put (.int .u64 (th:Int)) (.int .u64 (tl:Int))
 replace X:=X.far2 (c:=b) (by omega) (.int .u64 (th:Int)) (.int .u64 (tl:Int))
 replace Y:=Y.far2 (c:=b) (by omega) (.int .u64 (th:Int)) (.int .u64 (tl:Int))
 replace Z:=Z.far2 (c:=b) (by omega) (.int .u64 (th:Int)) (.int .u64 (tl:Int))
 have nT:Hid (w.heap.size+1+1<b):=show w.heap.size+1+1<b by omega
 replace HB:Below w.heap.size w ((W.setCell ⟨b,0,none⟩ (.int .u64 (th:Int))).setCell ⟨b,1,none⟩ (.int .u64 (tl:Int))):=(HB.setCell (by simp;omega) _).setCell (by simp;omega) _
 obtain⟨bb0,bb1,bb2,bb3,bb4⟩:=id B
 simp only [List.drop_succ_cons,List.drop_zero,Act.put,List.setIfInBounds_toArray,List.set_cons_succ,List.set_cons_zero]
 go_upto_region 4 with fail
 clear bb0 bb1 bb2 bb3 bb4 B hbb sX sY sZ sHB
 generalize ((W.setCell ⟨b,0,none⟩ (.int .u64 (th:Int))).setCell ⟨b,1,none⟩ (.int .u64 (tl:Int)))=V4 at *
 generalize b=bT at *
 obtain⟨t0,t1,t2,t3,t4⟩:=id T
 go_upto_region 5 with (go_at_call 93;(with_reducible refine (c7 _).mono ?_);rintro _ V5 ⟨rfl,hb1⟩;replace Y:=Y.keep hb1;replace Z:=Z.keep hb1;replace T:=T.keep hb1;replace HB:=later HB hb1;clear hb1 t0 t1 t2 t3 t4;obtain⟨t0,t1,t2,t3,t4⟩:=id T)
 go_upto_region 7 with fail
 go_upto_region 8 with (go_at_call 95;(with_reducible refine (c9 _).mono ?_);rintro _ V8 ⟨rfl,hb1⟩;replace Y:=Y.keep hb1;replace Z:=Z.keep hb1;replace T:=T.keep hb1;replace HB:=later HB hb1;clear hb1 t0 t1 t2 t3 t4;obtain⟨t0,t1,t2,t3,t4⟩:=id T)
 replace Y:=Y.keep (grewW V8 (.cells #[.int .u64 (qh:Int),.int .u64 (ql:Int)] 133))
 replace Z:=Z.keep (grewW V8 (.cells #[.int .u64 (qh:Int),.int .u64 (ql:Int)] 133))
 replace T:=T.keep (grewW V8 (.cells #[.int .u64 (qh:Int),.int .u64 (ql:Int)] 133))
 replace HB:=later HB (grewW V8 (.cells #[.int .u64 (qh:Int),.int .u64 (ql:Int)] 133))
 clear t0 t1 t2 t3 t4
 generalize (V8.alloc (.cells #[.int .u64 (qh:Int),.int .u64 (ql:Int)] 133))=V9 at *
 obtain⟨t0,t1,t2,t3,t4⟩:=id T
 go_upto_region 9 with (go_at_call 53;(with_reducible refine (c10 _).mono ?_);rintro _ V10 ⟨rfl,hb1⟩;replace Y:=Y.keep hb1;replace Z:=Z.keep hb1;replace T:=T.keep hb1;replace HB:=later HB hb1;clear hb1 t0 t1 t2 t3 t4;obtain⟨t0,t1,t2,t3,t4⟩:=id T)
 go_upto_region 10 with (go_at_call 95;(with_reducible refine (c11 _).mono ?_);rintro _ V11 ⟨rfl,hb1⟩;replace Y:=Y.keep hb1;replace Z:=Z.keep hb1;replace T:=T.keep hb1;replace HB:=later HB hb1;clear hb1 t0 t1 t2 t3 t4;obtain⟨t0,t1,t2,t3,t4⟩:=id T)
 replace Y:=Y.keep (grewW V11 (.cells #[.int .u64 (nh:Int),.int .u64 (nl:Int)] 133))
 replace Z:=Z.keep (grewW V11 (.cells #[.int .u64 (nh:Int),.int .u64 (nl:Int)] 133))
 replace T:=T.keep (grewW V11 (.cells #[.int .u64 (nh:Int),.int .u64 (nl:Int)] 133))
 replace HB:=later HB (grewW V11 (.cells #[.int .u64 (nh:Int),.int .u64 (nl:Int)] 133))
 have P:=has2_new V11 (.int .u64 (nh:Int)) (.int .u64 (nl:Int)) 133
 clear t0 t1 t2 t3 t4
 generalize (V11.alloc (.cells #[.int .u64 (nh:Int),.int .u64 (nl:Int)] 133))=V12 at *
 generalize V11.heap.size=bP at *
 obtain⟨t0,t1,t2,t3,t4⟩:=id T
 clear t0 t1 t2 t3 t4
 have kY0:=fun n:Behind V12=>n.cell Y.1 Y.2.2.2.2
 have kY1:=fun n:Behind V12=>n.cell Y.2.1 Y.2.2.2.2
 have kP0:=fun n:Behind V12=>n.cell P.1 P.2.2.2.2
 have kP1:=fun n:Behind V12=>n.cell P.2.1 P.2.2.2.2
 refine tail_behind 12 (by kernel_rfl) (by kernel_rfl) ?_
 simp only [List.take_succ_cons,List.take_zero,List.drop_succ_cons,List.drop_zero]
 repeat (go_big_quiet_step (first | (go_at_call 54;with_reducible refine Behind.same (c2 _)) | (go_at_call 97;with_reducible refine Behind.call (c12 _)) | (go_at_call 96;with_reducible refine Behind.call (c13 _))))
 refine wpQuiet_nil ?_
 rintro _ ⟨m',rfl⟩
 obtain⟨V13,hb1⟩:=m'
 dsimp only
 clear kY0 kY1 kP0 kP1
 replace Z:=Z.keep hb1
 replace HB:=later HB hb1
 clear hb1
 obtain⟨z0,z1,z2,z3,z4⟩:=id Z
 go_wp2_with fail
 refine bodyPost_ret (v:=.tuple #[.agg #[.int .i64 x,.int .i64 y],.int .i64 e]) (by simp [results,Try.results77,go_sem, *]) rfl ⟨rfl, ?_⟩
 repeat' (first | (with_reducible exact HB) | (with_reducible refine Below.setCell ?_ ?_ _) | go_size)
set_option maxHeartbeats 4000000 in
theorem sum_neg (aN aD bN bD:Int) (pA pB cm ra rb ah al bh bl th tl mh ml qh ql rs ou nh nl rr qb dh dl:Nat) (x y e:Int)
  (c1:∀W,Calls Try.prog 54 #[.int .i64 aD] W fun r w'=>r=.returned (.int .u64 (pA:Int))/\W=w')
  (c2:∀W,Calls Try.prog 54 #[.int .i64 bD] W fun r w'=>r=.returned (.int .u64 (pB:Int))/\W=w')
  (c3:∀W,Calls Try.prog 53 #[.int .u64 (pA:Int),.int .u64 (pB:Int)] W fun r w'=>r=.returned (.int .u64 (cm:Int))/\Below W.heap.size W w')
  (c4:∀W,Calls Try.prog 91 #[.int .i64 aN,.int .u64 (rb:Int)] W fun r w'=>r=.returned (.agg #[.int .u64 (ah:Int),.int .u64 (al:Int)])/\Below W.heap.size W w')
  (c5:∀W,Calls Try.prog 91 #[.int .i64 bN,.int .u64 (ra:Int)] W fun r w'=>r=.returned (.agg #[.int .u64 (bh:Int),.int .u64 (bl:Int)])/\Below W.heap.size W w')
  (c6:∀W,Calls Try.prog 92 #[.agg #[.int .u64 (ah:Int),.int .u64 (al:Int)],.agg #[.int .u64 (bh:Int),.int .u64 (bl:Int)]] W fun r w'=>r=.returned (.agg #[.int .u64 (th:Int),.int .u64 (tl:Int)])/\Below W.heap.size W w')
  (c7:∀W,Calls Try.prog 93 #[.agg #[.int .u64 (th:Int),.int .u64 (tl:Int)]] W fun r w'=>r=.returned (.bool true)/\Below W.heap.size W w')
  (c8:∀W,Calls Try.prog 94 #[.agg #[.int .u64 (th:Int),.int .u64 (tl:Int)]] W fun r w'=>r=.returned (.agg #[.int .u64 (mh:Int),.int .u64 (ml:Int)])/\Below W.heap.size W w')
  (c9:∀W,Calls Try.prog 95 #[.agg #[.int .u64 (mh:Int),.int .u64 (ml:Int)],.int .u64 (cm:Int)] W fun r w'=>r=.returned (.tuple #[.agg #[.int .u64 (qh:Int),.int .u64 (ql:Int)],.int .u64 (rs:Int)])/\Below W.heap.size W w')
  (c10:∀W,Calls Try.prog 53 #[.int .u64 (rs:Int),.int .u64 (cm:Int)] W fun r w'=>r=.returned (.int .u64 (ou:Int))/\Below W.heap.size W w')
  (c11:∀W,Calls Try.prog 95 #[.agg #[.int .u64 (mh:Int),.int .u64 (ml:Int)],.int .u64 (ou:Int)] W fun r w'=>r=.returned (.tuple #[.agg #[.int .u64 (nh:Int),.int .u64 (nl:Int)],.int .u64 (rr:Int)])/\Below W.heap.size W w')
  (c12:∀W,Calls Try.prog 97 #[.int .u64 (ra:Int),.int .u64 (qb:Int)] W fun r w'=>r=.returned (.agg #[.int .u64 (dh:Int),.int .u64 (dl:Int)])/\Below W.heap.size W w')
  (c13:∀W,Calls Try.prog 96 #[.bool true,.agg #[.int .u64 (nh:Int),.int .u64 (nl:Int)],.agg #[.int .u64 (dh:Int),.int .u64 (dl:Int)]] W fun r w'=>r=.returned (.tuple #[.agg #[.int .i64 x,.int .i64 y],.int .i64 e])/\Below W.heap.size W w')
  (d1:¬(cm:Int)=0) (d2:¬(ou:Int)=0) (e1:IntKind.u64.wrap ((pA:Int)/(cm:Int))=(ra:Int)) (e2:IntKind.u64.wrap ((pB:Int)/(cm:Int))=(rb:Int)) (e3:IntKind.u64.wrap ((pB:Int)/(ou:Int))=(qb:Int)) (w:World) :
  Calls Try.prog 77 #[.agg #[.int .i64 aN,.int .i64 aD],.agg #[.int .i64 bN,.int .i64 bD]] w fun r w'=>r=.returned (.tuple #[.agg #[.int .i64 x,.int .i64 y],.int .i64 e])/\Below w.heap.size w w':=by
 have HB:Below w.heap.size w (((w.alloc (.cells #[.int .i64 aN,.int .i64 aD] 27)).alloc (.cells #[.int .i64 bN,.int .i64 bD] 27)).alloc (.cells #[.int .i64 0,.int .i64 0] 27)):=by go_grown
 have X:Has2 (((w.alloc (.cells #[.int .i64 aN,.int .i64 aD] 27)).alloc (.cells #[.int .i64 bN,.int .i64 bD] 27)).alloc (.cells #[.int .i64 0,.int .i64 0] 27)) w.heap.size (.int .i64 aN) (.int .i64 aD):=⟨by go_simp,by go_simp,by go_simp,by go_simp,by go_size⟩
 have Y:Has2 (((w.alloc (.cells #[.int .i64 aN,.int .i64 aD] 27)).alloc (.cells #[.int .i64 bN,.int .i64 bD] 27)).alloc (.cells #[.int .i64 0,.int .i64 0] 27)) (w.heap.size+1) (.int .i64 bN) (.int .i64 bD):=⟨by go_simp,by go_simp,by go_simp,by go_simp,by go_size⟩
 have Z:Has2 (((w.alloc (.cells #[.int .i64 aN,.int .i64 aD] 27)).alloc (.cells #[.int .i64 bN,.int .i64 bD] 27)).alloc (.cells #[.int .i64 0,.int .i64 0] 27)) (w.heap.size+1+1) (.int .i64 0) (.int .i64 0):=⟨by go_simp,by go_simp,by go_simp,by go_simp,by go_size⟩
 go_enter Try.func77,Try.ntmps77
 go_upto_region 1 with fail
 generalize (((w.alloc (.cells #[.int .i64 aN,.int .i64 aD] 27)).alloc (.cells #[.int .i64 bN,.int .i64 bD] 27)).alloc (.cells #[.int .i64 0,.int .i64 0] 27))=V1 at *
 have kX0:=fun n:Behind V1=>n.cell X.1 X.2.2.2.2
 have kX1:=fun n:Behind V1=>n.cell X.2.1 X.2.2.2.2
 have kY0:=fun n:Behind V1=>n.cell Y.1 Y.2.2.2.2
 have kY1:=fun n:Behind V1=>n.cell Y.2.1 Y.2.2.2.2
 refine region_behind (by kernel_rfl) (by kernel_rfl) ?_
 repeat (go_big_quiet_step (first | (go_at_call_of 54 (Value.int .i64 aD);with_reducible refine Behind.same (c1 _)) | (go_at_call_of 54 (Value.int .i64 bD);with_reducible refine Behind.same (c2 _)) | (go_at_call 53;with_reducible refine Behind.call (c3 _))))
 refine wpQuiet_nil ?_
 rintro _ ⟨m',rfl⟩
 obtain⟨V2,hb1⟩:=m'
 dsimp only
 clear kX0 kX1 kY0 kY1
 replace X:=X.keep hb1
 replace Y:=Y.keep hb1
 replace Z:=Z.keep hb1
 replace HB:=later HB hb1
 clear hb1
 go_upto_region 2 with fail
 have kX0:=fun n:Behind V2=>n.cell X.1 X.2.2.2.2
 have kX1:=fun n:Behind V2=>n.cell X.2.1 X.2.2.2.2
 have kY0:=fun n:Behind V2=>n.cell Y.1 Y.2.2.2.2
 have kY1:=fun n:Behind V2=>n.cell Y.2.1 Y.2.2.2.2
 refine region_behind (by kernel_rfl) (by kernel_rfl) ?_
 repeat (go_big_quiet_step (first | (go_at_call_of 54 (Value.int .i64 aD);with_reducible refine Behind.same (c1 _)) | (go_at_call_of 54 (Value.int .i64 bD);with_reducible refine Behind.same (c2 _))))
 refine wpQuiet_nil ?_
 rintro _ ⟨m',rfl⟩
 obtain⟨V3,hb1⟩:=m'
 dsimp only
 clear kX0 kX1 kY0 kY1
 replace X:=X.keep hb1
 replace Y:=Y.keep hb1
 replace Z:=Z.keep hb1
 replace HB:=later HB hb1
 clear hb1
 go_upto_region 3 with fail
 apply tail_wide1 9 (by kernel_rfl) (by kernel_rfl) rfl
 ·intro W1 hW
  replace X:=X.keep hW
  replace Y:=Y.keep hW
  have kX0:=fun n:Behind W1=>n.cell X.1 X.2.2.2.2
  have kX1:=fun n:Behind W1=>n.cell X.2.1 X.2.2.2.2
  have kY0:=fun n:Behind W1=>n.cell Y.1 Y.2.2.2.2
  have kY1:=fun n:Behind W1=>n.cell Y.2.1 Y.2.2.2.2
  simp only [List.take_succ_cons,List.take_zero]
  repeat (go_big_quiet_step (first | (go_at_call_of 91 (Value.int .i64 aN);with_reducible refine Behind.call (c4 _)) | (go_at_call_of 91 (Value.int .i64 bN);with_reducible refine Behind.call (c5 _)) | (go_at_call 92;with_reducible refine Behind.call (c6 _))))
  exact wpQuiet_nil rfl
 intro b W hbb B hb1
 have sX:=X.lt
 have sY:=Y.lt
 have sZ:=Z.lt
 have sHB:=HB.size
 replace X:=X.keep hb1
 replace Y:=Y.keep hb1
 replace Z:=Z.keep hb1
 replace HB:=later HB hb1
 clear hb1
 have T:=B.put (.int .u64 (th:Int)) (.int .u64 (tl:Int))
 replace X:=X.far2 (c:=b) (by omega) (.int .u64 (th:Int)) (.int .u64 (tl:Int))
 replace Y:=Y.far2 (c:=b) (by omega) (.int .u64 (th:Int)) (.int .u64 (tl:Int))
 replace Z:=Z.far2 (c:=b) (by omega) (.int .u64 (th:Int)) (.int .u64 (tl:Int))
 have nT:Hid (w.heap.size+1+1<b):=show w.heap.size+1+1<b by omega
 replace HB:Below w.heap.size w ((W.setCell ⟨b,0,none⟩ (.int .u64 (th:Int))).setCell ⟨b,1,none⟩ (.int .u64 (tl:Int))):=(HB.setCell (by simp;omega) _).setCell (by simp;omega) _
 obtain⟨bb0,bb1,bb2,bb3,bb4⟩:=id B
 simp only [List.drop_succ_cons,List.drop_zero,Act.put,List.setIfInBounds_toArray,List.set_cons_succ,List.set_cons_zero]
 go_upto_region 4 with fail
 clear bb0 bb1 bb2 bb3 bb4 B hbb sX sY sZ sHB
 generalize ((W.setCell ⟨b,0,none⟩ (.int .u64 (th:Int))).setCell ⟨b,1,none⟩ (.int .u64 (tl:Int)))=V4 at *
 generalize b=bT at *
 obtain⟨t0,t1,t2,t3,t4⟩:=id T
 go_upto_region 5 with (go_at_call 93;(with_reducible refine (c7 _).mono ?_);rintro _ V5 ⟨rfl,hb1⟩;replace Y:=Y.keep hb1;replace Z:=Z.keep hb1;replace T:=T.keep hb1;replace HB:=later HB hb1;clear hb1 t0 t1 t2 t3 t4;obtain⟨t0,t1,t2,t3,t4⟩:=id T)
 go_upto_region 7 with (go_at_call 94;(with_reducible refine (c8 _).mono ?_);rintro _ V6 ⟨rfl,hb1⟩;replace Y:=Y.keep hb1;replace Z:=Z.keep hb1;replace T:=T.keep hb1;replace HB:=later HB hb1;clear hb1 t0 t1 t2 t3 t4;obtain⟨t0,t1,t2,t3,t4⟩:=id T)
 have nT':=nT.out
 replace Y:=Y.far2 (c:=bT) (by omega) (.int .u64 (mh:Int)) (.int .u64 (ml:Int))
 replace Z:=Z.far2 (c:=bT) (by omega) (.int .u64 (mh:Int)) (.int .u64 (ml:Int))
 replace T:=T.put (.int .u64 (mh:Int)) (.int .u64 (ml:Int))
 replace HB:Below w.heap.size w ((V6.setCell ⟨bT,0,none⟩ (.int .u64 (mh:Int))).setCell ⟨bT,1,none⟩ (.int .u64 (ml:Int))):=(HB.setCell (by simp;omega) _).setCell (by simp;omega) _
 clear t0 t1 t2 t3 t4 nT'
 generalize ((V6.setCell ⟨bT,0,none⟩ (.int .u64 (mh:Int))).setCell ⟨bT,1,none⟩ (.int .u64 (ml:Int)))=V7 at *
 obtain⟨t0,t1,t2,t3,t4⟩:=id T
 go_upto_region 8 with (go_at_call 95;(with_reducible refine (c9 _).mono ?_);rintro _ V8 ⟨rfl,hb1⟩;replace Y:=Y.keep hb1;replace Z:=Z.keep hb1;replace T:=T.keep hb1;replace HB:=later HB hb1;clear hb1 t0 t1 t2 t3 t4;obtain⟨t0,t1,t2,t3,t4⟩:=id T)
 replace Y:=Y.keep (grewW V8 (.cells #[.int .u64 (qh:Int),.int .u64 (ql:Int)] 133))
 replace Z:=Z.keep (grewW V8 (.cells #[.int .u64 (qh:Int),.int .u64 (ql:Int)] 133))
 replace T:=T.keep (grewW V8 (.cells #[.int .u64 (qh:Int),.int .u64 (ql:Int)] 133))
 replace HB:=later HB (grewW V8 (.cells #[.int .u64 (qh:Int),.int .u64 (ql:Int)] 133))
 clear t0 t1 t2 t3 t4
 generalize (V8.alloc (.cells #[.int .u64 (qh:Int),.int .u64 (ql:Int)] 133))=V9 at *
 obtain⟨t0,t1,t2,t3,t4⟩:=id T
 go_upto_region 9 with (go_at_call 53;(with_reducible refine (c10 _).mono ?_);rintro _ V10 ⟨rfl,hb1⟩;replace Y:=Y.keep hb1;replace Z:=Z.keep hb1;replace T:=T.keep hb1;replace HB:=later HB hb1;clear hb1 t0 t1 t2 t3 t4;obtain⟨t0,t1,t2,t3,t4⟩:=id T)
 go_upto_region 10 with (go_at_call 95;(with_reducible refine (c11 _).mono ?_);rintro _ V11 ⟨rfl,hb1⟩;replace Y:=Y.keep hb1;replace Z:=Z.keep hb1;replace T:=T.keep hb1;replace HB:=later HB hb1;clear hb1 t0 t1 t2 t3 t4;obtain⟨t0,t1,t2,t3,t4⟩:=id T)
 replace Y:=Y.keep (grewW V11 (.cells #[.int .u64 (nh:Int),.int .u64 (nl:Int)] 133))
 replace Z:=Z.keep (grewW V11 (.cells #[.int .u64 (nh:Int),.int .u64 (nl:Int)] 133))
 replace T:=T.keep (grewW V11 (.cells #[.int .u64 (nh:Int),.int .u64 (nl:Int)] 133))
 replace HB:=later HB (grewW V11 (.cells #[.int .u64 (nh:Int),.int .u64 (nl:Int)] 133))
 have P:=has2_new V11 (.int .u64 (nh:Int)) (.int .u64 (nl:Int)) 133
 clear t0 t1 t2 t3 t4
 generalize (V11.alloc (.cells #[.int .u64 (nh:Int),.int .u64 (nl:Int)] 133))=V12 at *
 generalize V11.heap.size=bP at *
 obtain⟨t0,t1,t2,t3,t4⟩:=id T
 clear t0 t1 t2 t3 t4
 have kY0:=fun n:Behind V12=>n.cell Y.1 Y.2.2.2.2
 have kY1:=fun n:Behind V12=>n.cell Y.2.1 Y.2.2.2.2
 have kP0:=fun n:Behind V12=>n.cell P.1 P.2.2.2.2
 have kP1:=fun n:Behind V12=>n.cell P.2.1 P.2.2.2.2
 refine tail_behind 12 (by kernel_rfl) (by kernel_rfl) ?_
 simp only [List.take_succ_cons,List.take_zero,List.drop_succ_cons,List.drop_zero]
 repeat (go_big_quiet_step (first | (go_at_call 54;with_reducible refine Behind.same (c2 _)) | (go_at_call 97;with_reducible refine Behind.call (c12 _)) | (go_at_call 96;with_reducible refine Behind.call (c13 _))))
 refine wpQuiet_nil ?_
 rintro _ ⟨m',rfl⟩
 obtain⟨V13,hb1⟩:=m'
 dsimp only
 clear kY0 kY1 kP0 kP1
 replace Z:=Z.keep hb1
 replace HB:=later HB hb1
 clear hb1
 obtain⟨z0,z1,z2,z3,z4⟩:=id Z
 go_wp2_with fail
 refine bodyPost_ret (v:=.tuple #[.agg #[.int .i64 x,.int .i64 y],.int .i64 e]) (by simp [results,Try.results77,go_sem, *]) rfl ⟨rfl, ?_⟩
 repeat' (first | (with_reducible exact HB) | (with_reducible refine Below.setCell ?_ ?_ _) | go_size)
theorem cop_div {a b x y:Nat} (h:Nat.gcd a b=1) (hx:x ∣ a) (hy:y ∣ b):Nat.gcd (a/x) (b/y)=1 :=
 Nat.Coprime.coprime_dvd_left (Nat.div_dvd_of_dvd hx) (Nat.Coprime.coprime_dvd_right (Nat.div_dvd_of_dvd hy) h)
theorem times_low {pa pA pb pB:Nat} (ha:Nat.gcd pa pA=1) (hb:Nat.gcd pb pB=1) (hA:0<pA) (hB:0<pB) :
  ∃G,0<G/\pa*pb=pa/Nat.gcd pa pB*(pb/Nat.gcd pb pA)*G/\pA*pB=pA/Nat.gcd pb pA*(pB/Nat.gcd pa pB)*G /\
   Nat.gcd (pa/Nat.gcd pa pB*(pb/Nat.gcd pb pA)) (pA/Nat.gcd pb pA*(pB/Nat.gcd pa pB))=1:=by
 have g1:0<Nat.gcd pa pB:=Nat.gcd_pos_of_pos_right _ hB
 have g2:0<Nat.gcd pb pA:=Nat.gcd_pos_of_pos_right _ hA
 have x1:=Nat.coprime_div_gcd_div_gcd (m:=pa) (n:=pB) g1
 have x2:=Nat.coprime_div_gcd_div_gcd (m:=pb) (n:=pA) g2
 have x3:=cop_div ha (Nat.gcd_dvd_left pa pB) (Nat.gcd_dvd_right pb pA)
 have x4:=cop_div hb (Nat.gcd_dvd_left pb pA) (Nat.gcd_dvd_right pa pB)
 have y1:=Nat.div_mul_cancel (Nat.gcd_dvd_left pa pB)
 have y2:=Nat.div_mul_cancel (Nat.gcd_dvd_right pa pB)
 have y3:=Nat.div_mul_cancel (Nat.gcd_dvd_left pb pA)
 have y4:=Nat.div_mul_cancel (Nat.gcd_dvd_right pb pA)
 refine⟨Nat.gcd pa pB*Nat.gcd pb pA,Nat.mul_pos g1 g2, ?_, ?_, ?_⟩
 ·generalize Nat.gcd pa pB=d at *
  generalize Nat.gcd pb pA=u at *
  generalize pa/d=q1 at *
  generalize pb/u=q2 at *
  rw [<-y1,<-y3]
  grind
 ·generalize Nat.gcd pa pB=d at *
  generalize Nat.gcd pb pA=u at *
  generalize pA/u=q1 at *
  generalize pB/d=q2 at *
  rw [<-y2,<-y4]
  grind
 ·exact Nat.Coprime.mul_left (Nat.Coprime.mul_right x3 x1) (Nat.Coprime.mul_right x2 x4)
theorem sum_low {aN bN:Int} {pA pB:Nat} (ha:Nat.gcd aN.natAbs pA=1) (hb:Nat.gcd bN.natAbs pB=1) (hB:0<pB) {cm ra rb T ou:Nat} (hc:cm=Nat.gcd pA pB) (h1:ra=pA/cm) (h2:rb=pB/cm)
  (hT:T=(aN*(rb:Int)+bN*(ra:Int)).natAbs) (ho:ou=Nat.gcd (T%cm) cm) :
  0<cm/\0<ou/\(aN*(pB:Int)+bN*(pA:Int))=(aN*(rb:Int)+bN*(ra:Int))*(cm:Int)/\T=T/ou*ou/\pA*pB=ra*(pB/ou)*(ou*cm)/\Nat.gcd (T/ou) (ra*(pB/ou))=1:=by
 have g1:0<cm:=by rw [hc];exact Nat.gcd_pos_of_pos_right _ hB
 have eA:ra*cm=pA:=by rw [h1,hc];exact Nat.div_mul_cancel (Nat.gcd_dvd_left _ _)
 have eB:rb*cm=pB:=by rw [h2,hc];exact Nat.div_mul_cancel (Nat.gcd_dvd_right _ _)
 have cab:Nat.gcd ra rb=1:=by rw [h1,h2,hc];exact Nat.coprime_div_gcd_div_gcd (by rw [<-hc];exact g1)
 have ho':ou=Nat.gcd T cm:=by rw [ho,<-Nat.gcd_rec,Nat.gcd_comm]
 have g2:0<ou:=by rw [ho'];exact Nat.gcd_pos_of_pos_right _ g1
 have dT:ou ∣ T:=by rw [ho'];exact Nat.gcd_dvd_left _ _
 have dC:ou ∣ cm:=by rw [ho'];exact Nat.gcd_dvd_right _ _
 have dB:ou ∣ pB:=Nat.dvd_trans dC ⟨rb,by rw [<-eB,Nat.mul_comm]⟩
 have key:∀{x y:Int} {m:Nat},Nat.gcd x.natAbs m=1->Nat.gcd (x+y*(m:Int)).natAbs m=1:=fun {x y m} h=>by
  have d1:∀k:Nat,k ∣ (x+y*(m:Int)).natAbs->k ∣ m->k ∣ x.natAbs:=fun k h1 h2=>by
   have a1:(k:Int) ∣ x+y*(m:Int):=Int.ofNat_dvd_left.2 h1
   have a2:(k:Int) ∣ y*(m:Int):=Int.dvd_trans (Int.ofNat_dvd.2 h2) (Int.dvd_mul_left _ _)
   have:=Int.dvd_sub a1 a2
   rw [Int.add_sub_cancel] at this
   exact Int.ofNat_dvd_left.1 this
  have:Nat.gcd (x+y*(m:Int)).natAbs m ∣ Nat.gcd x.natAbs m:=Nat.dvd_gcd (d1 _ (Nat.gcd_dvd_left _ _) (Nat.gcd_dvd_right _ _)) (Nat.gcd_dvd_right _ _)
  rw [h] at this
  exact Nat.eq_one_of_dvd_one this
 have cTa:Nat.gcd T ra=1:=by
  rw [hT]
  refine key ?_
  rw [Int.natAbs_mul]
  have:Nat.gcd aN.natAbs ra=1:=Nat.Coprime.coprime_dvd_right ⟨cm,eA.symm⟩ ha
  exact Nat.Coprime.mul_left this (by rw [Int.natAbs_natCast,Nat.Coprime,Nat.gcd_comm];exact cab)
 have cTb:Nat.gcd T rb=1:=by
  rw [hT,Int.add_comm]
  refine key ?_
  rw [Int.natAbs_mul]
  have:Nat.gcd bN.natAbs rb=1:=Nat.Coprime.coprime_dvd_right ⟨cm,eB.symm⟩ hb
  exact Nat.Coprime.mul_left this (by rw [Int.natAbs_natCast];exact cab)
 refine⟨g1,g2, ?_,(Nat.div_mul_cancel dT).symm, ?_, ?_⟩
 ·rw [<-eA,<-eB,Int.natCast_mul,Int.natCast_mul]
  grind
 ·have:=Nat.div_mul_cancel dB
  generalize pB/ou=q at *
  rw [<-eA,<-this]
  grind
 ·have e:Nat.gcd T (ra*pB)=ou:=by
   rw [Nat.Coprime.gcd_mul_left_cancel_right pB (show Nat.Coprime ra T by rw [Nat.Coprime,Nat.gcd_comm];exact cTa),<-eB,Nat.Coprime.gcd_mul_left_cancel_right cm (show Nat.Coprime rb T by rw [Nat.Coprime,Nat.gcd_comm];exact cTb),ho']
  have:=Nat.coprime_div_gcd_div_gcd (m:=T) (n:=ra*pB) (by rw [e];exact g2)
  rw [e,Nat.mul_div_assoc _ dB] at this
  exact this
theorem ofV_low {g:Bool} {n d G:Nat} (hG:0<G) (hd:0<d) (h:Nat.gcd n d=1):ofV g (n*G) (d*G)=if n<9223372036854775808/\d<9223372036854775808 then (sgnd g n,(d:Int),0) else (0,0,3):=by
 have e63:(2:Nat)^63=9223372036854775808:=by decide
 unfold ofV
 by_cases c:n=0
 ·subst c
  rw [Nat.gcd_zero_left] at h
  subst h
  rw [Nat.zero_mul,if_pos rfl,if_pos ⟨by decide,by decide⟩]
  cases g <;> rfl
 ·rw [if_neg (Nat.mul_ne_zero c (by omega)),Nat.gcd_mul_right,h,Nat.one_mul,Nat.mul_div_cancel _ hG,Nat.mul_div_cancel _ hG]
  by_cases b:n<9223372036854775808/\d<9223372036854775808
  ·rw [if_pos b,if_pos ⟨bitsN_le (by rw [e63];exact b.1),bitsN_le (by rw [e63];exact b.2)⟩]
  ·rw [if_neg b,if_neg fun q=>b ⟨by rw [<-e63];exact bitsN_lt q.1,by rw [<-e63];exact bitsN_lt q.2⟩]
theorem mdV_is {g:Bool} {nh nl dh dl n d:Nat} (S1:Sg nh nl (n:Int)) (S2:Sg dh dl (d:Int)) (h1:n<340282366920938463463374607431768211456) (h2:d<340282366920938463463374607431768211456):mdV g nh nl dh dl=if n<9223372036854775808/\d<9223372036854775808 then (sgnd g n,(d:Int),0) else (0,0,3):=by
 obtain⟨r1,r2⟩:=sg_room S1 h1
 obtain⟨r3,r4⟩:=sg_room S2 h2
 unfold mdV
 rw [r1,r3]
 by_cases c:n<9223372036854775808/\d<9223372036854775808
 ·rw [if_pos c,decide_eq_true c.1,decide_eq_true c.2,if_pos (by rfl),(r2 c.1).2,(r4 c.2).2]
 ·rw [if_neg c,if_neg]
  intro q
  rw [Bool.and_eq_true,decide_eq_true_eq,decide_eq_true_eq] at q
  exact c q
theorem quo_wrap (a b:Nat) (h:a<18446744073709551616):IntKind.u64.wrap ((a:Int)/(b:Int))=((a/b:Nat):Int):=by
 rw [<-Int.natCast_ediv,IntKind.wrap_u64]
 have:=Nat.div_le_self a b
 generalize a/b=q at *
 omega
theorem mul126 {a b:Nat} (ha:a<9223372036854775808) (hb:b<9223372036854775808):a*b<85070591730234615865843651857942052864:=by
 have:=Nat.mul_lt_mul'' ha hb
 omega
theorem times_w (aN aD bN bD:Int) (ha:I64 aN/\I64 aD) (hb:I64 bN/\I64 bD) (h1:Nat.gcd aN.natAbs aD.natAbs=1) (h2:Nat.gcd bN.natAbs bD.natAbs=1) (hA:1<=aD) (hB:1<=bD) (nA:aN≠-9223372036854775808) (nB:bN≠-9223372036854775808) (w:World) :
  Calls Try.prog 78 #[.agg #[.int .i64 aN,.int .i64 aD],.agg #[.int .i64 bN,.int .i64 bD]] w fun r w'=>r=.returned (.tuple #[.agg #[.int .i64 (ofV (!(decide (aN<0)==decide (bN<0))) (aN.natAbs*bN.natAbs) (aD.natAbs*bD.natAbs)).1,.int .i64 (ofV (!(decide (aN<0)==decide (bN<0))) (aN.natAbs*bN.natAbs) (aD.natAbs*bD.natAbs)).2.1],.int .i64 (ofV (!(decide (aN<0)==decide (bN<0))) (aN.natAbs*bN.natAbs) (aD.natAbs*bD.natAbs)).2.2])/\Below w.heap.size w w':=by
 obtain⟨⟨a1,a2⟩,a3,a4⟩:=ha
 obtain⟨⟨b1,b2⟩,b3,b4⟩:=hb
 obtain⟨G,hG,g1,g2,g3⟩:=times_low h1 h2 (show 0<aD.natAbs by omega) (show 0<bD.natAbs by omega)
 have c1:=fun W=>ramount_w aN a1 a2 W
 have c2:=fun W=>ramount_w aD a3 a4 W
 have c3:=fun W=>ramount_w bN b1 b2 W
 have c4:=fun W=>ramount_w bD b3 b4 W
 have c5:=fun W=>rdivisor_w aN.natAbs bD.natAbs W
 have c6:=fun W=>rdivisor_w bN.natAbs aD.natAbs W
 have p1:0<Nat.gcd aN.natAbs bD.natAbs:=Nat.gcd_pos_of_pos_right _ (by omega)
 have p2:0<Nat.gcd bN.natAbs aD.natAbs:=Nat.gcd_pos_of_pos_right _ (by omega)
 have f1:=quo_wrap aN.natAbs (Nat.gcd aN.natAbs bD.natAbs) (by omega)
 have f2:=quo_wrap bN.natAbs (Nat.gcd bN.natAbs aD.natAbs) (by omega)
 have f3:=quo_wrap aD.natAbs (Nat.gcd bN.natAbs aD.natAbs) (by omega)
 have f4:=quo_wrap bD.natAbs (Nat.gcd aN.natAbs bD.natAbs) (by omega)
 have l1:aN.natAbs/Nat.gcd aN.natAbs bD.natAbs<9223372036854775808:=Nat.lt_of_le_of_lt (Nat.div_le_self _ _) (by omega)
 have l2:bN.natAbs/Nat.gcd bN.natAbs aD.natAbs<9223372036854775808:=Nat.lt_of_le_of_lt (Nat.div_le_self _ _) (by omega)
 have l3:aD.natAbs/Nat.gcd bN.natAbs aD.natAbs<9223372036854775808:=Nat.lt_of_le_of_lt (Nat.div_le_self _ _) (by omega)
 have l4:bD.natAbs/Nat.gcd aN.natAbs bD.natAbs<9223372036854775808:=Nat.lt_of_le_of_lt (Nat.div_le_self _ _) (by omega)
 have l5:0<aD.natAbs/Nat.gcd bN.natAbs aD.natAbs:=Nat.div_pos (Nat.gcd_le_right _ (by omega)) p2
 have l6:0<bD.natAbs/Nat.gcd aN.natAbs bD.natAbs:=Nat.div_pos (Nat.gcd_le_right _ (by omega)) p1
 rw [g1,g2]
 generalize aN.natAbs=pa at *
 generalize bN.natAbs=pb at *
 generalize aD.natAbs=pA at *
 generalize bD.natAbs=pB at *
 generalize Nat.gcd pa pB=dn at *
 generalize Nat.gcd pb pA=up at *
 generalize pa/dn=q1 at *
 generalize pb/up=q2 at *
 generalize pA/up=q3 at *
 generalize pB/dn=q4 at *
 obtain⟨nh,nl,S1⟩:=sg_ex ((q1:Int)*(q2:Int))
 obtain⟨dh,dl,S2⟩:=sg_ex ((q3:Int)*(q4:Int))
 have c7:=fun W=>wprod_w q1 q2 nh nl (by omega) (by omega) S1 W
 have c8:=fun W=>wprod_w q3 q4 dh dl (by omega) (by omega) S2 W
 have m1:=mul126 l1 l2
 have m2:=mul126 l3 l4
 have e:=mdV_is (g:=!(decide (aN<0)==decide (bN<0))) (n:=q1*q2) (d:=q3*q4) (by rw [Int.natCast_mul];exact S1) (by rw [Int.natCast_mul];exact S2) (by omega) (by omega)
 rw [ofV_low hG (Nat.mul_pos l5 l6) g3,<-e]
 exact times_core aN aD bN bD pa pA pb pB dn up q1 q2 q3 q4 nh nl dh dl _ _ _ _ c1 c2 c3 c4 c5 c6 c7 c8 (fun W=>made_w _ nh nl dh dl W) (by omega) (by omega) f1 f2 f3 f4 rfl w
theorem rsum_w (aN aD bN bD:Int) (ha:I64 aN/\I64 aD) (hb:I64 bN/\I64 bD) (h1:Nat.gcd aN.natAbs aD.natAbs=1) (h2:Nat.gcd bN.natAbs bD.natAbs=1) (hA:1<=aD) (hB:1<=bD) (nA:aN≠-9223372036854775808) (nB:bN≠-9223372036854775808) (w:World) :
  Calls Try.prog 77 #[.agg #[.int .i64 aN,.int .i64 aD],.agg #[.int .i64 bN,.int .i64 bD]] w fun r w'=>r=.returned (.tuple #[.agg #[.int .i64 (ofV (decide (aN*bD+bN*aD<0)) (aN*bD+bN*aD).natAbs (aD.natAbs*bD.natAbs)).1,.int .i64 (ofV (decide (aN*bD+bN*aD<0)) (aN*bD+bN*aD).natAbs (aD.natAbs*bD.natAbs)).2.1],.int .i64 (ofV (decide (aN*bD+bN*aD<0)) (aN*bD+bN*aD).natAbs (aD.natAbs*bD.natAbs)).2.2])/\Below w.heap.size w w':=by
 obtain⟨⟨a1,a2⟩,a3,a4⟩:=ha
 obtain⟨⟨b1,b2⟩,b3,b4⟩:=hb
 obtain⟨cm,hcm⟩:∃x,x=Nat.gcd aD.natAbs bD.natAbs:=⟨_,rfl⟩
 obtain⟨ra,hra⟩:∃x,x=aD.natAbs/cm:=⟨_,rfl⟩
 obtain⟨rb,hrb⟩:∃x,x=bD.natAbs/cm:=⟨_,rfl⟩
 obtain⟨T,hT⟩:∃x,x=(aN*(rb:Int)+bN*(ra:Int)).natAbs:=⟨_,rfl⟩
 obtain⟨ou,hou⟩:∃x,x=Nat.gcd (T%cm) cm:=⟨_,rfl⟩
 obtain⟨g1,g2,g3,g4,g5,g6⟩:=sum_low h1 h2 (show 0<bD.natAbs by omega) hcm hra hrb hT hou
 rw [show ((bD.natAbs:Nat):Int)=bD by omega,show ((aD.natAbs:Nat):Int)=aD by omega] at g3
 have c1:=fun W=>ramount_w aD a3 a4 W
 have c2:=fun W=>ramount_w bD b3 b4 W
 have c3:=fun W=>rdivisor_w aD.natAbs bD.natAbs W
 rw [<-hcm] at c3
 have lc:cm<=aD.natAbs:=by rw [hcm];exact Nat.gcd_le_left _ (by omega)
 have lc2:cm<=bD.natAbs:=by rw [hcm];exact Nat.gcd_le_right _ (by omega)
 have lo:ou<=cm:=by rw [hou];exact Nat.gcd_le_right _ g1
 have f1:=quo_wrap aD.natAbs cm (by omega)
 have f2:=quo_wrap bD.natAbs cm (by omega)
 have f3:=quo_wrap bD.natAbs ou (by omega)
 rw [<-hra] at f1
 rw [<-hrb] at f2
 have l1:ra<9223372036854775808:=by rw [hra];exact Nat.lt_of_le_of_lt (Nat.div_le_self _ _) (by omega)
 have l2:rb<9223372036854775808:=by rw [hrb];exact Nat.lt_of_le_of_lt (Nat.div_le_self _ _) (by omega)
 have l3:bD.natAbs/ou<9223372036854775808:=Nat.lt_of_le_of_lt (Nat.div_le_self _ _) (by omega)
 have l4:0<ra:=by rw [hra];exact Nat.div_pos lc g1
 have l5:0<bD.natAbs/ou:=Nat.div_pos (by omega) g2
 obtain⟨t,ht⟩:∃x,x=aN*(rb:Int)+bN*(ra:Int):=⟨_,rfl⟩
 have t1:(aN*(rb:Int)).natAbs<85070591730234615865843651857942052864:=by rw [Int.natAbs_mul,Int.natAbs_natCast];exact mul126 (by omega) l2
 have t2:(bN*(ra:Int)).natAbs<85070591730234615865843651857942052864:=by rw [Int.natAbs_mul,Int.natAbs_natCast];exact mul126 (by omega) l1
 have t3:t.natAbs<170141183460469231731687303715884105728:=by omega
 rw [<-ht] at hT g3
 obtain⟨ah,al,S1⟩:=sg_ex (aN*(rb:Int))
 obtain⟨bh,bl,S2⟩:=sg_ex (bN*(ra:Int))
 obtain⟨th,tl,S3⟩:=sg_ex t
 have c4:=fun W=>wsgn_w aN rb ah al a1 a2 (by omega) S1 W
 have c5:=fun W=>wsgn_w bN ra bh bl b1 b2 (by omega) S2 W
 have c6:=fun W=>wplus_w ah al bh bl th tl S1 S2 (by rw [<-ht];exact S3) W
 have c7:=fun W=>wbelow_w th tl W
 have s7:decide (9223372036854775808<=th)=decide (t<0):=by
  obtain⟨u1,u2,u3⟩:=S3
  by_cases c:t<0
  ·rw [decide_eq_true c,decide_eq_true]
   omega
  ·rw [decide_eq_false c,decide_eq_false]
   omega
 rw [s7] at c7
 have sgn:decide (aN*bD+bN*aD<0)=decide (t<0):=by
  rw [g3]
  by_cases c:t<0
  ·rw [decide_eq_true c,decide_eq_true (Int.mul_neg_of_neg_of_pos c (by omega))]
  ·have:=Int.mul_nonneg (show 0<=t by omega) (show 0<=(cm:Int) by omega)
   rw [decide_eq_false c,decide_eq_false (by omega)]
 have absT:(aN*bD+bN*aD).natAbs=T/ou*(ou*cm):=by
  rw [g3,Int.natAbs_mul,Int.natAbs_natCast,<-hT,<-Nat.mul_assoc,<-g4]
 have c12:∀dh dl,Sg dh dl (((ra*(bD.natAbs/ou):Nat)):Int)->∀W,Calls Try.prog 97 #[.int .u64 (ra:Int),.int .u64 ((bD.natAbs/ou:Nat):Int)] W fun r w'=>r=.returned (.agg #[.int .u64 (dh:Int),.int .u64 (dl:Int)])/\Below W.heap.size W w':=fun dh dl S W=>wprod_w ra (bD.natAbs/ou) dh dl (by omega) (by omega) (by rw [Int.natCast_mul] at S;exact S) W
 have ld:=mul126 l1 l3
 have lT:T/ou<340282366920938463463374607431768211456:=Nat.lt_of_le_of_lt (Nat.div_le_self _ _) (by omega)
 obtain⟨dh,dl,S5⟩:=sg_ex (((ra*(bD.natAbs/ou):Nat)):Int)
 replace c12:=c12 dh dl S5
 rw [sgn,absT,g5,ofV_low (Nat.mul_pos g2 g1) (Nat.mul_pos l4 l5) g6]
 have byc:∀h l,Sg h l (T:Int)->∀d,0<d->d<=cm->∀H L,Sg H L ((T/d:Nat):Int)->∀W,Calls Try.prog 95 #[.agg #[.int .u64 (h:Int),.int .u64 (l:Int)],.int .u64 (d:Int)] W fun r w'=>r=.returned (.tuple #[.agg #[.int .u64 (H:Int),.int .u64 (L:Int)],.int .u64 ((T%d:Nat):Int)])/\Below W.heap.size W w':=fun h l S d d0 d1 H L S' W=>by
  have e:=S.nat (by omega) (by omega)
  have e':h*18446744073709551616+l=T:=by omega
  have:=wby_w h l d H L S.1 S.2.1 d0 (by omega) (by rw [e'];exact S') W
  rw [e'] at this
  exact this
 obtain⟨qh,ql,S6⟩:=sg_ex (((T/cm:Nat)):Int)
 obtain⟨nh,nl,S7⟩:=sg_ex (((T/ou:Nat)):Int)
 have c10:=fun W=>rdivisor_w (T%cm) cm W
 rw [<-hou] at c10
 rw [<-mdV_is (g:=decide (t<0)) S7 S5 lT (by omega)]
 by_cases c:t<0
 ·rw [decide_eq_true c] at c7 ⊢
  obtain⟨mh,ml,S4⟩:=sg_ex (-t)
  have S4':Sg mh ml (T:Int):=by rw [show (T:Int)=-t by omega];exact S4
  exact sum_neg aN aD bN bD _ _ cm ra rb ah al bh bl th tl mh ml qh ql _ ou nh nl _ _ dh dl _ _ _ c1 c2 c3 c4 c5 c6 c7 (fun W=>wneg_w th tl mh ml S3 S4 W) (byc mh ml S4' cm g1 (Nat.le_refl _) qh ql S6) c10 (byc mh ml S4' ou g2 lo nh nl S7) c12 (fun W=>made_w true nh nl dh dl W) (by omega) (by omega) f1 f2 f3 w
 ·rw [decide_eq_false c] at c7 ⊢
  have S3':Sg th tl (T:Int):=by rw [show (T:Int)=t by omega];exact S3
  exact sum_pos aN aD bN bD _ _ cm ra rb ah al bh bl th tl qh ql _ ou nh nl _ _ dh dl _ _ _ c1 c2 c3 c4 c5 c6 c7 (byc th tl S3' cm g1 (Nat.le_refl _) qh ql S6) c10 (byc th tl S3' ou g2 lo nh nl S7) c12 (fun W=>made_w false nh nl dh dl W) (by omega) (by omega) f1 f2 f3 w
end Go.Proofs.Ytbejmklkicoibaa
