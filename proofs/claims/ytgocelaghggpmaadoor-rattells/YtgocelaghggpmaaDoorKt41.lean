/- RatTells for every quotient in memory; a quotient as an argument, opened and shut; what the listed table gives. -/
import Derived.Test.YtgocelaghggpmaaDoorKt40
namespace Go.Proofs.YtgocelaghggpmaaDoor
open Go.ChangeShapes Go.WideShapes Go.ChangeAt Go.RowKit
theorem ratTells_w (N D:Int) (hN:I64 N) (hD:I64 D) (w:World) (T:Pow10 w) :
   Calls Tryd.prog 4 #[.agg #[.int .i64 N,.int .i64 D]] w fun r w'=>r=.returned (.bool true)∧Below w.heap.size w w':=by
 have c5:∀W,Calls Tryd.prog 12 #[.agg #[.float .f64 (holdP N D).1,.float .f64 (holdP N D).2],.agg #[.float .f64 (holdP N D).1,.float .f64 (holdP N D).2]] W fun r w'=>r=.returned (.bool true)∧Below W.heap.size W w':=fun W=>by
   have:=rsame_w (holdP N D).1 (holdP N D).2 (holdP N D).1 (holdP N D).2 (holdP_lt hN hD).1 (holdP_lt hN hD).2 (holdP_lt hN hD).1 (holdP_lt hN hD).2 W
   rw [sameB_refl,sameB_refl] at this
   exact this
 exact tells_core N D (printB N D) _ _ w T (fun W t=>print_w N D hN hD W t) (fun W t=>rpint_w N D hN hD W t) (fun W=>holdRat_w N D hN hD W) (fun W=>rholdRat_w N D hN hD W) c5
theorem cellsRatD:Tryd.prog.cellsOf 23=2:=by kernel_rfl
theorem cellsI64D:Tryd.prog.cellsOf 2=1:=by kernel_rfl
theorem i64_wfD {n:Int} (h:(Lit.int .i64 n).wf=true):I64 n:=by
 have h:IntKind.i64.min≤n∧n≤IntKind.i64.max:=by simpa [Lit.wf] using h
 have e1:IntKind.i64.min=-9223372036854775808:=by decide
 have e2:IntKind.i64.max=9223372036854775807:=by decide
 exact⟨by omega,by omega⟩
theorem trod_i64D {H:Type} {enc:TypeId×Value→H} {W:World} {base:Nat} {sp:Nat→Bool} {held:Bool} {m:Nat} {c:Value} {y:DataW H×List MemPlace} (h:DataW.trod enc Tryd.prog W base sp held m 2 [c]=some y) :
   ∃n,c=.int .i64 n∧y=(.lit (.int .i64 n),[])∧(Lit.int .i64 n).wf=true:=by
 have ht:=Tryd.underlying2
 cases m with
 | zero=>simp [DataW.trod] at h
 | succ n =>
   cases c <;> simp [DataW.trod,ht] at h
   rename_i k b
   obtain⟨⟨rfl,h1⟩,h2⟩:=h
   exact⟨b,rfl,h2.symm,h1⟩
set_option maxRecDepth 100000 in
theorem open_ratD {H:Type} {enc:TypeId×Value→H} {W:World} {base:Nat} {sp:Nat→Bool} {held:Bool} {r:Reach} {b0:Nat} {v:Value} {d:DataW H} {ps:List MemPlace} (hval:Value.okWide Tryd.prog W r b0 23 v)
   (hd:DataW.Trod enc Tryd.prog W base sp held 23 v d ps):∃n m,v=.agg #[.int .i64 n,.int .i64 m]∧d=.agg [.lit (.int .i64 n),.lit (.int .i64 m)]∧ps=[]∧(Lit.int .i64 n).wf=true∧(Lit.int .i64 m).wf=true:=by
 obtain⟨cs,rfl,hsz⟩:=okWide_struct Tryd.underlying23 hval
 rw [cellsRatD] at hsz
 obtain⟨l⟩:=cs
 match l,hsz with
 | [c0,c1],_ =>
 obtain⟨fuel,hf⟩:=hd
 obtain⟨y0,y1,m,hx,_,hy0,hy1⟩:=trod_struct2 Tryd.underlying23 hf
 simp only [Value.cells,cellsI64D] at hy0 hy1
 obtain⟨lo,rfl,rfl,w0⟩:=trod_i64D hy0
 obtain⟨hi,rfl,rfl,w1⟩:=trod_i64D hy1
 simp only [Prod.mk.injEq] at hx
 obtain⟨rfl,rfl⟩:=hx
 exact⟨lo,hi,rfl,rfl,rfl,w0,w1⟩
set_option maxRecDepth 100000 in
theorem shut_ratD {H:Type} {enc:TypeId×Value→H} {W:World} {sp:Nat→Bool} {held:Bool} {base:Nat} {n m:Int} (hl:(Lit.int .i64 n).wf=true) (hh:(Lit.int .i64 m).wf=true) :
   DataW.Trod enc Tryd.prog W base sp held 23 (.agg #[.int .i64 n,.int .i64 m]) (.agg [.lit (.int .i64 n),.lit (.int .i64 m)]) []:=⟨2,by
 have f0:DataW.trod enc Tryd.prog W base sp held 1 2 [.int .i64 n]=some (.lit (.int .i64 n),[]):=by simp [DataW.trod,Tryd.underlying2,hl]
 have f1:DataW.trod enc Tryd.prog W base sp held 1 2 [.int .i64 m]=some (.lit (.int .i64 m),[]):=by simp [DataW.trod,Tryd.underlying2,hh]
 have:=trod_struct2_mk (enc:=enc) (w:=W) (base:=base) (spare:=sp) (held:=held) (n:=1) (cs:=[.int .i64 n,.int .i64 m]) Tryd.underlying23 (by simp [cellsRatD]) (by simpa [cellsI64D] using f0) (by simpa [cellsI64D] using f1)
 simpa [Value.cells] using this⟩
theorem pow10_laid {r1 r2:String×DataW Unit} {W:World} (h:laidMet Tryd.prog (r1 :: r2 :: ("internal/strconv.uint64pow10",Lib.tabData .u64 Lib.pow10Tab) :: []) W):Pow10 W :=
 Lib.tabBelow_of_tabIs (Lib.tabIs_of_head (g:=3) (t:=165) (e:=61) (n:=20) (by kernel_rfl) (by kernel_rfl) Tryd.underlying165 Tryd.underlying61 (by kernel_rfl) (by kernel_rfl) h.tail.tail)
end Go.Proofs.YtgocelaghggpmaaDoor
