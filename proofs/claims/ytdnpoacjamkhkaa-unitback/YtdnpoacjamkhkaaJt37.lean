/- The walks of the statements on quotients: RatMakes, RatCounts, RatPowers. A quotient as an argument: opened and shut. -/
import Derived.Test.YtdnpoacjamkhkaaJt28
import Derived.ChangeSame
import Derived.JoinedOf
import Derived.JoinedAt
import Derived.RowKit3
namespace Go.Proofs.Ytdnpoacjamkhkaa
open Go.ChangeShapes Go.WideShapes Go.ChangeAt Go.RowKit
theorem cellsRat:Try.prog.cellsOf 23=2:=by kernel_rfl
theorem cellsI64r:Try.prog.cellsOf 2=1:=by kernel_rfl
theorem i64_wfI {n:Int} (h:(Lit.int .i64 n).wf=true):I64 n:=by
 have h:IntKind.i64.min≤n∧n≤IntKind.i64.max:=by simpa [Lit.wf] using h
 have e1:IntKind.i64.min=-9223372036854775808:=by decide
 have e2:IntKind.i64.max=9223372036854775807:=by decide
 exact⟨by omega,by omega⟩
theorem trod_i64 {H:Type} {enc:TypeId×Value→H} {W:World} {base:Nat} {sp:Nat→Bool} {held:Bool} {m:Nat} {c:Value} {y:DataW H×List MemPlace} (h:DataW.trod enc Try.prog W base sp held m 2 [c]=some y) :
   ∃n,c=.int .i64 n∧y=(.lit (.int .i64 n),[])∧(Lit.int .i64 n).wf=true:=by
 have ht:=Try.underlying2
 cases m with
 | zero=>simp [DataW.trod] at h
 | succ n =>
   cases c <;> simp [DataW.trod,ht] at h
   rename_i k b
   obtain⟨⟨rfl,h1⟩,h2⟩:=h
   exact⟨b,rfl,h2.symm,h1⟩
set_option maxRecDepth 100000 in
theorem open_rat {H:Type} {enc:TypeId×Value→H} {W:World} {base:Nat} {sp:Nat→Bool} {held:Bool} {r:Reach} {b0:Nat} {v:Value} {d:DataW H} {ps:List MemPlace} (hval:Value.okWide Try.prog W r b0 23 v)
   (hd:DataW.Trod enc Try.prog W base sp held 23 v d ps):∃n m,v=.agg #[.int .i64 n,.int .i64 m]∧d=.agg [.lit (.int .i64 n),.lit (.int .i64 m)]∧ps=[]∧(Lit.int .i64 n).wf=true∧(Lit.int .i64 m).wf=true:=by
 obtain⟨cs,rfl,hsz⟩:=okWide_struct Try.underlying23 hval
 rw [cellsRat] at hsz
 obtain⟨l⟩:=cs
 match l,hsz with
 | [c0,c1],_ =>
 obtain⟨fuel,hf⟩:=hd
 obtain⟨y0,y1,m,hx,_,hy0,hy1⟩:=trod_struct2 Try.underlying23 hf
 simp only [Value.cells,cellsI64r] at hy0 hy1
 obtain⟨lo,rfl,rfl,w0⟩:=trod_i64 hy0
 obtain⟨hi,rfl,rfl,w1⟩:=trod_i64 hy1
 simp only [Prod.mk.injEq] at hx
 obtain⟨rfl,rfl⟩:=hx
 exact⟨lo,hi,rfl,rfl,rfl,w0,w1⟩
set_option maxRecDepth 100000 in
theorem shut_rat {H:Type} {enc:TypeId×Value→H} {W:World} {sp:Nat→Bool} {held:Bool} {base:Nat} {n m:Int} (hl:(Lit.int .i64 n).wf=true) (hh:(Lit.int .i64 m).wf=true) :
   DataW.Trod enc Try.prog W base sp held 23 (.agg #[.int .i64 n,.int .i64 m]) (.agg [.lit (.int .i64 n),.lit (.int .i64 m)]) []:=⟨2,by
 have f0:DataW.trod enc Try.prog W base sp held 1 2 [.int .i64 n]=some (.lit (.int .i64 n),[]):=by simp [DataW.trod,Try.underlying2,hl]
 have f1:DataW.trod enc Try.prog W base sp held 1 2 [.int .i64 m]=some (.lit (.int .i64 m),[]):=by simp [DataW.trod,Try.underlying2,hh]
 have:=trod_struct2_mk (enc:=enc) (w:=W) (base:=base) (spare:=sp) (held:=held) (n:=1) (cs:=[.int .i64 n,.int .i64 m]) Try.underlying23 (by simp [cellsRat]) (by simpa [cellsI64r] using f0) (by simpa [cellsI64r] using f1)
 simpa [Value.cells] using this⟩
end Go.Proofs.Ytdnpoacjamkhkaa
