/- The reference's numbers between two, the model: sums, products, cuts, quotients, roots, series as functions of exact numbers; the walks of Sum, Product, Order and Minus by it. -/
import Derived.Test.YtgocelaghggpmaaDoorKt15
namespace Go.Proofs.YtgocelaghggpmaaDoor
open Go.ChangeShapes Go.WideShapes Go.ChangeAt Go.RowKit
structure Nm where
 g:Bool
 m:Nat
 e:Int
def NI (w:World) (v:Value) (a:Nm):Prop:=∃s,v=.agg #[.bool a.g,s,.int .i64 a.e]∧BigIs w s a.m
theorem NI.shape {w:World} {v:Value} {a:Nm} (h:NI w v a):∃ao l ca,v=.agg #[.bool a.g,.slice ao l ca,.int .i64 a.e]∧(l=0↔a.m=0)∧BigIs w (.slice ao l ca) a.m:=by
 obtain⟨s,h1,h2⟩:=h
 obtain⟨ao,l,ca,rfl,hl⟩:=h2.shape
 exact⟨ao,l,ca,h1,hl,h2⟩
end Go.Proofs.YtgocelaghggpmaaDoor
