/- UnitBack: the law's walk. -/
import Derived.Lib.Strings
import Derived.Lib.Slices
import Derived.Lib.Small
import Derived.Lib.Walk
import Derived.Lib.BitFns
import Derived.KernelRfl
import Derived.WalkKit
import Derived.Laws.Cover2
import Derived.Laws.FloatArith
import Derived.Laws.BitsAllLaws
import Derived.ProofKit
import Derived.OpenShut
import Derived.WalkSpells
import Derived.WalkLawsBesides
import Derived.Laws.Externs
import Derived.Laws.Bits64b
import Derived.Handy
import Derived.Deep.RegionWith
import Derived.Deep.QuietTactic
import Derived.BigQuiet
import Derived.Deep.RegionHeld3
import Derived.Deep.CutRange
import Derived.Deep.CutBlock
import Derived.Deep.LoopGhost
import Derived.WalkSmall
import Derived.Deep.Quiet
import Derived.StillTail
import Derived.Defers
import Derived.Recover
import Derived.Laws.Pointers
import Derived.Laws.StructEq
import Derived.ChangeSame
import Derived.JoinedOf
import Derived.JoinedAt
import Derived.RowKit3
import Derived.Test.YtdnpoacjamkhkaaJt01
import Derived.Test.YtdnpoacjamkhkaaJt02
import Derived.Test.YtdnpoacjamkhkaaJt03
import Derived.Test.YtdnpoacjamkhkaaJt04
import Derived.Test.YtdnpoacjamkhkaaJt05
import Derived.Test.YtdnpoacjamkhkaaJt06
import Derived.Test.YtdnpoacjamkhkaaJt07
import Derived.Test.YtdnpoacjamkhkaaJt08
import Derived.Test.YtdnpoacjamkhkaaJt09
import Derived.Test.YtdnpoacjamkhkaaJt10
import Derived.Test.YtdnpoacjamkhkaaJt11
import Derived.Test.YtdnpoacjamkhkaaJt12
import Derived.Test.YtdnpoacjamkhkaaJt13
import Derived.Test.YtdnpoacjamkhkaaJt14
import Derived.Test.YtdnpoacjamkhkaaJt15
import Derived.Test.YtdnpoacjamkhkaaJt16
import Derived.Test.YtdnpoacjamkhkaaJt17
import Derived.Test.YtdnpoacjamkhkaaJt18
import Derived.Test.YtdnpoacjamkhkaaJt19
import Derived.Test.YtdnpoacjamkhkaaJt20
import Derived.Test.YtdnpoacjamkhkaaJt21
import Derived.Test.YtdnpoacjamkhkaaJt22
import Derived.Test.YtdnpoacjamkhkaaJt23
import Derived.Test.YtdnpoacjamkhkaaJt24
import Derived.Test.YtdnpoacjamkhkaaJt25
import Derived.Test.YtdnpoacjamkhkaaJt26
import Derived.Test.YtdnpoacjamkhkaaJt27
import Derived.Test.YtdnpoacjamkhkaaJt28
import Derived.Test.YtdnpoacjamkhkaaJt29
import Derived.Test.YtdnpoacjamkhkaaJt30
import Derived.Test.YtdnpoacjamkhkaaJt31
import Derived.Test.YtdnpoacjamkhkaaJt32
import Derived.Test.YtdnpoacjamkhkaaJt33
import Derived.Test.YtdnpoacjamkhkaaJt34
import Derived.Test.YtdnpoacjamkhkaaJt35
import Derived.Test.YtdnpoacjamkhkaaJt36
import Derived.Test.YtdnpoacjamkhkaaJt37
import Derived.Test.YtdnpoacjamkhkaaJt38
import Derived.Test.YtdnpoacjamkhkaaJt39
import Derived.Test.YtdnpoacjamkhkaaJk04
namespace Go.Proofs.Ytdnpoacjamkhkaa
open Go.ChangeShapes Go.WideShapes Go.ChangeAt Go.RowKit
set_option maxHeartbeats 4000000 in
set_option maxRecDepth 4000 in
theorem uback_no (A B F:Nat→Int×Int) (pN pD qN qD e:Int) (he:(e != 0)=true) (hF:eqD F zeE=true)
   (c1:∀W,Calls Try.prog 30 #[.agg #[.int .i64 (A 0).1,.int .i64 (A 0).2,.int .i64 (A 1).1,.int .i64 (A 1).2,.int .i64 (A 2).1,.int .i64 (A 2).2,.int .i64 (A 3).1,.int .i64 (A 3).2,.int .i64 (A 4).1,.int .i64 (A 4).2,.int .i64 (A 5).1,.int .i64 (A 5).2,.int .i64 (A 6).1,.int .i64 (A 6).2],.agg #[.int .i64 (B 0).1,.int .i64 (B 0).2,.int .i64 (B 1).1,.int .i64 (B 1).2,.int .i64 (B 2).1,.int .i64 (B 2).2,.int .i64 (B 3).1,.int .i64 (B 3).2,.int .i64 (B 4).1,.int .i64 (B 4).2,.int .i64 (B 5).1,.int .i64 (B 5).2,.int .i64 (B 6).1,.int .i64 (B 6).2],.agg #[.int .i64 pN,.int .i64 pD]] W fun r w'=>r=.returned (.tuple #[.agg #[.int .i64 (F 0).1,.int .i64 (F 0).2,.int .i64 (F 1).1,.int .i64 (F 1).2,.int .i64 (F 2).1,.int .i64 (F 2).2,.int .i64 (F 3).1,.int .i64 (F 3).2,.int .i64 (F 4).1,.int .i64 (F 4).2,.int .i64 (F 5).1,.int .i64 (F 5).2,.int .i64 (F 6).1,.int .i64 (F 6).2],.int .i64 e])∧Below W.heap.size W w') (w:World) :
   Calls Try.prog 9 #[dimV A,dimV B,.agg #[.int .i64 pN,.int .i64 pD],.agg #[.int .i64 qN,.int .i64 qD]] w fun r w'=>r=.returned (.bool true)∧Below w.heap.size w w':=by
 have q1:∀W:World,(Op.equalIn 9999 41 (.agg #[.int .i64 (F 0).1,.int .i64 (F 0).2,.int .i64 (F 1).1,.int .i64 (F 1).2,.int .i64 (F 2).1,.int .i64 (F 2).2,.int .i64 (F 3).1,.int .i64 (F 3).2,.int .i64 (F 4).1,.int .i64 (F 4).2,.int .i64 (F 5).1,.int .i64 (F 5).2,.int .i64 (F 6).1,.int .i64 (F 6).2]) (.agg #[.int .i64 0,.int .i64 0,.int .i64 0,.int .i64 0,.int .i64 0,.int .i64 0,.int .i64 0,.int .i64 0,.int .i64 0,.int .i64 0,.int .i64 0,.int .i64 0,.int .i64 0,.int .i64 0])).run Try.prog W=.ok true W:=fun W=>run_eq_dim F zeE true hF W
 unfold dimV
 have X0:HasDm (w.alloc (.cells #[.int .i64 (A 0).1,.int .i64 (A 0).2,.int .i64 (A 1).1,.int .i64 (A 1).2,.int .i64 (A 2).1,.int .i64 (A 2).2,.int .i64 (A 3).1,.int .i64 (A 3).2,.int .i64 (A 4).1,.int .i64 (A 4).2,.int .i64 (A 5).1,.int .i64 (A 5).2,.int .i64 (A 6).1,.int .i64 (A 6).2] 43)) w.heap.size A:=dim_new w A 43
 have X:HasDm ((((w.alloc (.cells #[.int .i64 (A 0).1,.int .i64 (A 0).2,.int .i64 (A 1).1,.int .i64 (A 1).2,.int .i64 (A 2).1,.int .i64 (A 2).2,.int .i64 (A 3).1,.int .i64 (A 3).2,.int .i64 (A 4).1,.int .i64 (A 4).2,.int .i64 (A 5).1,.int .i64 (A 5).2,.int .i64 (A 6).1,.int .i64 (A 6).2] 43)).alloc (.cells #[.int .i64 (B 0).1,.int .i64 (B 0).2,.int .i64 (B 1).1,.int .i64 (B 1).2,.int .i64 (B 2).1,.int .i64 (B 2).2,.int .i64 (B 3).1,.int .i64 (B 3).2,.int .i64 (B 4).1,.int .i64 (B 4).2,.int .i64 (B 5).1,.int .i64 (B 5).2,.int .i64 (B 6).1,.int .i64 (B 6).2] 43)).alloc (.cells #[.int .i64 pN,.int .i64 pD] 23)).alloc (.cells #[.int .i64 qN,.int .i64 qD] 23)) w.heap.size A:=X0.keep (by repeat' (first | (with_reducible exact Below.refl _ _) | (with_reducible refine Below.alloc ?_ ?_ _) | go_size))
 have Y:HasDm ((((w.alloc (.cells #[.int .i64 (A 0).1,.int .i64 (A 0).2,.int .i64 (A 1).1,.int .i64 (A 1).2,.int .i64 (A 2).1,.int .i64 (A 2).2,.int .i64 (A 3).1,.int .i64 (A 3).2,.int .i64 (A 4).1,.int .i64 (A 4).2,.int .i64 (A 5).1,.int .i64 (A 5).2,.int .i64 (A 6).1,.int .i64 (A 6).2] 43)).alloc (.cells #[.int .i64 (B 0).1,.int .i64 (B 0).2,.int .i64 (B 1).1,.int .i64 (B 1).2,.int .i64 (B 2).1,.int .i64 (B 2).2,.int .i64 (B 3).1,.int .i64 (B 3).2,.int .i64 (B 4).1,.int .i64 (B 4).2,.int .i64 (B 5).1,.int .i64 (B 5).2,.int .i64 (B 6).1,.int .i64 (B 6).2] 43)).alloc (.cells #[.int .i64 pN,.int .i64 pD] 23)).alloc (.cells #[.int .i64 qN,.int .i64 qD] 23)) (w.heap.size+1) B:=by
   have this:HasDm ((w.alloc (.cells #[.int .i64 (A 0).1,.int .i64 (A 0).2,.int .i64 (A 1).1,.int .i64 (A 1).2,.int .i64 (A 2).1,.int .i64 (A 2).2,.int .i64 (A 3).1,.int .i64 (A 3).2,.int .i64 (A 4).1,.int .i64 (A 4).2,.int .i64 (A 5).1,.int .i64 (A 5).2,.int .i64 (A 6).1,.int .i64 (A 6).2] 43)).alloc (.cells #[.int .i64 (B 0).1,.int .i64 (B 0).2,.int .i64 (B 1).1,.int .i64 (B 1).2,.int .i64 (B 2).1,.int .i64 (B 2).2,.int .i64 (B 3).1,.int .i64 (B 3).2,.int .i64 (B 4).1,.int .i64 (B 4).2,.int .i64 (B 5).1,.int .i64 (B 5).2,.int .i64 (B 6).1,.int .i64 (B 6).2] 43)) (w.alloc (.cells #[.int .i64 (A 0).1,.int .i64 (A 0).2,.int .i64 (A 1).1,.int .i64 (A 1).2,.int .i64 (A 2).1,.int .i64 (A 2).2,.int .i64 (A 3).1,.int .i64 (A 3).2,.int .i64 (A 4).1,.int .i64 (A 4).2,.int .i64 (A 5).1,.int .i64 (A 5).2,.int .i64 (A 6).1,.int .i64 (A 6).2] 43)).heap.size B:=dim_new (w.alloc (.cells #[.int .i64 (A 0).1,.int .i64 (A 0).2,.int .i64 (A 1).1,.int .i64 (A 1).2,.int .i64 (A 2).1,.int .i64 (A 2).2,.int .i64 (A 3).1,.int .i64 (A 3).2,.int .i64 (A 4).1,.int .i64 (A 4).2,.int .i64 (A 5).1,.int .i64 (A 5).2,.int .i64 (A 6).1,.int .i64 (A 6).2] 43)) B 43
   rw [World.size_alloc] at this
   exact this.keep (by repeat' (first | (with_reducible exact Below.refl _ _) | (with_reducible refine Below.alloc ?_ ?_ _) | go_size))
 have Z:Has2 ((((w.alloc (.cells #[.int .i64 (A 0).1,.int .i64 (A 0).2,.int .i64 (A 1).1,.int .i64 (A 1).2,.int .i64 (A 2).1,.int .i64 (A 2).2,.int .i64 (A 3).1,.int .i64 (A 3).2,.int .i64 (A 4).1,.int .i64 (A 4).2,.int .i64 (A 5).1,.int .i64 (A 5).2,.int .i64 (A 6).1,.int .i64 (A 6).2] 43)).alloc (.cells #[.int .i64 (B 0).1,.int .i64 (B 0).2,.int .i64 (B 1).1,.int .i64 (B 1).2,.int .i64 (B 2).1,.int .i64 (B 2).2,.int .i64 (B 3).1,.int .i64 (B 3).2,.int .i64 (B 4).1,.int .i64 (B 4).2,.int .i64 (B 5).1,.int .i64 (B 5).2,.int .i64 (B 6).1,.int .i64 (B 6).2] 43)).alloc (.cells #[.int .i64 pN,.int .i64 pD] 23)).alloc (.cells #[.int .i64 qN,.int .i64 qD] 23)) (w.heap.size+1+1) (.int .i64 pN) (.int .i64 pD):=⟨by go_simp,by go_simp,by go_simp,by go_simp,by go_size⟩
 have U:Has2 ((((w.alloc (.cells #[.int .i64 (A 0).1,.int .i64 (A 0).2,.int .i64 (A 1).1,.int .i64 (A 1).2,.int .i64 (A 2).1,.int .i64 (A 2).2,.int .i64 (A 3).1,.int .i64 (A 3).2,.int .i64 (A 4).1,.int .i64 (A 4).2,.int .i64 (A 5).1,.int .i64 (A 5).2,.int .i64 (A 6).1,.int .i64 (A 6).2] 43)).alloc (.cells #[.int .i64 (B 0).1,.int .i64 (B 0).2,.int .i64 (B 1).1,.int .i64 (B 1).2,.int .i64 (B 2).1,.int .i64 (B 2).2,.int .i64 (B 3).1,.int .i64 (B 3).2,.int .i64 (B 4).1,.int .i64 (B 4).2,.int .i64 (B 5).1,.int .i64 (B 5).2,.int .i64 (B 6).1,.int .i64 (B 6).2] 43)).alloc (.cells #[.int .i64 pN,.int .i64 pD] 23)).alloc (.cells #[.int .i64 qN,.int .i64 qD] 23)) (w.heap.size+1+1+1) (.int .i64 qN) (.int .i64 qD):=⟨by go_simp,by go_simp,by go_simp,by go_simp,by go_size⟩
 clear X0
 have HB:Below w.heap.size w ((((w.alloc (.cells #[.int .i64 (A 0).1,.int .i64 (A 0).2,.int .i64 (A 1).1,.int .i64 (A 1).2,.int .i64 (A 2).1,.int .i64 (A 2).2,.int .i64 (A 3).1,.int .i64 (A 3).2,.int .i64 (A 4).1,.int .i64 (A 4).2,.int .i64 (A 5).1,.int .i64 (A 5).2,.int .i64 (A 6).1,.int .i64 (A 6).2] 43)).alloc (.cells #[.int .i64 (B 0).1,.int .i64 (B 0).2,.int .i64 (B 1).1,.int .i64 (B 1).2,.int .i64 (B 2).1,.int .i64 (B 2).2,.int .i64 (B 3).1,.int .i64 (B 3).2,.int .i64 (B 4).1,.int .i64 (B 4).2,.int .i64 (B 5).1,.int .i64 (B 5).2,.int .i64 (B 6).1,.int .i64 (B 6).2] 43)).alloc (.cells #[.int .i64 pN,.int .i64 pD] 23)).alloc (.cells #[.int .i64 qN,.int .i64 qD] 23)):=by go_grown
 go_enter Try.func9,Try.ntmps9
 go_upto_region 1 with fail
 generalize ((((w.alloc (.cells #[.int .i64 (A 0).1,.int .i64 (A 0).2,.int .i64 (A 1).1,.int .i64 (A 1).2,.int .i64 (A 2).1,.int .i64 (A 2).2,.int .i64 (A 3).1,.int .i64 (A 3).2,.int .i64 (A 4).1,.int .i64 (A 4).2,.int .i64 (A 5).1,.int .i64 (A 5).2,.int .i64 (A 6).1,.int .i64 (A 6).2] 43)).alloc (.cells #[.int .i64 (B 0).1,.int .i64 (B 0).2,.int .i64 (B 1).1,.int .i64 (B 1).2,.int .i64 (B 2).1,.int .i64 (B 2).2,.int .i64 (B 3).1,.int .i64 (B 3).2,.int .i64 (B 4).1,.int .i64 (B 4).2,.int .i64 (B 5).1,.int .i64 (B 5).2,.int .i64 (B 6).1,.int .i64 (B 6).2] 43)).alloc (.cells #[.int .i64 pN,.int .i64 pD] 23)).alloc (.cells #[.int .i64 qN,.int .i64 qD] 23))=V1 at *
 obtain⟨x0,x1,x2,x3,x4,x5,x6,x7,x8,x9,x10,x11,x12,x13⟩:=X.cells;obtain⟨y0,y1,y2,y3,y4,y5,y6,y7,y8,y9,y10,y11,y12,y13⟩:=Y.cells;obtain⟨z0,z1, -, -, -⟩:=id Z;obtain⟨u0,u1, -, -, -⟩:=id U;
 go_upto_region 2 with (first | (go_at_call 30;(with_reducible refine (c1 _).mono ?_);rintro _ VA ⟨rfl,hb1⟩;replace X:=X.keep hb1;replace Y:=Y.keep hb1;replace Z:=Has2.keep Z hb1;replace U:=Has2.keep U hb1;replace HB:=later HB hb1;clear x0 x1 x2 x3 x4 x5 x6 x7 x8 x9 x10 x11 x12 x13 y0 y1 y2 y3 y4 y5 y6 y7 y8 y9 y10 y11 y12 y13 z0 z1 u0 u1;clear hb1;obtain⟨x0,x1,x2,x3,x4,x5,x6,x7,x8,x9,x10,x11,x12,x13⟩:=X.cells;obtain⟨y0,y1,y2,y3,y4,y5,y6,y7,y8,y9,y10,y11,y12,y13⟩:=Y.cells;obtain⟨z0,z1, -, -, -⟩:=id Z;obtain⟨u0,u1, -, -, -⟩:=id U;skip))
 have HW:=grewR VA (.cells #[.int .i64 (F 0).1,.int .i64 (F 0).2,.int .i64 (F 1).1,.int .i64 (F 1).2,.int .i64 (F 2).1,.int .i64 (F 2).2,.int .i64 (F 3).1,.int .i64 (F 3).2,.int .i64 (F 4).1,.int .i64 (F 4).2,.int .i64 (F 5).1,.int .i64 (F 5).2,.int .i64 (F 6).1,.int .i64 (F 6).2] 43)
 have D:HasDm (VA.alloc (.cells #[.int .i64 (F 0).1,.int .i64 (F 0).2,.int .i64 (F 1).1,.int .i64 (F 1).2,.int .i64 (F 2).1,.int .i64 (F 2).2,.int .i64 (F 3).1,.int .i64 (F 3).2,.int .i64 (F 4).1,.int .i64 (F 4).2,.int .i64 (F 5).1,.int .i64 (F 5).2,.int .i64 (F 6).1,.int .i64 (F 6).2] 43)) VA.heap.size F:=dim_new VA F 43
 replace X:=X.keep HW;replace Y:=Y.keep HW;replace Z:=Has2.keep Z HW;replace U:=Has2.keep U HW;replace HB:=later HB HW;
 clear x0 x1 x2 x3 x4 x5 x6 x7 x8 x9 x10 x11 x12 x13 y0 y1 y2 y3 y4 y5 y6 y7 y8 y9 y10 y11 y12 y13 z0 z1 u0 u1;clear HW
 generalize (VA.alloc (.cells #[.int .i64 (F 0).1,.int .i64 (F 0).2,.int .i64 (F 1).1,.int .i64 (F 1).2,.int .i64 (F 2).1,.int .i64 (F 2).2,.int .i64 (F 3).1,.int .i64 (F 3).2,.int .i64 (F 4).1,.int .i64 (F 4).2,.int .i64 (F 5).1,.int .i64 (F 5).2,.int .i64 (F 6).1,.int .i64 (F 6).2] 43))=V2 at *
 generalize VA.heap.size=fb at *
 obtain⟨x0,x1,x2,x3,x4,x5,x6,x7,x8,x9,x10,x11,x12,x13⟩:=X.cells;obtain⟨y0,y1,y2,y3,y4,y5,y6,y7,y8,y9,y10,y11,y12,y13⟩:=Y.cells;obtain⟨z0,z1, -, -, -⟩:=id Z;obtain⟨u0,u1, -, -, -⟩:=id U;obtain⟨d0,d1,d2,d3,d4,d5,d6,d7,d8,d9,d10,d11,d12,d13⟩:=D.cells;
 go_wp2_with fail
 go_ret
 exact⟨rfl,HB⟩
set_option maxHeartbeats 4000000 in
set_option maxRecDepth 4000 in
theorem uback_over (A B F G:Nat→Int×Int) (pN pD qN qD mN:Int) (hm:IntKind.i64.wrap (-pN)=mN)
   (c1:∀W,Calls Try.prog 30 #[.agg #[.int .i64 (A 0).1,.int .i64 (A 0).2,.int .i64 (A 1).1,.int .i64 (A 1).2,.int .i64 (A 2).1,.int .i64 (A 2).2,.int .i64 (A 3).1,.int .i64 (A 3).2,.int .i64 (A 4).1,.int .i64 (A 4).2,.int .i64 (A 5).1,.int .i64 (A 5).2,.int .i64 (A 6).1,.int .i64 (A 6).2],.agg #[.int .i64 (B 0).1,.int .i64 (B 0).2,.int .i64 (B 1).1,.int .i64 (B 1).2,.int .i64 (B 2).1,.int .i64 (B 2).2,.int .i64 (B 3).1,.int .i64 (B 3).2,.int .i64 (B 4).1,.int .i64 (B 4).2,.int .i64 (B 5).1,.int .i64 (B 5).2,.int .i64 (B 6).1,.int .i64 (B 6).2],.agg #[.int .i64 pN,.int .i64 pD]] W fun r w'=>r=.returned (.tuple #[.agg #[.int .i64 (F 0).1,.int .i64 (F 0).2,.int .i64 (F 1).1,.int .i64 (F 1).2,.int .i64 (F 2).1,.int .i64 (F 2).2,.int .i64 (F 3).1,.int .i64 (F 3).2,.int .i64 (F 4).1,.int .i64 (F 4).2,.int .i64 (F 5).1,.int .i64 (F 5).2,.int .i64 (F 6).1,.int .i64 (F 6).2],.int .i64 0])∧Below W.heap.size W w')
   (c2:∀W,Calls Try.prog 30 #[.agg #[.int .i64 (F 0).1,.int .i64 (F 0).2,.int .i64 (F 1).1,.int .i64 (F 1).2,.int .i64 (F 2).1,.int .i64 (F 2).2,.int .i64 (F 3).1,.int .i64 (F 3).2,.int .i64 (F 4).1,.int .i64 (F 4).2,.int .i64 (F 5).1,.int .i64 (F 5).2,.int .i64 (F 6).1,.int .i64 (F 6).2],.agg #[.int .i64 (B 0).1,.int .i64 (B 0).2,.int .i64 (B 1).1,.int .i64 (B 1).2,.int .i64 (B 2).1,.int .i64 (B 2).2,.int .i64 (B 3).1,.int .i64 (B 3).2,.int .i64 (B 4).1,.int .i64 (B 4).2,.int .i64 (B 5).1,.int .i64 (B 5).2,.int .i64 (B 6).1,.int .i64 (B 6).2],.agg #[.int .i64 mN,.int .i64 pD]] W fun r w'=>r=.returned (.tuple #[.agg #[.int .i64 (G 0).1,.int .i64 (G 0).2,.int .i64 (G 1).1,.int .i64 (G 1).2,.int .i64 (G 2).1,.int .i64 (G 2).2,.int .i64 (G 3).1,.int .i64 (G 3).2,.int .i64 (G 4).1,.int .i64 (G 4).2,.int .i64 (G 5).1,.int .i64 (G 5).2,.int .i64 (G 6).1,.int .i64 (G 6).2],.int .i64 3])∧Below W.heap.size W w') (w:World) :
   Calls Try.prog 9 #[dimV A,dimV B,.agg #[.int .i64 pN,.int .i64 pD],.agg #[.int .i64 qN,.int .i64 qD]] w fun r w'=>r=.returned (.bool true)∧Below w.heap.size w w':=by
 unfold dimV
 have X0:HasDm (w.alloc (.cells #[.int .i64 (A 0).1,.int .i64 (A 0).2,.int .i64 (A 1).1,.int .i64 (A 1).2,.int .i64 (A 2).1,.int .i64 (A 2).2,.int .i64 (A 3).1,.int .i64 (A 3).2,.int .i64 (A 4).1,.int .i64 (A 4).2,.int .i64 (A 5).1,.int .i64 (A 5).2,.int .i64 (A 6).1,.int .i64 (A 6).2] 43)) w.heap.size A:=dim_new w A 43
 have X:HasDm ((((w.alloc (.cells #[.int .i64 (A 0).1,.int .i64 (A 0).2,.int .i64 (A 1).1,.int .i64 (A 1).2,.int .i64 (A 2).1,.int .i64 (A 2).2,.int .i64 (A 3).1,.int .i64 (A 3).2,.int .i64 (A 4).1,.int .i64 (A 4).2,.int .i64 (A 5).1,.int .i64 (A 5).2,.int .i64 (A 6).1,.int .i64 (A 6).2] 43)).alloc (.cells #[.int .i64 (B 0).1,.int .i64 (B 0).2,.int .i64 (B 1).1,.int .i64 (B 1).2,.int .i64 (B 2).1,.int .i64 (B 2).2,.int .i64 (B 3).1,.int .i64 (B 3).2,.int .i64 (B 4).1,.int .i64 (B 4).2,.int .i64 (B 5).1,.int .i64 (B 5).2,.int .i64 (B 6).1,.int .i64 (B 6).2] 43)).alloc (.cells #[.int .i64 pN,.int .i64 pD] 23)).alloc (.cells #[.int .i64 qN,.int .i64 qD] 23)) w.heap.size A:=X0.keep (by repeat' (first | (with_reducible exact Below.refl _ _) | (with_reducible refine Below.alloc ?_ ?_ _) | go_size))
 have Y:HasDm ((((w.alloc (.cells #[.int .i64 (A 0).1,.int .i64 (A 0).2,.int .i64 (A 1).1,.int .i64 (A 1).2,.int .i64 (A 2).1,.int .i64 (A 2).2,.int .i64 (A 3).1,.int .i64 (A 3).2,.int .i64 (A 4).1,.int .i64 (A 4).2,.int .i64 (A 5).1,.int .i64 (A 5).2,.int .i64 (A 6).1,.int .i64 (A 6).2] 43)).alloc (.cells #[.int .i64 (B 0).1,.int .i64 (B 0).2,.int .i64 (B 1).1,.int .i64 (B 1).2,.int .i64 (B 2).1,.int .i64 (B 2).2,.int .i64 (B 3).1,.int .i64 (B 3).2,.int .i64 (B 4).1,.int .i64 (B 4).2,.int .i64 (B 5).1,.int .i64 (B 5).2,.int .i64 (B 6).1,.int .i64 (B 6).2] 43)).alloc (.cells #[.int .i64 pN,.int .i64 pD] 23)).alloc (.cells #[.int .i64 qN,.int .i64 qD] 23)) (w.heap.size+1) B:=by
   have this:HasDm ((w.alloc (.cells #[.int .i64 (A 0).1,.int .i64 (A 0).2,.int .i64 (A 1).1,.int .i64 (A 1).2,.int .i64 (A 2).1,.int .i64 (A 2).2,.int .i64 (A 3).1,.int .i64 (A 3).2,.int .i64 (A 4).1,.int .i64 (A 4).2,.int .i64 (A 5).1,.int .i64 (A 5).2,.int .i64 (A 6).1,.int .i64 (A 6).2] 43)).alloc (.cells #[.int .i64 (B 0).1,.int .i64 (B 0).2,.int .i64 (B 1).1,.int .i64 (B 1).2,.int .i64 (B 2).1,.int .i64 (B 2).2,.int .i64 (B 3).1,.int .i64 (B 3).2,.int .i64 (B 4).1,.int .i64 (B 4).2,.int .i64 (B 5).1,.int .i64 (B 5).2,.int .i64 (B 6).1,.int .i64 (B 6).2] 43)) (w.alloc (.cells #[.int .i64 (A 0).1,.int .i64 (A 0).2,.int .i64 (A 1).1,.int .i64 (A 1).2,.int .i64 (A 2).1,.int .i64 (A 2).2,.int .i64 (A 3).1,.int .i64 (A 3).2,.int .i64 (A 4).1,.int .i64 (A 4).2,.int .i64 (A 5).1,.int .i64 (A 5).2,.int .i64 (A 6).1,.int .i64 (A 6).2] 43)).heap.size B:=dim_new (w.alloc (.cells #[.int .i64 (A 0).1,.int .i64 (A 0).2,.int .i64 (A 1).1,.int .i64 (A 1).2,.int .i64 (A 2).1,.int .i64 (A 2).2,.int .i64 (A 3).1,.int .i64 (A 3).2,.int .i64 (A 4).1,.int .i64 (A 4).2,.int .i64 (A 5).1,.int .i64 (A 5).2,.int .i64 (A 6).1,.int .i64 (A 6).2] 43)) B 43
   rw [World.size_alloc] at this
   exact this.keep (by repeat' (first | (with_reducible exact Below.refl _ _) | (with_reducible refine Below.alloc ?_ ?_ _) | go_size))
 have Z:Has2 ((((w.alloc (.cells #[.int .i64 (A 0).1,.int .i64 (A 0).2,.int .i64 (A 1).1,.int .i64 (A 1).2,.int .i64 (A 2).1,.int .i64 (A 2).2,.int .i64 (A 3).1,.int .i64 (A 3).2,.int .i64 (A 4).1,.int .i64 (A 4).2,.int .i64 (A 5).1,.int .i64 (A 5).2,.int .i64 (A 6).1,.int .i64 (A 6).2] 43)).alloc (.cells #[.int .i64 (B 0).1,.int .i64 (B 0).2,.int .i64 (B 1).1,.int .i64 (B 1).2,.int .i64 (B 2).1,.int .i64 (B 2).2,.int .i64 (B 3).1,.int .i64 (B 3).2,.int .i64 (B 4).1,.int .i64 (B 4).2,.int .i64 (B 5).1,.int .i64 (B 5).2,.int .i64 (B 6).1,.int .i64 (B 6).2] 43)).alloc (.cells #[.int .i64 pN,.int .i64 pD] 23)).alloc (.cells #[.int .i64 qN,.int .i64 qD] 23)) (w.heap.size+1+1) (.int .i64 pN) (.int .i64 pD):=⟨by go_simp,by go_simp,by go_simp,by go_simp,by go_size⟩
 have U:Has2 ((((w.alloc (.cells #[.int .i64 (A 0).1,.int .i64 (A 0).2,.int .i64 (A 1).1,.int .i64 (A 1).2,.int .i64 (A 2).1,.int .i64 (A 2).2,.int .i64 (A 3).1,.int .i64 (A 3).2,.int .i64 (A 4).1,.int .i64 (A 4).2,.int .i64 (A 5).1,.int .i64 (A 5).2,.int .i64 (A 6).1,.int .i64 (A 6).2] 43)).alloc (.cells #[.int .i64 (B 0).1,.int .i64 (B 0).2,.int .i64 (B 1).1,.int .i64 (B 1).2,.int .i64 (B 2).1,.int .i64 (B 2).2,.int .i64 (B 3).1,.int .i64 (B 3).2,.int .i64 (B 4).1,.int .i64 (B 4).2,.int .i64 (B 5).1,.int .i64 (B 5).2,.int .i64 (B 6).1,.int .i64 (B 6).2] 43)).alloc (.cells #[.int .i64 pN,.int .i64 pD] 23)).alloc (.cells #[.int .i64 qN,.int .i64 qD] 23)) (w.heap.size+1+1+1) (.int .i64 qN) (.int .i64 qD):=⟨by go_simp,by go_simp,by go_simp,by go_simp,by go_size⟩
 clear X0
 have HB:Below w.heap.size w ((((w.alloc (.cells #[.int .i64 (A 0).1,.int .i64 (A 0).2,.int .i64 (A 1).1,.int .i64 (A 1).2,.int .i64 (A 2).1,.int .i64 (A 2).2,.int .i64 (A 3).1,.int .i64 (A 3).2,.int .i64 (A 4).1,.int .i64 (A 4).2,.int .i64 (A 5).1,.int .i64 (A 5).2,.int .i64 (A 6).1,.int .i64 (A 6).2] 43)).alloc (.cells #[.int .i64 (B 0).1,.int .i64 (B 0).2,.int .i64 (B 1).1,.int .i64 (B 1).2,.int .i64 (B 2).1,.int .i64 (B 2).2,.int .i64 (B 3).1,.int .i64 (B 3).2,.int .i64 (B 4).1,.int .i64 (B 4).2,.int .i64 (B 5).1,.int .i64 (B 5).2,.int .i64 (B 6).1,.int .i64 (B 6).2] 43)).alloc (.cells #[.int .i64 pN,.int .i64 pD] 23)).alloc (.cells #[.int .i64 qN,.int .i64 qD] 23)):=by go_grown
 go_enter Try.func9,Try.ntmps9
 go_upto_region 1 with fail
 generalize ((((w.alloc (.cells #[.int .i64 (A 0).1,.int .i64 (A 0).2,.int .i64 (A 1).1,.int .i64 (A 1).2,.int .i64 (A 2).1,.int .i64 (A 2).2,.int .i64 (A 3).1,.int .i64 (A 3).2,.int .i64 (A 4).1,.int .i64 (A 4).2,.int .i64 (A 5).1,.int .i64 (A 5).2,.int .i64 (A 6).1,.int .i64 (A 6).2] 43)).alloc (.cells #[.int .i64 (B 0).1,.int .i64 (B 0).2,.int .i64 (B 1).1,.int .i64 (B 1).2,.int .i64 (B 2).1,.int .i64 (B 2).2,.int .i64 (B 3).1,.int .i64 (B 3).2,.int .i64 (B 4).1,.int .i64 (B 4).2,.int .i64 (B 5).1,.int .i64 (B 5).2,.int .i64 (B 6).1,.int .i64 (B 6).2] 43)).alloc (.cells #[.int .i64 pN,.int .i64 pD] 23)).alloc (.cells #[.int .i64 qN,.int .i64 qD] 23))=V1 at *
 obtain⟨x0,x1,x2,x3,x4,x5,x6,x7,x8,x9,x10,x11,x12,x13⟩:=X.cells;obtain⟨y0,y1,y2,y3,y4,y5,y6,y7,y8,y9,y10,y11,y12,y13⟩:=Y.cells;obtain⟨z0,z1, -, -, -⟩:=id Z;obtain⟨u0,u1, -, -, -⟩:=id U;
 go_upto_region 2 with (first | (go_at_call 30;(with_reducible refine (c1 _).mono ?_);rintro _ VA ⟨rfl,hb1⟩;replace X:=X.keep hb1;replace Y:=Y.keep hb1;replace Z:=Has2.keep Z hb1;replace U:=Has2.keep U hb1;replace HB:=later HB hb1;clear x0 x1 x2 x3 x4 x5 x6 x7 x8 x9 x10 x11 x12 x13 y0 y1 y2 y3 y4 y5 y6 y7 y8 y9 y10 y11 y12 y13 z0 z1 u0 u1;clear hb1;obtain⟨x0,x1,x2,x3,x4,x5,x6,x7,x8,x9,x10,x11,x12,x13⟩:=X.cells;obtain⟨y0,y1,y2,y3,y4,y5,y6,y7,y8,y9,y10,y11,y12,y13⟩:=Y.cells;obtain⟨z0,z1, -, -, -⟩:=id Z;obtain⟨u0,u1, -, -, -⟩:=id U;skip))
 have HW:=grewR VA (.cells #[.int .i64 (F 0).1,.int .i64 (F 0).2,.int .i64 (F 1).1,.int .i64 (F 1).2,.int .i64 (F 2).1,.int .i64 (F 2).2,.int .i64 (F 3).1,.int .i64 (F 3).2,.int .i64 (F 4).1,.int .i64 (F 4).2,.int .i64 (F 5).1,.int .i64 (F 5).2,.int .i64 (F 6).1,.int .i64 (F 6).2] 43)
 have D:HasDm (VA.alloc (.cells #[.int .i64 (F 0).1,.int .i64 (F 0).2,.int .i64 (F 1).1,.int .i64 (F 1).2,.int .i64 (F 2).1,.int .i64 (F 2).2,.int .i64 (F 3).1,.int .i64 (F 3).2,.int .i64 (F 4).1,.int .i64 (F 4).2,.int .i64 (F 5).1,.int .i64 (F 5).2,.int .i64 (F 6).1,.int .i64 (F 6).2] 43)) VA.heap.size F:=dim_new VA F 43
 replace X:=X.keep HW;replace Y:=Y.keep HW;replace Z:=Has2.keep Z HW;replace U:=Has2.keep U HW;replace HB:=later HB HW;
 clear x0 x1 x2 x3 x4 x5 x6 x7 x8 x9 x10 x11 x12 x13 y0 y1 y2 y3 y4 y5 y6 y7 y8 y9 y10 y11 y12 y13 z0 z1 u0 u1;clear HW
 generalize (VA.alloc (.cells #[.int .i64 (F 0).1,.int .i64 (F 0).2,.int .i64 (F 1).1,.int .i64 (F 1).2,.int .i64 (F 2).1,.int .i64 (F 2).2,.int .i64 (F 3).1,.int .i64 (F 3).2,.int .i64 (F 4).1,.int .i64 (F 4).2,.int .i64 (F 5).1,.int .i64 (F 5).2,.int .i64 (F 6).1,.int .i64 (F 6).2] 43))=V2 at *
 generalize VA.heap.size=fb at *
 obtain⟨x0,x1,x2,x3,x4,x5,x6,x7,x8,x9,x10,x11,x12,x13⟩:=X.cells;obtain⟨y0,y1,y2,y3,y4,y5,y6,y7,y8,y9,y10,y11,y12,y13⟩:=Y.cells;obtain⟨z0,z1, -, -, -⟩:=id Z;obtain⟨u0,u1, -, -, -⟩:=id U;obtain⟨d0,d1,d2,d3,d4,d5,d6,d7,d8,d9,d10,d11,d12,d13⟩:=D.cells;
 go_upto_region 5 with fail
 have HW:=grewR V2 (.cells #[.int .i64 mN,.int .i64 pD] 23)
 have M:Has2 (V2.alloc (.cells #[.int .i64 mN,.int .i64 pD] 23)) V2.heap.size (.int .i64 mN) (.int .i64 pD):=has2_new V2 _ _ _
 replace X:=X.keep HW;replace Y:=Y.keep HW;replace Z:=Has2.keep Z HW;replace U:=Has2.keep U HW;replace D:=D.keep HW;replace HB:=later HB HW;
 clear x0 x1 x2 x3 x4 x5 x6 x7 x8 x9 x10 x11 x12 x13 y0 y1 y2 y3 y4 y5 y6 y7 y8 y9 y10 y11 y12 y13 z0 z1 u0 u1 d0 d1 d2 d3 d4 d5 d6 d7 d8 d9 d10 d11 d12 d13;clear HW
 generalize (V2.alloc (.cells #[.int .i64 mN,.int .i64 pD] 23))=V3 at *
 generalize V2.heap.size=mb at *
 obtain⟨x0,x1,x2,x3,x4,x5,x6,x7,x8,x9,x10,x11,x12,x13⟩:=X.cells;obtain⟨y0,y1,y2,y3,y4,y5,y6,y7,y8,y9,y10,y11,y12,y13⟩:=Y.cells;obtain⟨z0,z1, -, -, -⟩:=id Z;obtain⟨u0,u1, -, -, -⟩:=id U;obtain⟨d0,d1,d2,d3,d4,d5,d6,d7,d8,d9,d10,d11,d12,d13⟩:=D.cells;obtain⟨m0,m1, -, -, -⟩:=id M;
 go_upto_region 6 with (first | (go_at_call 30;(with_reducible refine (c2 _).mono ?_);rintro _ VB ⟨rfl,hb1⟩;replace X:=X.keep hb1;replace Y:=Y.keep hb1;replace Z:=Has2.keep Z hb1;replace U:=Has2.keep U hb1;replace D:=D.keep hb1;replace M:=Has2.keep M hb1;replace HB:=later HB hb1;clear x0 x1 x2 x3 x4 x5 x6 x7 x8 x9 x10 x11 x12 x13 y0 y1 y2 y3 y4 y5 y6 y7 y8 y9 y10 y11 y12 y13 z0 z1 u0 u1 d0 d1 d2 d3 d4 d5 d6 d7 d8 d9 d10 d11 d12 d13 m0 m1;clear hb1;obtain⟨x0,x1,x2,x3,x4,x5,x6,x7,x8,x9,x10,x11,x12,x13⟩:=X.cells;obtain⟨y0,y1,y2,y3,y4,y5,y6,y7,y8,y9,y10,y11,y12,y13⟩:=Y.cells;obtain⟨z0,z1, -, -, -⟩:=id Z;obtain⟨u0,u1, -, -, -⟩:=id U;obtain⟨d0,d1,d2,d3,d4,d5,d6,d7,d8,d9,d10,d11,d12,d13⟩:=D.cells;obtain⟨m0,m1, -, -, -⟩:=id M;skip))
 have HW:=grewR VB (.cells #[.int .i64 (G 0).1,.int .i64 (G 0).2,.int .i64 (G 1).1,.int .i64 (G 1).2,.int .i64 (G 2).1,.int .i64 (G 2).2,.int .i64 (G 3).1,.int .i64 (G 3).2,.int .i64 (G 4).1,.int .i64 (G 4).2,.int .i64 (G 5).1,.int .i64 (G 5).2,.int .i64 (G 6).1,.int .i64 (G 6).2] 43)
 have K:HasDm (VB.alloc (.cells #[.int .i64 (G 0).1,.int .i64 (G 0).2,.int .i64 (G 1).1,.int .i64 (G 1).2,.int .i64 (G 2).1,.int .i64 (G 2).2,.int .i64 (G 3).1,.int .i64 (G 3).2,.int .i64 (G 4).1,.int .i64 (G 4).2,.int .i64 (G 5).1,.int .i64 (G 5).2,.int .i64 (G 6).1,.int .i64 (G 6).2] 43)) VB.heap.size G:=dim_new VB G 43
 replace X:=X.keep HW;replace Y:=Y.keep HW;replace Z:=Has2.keep Z HW;replace U:=Has2.keep U HW;replace D:=D.keep HW;replace M:=Has2.keep M HW;replace HB:=later HB HW;
 clear x0 x1 x2 x3 x4 x5 x6 x7 x8 x9 x10 x11 x12 x13 y0 y1 y2 y3 y4 y5 y6 y7 y8 y9 y10 y11 y12 y13 z0 z1 u0 u1 d0 d1 d2 d3 d4 d5 d6 d7 d8 d9 d10 d11 d12 d13 m0 m1;clear HW
 generalize (VB.alloc (.cells #[.int .i64 (G 0).1,.int .i64 (G 0).2,.int .i64 (G 1).1,.int .i64 (G 1).2,.int .i64 (G 2).1,.int .i64 (G 2).2,.int .i64 (G 3).1,.int .i64 (G 3).2,.int .i64 (G 4).1,.int .i64 (G 4).2,.int .i64 (G 5).1,.int .i64 (G 5).2,.int .i64 (G 6).1,.int .i64 (G 6).2] 43))=V4 at *
 generalize VB.heap.size=gb at *
 obtain⟨x0,x1,x2,x3,x4,x5,x6,x7,x8,x9,x10,x11,x12,x13⟩:=X.cells;obtain⟨y0,y1,y2,y3,y4,y5,y6,y7,y8,y9,y10,y11,y12,y13⟩:=Y.cells;obtain⟨z0,z1, -, -, -⟩:=id Z;obtain⟨u0,u1, -, -, -⟩:=id U;obtain⟨d0,d1,d2,d3,d4,d5,d6,d7,d8,d9,d10,d11,d12,d13⟩:=D.cells;obtain⟨m0,m1, -, -, -⟩:=id M;obtain⟨k0,k1,k2,k3,k4,k5,k6,k7,k8,k9,k10,k11,k12,k13⟩:=K.cells;
 go_wp2_with fail
 go_ret
 exact⟨rfl,HB⟩
set_option maxHeartbeats 8000000 in
set_option maxRecDepth 4000 in
theorem uback_rest (A B F G P Q:Nat→Int×Int) (pN pD qN qD mN sN sD eg eh ei:Int) (hm:IntKind.i64.wrap (-pN)=mN)
   (c1:∀W,Calls Try.prog 30 #[.agg #[.int .i64 (A 0).1,.int .i64 (A 0).2,.int .i64 (A 1).1,.int .i64 (A 1).2,.int .i64 (A 2).1,.int .i64 (A 2).2,.int .i64 (A 3).1,.int .i64 (A 3).2,.int .i64 (A 4).1,.int .i64 (A 4).2,.int .i64 (A 5).1,.int .i64 (A 5).2,.int .i64 (A 6).1,.int .i64 (A 6).2],.agg #[.int .i64 (B 0).1,.int .i64 (B 0).2,.int .i64 (B 1).1,.int .i64 (B 1).2,.int .i64 (B 2).1,.int .i64 (B 2).2,.int .i64 (B 3).1,.int .i64 (B 3).2,.int .i64 (B 4).1,.int .i64 (B 4).2,.int .i64 (B 5).1,.int .i64 (B 5).2,.int .i64 (B 6).1,.int .i64 (B 6).2],.agg #[.int .i64 pN,.int .i64 pD]] W fun r w'=>r=.returned (.tuple #[.agg #[.int .i64 (F 0).1,.int .i64 (F 0).2,.int .i64 (F 1).1,.int .i64 (F 1).2,.int .i64 (F 2).1,.int .i64 (F 2).2,.int .i64 (F 3).1,.int .i64 (F 3).2,.int .i64 (F 4).1,.int .i64 (F 4).2,.int .i64 (F 5).1,.int .i64 (F 5).2,.int .i64 (F 6).1,.int .i64 (F 6).2],.int .i64 0])∧Below W.heap.size W w')
   (c2:∀W,Calls Try.prog 30 #[.agg #[.int .i64 (F 0).1,.int .i64 (F 0).2,.int .i64 (F 1).1,.int .i64 (F 1).2,.int .i64 (F 2).1,.int .i64 (F 2).2,.int .i64 (F 3).1,.int .i64 (F 3).2,.int .i64 (F 4).1,.int .i64 (F 4).2,.int .i64 (F 5).1,.int .i64 (F 5).2,.int .i64 (F 6).1,.int .i64 (F 6).2],.agg #[.int .i64 (B 0).1,.int .i64 (B 0).2,.int .i64 (B 1).1,.int .i64 (B 1).2,.int .i64 (B 2).1,.int .i64 (B 2).2,.int .i64 (B 3).1,.int .i64 (B 3).2,.int .i64 (B 4).1,.int .i64 (B 4).2,.int .i64 (B 5).1,.int .i64 (B 5).2,.int .i64 (B 6).1,.int .i64 (B 6).2],.agg #[.int .i64 mN,.int .i64 pD]] W fun r w'=>r=.returned (.tuple #[.agg #[.int .i64 (G 0).1,.int .i64 (G 0).2,.int .i64 (G 1).1,.int .i64 (G 1).2,.int .i64 (G 2).1,.int .i64 (G 2).2,.int .i64 (G 3).1,.int .i64 (G 3).2,.int .i64 (G 4).1,.int .i64 (G 4).2,.int .i64 (G 5).1,.int .i64 (G 5).2,.int .i64 (G 6).1,.int .i64 (G 6).2],.int .i64 0])∧Below W.heap.size W w') (hG:eqD G A=true)
   (ca:∀W,Calls Try.prog 15 #[.agg #[.int .i64 pN,.int .i64 pD],.agg #[.int .i64 qN,.int .i64 qD]] W fun r w'=>r=.returned (.tuple #[.agg #[.int .i64 sN,.int .i64 sD],.int .i64 eg])∧Below W.heap.size W w')
   (c3:∀W,Calls Try.prog 30 #[.agg #[.int .i64 (F 0).1,.int .i64 (F 0).2,.int .i64 (F 1).1,.int .i64 (F 1).2,.int .i64 (F 2).1,.int .i64 (F 2).2,.int .i64 (F 3).1,.int .i64 (F 3).2,.int .i64 (F 4).1,.int .i64 (F 4).2,.int .i64 (F 5).1,.int .i64 (F 5).2,.int .i64 (F 6).1,.int .i64 (F 6).2],.agg #[.int .i64 (B 0).1,.int .i64 (B 0).2,.int .i64 (B 1).1,.int .i64 (B 1).2,.int .i64 (B 2).1,.int .i64 (B 2).2,.int .i64 (B 3).1,.int .i64 (B 3).2,.int .i64 (B 4).1,.int .i64 (B 4).2,.int .i64 (B 5).1,.int .i64 (B 5).2,.int .i64 (B 6).1,.int .i64 (B 6).2],.agg #[.int .i64 qN,.int .i64 qD]] W fun r w'=>r=.returned (.tuple #[.agg #[.int .i64 (P 0).1,.int .i64 (P 0).2,.int .i64 (P 1).1,.int .i64 (P 1).2,.int .i64 (P 2).1,.int .i64 (P 2).2,.int .i64 (P 3).1,.int .i64 (P 3).2,.int .i64 (P 4).1,.int .i64 (P 4).2,.int .i64 (P 5).1,.int .i64 (P 5).2,.int .i64 (P 6).1,.int .i64 (P 6).2],.int .i64 eh])∧Below W.heap.size W w')
   (c4:∀W,Calls Try.prog 30 #[.agg #[.int .i64 (A 0).1,.int .i64 (A 0).2,.int .i64 (A 1).1,.int .i64 (A 1).2,.int .i64 (A 2).1,.int .i64 (A 2).2,.int .i64 (A 3).1,.int .i64 (A 3).2,.int .i64 (A 4).1,.int .i64 (A 4).2,.int .i64 (A 5).1,.int .i64 (A 5).2,.int .i64 (A 6).1,.int .i64 (A 6).2],.agg #[.int .i64 (B 0).1,.int .i64 (B 0).2,.int .i64 (B 1).1,.int .i64 (B 1).2,.int .i64 (B 2).1,.int .i64 (B 2).2,.int .i64 (B 3).1,.int .i64 (B 3).2,.int .i64 (B 4).1,.int .i64 (B 4).2,.int .i64 (B 5).1,.int .i64 (B 5).2,.int .i64 (B 6).1,.int .i64 (B 6).2],.agg #[.int .i64 sN,.int .i64 sD]] W fun r w'=>r=.returned (.tuple #[.agg #[.int .i64 (Q 0).1,.int .i64 (Q 0).2,.int .i64 (Q 1).1,.int .i64 (Q 1).2,.int .i64 (Q 2).1,.int .i64 (Q 2).2,.int .i64 (Q 3).1,.int .i64 (Q 3).2,.int .i64 (Q 4).1,.int .i64 (Q 4).2,.int .i64 (Q 5).1,.int .i64 (Q 5).2,.int .i64 (Q 6).1,.int .i64 (Q 6).2],.int .i64 ei])∧Below W.heap.size W w')
   (hfin:Hid (eg=0→eh=0→ei=0→eqD P Q=true)) (w:World) :
   Calls Try.prog 9 #[dimV A,dimV B,.agg #[.int .i64 pN,.int .i64 pD],.agg #[.int .i64 qN,.int .i64 qD]] w fun r w'=>r=.returned (.bool true)∧Below w.heap.size w w':=by
 have q2:=fun W=>run_eq_dim G A true hG W
 clear hG
 unfold dimV
 have X0:HasDm (w.alloc (.cells #[.int .i64 (A 0).1,.int .i64 (A 0).2,.int .i64 (A 1).1,.int .i64 (A 1).2,.int .i64 (A 2).1,.int .i64 (A 2).2,.int .i64 (A 3).1,.int .i64 (A 3).2,.int .i64 (A 4).1,.int .i64 (A 4).2,.int .i64 (A 5).1,.int .i64 (A 5).2,.int .i64 (A 6).1,.int .i64 (A 6).2] 43)) w.heap.size A:=dim_new w A 43
 have X:HasDm ((((w.alloc (.cells #[.int .i64 (A 0).1,.int .i64 (A 0).2,.int .i64 (A 1).1,.int .i64 (A 1).2,.int .i64 (A 2).1,.int .i64 (A 2).2,.int .i64 (A 3).1,.int .i64 (A 3).2,.int .i64 (A 4).1,.int .i64 (A 4).2,.int .i64 (A 5).1,.int .i64 (A 5).2,.int .i64 (A 6).1,.int .i64 (A 6).2] 43)).alloc (.cells #[.int .i64 (B 0).1,.int .i64 (B 0).2,.int .i64 (B 1).1,.int .i64 (B 1).2,.int .i64 (B 2).1,.int .i64 (B 2).2,.int .i64 (B 3).1,.int .i64 (B 3).2,.int .i64 (B 4).1,.int .i64 (B 4).2,.int .i64 (B 5).1,.int .i64 (B 5).2,.int .i64 (B 6).1,.int .i64 (B 6).2] 43)).alloc (.cells #[.int .i64 pN,.int .i64 pD] 23)).alloc (.cells #[.int .i64 qN,.int .i64 qD] 23)) w.heap.size A:=X0.keep (by repeat' (first | (with_reducible exact Below.refl _ _) | (with_reducible refine Below.alloc ?_ ?_ _) | go_size))
 have Y:HasDm ((((w.alloc (.cells #[.int .i64 (A 0).1,.int .i64 (A 0).2,.int .i64 (A 1).1,.int .i64 (A 1).2,.int .i64 (A 2).1,.int .i64 (A 2).2,.int .i64 (A 3).1,.int .i64 (A 3).2,.int .i64 (A 4).1,.int .i64 (A 4).2,.int .i64 (A 5).1,.int .i64 (A 5).2,.int .i64 (A 6).1,.int .i64 (A 6).2] 43)).alloc (.cells #[.int .i64 (B 0).1,.int .i64 (B 0).2,.int .i64 (B 1).1,.int .i64 (B 1).2,.int .i64 (B 2).1,.int .i64 (B 2).2,.int .i64 (B 3).1,.int .i64 (B 3).2,.int .i64 (B 4).1,.int .i64 (B 4).2,.int .i64 (B 5).1,.int .i64 (B 5).2,.int .i64 (B 6).1,.int .i64 (B 6).2] 43)).alloc (.cells #[.int .i64 pN,.int .i64 pD] 23)).alloc (.cells #[.int .i64 qN,.int .i64 qD] 23)) (w.heap.size+1) B:=by
   have this:HasDm ((w.alloc (.cells #[.int .i64 (A 0).1,.int .i64 (A 0).2,.int .i64 (A 1).1,.int .i64 (A 1).2,.int .i64 (A 2).1,.int .i64 (A 2).2,.int .i64 (A 3).1,.int .i64 (A 3).2,.int .i64 (A 4).1,.int .i64 (A 4).2,.int .i64 (A 5).1,.int .i64 (A 5).2,.int .i64 (A 6).1,.int .i64 (A 6).2] 43)).alloc (.cells #[.int .i64 (B 0).1,.int .i64 (B 0).2,.int .i64 (B 1).1,.int .i64 (B 1).2,.int .i64 (B 2).1,.int .i64 (B 2).2,.int .i64 (B 3).1,.int .i64 (B 3).2,.int .i64 (B 4).1,.int .i64 (B 4).2,.int .i64 (B 5).1,.int .i64 (B 5).2,.int .i64 (B 6).1,.int .i64 (B 6).2] 43)) (w.alloc (.cells #[.int .i64 (A 0).1,.int .i64 (A 0).2,.int .i64 (A 1).1,.int .i64 (A 1).2,.int .i64 (A 2).1,.int .i64 (A 2).2,.int .i64 (A 3).1,.int .i64 (A 3).2,.int .i64 (A 4).1,.int .i64 (A 4).2,.int .i64 (A 5).1,.int .i64 (A 5).2,.int .i64 (A 6).1,.int .i64 (A 6).2] 43)).heap.size B:=dim_new (w.alloc (.cells #[.int .i64 (A 0).1,.int .i64 (A 0).2,.int .i64 (A 1).1,.int .i64 (A 1).2,.int .i64 (A 2).1,.int .i64 (A 2).2,.int .i64 (A 3).1,.int .i64 (A 3).2,.int .i64 (A 4).1,.int .i64 (A 4).2,.int .i64 (A 5).1,.int .i64 (A 5).2,.int .i64 (A 6).1,.int .i64 (A 6).2] 43)) B 43
   rw [World.size_alloc] at this
   exact this.keep (by repeat' (first | (with_reducible exact Below.refl _ _) | (with_reducible refine Below.alloc ?_ ?_ _) | go_size))
 have Z:Has2 ((((w.alloc (.cells #[.int .i64 (A 0).1,.int .i64 (A 0).2,.int .i64 (A 1).1,.int .i64 (A 1).2,.int .i64 (A 2).1,.int .i64 (A 2).2,.int .i64 (A 3).1,.int .i64 (A 3).2,.int .i64 (A 4).1,.int .i64 (A 4).2,.int .i64 (A 5).1,.int .i64 (A 5).2,.int .i64 (A 6).1,.int .i64 (A 6).2] 43)).alloc (.cells #[.int .i64 (B 0).1,.int .i64 (B 0).2,.int .i64 (B 1).1,.int .i64 (B 1).2,.int .i64 (B 2).1,.int .i64 (B 2).2,.int .i64 (B 3).1,.int .i64 (B 3).2,.int .i64 (B 4).1,.int .i64 (B 4).2,.int .i64 (B 5).1,.int .i64 (B 5).2,.int .i64 (B 6).1,.int .i64 (B 6).2] 43)).alloc (.cells #[.int .i64 pN,.int .i64 pD] 23)).alloc (.cells #[.int .i64 qN,.int .i64 qD] 23)) (w.heap.size+1+1) (.int .i64 pN) (.int .i64 pD):=⟨by go_simp,by go_simp,by go_simp,by go_simp,by go_size⟩
 have U:Has2 ((((w.alloc (.cells #[.int .i64 (A 0).1,.int .i64 (A 0).2,.int .i64 (A 1).1,.int .i64 (A 1).2,.int .i64 (A 2).1,.int .i64 (A 2).2,.int .i64 (A 3).1,.int .i64 (A 3).2,.int .i64 (A 4).1,.int .i64 (A 4).2,.int .i64 (A 5).1,.int .i64 (A 5).2,.int .i64 (A 6).1,.int .i64 (A 6).2] 43)).alloc (.cells #[.int .i64 (B 0).1,.int .i64 (B 0).2,.int .i64 (B 1).1,.int .i64 (B 1).2,.int .i64 (B 2).1,.int .i64 (B 2).2,.int .i64 (B 3).1,.int .i64 (B 3).2,.int .i64 (B 4).1,.int .i64 (B 4).2,.int .i64 (B 5).1,.int .i64 (B 5).2,.int .i64 (B 6).1,.int .i64 (B 6).2] 43)).alloc (.cells #[.int .i64 pN,.int .i64 pD] 23)).alloc (.cells #[.int .i64 qN,.int .i64 qD] 23)) (w.heap.size+1+1+1) (.int .i64 qN) (.int .i64 qD):=⟨by go_simp,by go_simp,by go_simp,by go_simp,by go_size⟩
 clear X0
 have HB:Below w.heap.size w ((((w.alloc (.cells #[.int .i64 (A 0).1,.int .i64 (A 0).2,.int .i64 (A 1).1,.int .i64 (A 1).2,.int .i64 (A 2).1,.int .i64 (A 2).2,.int .i64 (A 3).1,.int .i64 (A 3).2,.int .i64 (A 4).1,.int .i64 (A 4).2,.int .i64 (A 5).1,.int .i64 (A 5).2,.int .i64 (A 6).1,.int .i64 (A 6).2] 43)).alloc (.cells #[.int .i64 (B 0).1,.int .i64 (B 0).2,.int .i64 (B 1).1,.int .i64 (B 1).2,.int .i64 (B 2).1,.int .i64 (B 2).2,.int .i64 (B 3).1,.int .i64 (B 3).2,.int .i64 (B 4).1,.int .i64 (B 4).2,.int .i64 (B 5).1,.int .i64 (B 5).2,.int .i64 (B 6).1,.int .i64 (B 6).2] 43)).alloc (.cells #[.int .i64 pN,.int .i64 pD] 23)).alloc (.cells #[.int .i64 qN,.int .i64 qD] 23)):=by go_grown
 go_enter Try.func9,Try.ntmps9
 go_upto_region 1 with fail
 generalize ((((w.alloc (.cells #[.int .i64 (A 0).1,.int .i64 (A 0).2,.int .i64 (A 1).1,.int .i64 (A 1).2,.int .i64 (A 2).1,.int .i64 (A 2).2,.int .i64 (A 3).1,.int .i64 (A 3).2,.int .i64 (A 4).1,.int .i64 (A 4).2,.int .i64 (A 5).1,.int .i64 (A 5).2,.int .i64 (A 6).1,.int .i64 (A 6).2] 43)).alloc (.cells #[.int .i64 (B 0).1,.int .i64 (B 0).2,.int .i64 (B 1).1,.int .i64 (B 1).2,.int .i64 (B 2).1,.int .i64 (B 2).2,.int .i64 (B 3).1,.int .i64 (B 3).2,.int .i64 (B 4).1,.int .i64 (B 4).2,.int .i64 (B 5).1,.int .i64 (B 5).2,.int .i64 (B 6).1,.int .i64 (B 6).2] 43)).alloc (.cells #[.int .i64 pN,.int .i64 pD] 23)).alloc (.cells #[.int .i64 qN,.int .i64 qD] 23))=V1 at *
 obtain⟨x0,x1,x2,x3,x4,x5,x6,x7,x8,x9,x10,x11,x12,x13⟩:=X.cells;obtain⟨y0,y1,y2,y3,y4,y5,y6,y7,y8,y9,y10,y11,y12,y13⟩:=Y.cells;obtain⟨z0,z1, -, -, -⟩:=id Z;obtain⟨u0,u1, -, -, -⟩:=id U;
 go_upto_region 2 with (first | (go_at_call 30;(with_reducible refine (c1 _).mono ?_);rintro _ VA ⟨rfl,hb1⟩;replace X:=X.keep hb1;replace Y:=Y.keep hb1;replace Z:=Has2.keep Z hb1;replace U:=Has2.keep U hb1;replace HB:=later HB hb1;clear x0 x1 x2 x3 x4 x5 x6 x7 x8 x9 x10 x11 x12 x13 y0 y1 y2 y3 y4 y5 y6 y7 y8 y9 y10 y11 y12 y13 z0 z1 u0 u1;clear hb1;obtain⟨x0,x1,x2,x3,x4,x5,x6,x7,x8,x9,x10,x11,x12,x13⟩:=X.cells;obtain⟨y0,y1,y2,y3,y4,y5,y6,y7,y8,y9,y10,y11,y12,y13⟩:=Y.cells;obtain⟨z0,z1, -, -, -⟩:=id Z;obtain⟨u0,u1, -, -, -⟩:=id U;skip))
 have HW:=grewR VA (.cells #[.int .i64 (F 0).1,.int .i64 (F 0).2,.int .i64 (F 1).1,.int .i64 (F 1).2,.int .i64 (F 2).1,.int .i64 (F 2).2,.int .i64 (F 3).1,.int .i64 (F 3).2,.int .i64 (F 4).1,.int .i64 (F 4).2,.int .i64 (F 5).1,.int .i64 (F 5).2,.int .i64 (F 6).1,.int .i64 (F 6).2] 43)
 have D:HasDm (VA.alloc (.cells #[.int .i64 (F 0).1,.int .i64 (F 0).2,.int .i64 (F 1).1,.int .i64 (F 1).2,.int .i64 (F 2).1,.int .i64 (F 2).2,.int .i64 (F 3).1,.int .i64 (F 3).2,.int .i64 (F 4).1,.int .i64 (F 4).2,.int .i64 (F 5).1,.int .i64 (F 5).2,.int .i64 (F 6).1,.int .i64 (F 6).2] 43)) VA.heap.size F:=dim_new VA F 43
 replace X:=X.keep HW;replace Y:=Y.keep HW;replace Z:=Has2.keep Z HW;replace U:=Has2.keep U HW;replace HB:=later HB HW;
 clear x0 x1 x2 x3 x4 x5 x6 x7 x8 x9 x10 x11 x12 x13 y0 y1 y2 y3 y4 y5 y6 y7 y8 y9 y10 y11 y12 y13 z0 z1 u0 u1;clear HW
 generalize (VA.alloc (.cells #[.int .i64 (F 0).1,.int .i64 (F 0).2,.int .i64 (F 1).1,.int .i64 (F 1).2,.int .i64 (F 2).1,.int .i64 (F 2).2,.int .i64 (F 3).1,.int .i64 (F 3).2,.int .i64 (F 4).1,.int .i64 (F 4).2,.int .i64 (F 5).1,.int .i64 (F 5).2,.int .i64 (F 6).1,.int .i64 (F 6).2] 43))=V2 at *
 generalize VA.heap.size=fb at *
 obtain⟨x0,x1,x2,x3,x4,x5,x6,x7,x8,x9,x10,x11,x12,x13⟩:=X.cells;obtain⟨y0,y1,y2,y3,y4,y5,y6,y7,y8,y9,y10,y11,y12,y13⟩:=Y.cells;obtain⟨z0,z1, -, -, -⟩:=id Z;obtain⟨u0,u1, -, -, -⟩:=id U;obtain⟨d0,d1,d2,d3,d4,d5,d6,d7,d8,d9,d10,d11,d12,d13⟩:=D.cells;
 go_upto_region 5 with fail
 have HW:=grewR V2 (.cells #[.int .i64 mN,.int .i64 pD] 23)
 have M:Has2 (V2.alloc (.cells #[.int .i64 mN,.int .i64 pD] 23)) V2.heap.size (.int .i64 mN) (.int .i64 pD):=has2_new V2 _ _ _
 replace X:=X.keep HW;replace Y:=Y.keep HW;replace Z:=Has2.keep Z HW;replace U:=Has2.keep U HW;replace D:=D.keep HW;replace HB:=later HB HW;
 clear x0 x1 x2 x3 x4 x5 x6 x7 x8 x9 x10 x11 x12 x13 y0 y1 y2 y3 y4 y5 y6 y7 y8 y9 y10 y11 y12 y13 z0 z1 u0 u1 d0 d1 d2 d3 d4 d5 d6 d7 d8 d9 d10 d11 d12 d13;clear HW
 generalize (V2.alloc (.cells #[.int .i64 mN,.int .i64 pD] 23))=V3 at *
 generalize V2.heap.size=mb at *
 obtain⟨x0,x1,x2,x3,x4,x5,x6,x7,x8,x9,x10,x11,x12,x13⟩:=X.cells;obtain⟨y0,y1,y2,y3,y4,y5,y6,y7,y8,y9,y10,y11,y12,y13⟩:=Y.cells;obtain⟨z0,z1, -, -, -⟩:=id Z;obtain⟨u0,u1, -, -, -⟩:=id U;obtain⟨d0,d1,d2,d3,d4,d5,d6,d7,d8,d9,d10,d11,d12,d13⟩:=D.cells;obtain⟨m0,m1, -, -, -⟩:=id M;
 go_upto_region 6 with (first | (go_at_call 30;(with_reducible refine (c2 _).mono ?_);rintro _ VB ⟨rfl,hb1⟩;replace X:=X.keep hb1;replace Y:=Y.keep hb1;replace Z:=Has2.keep Z hb1;replace U:=Has2.keep U hb1;replace D:=D.keep hb1;replace M:=Has2.keep M hb1;replace HB:=later HB hb1;clear x0 x1 x2 x3 x4 x5 x6 x7 x8 x9 x10 x11 x12 x13 y0 y1 y2 y3 y4 y5 y6 y7 y8 y9 y10 y11 y12 y13 z0 z1 u0 u1 d0 d1 d2 d3 d4 d5 d6 d7 d8 d9 d10 d11 d12 d13 m0 m1;clear hb1;obtain⟨x0,x1,x2,x3,x4,x5,x6,x7,x8,x9,x10,x11,x12,x13⟩:=X.cells;obtain⟨y0,y1,y2,y3,y4,y5,y6,y7,y8,y9,y10,y11,y12,y13⟩:=Y.cells;obtain⟨z0,z1, -, -, -⟩:=id Z;obtain⟨u0,u1, -, -, -⟩:=id U;obtain⟨d0,d1,d2,d3,d4,d5,d6,d7,d8,d9,d10,d11,d12,d13⟩:=D.cells;obtain⟨m0,m1, -, -, -⟩:=id M;skip))
 have HW:=grewR VB (.cells #[.int .i64 (G 0).1,.int .i64 (G 0).2,.int .i64 (G 1).1,.int .i64 (G 1).2,.int .i64 (G 2).1,.int .i64 (G 2).2,.int .i64 (G 3).1,.int .i64 (G 3).2,.int .i64 (G 4).1,.int .i64 (G 4).2,.int .i64 (G 5).1,.int .i64 (G 5).2,.int .i64 (G 6).1,.int .i64 (G 6).2] 43)
 have K:HasDm (VB.alloc (.cells #[.int .i64 (G 0).1,.int .i64 (G 0).2,.int .i64 (G 1).1,.int .i64 (G 1).2,.int .i64 (G 2).1,.int .i64 (G 2).2,.int .i64 (G 3).1,.int .i64 (G 3).2,.int .i64 (G 4).1,.int .i64 (G 4).2,.int .i64 (G 5).1,.int .i64 (G 5).2,.int .i64 (G 6).1,.int .i64 (G 6).2] 43)) VB.heap.size G:=dim_new VB G 43
 replace X:=X.keep HW;replace Y:=Y.keep HW;replace Z:=Has2.keep Z HW;replace U:=Has2.keep U HW;replace D:=D.keep HW;replace M:=Has2.keep M HW;replace HB:=later HB HW;
 clear x0 x1 x2 x3 x4 x5 x6 x7 x8 x9 x10 x11 x12 x13 y0 y1 y2 y3 y4 y5 y6 y7 y8 y9 y10 y11 y12 y13 z0 z1 u0 u1 d0 d1 d2 d3 d4 d5 d6 d7 d8 d9 d10 d11 d12 d13 m0 m1;clear HW
 generalize (VB.alloc (.cells #[.int .i64 (G 0).1,.int .i64 (G 0).2,.int .i64 (G 1).1,.int .i64 (G 1).2,.int .i64 (G 2).1,.int .i64 (G 2).2,.int .i64 (G 3).1,.int .i64 (G 3).2,.int .i64 (G 4).1,.int .i64 (G 4).2,.int .i64 (G 5).1,.int .i64 (G 5).2,.int .i64 (G 6).1,.int .i64 (G 6).2] 43))=V4 at *
 generalize VB.heap.size=gb at *
 obtain⟨x0,x1,x2,x3,x4,x5,x6,x7,x8,x9,x10,x11,x12,x13⟩:=X.cells;obtain⟨y0,y1,y2,y3,y4,y5,y6,y7,y8,y9,y10,y11,y12,y13⟩:=Y.cells;obtain⟨z0,z1, -, -, -⟩:=id Z;obtain⟨u0,u1, -, -, -⟩:=id U;obtain⟨d0,d1,d2,d3,d4,d5,d6,d7,d8,d9,d10,d11,d12,d13⟩:=D.cells;obtain⟨m0,m1, -, -, -⟩:=id M;obtain⟨k0,k1,k2,k3,k4,k5,k6,k7,k8,k9,k10,k11,k12,k13⟩:=K.cells;
 go_upto_region 8 with fail
 clear k0 k1 k2 k3 k4 k5 k6 k7 k8 k9 k10 k11 k12 k13;
 go_upto_region 9 with (first | (go_at_call 15;(with_reducible refine (ca _).mono ?_);rintro _ VC ⟨rfl,hb1⟩;replace X:=X.keep hb1;replace Y:=Y.keep hb1;replace Z:=Has2.keep Z hb1;replace U:=Has2.keep U hb1;replace D:=D.keep hb1;replace M:=Has2.keep M hb1;replace HB:=later HB hb1;clear x0 x1 x2 x3 x4 x5 x6 x7 x8 x9 x10 x11 x12 x13 y0 y1 y2 y3 y4 y5 y6 y7 y8 y9 y10 y11 y12 y13 z0 z1 u0 u1 d0 d1 d2 d3 d4 d5 d6 d7 d8 d9 d10 d11 d12 d13 m0 m1;clear hb1;obtain⟨x0,x1,x2,x3,x4,x5,x6,x7,x8,x9,x10,x11,x12,x13⟩:=X.cells;obtain⟨y0,y1,y2,y3,y4,y5,y6,y7,y8,y9,y10,y11,y12,y13⟩:=Y.cells;obtain⟨z0,z1, -, -, -⟩:=id Z;obtain⟨u0,u1, -, -, -⟩:=id U;obtain⟨d0,d1,d2,d3,d4,d5,d6,d7,d8,d9,d10,d11,d12,d13⟩:=D.cells;obtain⟨m0,m1, -, -, -⟩:=id M;skip))
 have HW:=grewR VC (.cells #[.int .i64 sN,.int .i64 sD] 23)
 have S:Has2 (VC.alloc (.cells #[.int .i64 sN,.int .i64 sD] 23)) VC.heap.size (.int .i64 sN) (.int .i64 sD):=has2_new VC _ _ _
 replace X:=X.keep HW;replace Y:=Y.keep HW;replace Z:=Has2.keep Z HW;replace U:=Has2.keep U HW;replace D:=D.keep HW;replace M:=Has2.keep M HW;replace HB:=later HB HW;
 clear x0 x1 x2 x3 x4 x5 x6 x7 x8 x9 x10 x11 x12 x13 y0 y1 y2 y3 y4 y5 y6 y7 y8 y9 y10 y11 y12 y13 z0 z1 u0 u1 d0 d1 d2 d3 d4 d5 d6 d7 d8 d9 d10 d11 d12 d13 m0 m1;clear HW
 generalize (VC.alloc (.cells #[.int .i64 sN,.int .i64 sD] 23))=V5 at *
 generalize VC.heap.size=sb at *
 obtain⟨x0,x1,x2,x3,x4,x5,x6,x7,x8,x9,x10,x11,x12,x13⟩:=X.cells;obtain⟨y0,y1,y2,y3,y4,y5,y6,y7,y8,y9,y10,y11,y12,y13⟩:=Y.cells;obtain⟨z0,z1, -, -, -⟩:=id Z;obtain⟨u0,u1, -, -, -⟩:=id U;obtain⟨d0,d1,d2,d3,d4,d5,d6,d7,d8,d9,d10,d11,d12,d13⟩:=D.cells;obtain⟨m0,m1, -, -, -⟩:=id M;obtain⟨s0,s1, -, -, -⟩:=id S;
 go_upto_region 10 with (first | (go_at_call 30;(with_reducible refine (c3 _).mono ?_);rintro _ VD ⟨rfl,hb1⟩;replace X:=X.keep hb1;replace Y:=Y.keep hb1;replace Z:=Has2.keep Z hb1;replace U:=Has2.keep U hb1;replace D:=D.keep hb1;replace M:=Has2.keep M hb1;replace S:=Has2.keep S hb1;replace HB:=later HB hb1;clear x0 x1 x2 x3 x4 x5 x6 x7 x8 x9 x10 x11 x12 x13 y0 y1 y2 y3 y4 y5 y6 y7 y8 y9 y10 y11 y12 y13 z0 z1 u0 u1 d0 d1 d2 d3 d4 d5 d6 d7 d8 d9 d10 d11 d12 d13 m0 m1 s0 s1;clear hb1;obtain⟨x0,x1,x2,x3,x4,x5,x6,x7,x8,x9,x10,x11,x12,x13⟩:=X.cells;obtain⟨y0,y1,y2,y3,y4,y5,y6,y7,y8,y9,y10,y11,y12,y13⟩:=Y.cells;obtain⟨z0,z1, -, -, -⟩:=id Z;obtain⟨u0,u1, -, -, -⟩:=id U;obtain⟨d0,d1,d2,d3,d4,d5,d6,d7,d8,d9,d10,d11,d12,d13⟩:=D.cells;obtain⟨m0,m1, -, -, -⟩:=id M;obtain⟨s0,s1, -, -, -⟩:=id S;skip))
 have HW:=grewR VD (.cells #[.int .i64 (P 0).1,.int .i64 (P 0).2,.int .i64 (P 1).1,.int .i64 (P 1).2,.int .i64 (P 2).1,.int .i64 (P 2).2,.int .i64 (P 3).1,.int .i64 (P 3).2,.int .i64 (P 4).1,.int .i64 (P 4).2,.int .i64 (P 5).1,.int .i64 (P 5).2,.int .i64 (P 6).1,.int .i64 (P 6).2] 43)
 have N:HasDm (VD.alloc (.cells #[.int .i64 (P 0).1,.int .i64 (P 0).2,.int .i64 (P 1).1,.int .i64 (P 1).2,.int .i64 (P 2).1,.int .i64 (P 2).2,.int .i64 (P 3).1,.int .i64 (P 3).2,.int .i64 (P 4).1,.int .i64 (P 4).2,.int .i64 (P 5).1,.int .i64 (P 5).2,.int .i64 (P 6).1,.int .i64 (P 6).2] 43)) VD.heap.size P:=dim_new VD P 43
 replace X:=X.keep HW;replace Y:=Y.keep HW;replace Z:=Has2.keep Z HW;replace U:=Has2.keep U HW;replace D:=D.keep HW;replace M:=Has2.keep M HW;replace S:=Has2.keep S HW;replace HB:=later HB HW;
 clear x0 x1 x2 x3 x4 x5 x6 x7 x8 x9 x10 x11 x12 x13 y0 y1 y2 y3 y4 y5 y6 y7 y8 y9 y10 y11 y12 y13 z0 z1 u0 u1 d0 d1 d2 d3 d4 d5 d6 d7 d8 d9 d10 d11 d12 d13 m0 m1 s0 s1;clear HW
 generalize (VD.alloc (.cells #[.int .i64 (P 0).1,.int .i64 (P 0).2,.int .i64 (P 1).1,.int .i64 (P 1).2,.int .i64 (P 2).1,.int .i64 (P 2).2,.int .i64 (P 3).1,.int .i64 (P 3).2,.int .i64 (P 4).1,.int .i64 (P 4).2,.int .i64 (P 5).1,.int .i64 (P 5).2,.int .i64 (P 6).1,.int .i64 (P 6).2] 43))=V6 at *
 generalize VD.heap.size=pb at *
 obtain⟨x0,x1,x2,x3,x4,x5,x6,x7,x8,x9,x10,x11,x12,x13⟩:=X.cells;obtain⟨y0,y1,y2,y3,y4,y5,y6,y7,y8,y9,y10,y11,y12,y13⟩:=Y.cells;obtain⟨z0,z1, -, -, -⟩:=id Z;obtain⟨u0,u1, -, -, -⟩:=id U;obtain⟨d0,d1,d2,d3,d4,d5,d6,d7,d8,d9,d10,d11,d12,d13⟩:=D.cells;obtain⟨m0,m1, -, -, -⟩:=id M;obtain⟨s0,s1, -, -, -⟩:=id S;obtain⟨n0,n1,n2,n3,n4,n5,n6,n7,n8,n9,n10,n11,n12,n13⟩:=N.cells;
 go_upto_region 11 with (first | (go_at_call 30;(with_reducible refine (c4 _).mono ?_);rintro _ VE ⟨rfl,hb1⟩;replace X:=X.keep hb1;replace Y:=Y.keep hb1;replace Z:=Has2.keep Z hb1;replace U:=Has2.keep U hb1;replace D:=D.keep hb1;replace M:=Has2.keep M hb1;replace S:=Has2.keep S hb1;replace N:=N.keep hb1;replace HB:=later HB hb1;clear x0 x1 x2 x3 x4 x5 x6 x7 x8 x9 x10 x11 x12 x13 y0 y1 y2 y3 y4 y5 y6 y7 y8 y9 y10 y11 y12 y13 z0 z1 u0 u1 d0 d1 d2 d3 d4 d5 d6 d7 d8 d9 d10 d11 d12 d13 m0 m1 s0 s1 n0 n1 n2 n3 n4 n5 n6 n7 n8 n9 n10 n11 n12 n13;clear hb1;obtain⟨x0,x1,x2,x3,x4,x5,x6,x7,x8,x9,x10,x11,x12,x13⟩:=X.cells;obtain⟨y0,y1,y2,y3,y4,y5,y6,y7,y8,y9,y10,y11,y12,y13⟩:=Y.cells;obtain⟨z0,z1, -, -, -⟩:=id Z;obtain⟨u0,u1, -, -, -⟩:=id U;obtain⟨d0,d1,d2,d3,d4,d5,d6,d7,d8,d9,d10,d11,d12,d13⟩:=D.cells;obtain⟨m0,m1, -, -, -⟩:=id M;obtain⟨s0,s1, -, -, -⟩:=id S;obtain⟨n0,n1,n2,n3,n4,n5,n6,n7,n8,n9,n10,n11,n12,n13⟩:=N.cells;skip))
 have HW:=grewR VE (.cells #[.int .i64 (Q 0).1,.int .i64 (Q 0).2,.int .i64 (Q 1).1,.int .i64 (Q 1).2,.int .i64 (Q 2).1,.int .i64 (Q 2).2,.int .i64 (Q 3).1,.int .i64 (Q 3).2,.int .i64 (Q 4).1,.int .i64 (Q 4).2,.int .i64 (Q 5).1,.int .i64 (Q 5).2,.int .i64 (Q 6).1,.int .i64 (Q 6).2] 43)
 have O:HasDm (VE.alloc (.cells #[.int .i64 (Q 0).1,.int .i64 (Q 0).2,.int .i64 (Q 1).1,.int .i64 (Q 1).2,.int .i64 (Q 2).1,.int .i64 (Q 2).2,.int .i64 (Q 3).1,.int .i64 (Q 3).2,.int .i64 (Q 4).1,.int .i64 (Q 4).2,.int .i64 (Q 5).1,.int .i64 (Q 5).2,.int .i64 (Q 6).1,.int .i64 (Q 6).2] 43)) VE.heap.size Q:=dim_new VE Q 43
 replace X:=X.keep HW;replace Y:=Y.keep HW;replace Z:=Has2.keep Z HW;replace U:=Has2.keep U HW;replace D:=D.keep HW;replace M:=Has2.keep M HW;replace S:=Has2.keep S HW;replace N:=N.keep HW;replace HB:=later HB HW;
 clear x0 x1 x2 x3 x4 x5 x6 x7 x8 x9 x10 x11 x12 x13 y0 y1 y2 y3 y4 y5 y6 y7 y8 y9 y10 y11 y12 y13 z0 z1 u0 u1 d0 d1 d2 d3 d4 d5 d6 d7 d8 d9 d10 d11 d12 d13 m0 m1 s0 s1 n0 n1 n2 n3 n4 n5 n6 n7 n8 n9 n10 n11 n12 n13;clear HW
 generalize (VE.alloc (.cells #[.int .i64 (Q 0).1,.int .i64 (Q 0).2,.int .i64 (Q 1).1,.int .i64 (Q 1).2,.int .i64 (Q 2).1,.int .i64 (Q 2).2,.int .i64 (Q 3).1,.int .i64 (Q 3).2,.int .i64 (Q 4).1,.int .i64 (Q 4).2,.int .i64 (Q 5).1,.int .i64 (Q 5).2,.int .i64 (Q 6).1,.int .i64 (Q 6).2] 43))=V7 at *
 generalize VE.heap.size=qb at *
 obtain⟨x0,x1,x2,x3,x4,x5,x6,x7,x8,x9,x10,x11,x12,x13⟩:=X.cells;obtain⟨y0,y1,y2,y3,y4,y5,y6,y7,y8,y9,y10,y11,y12,y13⟩:=Y.cells;obtain⟨z0,z1, -, -, -⟩:=id Z;obtain⟨u0,u1, -, -, -⟩:=id U;obtain⟨d0,d1,d2,d3,d4,d5,d6,d7,d8,d9,d10,d11,d12,d13⟩:=D.cells;obtain⟨m0,m1, -, -, -⟩:=id M;obtain⟨s0,s1, -, -, -⟩:=id S;obtain⟨n0,n1,n2,n3,n4,n5,n6,n7,n8,n9,n10,n11,n12,n13⟩:=N.cells;obtain⟨o0,o1,o2,o3,o4,o5,o6,o7,o8,o9,o10,o11,o12,o13⟩:=O.cells;
 by_cases g0:eg=0
 · by_cases h0:eh=0
   · by_cases i0:ei=0
     · have q3:=fun W=>run_eq_dim P Q true (hfin.out g0 h0 i0) W
       clear hfin
       subst g0 h0 i0
       go_wp2_with fail
       go_ret
       exact⟨rfl,HB⟩
     · have b3:(ei != 0)=true:=by simpa using i0
       clear hfin i0
       subst g0 h0
       go_wp2_with fail
       go_ret
       exact⟨rfl,HB⟩
   · have b2:(eh != 0)=true:=by simpa using h0
     clear hfin h0
     subst g0
     go_wp2_with fail
     go_ret
     exact⟨rfl,HB⟩
 · have b1:(eg != 0)=true:=by simpa using g0
   clear hfin g0
   go_wp2_with fail
   go_ret
   exact⟨rfl,HB⟩
theorem tmV_cases (A B:Nat→Int×Int) (pN pD:Int):((drK A 7=true∧drK B 7=true∧rightR pN pD=true)∧tmF A B pN pD 7=0∧tmV A B pN pD=.tuple #[dimV (tmD A B pN pD 7),.int .i64 0])∨(∃e:Int,(e != 0)=true∧((drK A 7=true∧drK B 7=true∧rightR pN pD=true)→e=tmF A B pN pD 7)∧tmV A B pN pD=.tuple #[dimV zeE,.int .i64 e]):=by
 unfold tmV triedV
 by_cases h:(drK A 7&&drK B 7&&rightR pN pD)=true
 · rw [if_pos h]
   obtain⟨h12,h3⟩:=Bool.and_eq_true_iff.1 h
   obtain⟨h1,h2⟩:=Bool.and_eq_true_iff.1 h12
   by_cases z:tmF A B pN pD 7=0
   · exact Or.inl ⟨⟨h1,h2,h3⟩,z,by rw [if_pos z]⟩
   · exact Or.inr ⟨tmF A B pN pD 7,by simpa using z,fun _=>rfl,by rw [if_neg z]⟩
 · rw [if_neg h]
   refine Or.inr ⟨1,by decide,fun ⟨h1,h2,h3⟩=>absurd (by rw [h1,h2,h3];rfl) h,rfl⟩
theorem addV11_64 (aN aD bN bD:Int):I64 (addV11 aN aD bN bD).1∧I64 (addV11 aN aD bN bD).2.1:=by
 by_cases h:(rightR aN aD&&rightR bN bD)=true
 · obtain⟨h1,h2⟩:=Bool.and_eq_true_iff.1 h
   rcases addV11_err h1 h2 with e | e
   · exact (addV11_ok h1 h2 (tri_ext e)).2.2
   · have z:(addV11 aN aD bN bD).1=0∧(addV11 aN aD bN bD).2.1=0:=by
       unfold addV11 at e ⊢
       rw [if_pos h] at e ⊢
       unfold ofV at e ⊢
       split at e
       · cases e
       · rename_i c1
         rw [if_neg c1]
         split at e
         · cases e
         · rename_i c2
           rw [if_neg c2]
           exact⟨rfl,rfl⟩
     rw [z.1,z.2]
     exact⟨⟨by decide,by decide⟩,⟨by decide,by decide⟩⟩
 · unfold addV11
   rw [if_neg h]
   exact⟨⟨by decide,by decide⟩,⟨by decide,by decide⟩⟩
theorem unitBack_w (A B:Nat→Int×Int) (pN pD qN qD:Int) (wA:DimWf A) (wB:DimWf B) (w2:(Lit.int .i64 pN).wf=true) (w3:(Lit.int .i64 pD).wf=true) (w4:(Lit.int .i64 qN).wf=true) (w5:(Lit.int .i64 qD).wf=true) (w:World) :
   Calls Try.prog 9 #[dimV A,dimV B,.agg #[.int .i64 pN,.int .i64 pD],.agg #[.int .i64 qN,.int .i64 qD]] w fun r w'=>r=.returned (.bool true)∧Below w.heap.size w w':=by
 have hA:=wA.out
 have hB:=wB.out
 have hp:I64 pN∧I64 pD:=⟨i64_wfI w2,i64_wfI w3⟩
 have hq:I64 qN∧I64 qD:=⟨i64_wfI w4,i64_wfI w5⟩
 have c1:=fun W=>uTimes_w A B pN pD hA hB hp W
 rcases tmV_cases A B pN pD with ⟨⟨rA,rB,rp⟩,z1,e1⟩ | ⟨e,he, -,e1⟩
 · rw [e1] at c1
   have ok:=tmD_ok rA rB rp z1
   have hF:Dim64 (tmD A B pN pD 7):=fun i hi=>(ok i hi).2.1
   have rF:drK (tmD A B pN pD 7) 7=true:=drK_all 7 fun i hi=>(ok i hi).1
   have hmn:I64 (-pN):=by have a:=rightR_N rp;have b:=hp.1.1;have c:=hp.1.2;exact⟨by omega,by omega⟩
   have hm:IntKind.i64.wrap (-pN)=-pN:=by rw [IntKind.wrap_i64];have:=hmn.1;have:=hmn.2;omega
   have rm:=rightR_neg rp hp.1
   have c2:=fun W=>uTimes_w (tmD A B pN pD 7) B (-pN) pD hF hB ⟨hmn,hp.2⟩ W
   rcases tmV_cases (tmD A B pN pD 7) B (-pN) pD with ⟨-,z2,e2⟩ | ⟨e,he,hee,e2⟩
   · rw [e2] at c2
     have ca:=fun W=>add11_w pN pD qN qD hp hq W
     have hs:=addV11_64 pN pD qN qD
     have c3:=fun W=>uTimes_w (tmD A B pN pD 7) B qN qD hF hB hq W
     have c4:=fun W=>uTimes_w A B (addV11 pN pD qN qD).1 (addV11 pN pD qN qD).2.1 hA hB hs W
     have hG:eqD (tmD (tmD A B pN pD 7) B (-pN) pD 7) A=true:=eqD_iff.2 (tm_back hA hp.1 rA rB rp z1 z2)
     rcases tmV_cases (tmD A B pN pD 7) B qN qD with ⟨⟨-, -,rq⟩,z3,e3⟩ | ⟨e,he, -,e3⟩
     · rw [e3] at c3
       rcases tmV_cases A B (addV11 pN pD qN qD).1 (addV11 pN pD qN qD).2.1 with ⟨-,z4,e4⟩ | ⟨e,he, -,e4⟩
       · rw [e4] at c4
         exact uback_rest A B _ _ _ _ pN pD qN qD _ _ _ _ _ _ hm c1 c2 hG ca c3 c4 (fun g0 _ _=>eqD_iff.2 (tm_parts rA rB rp rq z1 z3 (tri_ext g0) z4)) w
       · rw [e4] at c4
         exact uback_rest A B _ _ _ _ pN pD qN qD _ _ _ _ _ _ hm c1 c2 hG ca c3 c4 (fun _ _ i0=>by rw [i0] at he;cases he) w
     · rw [e3] at c3
       obtain⟨Q,ei,e4⟩:∃Q ei,tmV A B (addV11 pN pD qN qD).1 (addV11 pN pD qN qD).2.1=.tuple #[dimV Q,.int .i64 ei]:=by
         rcases tmV_cases A B (addV11 pN pD qN qD).1 (addV11 pN pD qN qD).2.1 with ⟨-, -,e4⟩ | ⟨_, -, -,e4⟩
         · exact⟨_,_,e4⟩
         · exact⟨_,_,e4⟩
       rw [e4] at c4
       exact uback_rest A B _ _ _ _ pN pD qN qD _ _ _ _ _ _ hm c1 c2 hG ca c3 c4 (fun _ h0 _=>by rw [h0] at he;cases he) w
   · rw [e2] at c2
     have e3:e=3:=by
       have q:=hee ⟨rF,rB,rm⟩
       rcases tmF_err rF rB rm 7 (by omega) with h | h
       · rw [h] at q;rw [q] at he;cases he
       · rw [h] at q;exact q
     subst e3
     exact uback_over A B _ _ pN pD qN qD _ hm c1 c2 w
 · rw [e1] at c1
   exact uback_no A B _ pN pD qN qD e he (eqD_self zeE) c1 w
end Go.Proofs.Ytdnpoacjamkhkaa
