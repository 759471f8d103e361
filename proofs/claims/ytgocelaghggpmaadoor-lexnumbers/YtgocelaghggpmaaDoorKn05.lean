/- LexNumbers: the law's walk. -/
import Derived.Test.YtgocelaghggpmaaDoorChecked
import Derived.Lib.Strings
import Derived.Lib.Slices
import Derived.Lib.Small
import Derived.Lib.Walk
import Derived.Lib.BitFns
import Derived.KernelRfl
import Derived.WalkKit
import Derived.Laws.Cover2
import Derived.Laws.FloatArith
import Derived.Laws.BitsAllLaws
import Derived.Test.YtgocelaghggpmaaDoorRows
import Derived.ProofKit
import Derived.OpenShut
import Derived.WalkSpells
import Derived.WalkLawsBesides
import Derived.Laws.Externs
import Derived.Laws.Bits64b
import Derived.Handy
import Derived.Deep.RegionWith
import Derived.Deep.QuietTactic
import Derived.BigQuiet
import Derived.Deep.RegionHeld3
import Derived.Deep.CutRange
import Derived.Deep.LoopGhost
import Derived.Deep.CutBlock
import Derived.WalkSmall
import Derived.Deep.Quiet
import Derived.StillTail
import Derived.Lib.ConvBytes
import Derived.Lib.AtoiErrMem
import Derived.Test.YtgocelaghggpmaaDoorShelf
import Derived.Maps.Own
import Derived.Maps.OwnOps
import Derived.Maps.OwnSet
import Derived.Maps.AppendAt
import Derived.StringKeys
import Derived.Lib.AppendIntMem
import Derived.Laws.AppendOwn
import Derived.Lib.ParseIntBCases
import Derived.Deep.Cut
import Derived.LaidMore
import Derived.Stop.LaidErr
import Derived.Lib.SmallJoins
import Derived.Test.YtgocelaghggpmaaDoorKa01
import Derived.Test.YtgocelaghggpmaaDoorKa02
import Derived.Test.YtgocelaghggpmaaDoorKa03
import Derived.Test.YtgocelaghggpmaaDoorKa04
import Derived.Test.YtgocelaghggpmaaDoorKa05
import Derived.Test.YtgocelaghggpmaaDoorKa06
import Derived.Test.YtgocelaghggpmaaDoorKa07
import Derived.Test.YtgocelaghggpmaaDoorKa08
import Derived.Test.YtgocelaghggpmaaDoorKa09
import Derived.Test.YtgocelaghggpmaaDoorKa10
import Derived.Test.YtgocelaghggpmaaDoorKa11
import Derived.Test.YtgocelaghggpmaaDoorKa12
import Derived.Test.YtgocelaghggpmaaDoorKa13
import Derived.Test.YtgocelaghggpmaaDoorKa14
import Derived.Test.YtgocelaghggpmaaDoorKa15
import Derived.Test.YtgocelaghggpmaaDoorKa16
import Derived.Test.YtgocelaghggpmaaDoorKa17
import Derived.Test.YtgocelaghggpmaaDoorKa18
import Derived.Test.YtgocelaghggpmaaDoorKa19
import Derived.Test.YtgocelaghggpmaaDoorKa20
import Derived.Test.YtgocelaghggpmaaDoorKa21
import Derived.Test.YtgocelaghggpmaaDoorKa22
import Derived.Test.YtgocelaghggpmaaDoorKa23
import Derived.Test.YtgocelaghggpmaaDoorKa24
import Derived.Test.YtgocelaghggpmaaDoorKa25
import Derived.Test.YtgocelaghggpmaaDoorKa26
import Derived.Test.YtgocelaghggpmaaDoorKa27
import Derived.Test.YtgocelaghggpmaaDoorKa28
import Derived.Test.YtgocelaghggpmaaDoorKa29
import Derived.Test.YtgocelaghggpmaaDoorKa30
import Derived.Test.YtgocelaghggpmaaDoorKa31
import Derived.Test.YtgocelaghggpmaaDoorKa32
import Derived.Test.YtgocelaghggpmaaDoorKa33
import Derived.Test.YtgocelaghggpmaaDoorKa34
import Derived.Test.YtgocelaghggpmaaDoorKa35
import Derived.Test.YtgocelaghggpmaaDoorKn04
namespace Go.Proofs.YtgocelaghggpmaaDoor
open Go.ChangeShapes Go.WideShapes Go.ChangeAt Go.RowKit Go.Maps
def Two (w:World) (b:Nat) (x y:Tk):Prop:=b<w.heap.size∧w.cell? ⟨b,0,none⟩=some (.int .i64 x.k)∧w.cell? ⟨b,1,none⟩=some (.string x.s)∧w.cell? ⟨b,2,none⟩=some (.int .i64 x.n)∧w.cell? ⟨b,3,none⟩=some (.int .i64 x.d)∧w.cell? ⟨b,4,none⟩=some (.int .i64 x.a)∧w.cell? ⟨b,5,none⟩=some (.int .i64 y.k)∧w.cell? ⟨b,6,none⟩=some (.string y.s)∧w.cell? ⟨b,7,none⟩=some (.int .i64 y.n)∧w.cell? ⟨b,8,none⟩=some (.int .i64 y.d)∧w.cell? ⟨b,9,none⟩=some (.int .i64 y.a)
theorem ownK_two {B:Nat} {w:World} {v:Value} {x y:Tk} (h:OwnK B w v [x,y]):∃b C,v=.slice (some ⟨b,0,none⟩) 2 C∧Two w b x y:=by
 have h':w.ownsRow B 39 5 v 2 (tkCells [x,y]):=h
 rcases h'.2 with ⟨rfl,hn⟩ | ⟨g,cap,cur,rfl, -⟩
 · exact absurd hn (by decide)
 · have hl:=(World.ownsRow.lt h g rfl).2
   refine⟨g,cap,rfl,hl, ?_, ?_, ?_, ?_, ?_, ?_, ?_, ?_, ?_, ?_⟩
   · rw [World.ownsRow.cellAt h' 0 (by omega)];rfl
   · rw [World.ownsRow.cellAt h' 1 (by omega)];rfl
   · rw [World.ownsRow.cellAt h' 2 (by omega)];rfl
   · rw [World.ownsRow.cellAt h' 3 (by omega)];rfl
   · rw [World.ownsRow.cellAt h' 4 (by omega)];rfl
   · rw [World.ownsRow.cellAt h' 5 (by omega)];rfl
   · rw [World.ownsRow.cellAt h' 6 (by omega)];rfl
   · rw [World.ownsRow.cellAt h' 7 (by omega)];rfl
   · rw [World.ownsRow.cellAt h' 8 (by omega)];rfl
   · rw [World.ownsRow.cellAt h' 9 (by omega)];rfl
set_option maxHeartbeats 4000000 in
set_option maxRecDepth 20000 in
theorem lexNumbers_good (s:ByteArray) (N D:Int) (k1:¬200<(s.size:Int)) (w:World)
   (cr:Calls Tryd.prog 8 #[.string s] w fun r w'=>r=.returned (.tuple #[.agg #[.int .i64 N,.int .i64 D],.int .i64 0])∧Below w.heap.size w w')
   (cl:∀W,Below w.heap.size w W→Calls Tryd.prog 15 #[.string s] W fun r w'=>∃v,r=.returned (.tuple #[v,.int .i64 0,.int .i64 0])∧OwnK W.heap.size w' v [⟨3,⟨#[]⟩,N,D,0⟩,⟨0,⟨#[]⟩,0,0,s.size⟩]∧Below W.heap.size W w') :
   Calls Tryd.prog 5 #[.string s] w fun e w'=>e=.returned (.bool true)∧Below w.heap.size w w':=by
 go_enter Tryd.func5,Tryd.ntmps5
 go_upto_region 4 with (go_at_call 8;(with_reducible refine cr.mono ?_);rintro _ W1 ⟨rfl,HB⟩)
 have h2:=grewW W1 (.cells #[.int .i64 N,.int .i64 D] 23)
 have X:Has2 (W1.alloc (.cells #[.int .i64 N,.int .i64 D] 23)) W1.heap.size (.int .i64 N) (.int .i64 D):=⟨by go_simp,by go_simp,by go_simp,by go_simp,by go_size⟩
 replace HB:=later HB h2
 have cl1:=cl _ HB
 clear h2 cl cr
 generalize W1.alloc (.cells #[.int .i64 N,.int .i64 D] 23)=V at *
 generalize W1.heap.size=bq at *
 go_upto_region 7 with (go_at_call 15;(with_reducible refine cl1.mono ?_);rintro _ W2 ⟨v,rfl,own,hb1⟩;obtain⟨b,C,rfl,tk⟩:=ownK_two own)
 replace X:=X.keep hb1
 replace HB:=later HB hb1
 clear hb1 cl1 own
 obtain⟨hb,a0,a1,a2,a3,a4,b0,b1,b2,b3,b4⟩:=id tk
 obtain⟨x0,x1,x2,x3,x4⟩:=id X
 dsimp only at a0 a1 a2 a3 a4 b0 b1 b2 b3 b4
 go_quiet (fail)
 go_wp2_with fail
 go_ret
 exact⟨rfl,later HB (below_drewN _ _)⟩
set_option maxHeartbeats 4000000 in
set_option maxRecDepth 20000 in
theorem lexNumbers_bad (s:ByteArray) (N D e E:Int) (P:Nat) (T:List Tk) (bl:Bool) (k1:¬200<(s.size:Int)) (he:e≠0)
   (hT:∀x y,T=[x,y]→E=0→x.k=3→bl=true)
   (cb:∀W,Calls Tryd.prog 16 #[.string s] W fun e w'=>e=.returned (.bool bl)∧W=w') (w:World)
   (cr:Calls Tryd.prog 8 #[.string s] w fun r w'=>r=.returned (.tuple #[.agg #[.int .i64 N,.int .i64 D],.int .i64 e])∧Below w.heap.size w w')
   (cl:∀W,Below w.heap.size w W→Calls Tryd.prog 15 #[.string s] W fun r w'=>∃v,r=.returned (.tuple #[v,.int .i64 E,.int .i64 (P:Int)])∧OwnK W.heap.size w' v T∧Below W.heap.size W w') :
   Calls Tryd.prog 5 #[.string s] w fun e w'=>e=.returned (.bool true)∧Below w.heap.size w w':=by
 have he':(e != 0)=true:=by rw [bne_iff_ne];exact he
 go_enter Tryd.func5,Tryd.ntmps5
 go_upto_region 4 with (go_at_call 8;(with_reducible refine cr.mono ?_);rintro _ W1 ⟨rfl,HB⟩)
 have h2:=grewW W1 (.cells #[.int .i64 N,.int .i64 D] 23)
 replace HB:=later HB h2
 have cl1:=cl _ HB
 clear h2 cl cr
 generalize W1.alloc (.cells #[.int .i64 N,.int .i64 D] 23)=V at *
 generalize W1.heap.size=bq at *
 go_upto_region 6 with (go_at_call 15;(with_reducible refine cl1.mono ?_);rintro _ W2 ⟨v,rfl,own,hb1⟩)
 replace HB:=later HB hb1
 clear hb1 cl1
 obtain⟨A,C,hv⟩:=own.form
 by_cases e1:E=0
 · by_cases e2:T.length=2
   · obtain⟨x,y,rfl⟩:∃x y,T=[x,y]:=by
       match T,e2 with
       | [x,y],_=>exact⟨x,y,rfl⟩
     obtain⟨b,C',rfl,tk⟩:=ownK_two own
     obtain⟨hb,a0,a1,a2,a3,a4,b0,b1,b2,b3,b4⟩:=id tk
     have hT1:=hT x y rfl e1
     subst e1
     clear own hv tk hT e2
     obtain⟨xk,xs,xn,xd,xa⟩:=x
     obtain⟨yk,ys,yn,yd,ya⟩:=y
     dsimp only at *
     by_cases e3:xk=3
     · obtain rfl:=hT1 e3
       subst e3
       by_cases e4:ya=(s.size:Int)
       · by_cases e5:xa=0
         · subst e4 e5
           go_wp2_with (go_at_call 16;(with_reducible refine (cb _).mono ?_);rintro _ W3 ⟨rfl,rfl⟩)
           go_ret
           exact⟨rfl,HB⟩
         · have e5':(xa==0)=false:=beq_eq_false_iff_ne.2 e5
           subst e4
           go_wp2_with fail
           go_ret
           exact⟨rfl,HB⟩
       · have e4':(ya==(s.size:Int))=false:=beq_eq_false_iff_ne.2 e4
         go_wp2_with fail
         go_ret
         exact⟨rfl,HB⟩
     · have e3':(xk==3)=false:=beq_eq_false_iff_ne.2 e3
       clear hT1
       go_wp2_with fail
       go_ret
       exact⟨rfl,HB⟩
   · have e2':((T.length:Int)==2)=false:=by rw [beq_eq_false_iff_ne];omega
     subst e1 hv
     clear own hT
     go_wp2_with fail
     go_ret
     exact⟨rfl,HB⟩
 · have e1':(E==0)=false:=beq_eq_false_iff_ne.2 e1
   subst hv
   clear own hT
   go_wp2_with fail
   go_ret
   exact⟨rfl,HB⟩
set_option maxHeartbeats 1000000 in
theorem lexNumbers_w (s:ByteArray) (hs:(s.size:Int)≤9223372036854775807) (w:World) (T1:SpT w) (T2:ErrR w) :
   Calls Tryd.prog 5 #[.string s] w fun e w'=>e=.returned (.bool true)∧Below w.heap.size w w':=by
 by_cases k1:200<(s.size:Int)
 · go_enter Tryd.func5,Tryd.ntmps5
   go_wp2_with fail
   go_ret
   exact⟨rfl,Below.refl _ _⟩
 · have cr:=readT_w s hs w T2
   have cl:=fun W (hb:Below w.heap.size w W)=>lex_w s hs W (T1.on hb) (T2.on hb)
   by_cases he:(readV s).2.2=0
   · rw [lex_num he (by omega)] at cl
     rw [he] at cr
     exact lexNumbers_good s _ _ k1 w cr cl
   · refine lexNumbers_bad s _ _ _ _ _ _ (s.data.toList.any bksB) k1 he ?_ (fun W=>blank_w s hs W) w cr cl
     intro x y hT hE hk
     cases hb:s.data.toList.any bksB
     · exact absurd (lex_one (s:=s) (by omega) ⟨0,⟨#[]⟩,0,0,0⟩ hE (by rw [hT];rfl) (by rw [hT];exact hk) hb) he
     · rfl
end Go.Proofs.YtgocelaghggpmaaDoor
