/- LexPlaces, whole. -/
import Derived.Test.YtgocelaghggpmaaDoorChecked
import Derived.Lib.Strings
import Derived.Lib.Slices
import Derived.Lib.Small
import Derived.Lib.Walk
import Derived.Lib.BitFns
import Derived.KernelRfl
import Derived.WalkKit
import Derived.Laws.Cover2
import Derived.Laws.FloatArith
import Derived.Laws.BitsAllLaws
import Derived.Test.YtgocelaghggpmaaDoorRows
import Derived.ProofKit
import Derived.OpenShut
import Derived.WalkSpells
import Derived.WalkLawsBesides
import Derived.Laws.Externs
import Derived.Laws.Bits64b
import Derived.Handy
import Derived.Deep.RegionWith
import Derived.Deep.QuietTactic
import Derived.BigQuiet
import Derived.Deep.RegionHeld3
import Derived.Deep.CutRange
import Derived.Deep.LoopGhost
import Derived.Deep.CutBlock
import Derived.WalkSmall
import Derived.Deep.Quiet
import Derived.StillTail
import Derived.Lib.ConvBytes
import Derived.Lib.AtoiErrMem
import Derived.Test.YtgocelaghggpmaaDoorShelf
import Derived.Maps.Own
import Derived.Maps.OwnOps
import Derived.Maps.OwnSet
import Derived.Maps.AppendAt
import Derived.StringKeys
import Derived.Lib.AppendIntMem
import Derived.Laws.AppendOwn
import Derived.Lib.ParseIntBCases
import Derived.Deep.Cut
import Derived.LaidMore
import Derived.Stop.LaidErr
import Derived.Lib.SmallJoins
import Derived.Test.YtgocelaghggpmaaDoorKa01
import Derived.Test.YtgocelaghggpmaaDoorKa02
import Derived.Test.YtgocelaghggpmaaDoorKa03
import Derived.Test.YtgocelaghggpmaaDoorKa04
import Derived.Test.YtgocelaghggpmaaDoorKa05
import Derived.Test.YtgocelaghggpmaaDoorKa06
import Derived.Test.YtgocelaghggpmaaDoorKa07
import Derived.Test.YtgocelaghggpmaaDoorKa08
import Derived.Test.YtgocelaghggpmaaDoorKa09
import Derived.Test.YtgocelaghggpmaaDoorKa10
import Derived.Test.YtgocelaghggpmaaDoorKa11
import Derived.Test.YtgocelaghggpmaaDoorKa12
import Derived.Test.YtgocelaghggpmaaDoorKa13
import Derived.Test.YtgocelaghggpmaaDoorKa14
import Derived.Test.YtgocelaghggpmaaDoorKa15
import Derived.Test.YtgocelaghggpmaaDoorKa16
import Derived.Test.YtgocelaghggpmaaDoorKa17
import Derived.Test.YtgocelaghggpmaaDoorKa18
import Derived.Test.YtgocelaghggpmaaDoorKa19
import Derived.Test.YtgocelaghggpmaaDoorKa20
import Derived.Test.YtgocelaghggpmaaDoorKa21
import Derived.Test.YtgocelaghggpmaaDoorKa22
import Derived.Test.YtgocelaghggpmaaDoorKa23
import Derived.Test.YtgocelaghggpmaaDoorKa24
import Derived.Test.YtgocelaghggpmaaDoorKa25
import Derived.Test.YtgocelaghggpmaaDoorKa26
import Derived.Test.YtgocelaghggpmaaDoorKa27
import Derived.Test.YtgocelaghggpmaaDoorKa28
import Derived.Test.YtgocelaghggpmaaDoorKa29
import Derived.Test.YtgocelaghggpmaaDoorKa30
import Derived.Test.YtgocelaghggpmaaDoorKa31
import Derived.Test.YtgocelaghggpmaaDoorKa32
import Derived.Test.YtgocelaghggpmaaDoorKa33
import Derived.Test.YtgocelaghggpmaaDoorKa34
import Derived.Test.YtgocelaghggpmaaDoorKa35
import Derived.Test.YtgocelaghggpmaaDoorKp04
namespace Go.Proofs.YtgocelaghggpmaaDoor
open Go.ChangeShapes Go.WideShapes Go.ChangeAt Go.RowKit Go.Maps
set_option maxHeartbeats 1000000 in
theorem lexPlaces_bad (s:ByteArray) (E:Int) (P:Nat) (hE:E≠0) (w:World)
   (cl0:Calls Tryd.prog 15 #[.string s] w fun r w'=>∃v,r=.returned (.tuple #[v,.int .i64 E,.int .i64 (P:Int)])∧OwnK w.heap.size w' v []∧Below w.heap.size w w') :
   Calls Tryd.prog 6 #[.string s] w fun e w'=>e=.returned (.bool true)∧Below w.heap.size w w':=by
 have hE':(E != 0)=true:=by rw [bne_iff_ne];exact hE
 go_enter Tryd.func6,Tryd.ntmps6
 go_wp2_with (go_at_call 15;(with_reducible refine cl0.mono ?_);rintro _ W1 ⟨v,rfl,own,HB0⟩;obtain⟨A,C,rfl⟩:=own.form)
 go_ret
 exact⟨rfl,HB0⟩
theorem lexPlaces_w (s:ByteArray) (hs:(s.size:Int)≤9223372036854775807) (w:World) (T1:SpT w) (T2:ErrR w) :
   Calls Tryd.prog 6 #[.string s] w fun e w'=>e=.returned (.bool true)∧Below w.heap.size w w':=by
 have cl0:=lex_w s hs w T1 T2
 by_cases he:(lexV s).e=0
 · obtain⟨U,hU⟩:=lex_last he
   have hl:=lex_len he
   have hlen:(lexV s).t.length=U.length+1:=by rw [hU,List.length_append];rfl
   rw [he,lex_p he] at cl0
   refine lexPlaces_good s (lexV s).t (lexV s).t.length rfl (by omega) hl (lex_small he) (fun i hi=>plc_of he hi) ?_ w cl0 ?_
   · have hg:(lexV s).t[(lexV s).t.length-1]?=some (endK s.size):=by
       rw [hlen,hU,Nat.add_sub_cancel,List.getElem?_append_right (Nat.le_refl _)]
       simp
     unfold List.getD
     rw [hg]
     rfl
   · intro p U W hp hb
     have:=lex_w (s.extract p s.size) (by rw [ext_size];omega) W (T1.on hb) (T2.on hb)
     rw [hp] at this
     exact this
 · rw [lex_nil he] at cl0
   exact lexPlaces_bad s _ _ he w cl0
end Go.Proofs.YtgocelaghggpmaaDoor
