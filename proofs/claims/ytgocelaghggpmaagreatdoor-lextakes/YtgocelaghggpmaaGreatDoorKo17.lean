/- The program's reading of a number's text (rat.Read). -/
import Derived.Test.YtgocelaghggpmaaGreatDoorKo12
import Derived.Test.YtgocelaghggpmaaGreatDoorKo16
namespace Go.Proofs.YtgocelaghggpmaaGreatDoor
open Go.ChangeShapes Go.WideShapes Go.ChangeAt Go.RowKit
set_option maxHeartbeats 4000000 in
theorem read_no (s a s1 d s2 s3:ByteArray) (qf qe:Bool) (e:Int)
   (h:a.toList.isEmpty=true∨(a.toList.isEmpty=false∧qf=false)∨(a.toList.isEmpty=false∧qf=true∧qe=false)∨(a.toList.isEmpty=false∧qf=true∧qe=true∧s3.toList.isEmpty=false))
   (c1:∀W,Calls Tryz.prog 59 #[.string s,.int .i64 40] W fun e w'=>e=.returned (.tuple #[.string a,.string s1])∧Below W.heap.size W w')
   (c2:∀W,Calls Tryz.prog 60 #[.string s1] W fun e w'=>e=.returned (.tuple #[.string d,.string s2,.bool qf])∧Below W.heap.size W w')
   (c3:∀W,Calls Tryz.prog 61 #[.string s2] W fun r w'=>r=.returned (.tuple #[.int .i64 e,.string s3,.bool qe])∧Below W.heap.size W w') (w:World) :
   Calls Tryz.prog 46 #[.string s] w fun r w'=>r=.returned (.tuple #[.agg #[.int .i64 0,.int .i64 0],.int .i64 110])∧Below w.heap.size w w':=by
 have HB:Below w.heap.size w (w.alloc (.cells #[.int .i64 0,.int .i64 0] 33)):=by go_grown
 have X:Has2 (w.alloc (.cells #[.int .i64 0,.int .i64 0] 33)) w.heap.size (.int .i64 0) (.int .i64 0):=⟨by go_simp,by go_simp,by go_simp,by go_simp,by go_size⟩
 rcases h with h | ⟨h,rfl⟩ | ⟨h,rfl,rfl⟩ | ⟨h,rfl,rfl,h3⟩
 all_goals
   go_enter Tryz.func46,Tryz.ntmps46
   go_wp2_with (first
     | (go_at_call 59;(with_reducible refine (c1 _).mono ?_);rintro _ W1 ⟨rfl,hb1⟩;replace X:=X.keep hb1;replace HB:=later HB hb1;clear hb1)
     | (go_at_call 60;(with_reducible refine (c2 _).mono ?_);rintro _ W2 ⟨rfl,hb1⟩;replace X:=X.keep hb1;replace HB:=later HB hb1;clear hb1)
     | (go_at_call 61;(with_reducible refine (c3 _).mono ?_);rintro _ W3 ⟨rfl,hb1⟩;replace X:=X.keep hb1;replace HB:=later HB hb1;clear hb1;obtain⟨x0,x1,x2,x3,x4⟩:=id X))
   refine bodyPost_ret (v:=.tuple #[.agg #[.int .i64 0,.int .i64 0],.int .i64 110]) (by simp [results,Tryz.results46,go_sem, *]) rfl ⟨rfl, ?_⟩
   repeat' (first | (with_reducible exact HB) | (with_reducible refine Below.setCell ?_ ?_ _) | go_size)
end Go.Proofs.YtgocelaghggpmaaGreatDoor
