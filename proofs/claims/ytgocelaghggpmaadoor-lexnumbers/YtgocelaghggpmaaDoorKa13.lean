/- The digits of a text as bytes of a block (for rat.Read: []byte(whole + fraction)). The program's reading of a number's text (rat.Read): a text that is one. -/
import Derived.Test.YtgocelaghggpmaaDoorKa10
import Derived.Lib.ConvBytes
import Derived.Lib.AtoiErrMem
import Derived.Test.YtgocelaghggpmaaDoorKa12
namespace Go.Proofs.YtgocelaghggpmaaDoor
open Go.ChangeShapes Go.WideShapes Go.ChangeAt Go.RowKit
def bytN (s:ByteArray) (j:Nat):Nat:=(s.data.toList.getD j 0).toNat
theorem bytes_new (w:World) (e:TypeId) (s:ByteArray):Byts (Lib.bytesWorld w e s) w.heap.size s.size (bytN s):=by
 refine⟨fun j hj=>Lib.bytesWorld_cell w e s j hj,fun j hj=>?_,by rw [Lib.bytesWorld_size];omega⟩
 have hs:s.size≤(Lib.bytesCells w e s).size:=by
   unfold Lib.bytesCells
   rw [Array.size_append,Array.size_map]
   exact Nat.le_add_right _ _
 simp only [World.frozen?,Lib.bytesWorld_at_new]
 rw [decide_eq_false (by omega)]
 rfl
theorem bytN_dg {s:ByteArray} (h:∀i (h:i<s.size),isDg s[i]=true):DgN (bytN s) s.size:=by
 intro j hj
 have d:=h j hj
 have e:bytN s j=s[j].toNat:=by
   unfold bytN
   simp [List.getD,hj]
   rfl
 unfold isDg at d
 rw [Bool.and_eq_true,decide_eq_true_eq,decide_eq_true_eq] at d
 rw [e]
 omega
set_option maxHeartbeats 4000000 in
set_option maxRecDepth 20000 in
theorem read_yes (s a s1 d s2 s3:ByteArray) (e g1 g2 g3:Int) (ha:a.toList.isEmpty=false) (h3:s3.toList.isEmpty=true) (haz:a.size≤1000) (hd:d.size≤1000) (he:e≤1000) (he0:-1000≤e)
   (c1:∀W,Calls Tryd.prog 19 #[.string s,.int .i64 40] W fun e w'=>e=.returned (.tuple #[.string a,.string s1])∧Below W.heap.size W w')
   (c2:∀W,Calls Tryd.prog 20 #[.string s1] W fun e w'=>e=.returned (.tuple #[.string d,.string s2,.bool true])∧Below W.heap.size W w')
   (c3:∀W,Calls Tryd.prog 21 #[.string s2] W fun r w'=>r=.returned (.tuple #[.int .i64 e,.string s3,.bool true])∧Below W.heap.size W w') (w:World)
   (c4:∀W b cap,w.heap.size≤b→Below w.heap.size w W→Byts W b (a++d).size (bytN (a++d))→Calls Tryd.prog 22 #[.slice (some ⟨b,0,none⟩) (a++d).size cap,.int .i64 (e-(d.size:Int))] W fun r w'=>r=.returned (.tuple #[.agg #[.int .i64 g1,.int .i64 g2],.int .i64 g3])∧ButB b W w') :
   Calls Tryd.prog 8 #[.string s] w fun r w'=>r=.returned (.tuple #[.agg #[.int .i64 g1,.int .i64 g2],.int .i64 g3])∧Below w.heap.size w w':=by
 have HB:Below w.heap.size w (w.alloc (.cells #[.int .i64 0,.int .i64 0] 23)):=by go_grown
 have X:Has2 (w.alloc (.cells #[.int .i64 0,.int .i64 0] 23)) w.heap.size (.int .i64 0) (.int .i64 0):=⟨by go_simp,by go_simp,by go_simp,by go_simp,by go_size⟩
 have C4:Hid _:=c4
 clear c4
 go_enter Tryd.func8,Tryd.ntmps8
 go_upto_region 6 with (first
   | (go_at_call 19;(with_reducible refine (c1 _).mono ?_);rintro _ W1 ⟨rfl,hb1⟩;replace X:=X.keep hb1;replace HB:=later HB hb1;clear hb1)
   | (go_at_call 20;(with_reducible refine (c2 _).mono ?_);rintro _ W2 ⟨rfl,hb1⟩;replace X:=X.keep hb1;replace HB:=later HB hb1;clear hb1)
   | (go_at_call 21;(with_reducible refine (c3 _).mono ?_);rintro _ W3 ⟨rfl,hb1⟩;replace X:=X.keep hb1;replace HB:=later HB hb1;clear hb1))
 have hcv:=Lib.run_convert_string_bytes (P:=Tryd.prog) W3 9 51 5 (a++d) Tryd.underlying9 Tryd.underlying51 Tryd.underlying5
 have hbb:=Lib.bytesWorld_below W3 5 (a++d)
 have BN:=bytes_new W3 5 (a++d)
 have hlt:w.heap.size<W3.heap.size:=X.2.2.2.2
 have X4:=X.keep hbb
 have HB4:=later HB hbb
 clear hbb X HB c1 c2 c3
 generalize grownCap W3 (a++d).size 0 5=cap at *
 generalize Lib.bytesWorld W3 5 (a++d)=W4 at *
 generalize W3.heap.size=bA at *
 have c4:=C4.out W4 bA cap (by omega) HB4 BN
 clear C4 BN
 have hov:¬9223372036854775807<a.size+d.size:=by omega
 generalize hz:(a++d).size=z at *
 clear hz
 go_wp2_with (go_at_call 22;(with_reducible refine c4.mono ?_);rintro _ W5 ⟨rfl,kb⟩;have X5:=kb.has2 X4 (by omega);have HB5:=HB4.trans (kb.below (B:=w.heap.size) (by omega) HB4.size);clear kb X4 HB4;obtain⟨x0,x1,x2,x3,x4⟩:=id X5)
 refine bodyPost_ret (v:=.tuple #[.agg #[.int .i64 g1,.int .i64 g2],.int .i64 g3]) (by simp [results,Tryd.results8,go_sem, *]) rfl ⟨rfl, ?_⟩
 repeat' (first | (with_reducible exact HB5) | (with_reducible refine Below.setCell ?_ ?_ _) | go_size)
end Go.Proofs.YtgocelaghggpmaaDoor
