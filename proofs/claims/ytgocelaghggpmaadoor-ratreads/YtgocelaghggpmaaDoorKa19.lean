/- lex: what is made of a token's text, by its sort. -/
import Derived.Test.YtgocelaghggpmaaDoorKa16
import Derived.Test.YtgocelaghggpmaaDoorKa18
namespace Go.Proofs.YtgocelaghggpmaaDoor
open Go.ChangeShapes Go.WideShapes Go.ChangeAt Go.RowKit Go.Maps
structure Tk where
 k:Int
 s:ByteArray
 n:Int
 d:Int
 a:Int
def HasK5 (w:World) (b:Nat) (v0 v1 v2 v3 v4:Value):Prop:=w.cell? ⟨b,0,none⟩=some v0∧w.cell? ⟨b,1,none⟩=some v1∧w.cell? ⟨b,2,none⟩=some v2∧w.cell? ⟨b,3,none⟩=some v3∧w.cell? ⟨b,4,none⟩=some v4∧w.frozen? ⟨b,0,none⟩=false∧w.frozen? ⟨b,1,none⟩=false∧w.frozen? ⟨b,2,none⟩=false∧w.frozen? ⟨b,3,none⟩=false∧w.frozen? ⟨b,4,none⟩=false∧b<w.heap.size
theorem HasK5.keep {w W:World} {b:Nat} {v0 v1 v2 v3 v4:Value} (h:HasK5 w b v0 v1 v2 v3 v4) (k:Below w.heap.size w W):HasK5 W b v0 v1 v2 v3 v4:=by
 obtain⟨h0,h1,h2,h3,h4,f0,f1,f2,f3,f4,l⟩:=h
 exact⟨keepsC k h0 l,keepsC k h1 l,keepsC k h2 l,keepsC k h3 l,keepsC k h4 l,keepsF k f0 l,keepsF k f1 l,keepsF k f2 l,keepsF k f3 l,keepsF k f4 l,Nat.lt_of_lt_of_le l k.size⟩
theorem hasK5_new (w:World) (v0 v1 v2 v3 v4:Value) (T:TypeId):HasK5 (w.alloc (.cells #[v0,v1,v2,v3,v4] T)) w.heap.size v0 v1 v2 v3 v4:=⟨by go_simp,by go_simp,by go_simp,by go_simp,by go_simp,by go_simp,by go_simp,by go_simp,by go_simp,by go_simp,by go_size⟩
set_option maxHeartbeats 1000000 in
theorem lexSign_w (s:ByteArray) (w:World):Calls Tryd.prog 95 #[.string s] w fun e w'=>e=.returned (.tuple #[.agg #[.int .i64 4,.string s,.int .i64 0,.int .i64 0,.int .i64 0],.int .i64 0])∧Below w.heap.size w w':=by
 go_enter Tryd.func95,Tryd.ntmps95
 go_wp2_with fail
 refine bodyPost_ret (v:=.tuple #[.agg #[.int .i64 4,.string s,.int .i64 0,.int .i64 0,.int .i64 0],.int .i64 0]) (by simp [results,Tryd.results95,go_sem]) rfl ⟨rfl, ?_⟩
 go_grown
set_option maxHeartbeats 1000000 in
theorem number_w (s:ByteArray) (N D e:Int)
   (w:World) (cr:∀W,Below w.heap.size w W→Calls Tryd.prog 8 #[.string s] W fun r w'=>r=.returned (.tuple #[.agg #[.int .i64 N,.int .i64 D],.int .i64 e])∧Below W.heap.size W w') :
   Calls Tryd.prog 92 #[.string s] w fun r w'=>r=.returned (.tuple #[if e=0 then .agg #[.int .i64 3,.string ⟨#[]⟩,.int .i64 N,.int .i64 D,.int .i64 0] else .agg #[.int .i64 0,.string ⟨#[]⟩,.int .i64 0,.int .i64 0,.int .i64 0],.int .i64 e])∧Below w.heap.size w w':=by
 have HB:Below w.heap.size w (w.alloc (.cells #[.int .i64 0,.string ⟨#[]⟩,.int .i64 0,.int .i64 0,.int .i64 0] 39)):=by go_grown
 have X:=hasK5_new w (.int .i64 0) (.string ⟨#[]⟩) (.int .i64 0) (.int .i64 0) (.int .i64 0) 39
 have cr1:=cr _ HB
 clear cr
 by_cases h:e=0
 · subst h
   rw [if_pos rfl]
   go_enter Tryd.func92,Tryd.ntmps92
   go_wp2_with (go_at_call 8;(with_reducible refine cr1.mono ?_);rintro _ W1 ⟨rfl,hb1⟩;replace X:=(X.keep hb1).keep (grewW W1 (.cells #[.int .i64 N,.int .i64 D] 23));replace HB:=later (later HB hb1) (grewW W1 (.cells #[.int .i64 N,.int .i64 D] 23));clear hb1;obtain⟨x0,x1,x2,x3,x4,f0,f1,f2,f3,f4,xl⟩:=id X)
   refine bodyPost_ret (v:=.tuple #[.agg #[.int .i64 3,.string ⟨#[]⟩,.int .i64 N,.int .i64 D,.int .i64 0],.int .i64 0]) (by simp [results,Tryd.results92,go_sem, *]) rfl ⟨rfl, ?_⟩
   repeat' (first | (with_reducible exact HB) | (with_reducible refine Below.setCell ?_ ?_ _) | go_size)
 · rw [if_neg h]
   have h':(e != 0)=true:=by rw [bne_iff_ne];exact h
   go_enter Tryd.func92,Tryd.ntmps92
   go_wp2_with (go_at_call 8;(with_reducible refine cr1.mono ?_);rintro _ W1 ⟨rfl,hb1⟩;replace X:=(X.keep hb1).keep (grewW W1 (.cells #[.int .i64 N,.int .i64 D] 23));replace HB:=later (later HB hb1) (grewW W1 (.cells #[.int .i64 N,.int .i64 D] 23));clear hb1;obtain⟨x0,x1,x2,x3,x4,f0,f1,f2,f3,f4,xl⟩:=id X)
   refine bodyPost_ret (v:=.tuple #[.agg #[.int .i64 0,.string ⟨#[]⟩,.int .i64 0,.int .i64 0,.int .i64 0],.int .i64 e]) (by simp [results,Tryd.results92,go_sem, *]) rfl ⟨rfl, ?_⟩
   repeat' (first | (with_reducible exact HB) | (with_reducible refine Below.setCell ?_ ?_ _) | go_size)
def TellAt (W:World) (C:Nat):Prop:=∃B,W.cell? ⟨C,0,none⟩=some (.func (.func 129) #[] #[.pointer (some ⟨B,0,none⟩)])∧WordsAt W B∧C<W.heap.size
theorem TellAt.keep {w W:World} {C:Nat} (h:TellAt w C) (hb:Below w.heap.size w W):TellAt W C:=by
 obtain⟨B,h1,h2,h3⟩:=h
 exact⟨B,keepsC hb h1 h3,h2.keep hb,Nat.lt_of_lt_of_le h3 hb.size⟩
def namK (s:ByteArray):Int:=if 24<s.size then 0 else if wordB s.data.toList then 2 else 1
def namS (s:ByteArray):ByteArray:=if 24<s.size then ⟨#[]⟩ else s
def namE (s:ByteArray):Int:=if 24<s.size then 2 else 0
set_option maxHeartbeats 1000000 in
theorem name_w (s:ByteArray) (hs:s.size≤maxLen) (C:Nat) (w:World) (h:TellAt w C) :
   Calls Tryd.prog 87 #[.string s,.pointer (some ⟨C,0,none⟩)] w fun r w'=>r=.returned (.tuple #[.agg #[.int .i64 (namK s),.string (namS s),.int .i64 0,.int .i64 0,.int .i64 0],.int .i64 (namE s)])∧Below w.heap.size w w':=by
 have HB:Below w.heap.size w (w.alloc (.cells #[.int .i64 0,.string ⟨#[]⟩,.int .i64 0,.int .i64 0,.int .i64 0] 39)):=by go_grown
 have X:=hasK5_new w (.int .i64 0) (.string ⟨#[]⟩) (.int .i64 0) (.int .i64 0) (.int .i64 0) 39
 replace h:=h.keep HB
 generalize hV:w.alloc (.cells #[.int .i64 0,.string ⟨#[]⟩,.int .i64 0,.int .i64 0,.int .i64 0] 39)=V at *
 obtain⟨B,hc,hw,hl⟩:=h
 have cw:=isWord_w s hs B V hw
 unfold namK namS namE
 by_cases h24:24<s.size
 · have k24:24<(s.size:Int):=by omega
   rw [if_pos h24,if_pos h24,if_pos h24]
   obtain⟨x0,x1,x2,x3,x4,f0,f1,f2,f3,f4,xl⟩:=id X
   go_enter Tryd.func87,Tryd.ntmps87
   go_upto_region 1 with fail
   go_wp2_with fail
   refine bodyPost_ret (v:=.tuple #[.agg #[.int .i64 0,.string ⟨#[]⟩,.int .i64 0,.int .i64 0,.int .i64 0],.int .i64 2]) (by simp [results,Tryd.results87,go_sem, *]) rfl ⟨rfl, ?_⟩
   repeat' (first | (with_reducible exact HB) | (with_reducible refine Below.setCell ?_ ?_ _) | go_size)
 · have k24:¬24<(s.size:Int):=by omega
   rw [if_neg h24,if_neg h24,if_neg h24]
   generalize wordB s.data.toList=b at *
   cases b
   · rw [if_neg (by decide)]
     go_enter Tryd.func87,Tryd.ntmps87
     go_upto_region 1 with fail
     go_wp2_with (go_at_call 129;(with_reducible refine cw.mono ?_);rintro _ W1 ⟨rfl,hb1⟩;replace X:=X.keep hb1;replace HB:=later HB hb1;clear hb1;obtain⟨x0,x1,x2,x3,x4,f0,f1,f2,f3,f4,xl⟩:=id X)
     refine bodyPost_ret (v:=.tuple #[.agg #[.int .i64 1,.string s,.int .i64 0,.int .i64 0,.int .i64 0],.int .i64 0]) (by simp [results,Tryd.results87,go_sem, *]) rfl ⟨rfl, ?_⟩
     repeat' (first | (with_reducible exact HB) | (with_reducible refine Below.setCell ?_ ?_ _) | go_size)
   · rw [if_pos rfl]
     go_enter Tryd.func87,Tryd.ntmps87
     go_upto_region 1 with fail
     go_wp2_with (go_at_call 129;(with_reducible refine cw.mono ?_);rintro _ W1 ⟨rfl,hb1⟩;replace X:=X.keep hb1;replace HB:=later HB hb1;clear hb1;obtain⟨x0,x1,x2,x3,x4,f0,f1,f2,f3,f4,xl⟩:=id X)
     refine bodyPost_ret (v:=.tuple #[.agg #[.int .i64 2,.string s,.int .i64 0,.int .i64 0,.int .i64 0],.int .i64 0]) (by simp [results,Tryd.results87,go_sem, *]) rfl ⟨rfl, ?_⟩
     repeat' (first | (with_reducible exact HB) | (with_reducible refine Below.setCell ?_ ?_ _) | go_size)
end Go.Proofs.YtgocelaghggpmaaDoor
