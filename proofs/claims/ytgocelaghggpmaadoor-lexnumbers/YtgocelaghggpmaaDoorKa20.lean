/- lex: the sorts of tokens, and the first token of a text. -/
import Derived.Test.YtgocelaghggpmaaDoorKa19
namespace Go.Proofs.YtgocelaghggpmaaDoor
open Go.ChangeShapes Go.WideShapes Go.ChangeAt Go.RowKit Go.Maps
@[go_sem] theorem run_store_func (P:Program) (w:World) (a:Addr) (m:Mode) (f:Fn) (b c:Array Value):(store a (.func f b c) m).run P w=stored P w a (.func f b c) m:=run_store P w a _ m rfl
structure SortsAt (W:World) (D C:Nat):Prop where
 c0:W.cell? ⟨D,0,none⟩=some (.func (.func 88) #[] #[])
 c1:W.cell? ⟨D,1,none⟩=some (.func (.func 89) #[] #[])
 c2:W.cell? ⟨D,2,none⟩=some (.func (.func 87) #[] #[.pointer (some ⟨C,0,none⟩)])
 c3:W.cell? ⟨D,3,none⟩=some (.func (.func 90) #[] #[])
 c4:W.cell? ⟨D,4,none⟩=some (.func (.func 91) #[] #[])
 c5:W.cell? ⟨D,5,none⟩=some (.func (.func 92) #[] #[])
 c6:W.cell? ⟨D,6,none⟩=some (.func (.func 93) #[] #[])
 c7:W.cell? ⟨D,7,none⟩=some (.func (.func 94) #[] #[])
 c8:W.cell? ⟨D,8,none⟩=some (.func (.func 95) #[] #[])
 tell:TellAt W C
 lt:D<W.heap.size
theorem SortsAt.keep {w W:World} {D C:Nat} (h:SortsAt w D C) (hb:Below w.heap.size w W):SortsAt W D C :=
 ⟨keepsC hb h.c0 h.lt,keepsC hb h.c1 h.lt,keepsC hb h.c2 h.lt,keepsC hb h.c3 h.lt,keepsC hb h.c4 h.lt,keepsC hb h.c5 h.lt,keepsC hb h.c6 h.lt,keepsC hb h.c7 h.lt,keepsC hb h.c8 h.lt,h.tell.keep hb,Nat.lt_of_lt_of_le h.lt hb.size⟩
set_option maxHeartbeats 1000000 in
theorem sorts_w (w:World) (T:SpT w) :
   Calls Tryd.prog 44 #[] w fun r w'=>∃D C,r=.returned (.slice (some ⟨D,0,none⟩) 3 3)∧SortsAt w' D C∧Below w.heap.size w w':=by
 have ct:=teller_w w T
 clear T
 go_enter Tryd.func44,Tryd.ntmps44
 go_upto_region 2 with (go_at_call 86;(with_reducible refine ct.mono ?_);rintro _ W1 ⟨B,rfl,hw,HB⟩)
 have h1:=grewW W1 (.cells #[.func (.func 129) #[] #[.pointer (some ⟨B,0,none⟩)]] 27)
 have tl:TellAt (W1.alloc (.cells #[.func (.func 129) #[] #[.pointer (some ⟨B,0,none⟩)]] 27)) W1.heap.size:=⟨B,by go_simp,hw.keep h1,by go_size⟩
 replace HB:=later HB h1
 clear ct hw h1
 generalize W1.alloc (.cells #[.func (.func 129) #[] #[.pointer (some ⟨B,0,none⟩)]] 27)=V at *
 generalize W1.heap.size=C at *
 go_wp2_with fail
 go_ret
 refine⟨V.heap.size,C,rfl,⟨by go_simp,by go_simp,by go_simp,by go_simp,by go_simp,by go_simp,by go_simp,by go_simp,by go_simp,tl.keep (grewW V _),by go_size⟩,later HB (grewW V _)⟩
set_option maxHeartbeats 4000000 in
set_option maxRecDepth 20000 in
theorem lexName_w (s S:ByteArray) (k N E e:Int) (n D C:Nat) (h0:0<s.size) (hn:n≤s.size)
   (b0:∀W,Calls Tryd.prog 88 #[.int .u8 (s[0].toNat:Int)] W fun r w'=>r=.returned (.bool true)∧W=w')
   (l1:∀W,Calls Tryd.prog 89 #[.string s] W fun r w'=>r=.returned (.int .i64 (n:Int))∧W=w')
   (w:World) (A:SortsAt w D C)
   (m1:∀W,Below w.heap.size w W→Calls Tryd.prog 87 #[.string (s.extract 0 n),.pointer (some ⟨C,0,none⟩)] W fun r w'=>r=.returned (.tuple #[.agg #[.int .i64 k,.string S,.int .i64 N,.int .i64 E,.int .i64 0],.int .i64 e])∧Below W.heap.size W w') :
   Calls Tryd.prog 46 #[.slice (some ⟨D,0,none⟩) 3 3,.string s] w fun r w'=>r=.returned (.tuple #[.string (s.extract 0 n),.agg #[.int .i64 k,.string S,.int .i64 N,.int .i64 E,.int .i64 0],.int .i64 e])∧Below w.heap.size w w':=by
 have HB:Below w.heap.size w (w.alloc (.cells #[.int .i64 0,.string ⟨#[]⟩,.int .i64 0,.int .i64 0,.int .i64 0] 39)):=by go_grown
 have X:=hasK5_new w (.int .i64 0) (.string ⟨#[]⟩) (.int .i64 0) (.int .i64 0) (.int .i64 0) 39
 replace A:=A.keep HB
 have z0:(0:Int)<(s.size:Int):=by omega
 have zn:(n:Int)≤(s.size:Int):=by omega
 go_enter Tryd.func46,Tryd.ntmps46
 go_upto_region 1 with fail
 generalize w.alloc (.cells #[.int .i64 0,.string ⟨#[]⟩,.int .i64 0,.int .i64 0,.int .i64 0] 39)=V at *
 obtain⟨a0,a1,a2,a3,a4,a5,a6,a7,a8,at9,al⟩:=id A
 go_upto_region 2 with fail
 refine wp_loop_rounds 1 ?_
 rw [rounds_succ]
 go_upto_region 4 with fail
 have h2:=grewW V (.cells #[.func (.func 88) #[] #[],.func (.func 89) #[] #[],.func (.func 87) #[] #[.pointer (some ⟨C,0,none⟩)]] 125)
 have q0:(V.alloc (.cells #[.func (.func 88) #[] #[],.func (.func 89) #[] #[],.func (.func 87) #[] #[.pointer (some ⟨C,0,none⟩)]] 125)).cell? ⟨V.heap.size,0,none⟩=some (.func (.func 88) #[] #[]):=by go_simp
 have q1:(V.alloc (.cells #[.func (.func 88) #[] #[],.func (.func 89) #[] #[],.func (.func 87) #[] #[.pointer (some ⟨C,0,none⟩)]] 125)).cell? ⟨V.heap.size,1,none⟩=some (.func (.func 89) #[] #[]):=by go_simp
 have q2:(V.alloc (.cells #[.func (.func 88) #[] #[],.func (.func 89) #[] #[],.func (.func 87) #[] #[.pointer (some ⟨C,0,none⟩)]] 125)).cell? ⟨V.heap.size,2,none⟩=some (.func (.func 87) #[] #[.pointer (some ⟨C,0,none⟩)]):=by go_simp
 have ql:V.heap.size<(V.alloc (.cells #[.func (.func 88) #[] #[],.func (.func 89) #[] #[],.func (.func 87) #[] #[.pointer (some ⟨C,0,none⟩)]] 125)).heap.size:=by go_size
 replace HB:=later HB h2
 replace X:=X.keep h2
 replace A:=A.keep h2
 clear h2 a0 a1 a2 a3 a4 a5 a6 a7 a8 at9 al
 generalize V.alloc (.cells #[.func (.func 88) #[] #[],.func (.func 89) #[] #[],.func (.func 87) #[] #[.pointer (some ⟨C,0,none⟩)]] 125)=U0 at *
 generalize V.heap.size=bs0 at *
 have kq0:=fun n:Behind U0=>n.cell q0 ql
 refine region_behind (by kernel_rfl) (by kernel_rfl) ?_
 repeat (go_big_quiet_step ((go_at_call 88;with_reducible refine Behind.same (b0 _))))
 refine wpQuiet_nil ?_
 rintro _ ⟨m',rfl⟩
 obtain⟨Y0,hb1⟩:=m'
 dsimp only
 clear kq0
 replace q0:=keepsC hb1 q0 ql
 replace q1:=keepsC hb1 q1 ql
 replace q2:=keepsC hb1 q2 ql
 replace X:=X.keep hb1
 replace A:=A.keep hb1
 replace HB:=later HB hb1
 clear hb1 ql
 obtain⟨a0,a1,a2,a3,a4,a5,a6,a7,a8,at9,al⟩:=id A
 clear a0 a1 a2 a3 a4 a5 a6 a7 a8 at9 al A
 have m2:=m1 _ HB
 clear m1
 go_upto_region 7 with (first
   | (go_at_call 89;(with_reducible refine (l1 _).mono ?_);rintro _ Z1 ⟨rfl,rfl⟩)
   | (go_at_call 87;(with_reducible refine m2.mono ?_);rintro _ Z2 ⟨rfl,hb1⟩;have ne:w.heap.size≠Z2.heap.size:=Nat.ne_of_lt (Nat.lt_of_lt_of_le X.2.2.2.2.2.2.2.2.2.2 hb1.size);replace X:=(X.keep hb1).keep (grewW Z2 (.cells #[.int .i64 k,.string S,.int .i64 N,.int .i64 E,.int .i64 0] 39));replace HB:=later (later HB hb1) (grewW Z2 (.cells #[.int .i64 k,.string S,.int .i64 N,.int .i64 E,.int .i64 0] 39));have Y:=hasK5_new Z2 (.int .i64 k) (.string S) (.int .i64 N) (.int .i64 E) (.int .i64 0) 39;clear hb1))
 have ne':Z2.heap.size≠w.heap.size:=Ne.symm ne
 obtain⟨x0,x1,x2,x3,x4,f0,f1,f2,f3,f4,xl⟩:=id X
 obtain⟨y0,y1,y2,y3,y4,e0,e1,e2,e3,e4,yl⟩:=id Y
 generalize Z2.alloc (.cells #[.int .i64 k,.string S,.int .i64 N,.int .i64 E,.int .i64 0] 39)=Z3 at *
 generalize Z2.heap.size=bz at *
 go_region
 all_goals
   go_wp2_with fail
   refine bodyPost_ret (v:=.tuple #[.string (s.extract 0 n),.agg #[.int .i64 k,.string S,.int .i64 N,.int .i64 E,.int .i64 0],.int .i64 e]) (by simp [results,Tryd.results46,go_sem, *]) rfl ⟨rfl, ?_⟩
   repeat' (first | (with_reducible exact HB) | (with_reducible refine Below.drew ?_) | (with_reducible refine Below.setCell ?_ ?_ _) | go_size)
set_option maxHeartbeats 4000000 in
set_option maxRecDepth 20000 in
theorem lexNumber_w (s S:ByteArray) (k N E e:Int) (n D C:Nat) (h0:0<s.size) (hn:n≤s.size)
   (b0:∀W,Calls Tryd.prog 88 #[.int .u8 (s[0].toNat:Int)] W fun r w'=>r=.returned (.bool false)∧W=w')
   (b1:∀W,Calls Tryd.prog 90 #[.int .u8 (s[0].toNat:Int)] W fun r w'=>r=.returned (.bool true)∧W=w')
   (l1:∀W,Calls Tryd.prog 91 #[.string s] W fun r w'=>r=.returned (.int .i64 (n:Int))∧W=w')
   (w:World) (A:SortsAt w D C)
   (m1:∀W,Below w.heap.size w W→Calls Tryd.prog 92 #[.string (s.extract 0 n)] W fun r w'=>r=.returned (.tuple #[.agg #[.int .i64 k,.string S,.int .i64 N,.int .i64 E,.int .i64 0],.int .i64 e])∧Below W.heap.size W w') :
   Calls Tryd.prog 46 #[.slice (some ⟨D,0,none⟩) 3 3,.string s] w fun r w'=>r=.returned (.tuple #[.string (s.extract 0 n),.agg #[.int .i64 k,.string S,.int .i64 N,.int .i64 E,.int .i64 0],.int .i64 e])∧Below w.heap.size w w':=by
 have HB:Below w.heap.size w (w.alloc (.cells #[.int .i64 0,.string ⟨#[]⟩,.int .i64 0,.int .i64 0,.int .i64 0] 39)):=by go_grown
 have X:=hasK5_new w (.int .i64 0) (.string ⟨#[]⟩) (.int .i64 0) (.int .i64 0) (.int .i64 0) 39
 replace A:=A.keep HB
 have z0:(0:Int)<(s.size:Int):=by omega
 have zn:(n:Int)≤(s.size:Int):=by omega
 go_enter Tryd.func46,Tryd.ntmps46
 go_upto_region 1 with fail
 generalize w.alloc (.cells #[.int .i64 0,.string ⟨#[]⟩,.int .i64 0,.int .i64 0,.int .i64 0] 39)=V at *
 obtain⟨a0,a1,a2,a3,a4,a5,a6,a7,a8,at9,al⟩:=id A
 go_upto_region 2 with fail
 refine wp_loop_rounds 2 ?_
 rw [rounds_succ]
 go_upto_region 4 with fail
 have h2:=grewW V (.cells #[.func (.func 88) #[] #[],.func (.func 89) #[] #[],.func (.func 87) #[] #[.pointer (some ⟨C,0,none⟩)]] 125)
 have q0:(V.alloc (.cells #[.func (.func 88) #[] #[],.func (.func 89) #[] #[],.func (.func 87) #[] #[.pointer (some ⟨C,0,none⟩)]] 125)).cell? ⟨V.heap.size,0,none⟩=some (.func (.func 88) #[] #[]):=by go_simp
 have q1:(V.alloc (.cells #[.func (.func 88) #[] #[],.func (.func 89) #[] #[],.func (.func 87) #[] #[.pointer (some ⟨C,0,none⟩)]] 125)).cell? ⟨V.heap.size,1,none⟩=some (.func (.func 89) #[] #[]):=by go_simp
 have q2:(V.alloc (.cells #[.func (.func 88) #[] #[],.func (.func 89) #[] #[],.func (.func 87) #[] #[.pointer (some ⟨C,0,none⟩)]] 125)).cell? ⟨V.heap.size,2,none⟩=some (.func (.func 87) #[] #[.pointer (some ⟨C,0,none⟩)]):=by go_simp
 have ql:V.heap.size<(V.alloc (.cells #[.func (.func 88) #[] #[],.func (.func 89) #[] #[],.func (.func 87) #[] #[.pointer (some ⟨C,0,none⟩)]] 125)).heap.size:=by go_size
 replace HB:=later HB h2
 replace X:=X.keep h2
 replace A:=A.keep h2
 clear h2 a0 a1 a2 a3 a4 a5 a6 a7 a8 at9 al
 generalize V.alloc (.cells #[.func (.func 88) #[] #[],.func (.func 89) #[] #[],.func (.func 87) #[] #[.pointer (some ⟨C,0,none⟩)]] 125)=U0 at *
 generalize V.heap.size=bs0 at *
 have kq0:=fun n:Behind U0=>n.cell q0 ql
 refine region_behind (by kernel_rfl) (by kernel_rfl) ?_
 repeat (go_big_quiet_step ((go_at_call 88;with_reducible refine Behind.same (b0 _))))
 refine wpQuiet_nil ?_
 rintro _ ⟨m',rfl⟩
 obtain⟨Y0,hb1⟩:=m'
 dsimp only
 clear kq0
 replace q0:=keepsC hb1 q0 ql
 replace q1:=keepsC hb1 q1 ql
 replace q2:=keepsC hb1 q2 ql
 replace X:=X.keep hb1
 replace A:=A.keep hb1
 replace HB:=later HB hb1
 clear hb1 ql
 obtain⟨a0,a1,a2,a3,a4,a5,a6,a7,a8,at9,al⟩:=id A
 clear q0 q1 q2 b0
 go_wp2_with fail
 rw [rounds_succ]
 go_upto_region 4 with fail
 have h2:=grewW Y0 (.cells #[.func (.func 90) #[] #[],.func (.func 91) #[] #[],.func (.func 92) #[] #[]] 125)
 have q0:(Y0.alloc (.cells #[.func (.func 90) #[] #[],.func (.func 91) #[] #[],.func (.func 92) #[] #[]] 125)).cell? ⟨Y0.heap.size,0,none⟩=some (.func (.func 90) #[] #[]):=by go_simp
 have q1:(Y0.alloc (.cells #[.func (.func 90) #[] #[],.func (.func 91) #[] #[],.func (.func 92) #[] #[]] 125)).cell? ⟨Y0.heap.size,1,none⟩=some (.func (.func 91) #[] #[]):=by go_simp
 have q2:(Y0.alloc (.cells #[.func (.func 90) #[] #[],.func (.func 91) #[] #[],.func (.func 92) #[] #[]] 125)).cell? ⟨Y0.heap.size,2,none⟩=some (.func (.func 92) #[] #[]):=by go_simp
 have ql:Y0.heap.size<(Y0.alloc (.cells #[.func (.func 90) #[] #[],.func (.func 91) #[] #[],.func (.func 92) #[] #[]] 125)).heap.size:=by go_size
 replace HB:=later HB h2
 replace X:=X.keep h2
 replace A:=A.keep h2
 clear h2 a0 a1 a2 a3 a4 a5 a6 a7 a8 at9 al
 generalize Y0.alloc (.cells #[.func (.func 90) #[] #[],.func (.func 91) #[] #[],.func (.func 92) #[] #[]] 125)=U1 at *
 generalize Y0.heap.size=bs1 at *
 have kq0:=fun n:Behind U1=>n.cell q0 ql
 refine region_behind (by kernel_rfl) (by kernel_rfl) ?_
 repeat (go_big_quiet_step ((go_at_call 90;with_reducible refine Behind.same (b1 _))))
 refine wpQuiet_nil ?_
 rintro _ ⟨m',rfl⟩
 obtain⟨Y1,hb1⟩:=m'
 dsimp only
 clear kq0
 replace q0:=keepsC hb1 q0 ql
 replace q1:=keepsC hb1 q1 ql
 replace q2:=keepsC hb1 q2 ql
 replace X:=X.keep hb1
 replace A:=A.keep hb1
 replace HB:=later HB hb1
 clear hb1 ql
 obtain⟨a0,a1,a2,a3,a4,a5,a6,a7,a8,at9,al⟩:=id A
 clear a0 a1 a2 a3 a4 a5 a6 a7 a8 at9 al A
 have m2:=m1 _ HB
 clear m1
 go_upto_region 7 with (first
   | (go_at_call 91;(with_reducible refine (l1 _).mono ?_);rintro _ Z1 ⟨rfl,rfl⟩)
   | (go_at_call 92;(with_reducible refine m2.mono ?_);rintro _ Z2 ⟨rfl,hb1⟩;have ne:w.heap.size≠Z2.heap.size:=Nat.ne_of_lt (Nat.lt_of_lt_of_le X.2.2.2.2.2.2.2.2.2.2 hb1.size);replace X:=(X.keep hb1).keep (grewW Z2 (.cells #[.int .i64 k,.string S,.int .i64 N,.int .i64 E,.int .i64 0] 39));replace HB:=later (later HB hb1) (grewW Z2 (.cells #[.int .i64 k,.string S,.int .i64 N,.int .i64 E,.int .i64 0] 39));have Y:=hasK5_new Z2 (.int .i64 k) (.string S) (.int .i64 N) (.int .i64 E) (.int .i64 0) 39;clear hb1))
 have ne':Z2.heap.size≠w.heap.size:=Ne.symm ne
 obtain⟨x0,x1,x2,x3,x4,f0,f1,f2,f3,f4,xl⟩:=id X
 obtain⟨y0,y1,y2,y3,y4,e0,e1,e2,e3,e4,yl⟩:=id Y
 generalize Z2.alloc (.cells #[.int .i64 k,.string S,.int .i64 N,.int .i64 E,.int .i64 0] 39)=Z3 at *
 generalize Z2.heap.size=bz at *
 go_region
 all_goals
   go_wp2_with fail
   refine bodyPost_ret (v:=.tuple #[.string (s.extract 0 n),.agg #[.int .i64 k,.string S,.int .i64 N,.int .i64 E,.int .i64 0],.int .i64 e]) (by simp [results,Tryd.results46,go_sem, *]) rfl ⟨rfl, ?_⟩
   repeat' (first | (with_reducible exact HB) | (with_reducible refine Below.drew ?_) | (with_reducible refine Below.setCell ?_ ?_ _) | go_size)
set_option maxHeartbeats 4000000 in
set_option maxRecDepth 20000 in
theorem lexSigned_w (s S:ByteArray) (k N E e:Int) (n D C:Nat) (h0:0<s.size) (hn:n≤s.size)
   (b0:∀W,Calls Tryd.prog 88 #[.int .u8 (s[0].toNat:Int)] W fun r w'=>r=.returned (.bool false)∧W=w')
   (b1:∀W,Calls Tryd.prog 90 #[.int .u8 (s[0].toNat:Int)] W fun r w'=>r=.returned (.bool false)∧W=w')
   (b2:∀W,Calls Tryd.prog 93 #[.int .u8 (s[0].toNat:Int)] W fun r w'=>r=.returned (.bool true)∧W=w')
   (l1:∀W,Calls Tryd.prog 94 #[.string s] W fun r w'=>r=.returned (.int .i64 (n:Int))∧W=w')
   (w:World) (A:SortsAt w D C)
   (m1:∀W,Below w.heap.size w W→Calls Tryd.prog 95 #[.string (s.extract 0 n)] W fun r w'=>r=.returned (.tuple #[.agg #[.int .i64 k,.string S,.int .i64 N,.int .i64 E,.int .i64 0],.int .i64 e])∧Below W.heap.size W w') :
   Calls Tryd.prog 46 #[.slice (some ⟨D,0,none⟩) 3 3,.string s] w fun r w'=>r=.returned (.tuple #[.string (s.extract 0 n),.agg #[.int .i64 k,.string S,.int .i64 N,.int .i64 E,.int .i64 0],.int .i64 e])∧Below w.heap.size w w':=by
 have HB:Below w.heap.size w (w.alloc (.cells #[.int .i64 0,.string ⟨#[]⟩,.int .i64 0,.int .i64 0,.int .i64 0] 39)):=by go_grown
 have X:=hasK5_new w (.int .i64 0) (.string ⟨#[]⟩) (.int .i64 0) (.int .i64 0) (.int .i64 0) 39
 replace A:=A.keep HB
 have z0:(0:Int)<(s.size:Int):=by omega
 have zn:(n:Int)≤(s.size:Int):=by omega
 go_enter Tryd.func46,Tryd.ntmps46
 go_upto_region 1 with fail
 generalize w.alloc (.cells #[.int .i64 0,.string ⟨#[]⟩,.int .i64 0,.int .i64 0,.int .i64 0] 39)=V at *
 obtain⟨a0,a1,a2,a3,a4,a5,a6,a7,a8,at9,al⟩:=id A
 go_upto_region 2 with fail
 refine wp_loop_rounds 3 ?_
 rw [rounds_succ]
 go_upto_region 4 with fail
 have h2:=grewW V (.cells #[.func (.func 88) #[] #[],.func (.func 89) #[] #[],.func (.func 87) #[] #[.pointer (some ⟨C,0,none⟩)]] 125)
 have q0:(V.alloc (.cells #[.func (.func 88) #[] #[],.func (.func 89) #[] #[],.func (.func 87) #[] #[.pointer (some ⟨C,0,none⟩)]] 125)).cell? ⟨V.heap.size,0,none⟩=some (.func (.func 88) #[] #[]):=by go_simp
 have q1:(V.alloc (.cells #[.func (.func 88) #[] #[],.func (.func 89) #[] #[],.func (.func 87) #[] #[.pointer (some ⟨C,0,none⟩)]] 125)).cell? ⟨V.heap.size,1,none⟩=some (.func (.func 89) #[] #[]):=by go_simp
 have q2:(V.alloc (.cells #[.func (.func 88) #[] #[],.func (.func 89) #[] #[],.func (.func 87) #[] #[.pointer (some ⟨C,0,none⟩)]] 125)).cell? ⟨V.heap.size,2,none⟩=some (.func (.func 87) #[] #[.pointer (some ⟨C,0,none⟩)]):=by go_simp
 have ql:V.heap.size<(V.alloc (.cells #[.func (.func 88) #[] #[],.func (.func 89) #[] #[],.func (.func 87) #[] #[.pointer (some ⟨C,0,none⟩)]] 125)).heap.size:=by go_size
 replace HB:=later HB h2
 replace X:=X.keep h2
 replace A:=A.keep h2
 clear h2 a0 a1 a2 a3 a4 a5 a6 a7 a8 at9 al
 generalize V.alloc (.cells #[.func (.func 88) #[] #[],.func (.func 89) #[] #[],.func (.func 87) #[] #[.pointer (some ⟨C,0,none⟩)]] 125)=U0 at *
 generalize V.heap.size=bs0 at *
 have kq0:=fun n:Behind U0=>n.cell q0 ql
 refine region_behind (by kernel_rfl) (by kernel_rfl) ?_
 repeat (go_big_quiet_step ((go_at_call 88;with_reducible refine Behind.same (b0 _))))
 refine wpQuiet_nil ?_
 rintro _ ⟨m',rfl⟩
 obtain⟨Y0,hb1⟩:=m'
 dsimp only
 clear kq0
 replace q0:=keepsC hb1 q0 ql
 replace q1:=keepsC hb1 q1 ql
 replace q2:=keepsC hb1 q2 ql
 replace X:=X.keep hb1
 replace A:=A.keep hb1
 replace HB:=later HB hb1
 clear hb1 ql
 obtain⟨a0,a1,a2,a3,a4,a5,a6,a7,a8,at9,al⟩:=id A
 clear q0 q1 q2 b0
 go_wp2_with fail
 rw [rounds_succ]
 go_upto_region 4 with fail
 have h2:=grewW Y0 (.cells #[.func (.func 90) #[] #[],.func (.func 91) #[] #[],.func (.func 92) #[] #[]] 125)
 have q0:(Y0.alloc (.cells #[.func (.func 90) #[] #[],.func (.func 91) #[] #[],.func (.func 92) #[] #[]] 125)).cell? ⟨Y0.heap.size,0,none⟩=some (.func (.func 90) #[] #[]):=by go_simp
 have q1:(Y0.alloc (.cells #[.func (.func 90) #[] #[],.func (.func 91) #[] #[],.func (.func 92) #[] #[]] 125)).cell? ⟨Y0.heap.size,1,none⟩=some (.func (.func 91) #[] #[]):=by go_simp
 have q2:(Y0.alloc (.cells #[.func (.func 90) #[] #[],.func (.func 91) #[] #[],.func (.func 92) #[] #[]] 125)).cell? ⟨Y0.heap.size,2,none⟩=some (.func (.func 92) #[] #[]):=by go_simp
 have ql:Y0.heap.size<(Y0.alloc (.cells #[.func (.func 90) #[] #[],.func (.func 91) #[] #[],.func (.func 92) #[] #[]] 125)).heap.size:=by go_size
 replace HB:=later HB h2
 replace X:=X.keep h2
 replace A:=A.keep h2
 clear h2 a0 a1 a2 a3 a4 a5 a6 a7 a8 at9 al
 generalize Y0.alloc (.cells #[.func (.func 90) #[] #[],.func (.func 91) #[] #[],.func (.func 92) #[] #[]] 125)=U1 at *
 generalize Y0.heap.size=bs1 at *
 have kq0:=fun n:Behind U1=>n.cell q0 ql
 refine region_behind (by kernel_rfl) (by kernel_rfl) ?_
 repeat (go_big_quiet_step ((go_at_call 90;with_reducible refine Behind.same (b1 _))))
 refine wpQuiet_nil ?_
 rintro _ ⟨m',rfl⟩
 obtain⟨Y1,hb1⟩:=m'
 dsimp only
 clear kq0
 replace q0:=keepsC hb1 q0 ql
 replace q1:=keepsC hb1 q1 ql
 replace q2:=keepsC hb1 q2 ql
 replace X:=X.keep hb1
 replace A:=A.keep hb1
 replace HB:=later HB hb1
 clear hb1 ql
 obtain⟨a0,a1,a2,a3,a4,a5,a6,a7,a8,at9,al⟩:=id A
 clear q0 q1 q2 b1
 go_wp2_with fail
 rw [rounds_succ]
 go_upto_region 4 with fail
 have h2:=grewW Y1 (.cells #[.func (.func 93) #[] #[],.func (.func 94) #[] #[],.func (.func 95) #[] #[]] 125)
 have q0:(Y1.alloc (.cells #[.func (.func 93) #[] #[],.func (.func 94) #[] #[],.func (.func 95) #[] #[]] 125)).cell? ⟨Y1.heap.size,0,none⟩=some (.func (.func 93) #[] #[]):=by go_simp
 have q1:(Y1.alloc (.cells #[.func (.func 93) #[] #[],.func (.func 94) #[] #[],.func (.func 95) #[] #[]] 125)).cell? ⟨Y1.heap.size,1,none⟩=some (.func (.func 94) #[] #[]):=by go_simp
 have q2:(Y1.alloc (.cells #[.func (.func 93) #[] #[],.func (.func 94) #[] #[],.func (.func 95) #[] #[]] 125)).cell? ⟨Y1.heap.size,2,none⟩=some (.func (.func 95) #[] #[]):=by go_simp
 have ql:Y1.heap.size<(Y1.alloc (.cells #[.func (.func 93) #[] #[],.func (.func 94) #[] #[],.func (.func 95) #[] #[]] 125)).heap.size:=by go_size
 replace HB:=later HB h2
 replace X:=X.keep h2
 replace A:=A.keep h2
 clear h2 a0 a1 a2 a3 a4 a5 a6 a7 a8 at9 al
 generalize Y1.alloc (.cells #[.func (.func 93) #[] #[],.func (.func 94) #[] #[],.func (.func 95) #[] #[]] 125)=U2 at *
 generalize Y1.heap.size=bs2 at *
 have kq0:=fun n:Behind U2=>n.cell q0 ql
 refine region_behind (by kernel_rfl) (by kernel_rfl) ?_
 repeat (go_big_quiet_step ((go_at_call 93;with_reducible refine Behind.same (b2 _))))
 refine wpQuiet_nil ?_
 rintro _ ⟨m',rfl⟩
 obtain⟨Y2,hb1⟩:=m'
 dsimp only
 clear kq0
 replace q0:=keepsC hb1 q0 ql
 replace q1:=keepsC hb1 q1 ql
 replace q2:=keepsC hb1 q2 ql
 replace X:=X.keep hb1
 replace A:=A.keep hb1
 replace HB:=later HB hb1
 clear hb1 ql
 obtain⟨a0,a1,a2,a3,a4,a5,a6,a7,a8,at9,al⟩:=id A
 clear a0 a1 a2 a3 a4 a5 a6 a7 a8 at9 al A
 have m2:=m1 _ HB
 clear m1
 go_upto_region 7 with (first
   | (go_at_call 94;(with_reducible refine (l1 _).mono ?_);rintro _ Z1 ⟨rfl,rfl⟩)
   | (go_at_call 95;(with_reducible refine m2.mono ?_);rintro _ Z2 ⟨rfl,hb1⟩;have ne:w.heap.size≠Z2.heap.size:=Nat.ne_of_lt (Nat.lt_of_lt_of_le X.2.2.2.2.2.2.2.2.2.2 hb1.size);replace X:=(X.keep hb1).keep (grewW Z2 (.cells #[.int .i64 k,.string S,.int .i64 N,.int .i64 E,.int .i64 0] 39));replace HB:=later (later HB hb1) (grewW Z2 (.cells #[.int .i64 k,.string S,.int .i64 N,.int .i64 E,.int .i64 0] 39));have Y:=hasK5_new Z2 (.int .i64 k) (.string S) (.int .i64 N) (.int .i64 E) (.int .i64 0) 39;clear hb1))
 have ne':Z2.heap.size≠w.heap.size:=Ne.symm ne
 obtain⟨x0,x1,x2,x3,x4,f0,f1,f2,f3,f4,xl⟩:=id X
 obtain⟨y0,y1,y2,y3,y4,e0,e1,e2,e3,e4,yl⟩:=id Y
 generalize Z2.alloc (.cells #[.int .i64 k,.string S,.int .i64 N,.int .i64 E,.int .i64 0] 39)=Z3 at *
 generalize Z2.heap.size=bz at *
 go_region
 all_goals
   go_wp2_with fail
   refine bodyPost_ret (v:=.tuple #[.string (s.extract 0 n),.agg #[.int .i64 k,.string S,.int .i64 N,.int .i64 E,.int .i64 0],.int .i64 e]) (by simp [results,Tryd.results46,go_sem, *]) rfl ⟨rfl, ?_⟩
   repeat' (first | (with_reducible exact HB) | (with_reducible refine Below.drew ?_) | (with_reducible refine Below.setCell ?_ ?_ _) | go_size)
set_option maxHeartbeats 4000000 in
set_option maxRecDepth 20000 in
theorem lexNone_w (s:ByteArray) (D C:Nat) (h0:0<s.size)
   (b0:∀W,Calls Tryd.prog 88 #[.int .u8 (s[0].toNat:Int)] W fun r w'=>r=.returned (.bool false)∧W=w')
   (b1:∀W,Calls Tryd.prog 90 #[.int .u8 (s[0].toNat:Int)] W fun r w'=>r=.returned (.bool false)∧W=w')
   (b2:∀W,Calls Tryd.prog 93 #[.int .u8 (s[0].toNat:Int)] W fun r w'=>r=.returned (.bool false)∧W=w')
   (w:World) (A:SortsAt w D C) :
   Calls Tryd.prog 46 #[.slice (some ⟨D,0,none⟩) 3 3,.string s] w fun r w'=>r=.returned (.tuple #[.string ⟨#[]⟩,.agg #[.int .i64 0,.string ⟨#[]⟩,.int .i64 0,.int .i64 0,.int .i64 0],.int .i64 120])∧Below w.heap.size w w':=by
 have HB:Below w.heap.size w (w.alloc (.cells #[.int .i64 0,.string ⟨#[]⟩,.int .i64 0,.int .i64 0,.int .i64 0] 39)):=by go_grown
 have X:=hasK5_new w (.int .i64 0) (.string ⟨#[]⟩) (.int .i64 0) (.int .i64 0) (.int .i64 0) 39
 replace A:=A.keep HB
 have z0:(0:Int)<(s.size:Int):=by omega
 go_enter Tryd.func46,Tryd.ntmps46
 go_upto_region 1 with fail
 generalize w.alloc (.cells #[.int .i64 0,.string ⟨#[]⟩,.int .i64 0,.int .i64 0,.int .i64 0] 39)=V at *
 obtain⟨a0,a1,a2,a3,a4,a5,a6,a7,a8,at9,al⟩:=id A
 go_upto_region 2 with fail
 refine wp_loop_rounds 4 ?_
 rw [rounds_succ]
 go_upto_region 4 with fail
 have h2:=grewW V (.cells #[.func (.func 88) #[] #[],.func (.func 89) #[] #[],.func (.func 87) #[] #[.pointer (some ⟨C,0,none⟩)]] 125)
 have q0:(V.alloc (.cells #[.func (.func 88) #[] #[],.func (.func 89) #[] #[],.func (.func 87) #[] #[.pointer (some ⟨C,0,none⟩)]] 125)).cell? ⟨V.heap.size,0,none⟩=some (.func (.func 88) #[] #[]):=by go_simp
 have q1:(V.alloc (.cells #[.func (.func 88) #[] #[],.func (.func 89) #[] #[],.func (.func 87) #[] #[.pointer (some ⟨C,0,none⟩)]] 125)).cell? ⟨V.heap.size,1,none⟩=some (.func (.func 89) #[] #[]):=by go_simp
 have q2:(V.alloc (.cells #[.func (.func 88) #[] #[],.func (.func 89) #[] #[],.func (.func 87) #[] #[.pointer (some ⟨C,0,none⟩)]] 125)).cell? ⟨V.heap.size,2,none⟩=some (.func (.func 87) #[] #[.pointer (some ⟨C,0,none⟩)]):=by go_simp
 have ql:V.heap.size<(V.alloc (.cells #[.func (.func 88) #[] #[],.func (.func 89) #[] #[],.func (.func 87) #[] #[.pointer (some ⟨C,0,none⟩)]] 125)).heap.size:=by go_size
 replace HB:=later HB h2
 replace X:=X.keep h2
 replace A:=A.keep h2
 clear h2 a0 a1 a2 a3 a4 a5 a6 a7 a8 at9 al
 generalize V.alloc (.cells #[.func (.func 88) #[] #[],.func (.func 89) #[] #[],.func (.func 87) #[] #[.pointer (some ⟨C,0,none⟩)]] 125)=U0 at *
 generalize V.heap.size=bs0 at *
 have kq0:=fun n:Behind U0=>n.cell q0 ql
 refine region_behind (by kernel_rfl) (by kernel_rfl) ?_
 repeat (go_big_quiet_step ((go_at_call 88;with_reducible refine Behind.same (b0 _))))
 refine wpQuiet_nil ?_
 rintro _ ⟨m',rfl⟩
 obtain⟨Y0,hb1⟩:=m'
 dsimp only
 clear kq0
 replace q0:=keepsC hb1 q0 ql
 replace q1:=keepsC hb1 q1 ql
 replace q2:=keepsC hb1 q2 ql
 replace X:=X.keep hb1
 replace A:=A.keep hb1
 replace HB:=later HB hb1
 clear hb1 ql
 obtain⟨a0,a1,a2,a3,a4,a5,a6,a7,a8,at9,al⟩:=id A
 clear q0 q1 q2 b0
 go_wp2_with fail
 rw [rounds_succ]
 go_upto_region 4 with fail
 have h2:=grewW Y0 (.cells #[.func (.func 90) #[] #[],.func (.func 91) #[] #[],.func (.func 92) #[] #[]] 125)
 have q0:(Y0.alloc (.cells #[.func (.func 90) #[] #[],.func (.func 91) #[] #[],.func (.func 92) #[] #[]] 125)).cell? ⟨Y0.heap.size,0,none⟩=some (.func (.func 90) #[] #[]):=by go_simp
 have q1:(Y0.alloc (.cells #[.func (.func 90) #[] #[],.func (.func 91) #[] #[],.func (.func 92) #[] #[]] 125)).cell? ⟨Y0.heap.size,1,none⟩=some (.func (.func 91) #[] #[]):=by go_simp
 have q2:(Y0.alloc (.cells #[.func (.func 90) #[] #[],.func (.func 91) #[] #[],.func (.func 92) #[] #[]] 125)).cell? ⟨Y0.heap.size,2,none⟩=some (.func (.func 92) #[] #[]):=by go_simp
 have ql:Y0.heap.size<(Y0.alloc (.cells #[.func (.func 90) #[] #[],.func (.func 91) #[] #[],.func (.func 92) #[] #[]] 125)).heap.size:=by go_size
 replace HB:=later HB h2
 replace X:=X.keep h2
 replace A:=A.keep h2
 clear h2 a0 a1 a2 a3 a4 a5 a6 a7 a8 at9 al
 generalize Y0.alloc (.cells #[.func (.func 90) #[] #[],.func (.func 91) #[] #[],.func (.func 92) #[] #[]] 125)=U1 at *
 generalize Y0.heap.size=bs1 at *
 have kq0:=fun n:Behind U1=>n.cell q0 ql
 refine region_behind (by kernel_rfl) (by kernel_rfl) ?_
 repeat (go_big_quiet_step ((go_at_call 90;with_reducible refine Behind.same (b1 _))))
 refine wpQuiet_nil ?_
 rintro _ ⟨m',rfl⟩
 obtain⟨Y1,hb1⟩:=m'
 dsimp only
 clear kq0
 replace q0:=keepsC hb1 q0 ql
 replace q1:=keepsC hb1 q1 ql
 replace q2:=keepsC hb1 q2 ql
 replace X:=X.keep hb1
 replace A:=A.keep hb1
 replace HB:=later HB hb1
 clear hb1 ql
 obtain⟨a0,a1,a2,a3,a4,a5,a6,a7,a8,at9,al⟩:=id A
 clear q0 q1 q2 b1
 go_wp2_with fail
 rw [rounds_succ]
 go_upto_region 4 with fail
 have h2:=grewW Y1 (.cells #[.func (.func 93) #[] #[],.func (.func 94) #[] #[],.func (.func 95) #[] #[]] 125)
 have q0:(Y1.alloc (.cells #[.func (.func 93) #[] #[],.func (.func 94) #[] #[],.func (.func 95) #[] #[]] 125)).cell? ⟨Y1.heap.size,0,none⟩=some (.func (.func 93) #[] #[]):=by go_simp
 have q1:(Y1.alloc (.cells #[.func (.func 93) #[] #[],.func (.func 94) #[] #[],.func (.func 95) #[] #[]] 125)).cell? ⟨Y1.heap.size,1,none⟩=some (.func (.func 94) #[] #[]):=by go_simp
 have q2:(Y1.alloc (.cells #[.func (.func 93) #[] #[],.func (.func 94) #[] #[],.func (.func 95) #[] #[]] 125)).cell? ⟨Y1.heap.size,2,none⟩=some (.func (.func 95) #[] #[]):=by go_simp
 have ql:Y1.heap.size<(Y1.alloc (.cells #[.func (.func 93) #[] #[],.func (.func 94) #[] #[],.func (.func 95) #[] #[]] 125)).heap.size:=by go_size
 replace HB:=later HB h2
 replace X:=X.keep h2
 replace A:=A.keep h2
 clear h2 a0 a1 a2 a3 a4 a5 a6 a7 a8 at9 al
 generalize Y1.alloc (.cells #[.func (.func 93) #[] #[],.func (.func 94) #[] #[],.func (.func 95) #[] #[]] 125)=U2 at *
 generalize Y1.heap.size=bs2 at *
 have kq0:=fun n:Behind U2=>n.cell q0 ql
 refine region_behind (by kernel_rfl) (by kernel_rfl) ?_
 repeat (go_big_quiet_step ((go_at_call 93;with_reducible refine Behind.same (b2 _))))
 refine wpQuiet_nil ?_
 rintro _ ⟨m',rfl⟩
 obtain⟨Y2,hb1⟩:=m'
 dsimp only
 clear kq0
 replace q0:=keepsC hb1 q0 ql
 replace q1:=keepsC hb1 q1 ql
 replace q2:=keepsC hb1 q2 ql
 replace X:=X.keep hb1
 replace A:=A.keep hb1
 replace HB:=later HB hb1
 clear hb1 ql
 obtain⟨a0,a1,a2,a3,a4,a5,a6,a7,a8,at9,al⟩:=id A
 clear q0 q1 q2 b2
 go_wp2_with fail
 rw [rounds_succ]
 obtain⟨x0,x1,x2,x3,x4,f0,f1,f2,f3,f4,xl⟩:=id X
 clear a0 a1 a2 a3 a4 a5 a6 a7 a8 at9 al A
 go_wp2_with fail
 refine bodyPost_ret (v:=.tuple #[.string ⟨#[]⟩,.agg #[.int .i64 0,.string ⟨#[]⟩,.int .i64 0,.int .i64 0,.int .i64 0],.int .i64 120]) (by simp [results,Tryd.results46,go_sem, *]) rfl ⟨rfl, ?_⟩
 repeat' (first | (with_reducible exact HB) | (with_reducible refine Below.drew ?_) | (with_reducible refine Below.setCell ?_ ?_ _) | go_size)
end Go.Proofs.YtgocelaghggpmaaDoor
